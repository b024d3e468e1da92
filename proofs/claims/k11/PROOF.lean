import PyProof.Rows.All
import Wide.All
import OpenK.AllK
import Wide.FinOn
import Lean
import PyProof.EqAt
import PyProof.EqKinds
import PyProof.TupleCall
import PyProof.NeKinds
import KE.IntBitsLaws
import PyProof.ZipIter
import PyProof.StrCalls2
import PyProof.Rows.Range3
import PyProof.ListRange
import PyProof.LongRange
import KE.LcSums
import PyProof.SetKind
import PyProof.DictKinds
import PyProof.DictIter
import PyProof.CollectWalk
import PyProof.FactsAll.set_1
import PyProof.FactsAll.set_2
import PyProof.FactsAll.set_0
import PyProof.Walks
import PyProof.Rows.SortShellK
import PyProof.Rows.SortStr
import PyProof.Rows.SetFrom
import PySem.Challenge.RW_nearerwork_k11_changes_shown
set_option Elab.async false
set_option linter.all false
set_option maxRecDepth 100000
/-! THE HAND LAYER, for ints, bools, texts, own classes, LISTS and tuples (index, slices, in, append, pop ..), calls, loops. Paste it whole ahead of your own text; what your proof does not reach may be deleted. -/
namespace L2
open PySem PySem.Spec PyProof.Rows

/-- a key: an int or a str -/
abbrev Key := Sum Int Str
def keyIs : Key → Value → Bool
  | .inl k, v => Value.isInt k v
  | .inr x, v => Value.isStrOf x v
def keyH (w : World) : Key → Int
  | .inl k => hashInt k
  | .inr x => hashStr w x
theorem keyIs_shape : ∀ {k : Key} {v : Value}, keyIs k v = true → (∃ i t, k = Sum.inl i ∧ v = Value.int i t) ∨ (∃ x t, k = Sum.inr x ∧ v = Value.str x t)
  | .inl i, v, h => by
    obtain ⟨t, e⟩ := Value.isInt_shape (k := i) (v := v) h
    exact .inl ⟨i, t, rfl, e⟩
  | .inr x, v, h => by
    obtain ⟨t, e⟩ := Value.isStrOf_shape (x := x) (v := v) h
    exact .inr ⟨x, t, rfl, e⟩
theorem key_ll (a b : Int) : decide ((Sum.inl a : Key) = Sum.inl b) = (a == b) := by
  by_cases e : a = b
  · subst e; simp
  · have h : ¬ (Sum.inl a : Key) = Sum.inl b := fun q => e (Sum.inl.inj q)
    rw [decide_eq_false h]
    exact (beq_eq_false_iff_ne.mpr e).symm
theorem key_rr (a b : Str) : decide ((Sum.inr a : Key) = Sum.inr b) = decide (a = b) := by
  by_cases e : a = b
  · subst e; simp
  · have h : ¬ (Sum.inr a : Key) = Sum.inr b := fun q => e (Sum.inr.inj q)
    rw [decide_eq_false h, decide_eq_false e]
theorem key_lr (a : Int) (b : Str) : decide ((Sum.inl a : Key) = Sum.inr b) = false := decide_eq_false (fun q => nomatch q)
theorem key_rl (a : Str) (b : Int) : decide ((Sum.inr a : Key) = Sum.inl b) = false := decide_eq_false (fun q => nomatch q)

def mixKind (prog : Program) (w : World) : PySem.KeyKind prog w Key where
  is := keyIs
  hash := keyH w
  inj := fun v a b ha hb => by
    rcases keyIs_shape ha with ⟨i, t, rfl, rfl⟩ | ⟨x, t, rfl, rfl⟩
    · rcases keyIs_shape hb with ⟨j, u, rfl, e⟩ | ⟨y, u, rfl, e⟩
      · injection e with e1 _; rw [e1]
      · exact nomatch e
    · rcases keyIs_shape hb with ⟨j, u, rfl, e⟩ | ⟨y, u, rfl, e⟩
      · exact nomatch e
      · injection e with e1 _; rw [e1]
  byValue := fun k v h => by
    rcases keyIs_shape h with ⟨i, t, rfl, rfl⟩ | ⟨x, t, rfl, rfl⟩ <;> rfl
  pyHash := fun hv h => by
    rcases keyIs_shape hv with ⟨i, t, rfl, rfl⟩ | ⟨x, t, rfl, rfl⟩
    · exact wpAny_pyHash_int h
    · exact wpAny_pyHash_str h
  eqBool := fun hu hv h => by
    rcases keyIs_shape hu with ⟨i, t, rfl, rfl⟩ | ⟨x, t, rfl, rfl⟩
    · rcases keyIs_shape hv with ⟨j, u, rfl, rfl⟩ | ⟨y, u, rfl, rfl⟩
      · rw [key_ll] at h; exact wpAny_eqBool_int h
      · rw [key_lr] at h; exact SeqAt.EqAt.int_str i t y u _ _ _ _ h
    · rcases keyIs_shape hv with ⟨j, u, rfl, rfl⟩ | ⟨y, u, rfl, rfl⟩
      · rw [key_rl] at h; exact SeqAt.EqAt.str_int x t j u _ _ _ _ h
      · rw [key_rr] at h; exact wpAny_eqBool_str h
  «strs» := fun k x t v h => by
    rcases keyIs_shape h with ⟨i, u, rfl, e⟩ | ⟨y, u, rfl, e⟩
    · exact nomatch e
    · injection e with e1 _
      subst e1
      cases v <;> rfl

end L2

namespace L2
open PySem PySem.Spec PyProof.Rows

/-- a value, without the heap -/
inductive V where
  | non | bl (b : Bool) | int (i : Int) | str (x : Str) | byt (b : Array UInt8) | flt (b : UInt64) | ref (a : Addr) | ty (n : String)
  deriving DecidableEq

def RelV : V → Value → Prop
  | .non, u => u = Value.none
  | .bl b, u => u = Value.bool b
  | .int i, u => ∃ t, u = Value.int i t
  | .str x, u => ∃ t, u = Value.str x t
  | .byt b, u => ∃ t, u = Value.bytes b t
  | .flt b, u => ∃ t, u = Value.float b t
  | .ref a, u => u = Value.ref a
  | .ty n, u => u = Value.type n

abbrev Vals : List V → List Value → Prop := Paired RelV
theorem Vals.length {xs : List V} {us : List Value} (r : Vals xs us) : xs.length = us.length := Paired.length r
theorem Vals.get : ∀ {xs : List V} {us : List Value} {i : Nat} {x : V}, Vals xs us → xs[i]? = some x → ∃ u, us[i]? = some u ∧ RelV x u
  | _, _, _, _, .nil, e => by simp at e
  | _, _, 0, _, .cons r _, e => by simp at e; subst e; exact ⟨_, rfl, r⟩
  | _, _, i + 1, x, .cons _ t, e => by
    obtain ⟨u, h1, h2⟩ := Vals.get (i := i) (x := x) t (by simpa using e)
    exact ⟨u, by simpa using h1, h2⟩
theorem Vals.set {x : V} {u : Value} (r : RelV x u) : ∀ {xs : List V} {us : List Value} (i : Nat), Vals xs us → Vals (xs.set i x) (us.set i u)
  | _, _, _, .nil => .nil
  | _, _, 0, .cons _ t => .cons r t
  | _, _, i + 1, .cons q t => .cons q (Vals.set r i t)
theorem Vals.append : ∀ {xs ys : List V} {us ws : List Value}, Vals xs us → Vals ys ws → Vals (xs ++ ys) (us ++ ws)
  | _, _, _, _, .nil, s => s
  | _, _, _, _, .cons r t, s => .cons r (Vals.append t s)
def RelO : Option V → Option Value → Prop
  | some v, some u => RelV v u
  | none, none => True
  | _, _ => False
def KV {κ : Type} : List (κ × V) → List (κ × Value) → Prop := Paired fun (p : κ × V) (q : κ × Value) => p.1 = q.1 ∧ RelV p.2 q.2

/-- a key of a dict (00_mix): an int or a text -/
def kV : Key → V
  | .inl i => .int i
  | .inr x => .str x

/-- what stands at a tracked address -/
inductive HO where
  /-- a list -/
  | lst (xs : List V)
  /-- a tuple (never changes) -/
  | tup (xs : List V)
  /-- a dict whose keys are ints and texts; one whose keys are tuples of ints and texts (the empty one is both) -/
  | dK (kvs : List (Key × V)) | dT (kvs : List (List Key × V))
  /-- a set of ints: its members, its size -/
  | set (S : Int → Bool) (n : Nat)
  /-- an instance of the class at C, its dict at dx, its attributes -/
  | ins (C dx : Addr) (fs : List (Str × V))
  /-- the dict of the instance at x -/
  | own (x : Addr)
  /-- the dict of an exception -/
  | xd (fs : List (Str × V))
  /-- a bound method, f of x -/
  | met (f x : Addr)
  /-- a range object lo, lo + 1, .. below hi -/
  | rng (lo hi : Int)
  /-- a thing that is known to the object (the script; a dict while a loop walks it): read, never written while it is so -/
  | frz (o : Obj) (u : HO)
  /-- a code object's table -/
  | tbl (ps : Array Value)
  /-- any other thing, by what is true of its one object (a def of one's own: SetO a S n := HO.ext fun h => ..) -/
  | ext (φ : Heap → Prop)

abbrev Hp := Addr → Option HO
def upd (H : Hp) (a : Addr) (o : HO) : Hp := fun b => if b = a then some o else H b
theorem upd_same {H : Hp} {a : Addr} {o : HO} : upd H a o a = some o := by unfold upd; rw [if_pos rfl]
theorem upd_ne {H : Hp} {a b : Addr} {o : HO} (h : b ≠ a) : upd H a o b = H b := by unfold upd; rw [if_neg h]
theorem upd_upd {H : Hp} {a : Addr} {o u : HO} : upd (upd H a o) a u = upd H a u := by
  funext b; unfold upd; split <;> rfl
/-- two objects of different content stand apart -/
theorem ne_of {H : Hp} {a b : Addr} {o u : HO} (h : H a = some o) (h' : H b = some u) (d : o ≠ u) : a ≠ b := by
  intro e; subst e; rw [h] at h'; exact d (Option.some.inj h')
theorem ne_of_none {H : Hp} {a b : Addr} {o : HO} (h : H a = some o) (h' : H b = none) : a ≠ b := by
  intro e; subst e; rw [h] at h'; cases h'

section
variable (P : Program) (w : World)
def ObjOk (H : Hp) (h : Heap) (a : Addr) : HO → Prop
  | .lst xs => xs.length ≤ sizeLine ∧ ∃ (its : List Value) (n : Nat), Vals xs its ∧ h.get? a = some { cls := .type "list", data := .seq its.toArray n }
  | .tup xs => xs.length ≤ sizeLine ∧ ∃ its : List Value, Vals xs its ∧ IsTup h a its.toArray
  | .dK kvs => kvs.length ≤ sizeLine ∧ (a == sysModules) = false ∧ ∃ vs, KV kvs vs ∧ h.DictOf (mixKind P w) a vs
  | .dT kvs => kvs.length ≤ sizeLine ∧ (a == sysModules) = false ∧ ∃ xs : List (List Key × Addr × Value),
      Paired (fun (p : List Key × V) (q : List Key × Addr × Value) => p.1 = q.1 ∧ H q.2.1 = some (.tup (p.1.map kV)) ∧ RelV p.2 q.2.2) kvs xs ∧
      ∃ o es ep, h.get? a = some o ∧ o.ExactDict ∧ o.data = .dict es ep ∧ es.toList = xs.map (entryOfKey (tupleKind (mixKind P w))) ∧ (xs.map (·.1)).Nodup
  | .set S n => h.SetOf (intKind P w) a S n
  | .ins C dx fs => H dx = some (.own a) ∧ fs.length ≤ 1000 ∧ dx ≠ a ∧ h.get? a = some (PySem.W.instObj C dx) ∧
      ∃ mA, h.Ns1 dx mA ∧ (∀ f, RelO (fs.lookup f) (mA f)) ∧ PySem.Within mA (fs.map (·.1))
  | .own _ => ∃ o, h.get? a = some o
  | .xd fs => ∃ mA, h.Ns1 a mA ∧ ∀ f, RelO (fs.lookup f) (mA f)
  | .rng lo hi => ∃ t u v, h.get? a = some { cls := .type "range", data := .fields #[.int lo t, .int hi u, .int 1 v] }
  | .frz o u => h.get? a = some o ∧ ObjOk H h a u
  | .tbl ps => h.get? a = some { cls := .none, data := .fields ps }
  | .met f x => h.get? a = some (PySem.W.methodObj (.ref f) (.ref x))
  | .ext φ => φ h ∧ (∃ o, h.get? a = some o) ∧ ∀ h1 h2 : Heap, φ h1 → (∀ o, h1.get? a = some o → h2.get? a = some o) → φ h2
/-- the abstract heap is held -/
def HOk (H : Hp) (h : Heap) : Prop := ∀ a o, H a = some o → ObjOk P w H h a o
end

section
variable {P : Program} {w : World} {H H' : Hp} {h h' : Heap} {a : Addr} {o : HO}
theorem ObjOk.lt (x : ObjOk P w H h a o) : a < h.objs.size := by
  cases o with
  | lst xs => obtain ⟨_, _, _, _, e⟩ := x; exact Heap.lt_size e
  | tup xs => obtain ⟨_, _, _, p⟩ := x; exact p.lt
  | dK kvs => obtain ⟨_, _, _, _, o, _, _, e, _⟩ := x; exact Heap.lt_size e
  | dT kvs => obtain ⟨_, _, _, _, o, _, _, e, _⟩ := x; exact Heap.lt_size e
  | set S n => obtain ⟨o, _, _, _, e, _⟩ := x; exact Heap.lt_size e
  | ins C dx fs => obtain ⟨_, _, _, e, _⟩ := x; exact Heap.lt_size e
  | own y => obtain ⟨_, e⟩ := x; exact Heap.lt_size e
  | xd fs => obtain ⟨_, ⟨_, _, _, e, _⟩, _⟩ := x; exact Heap.lt_size e
  | rng lo hi => obtain ⟨_, _, _, e⟩ := x; exact Heap.lt_size e
  | frz ob u => obtain ⟨e, _⟩ := x; exact Heap.lt_size e
  | tbl ps => exact Heap.lt_size (show h.get? a = some _ from x)
  | met f y => exact Heap.lt_size (show h.get? a = some _ from x)
  | ext φ => obtain ⟨_, ⟨_, e⟩, _⟩ := x; exact Heap.lt_size e
theorem Paired.mapP {α β : Type} {F G : α → β → Prop} : ∀ {l₁ : List α} {l₂ : List β}, Paired F l₁ l₂ → (∀ a b, F a b → G a b) → Paired G l₁ l₂
  | _, _, .nil, _ => .nil
  | _, _, .cons r t, f => .cons (f _ _ r) (Paired.mapP t f)
/-- what an object's description leans on: its own object, its own dict, the tuples -/
theorem ObjOk.stay (x : ObjOk P w H h a o) (k : ∀ b u, (b = a ∨ H b = some (.own a)) → h.get? b = some u → h'.get? b = some u)
    (ho : ∀ b, H b = some (.own a) → H' b = some (.own a)) (ht : ∀ b xs, H b = some (.tup xs) → H' b = some (.tup xs)) : ObjOk P w H' h' a o := by
  induction o with
  | lst xs => obtain ⟨z, its, n, r, e⟩ := x; exact ⟨z, its, n, r, k _ _ (.inl rfl) e⟩
  | tup xs => obtain ⟨z, its, r, ob, e, c⟩ := x; exact ⟨z, its, r, ob, k _ _ (.inl rfl) e, c⟩
  | dK kvs => obtain ⟨z, y, vs, r, ob, es, ep, e, c⟩ := x; exact ⟨z, y, vs, r, ob, es, ep, k _ _ (.inl rfl) e, c⟩
  | dT kvs =>
    obtain ⟨z, y, xs, r, ob, es, ep, e, c⟩ := x
    exact ⟨z, y, xs, Paired.mapP r fun p q z => ⟨z.1, ht _ _ z.2.1, z.2.2⟩, ob, es, ep, k _ _ (.inl rfl) e, c⟩
  | set S n => obtain ⟨ob, es, ep, t, e, c⟩ := x; exact ⟨ob, es, ep, t, k _ _ (.inl rfl) e, c⟩
  | ins C dx fs =>
    obtain ⟨d, z, ne, e, mA, ⟨od, es, ep, e2, c⟩, r⟩ := x
    exact ⟨ho _ d, z, ne, k _ _ (.inl rfl) e, mA, ⟨od, es, ep, k _ _ (.inr d) e2, c⟩, r⟩
  | own y => obtain ⟨ob, e⟩ := x; exact ⟨ob, k _ _ (.inl rfl) e⟩
  | xd fs => obtain ⟨mA, ⟨od, es, ep, e, c⟩, r⟩ := x; exact ⟨mA, ⟨od, es, ep, k _ _ (.inl rfl) e, c⟩, r⟩
  | rng lo hi => obtain ⟨t, u, v, e⟩ := x; exact ⟨t, u, v, k _ _ (.inl rfl) e⟩
  | frz ob u ih => obtain ⟨e, q⟩ := x; exact ⟨k _ _ (.inl rfl) e, ih q⟩
  | tbl ps =>
    have e : h.get? a = some { cls := .none, data := .fields ps } := x
    show h'.get? a = some { cls := .none, data := .fields ps }
    exact k a _ (.inl rfl) e
  | met f y =>
    have e : h.get? a = some (PySem.W.methodObj (.ref f) (.ref y)) := x
    show h'.get? a = some (PySem.W.methodObj (.ref f) (.ref y))
    exact k a _ (.inl rfl) e
  | ext φ => obtain ⟨p, ⟨o, e⟩, st⟩ := x; exact ⟨st _ _ p fun o q => k _ _ (.inl rfl) q, ⟨o, k _ _ (.inl rfl) e⟩, st⟩
theorem HOk.lt (x : HOk P w H h) (e : H a = some o) : a < h.objs.size := (x a o e).lt
theorem HOk.fresh (x : HOk P w H h) (e : h.objs.size ≤ a) : H a = none := by
  cases q : H a with
  | none => rfl
  | some u => exact absurd (Nat.lt_of_lt_of_le (x.lt q) e) (Nat.lt_irrefl _)
/-- every object of the heap is kept -/
theorem HOk.kept (x : HOk P w H h) (k : ∀ b u, h.get? b = some u → h'.get? b = some u) : HOk P w H h' := fun a o e =>
  (x a o e).stay (fun b u _ q => k b u q) (fun _ q => q) fun _ _ q => q
/-- a new object is laid and tracked -/
theorem HOk.laid (x : HOk P w H h) (k : ∀ b u, h.get? b = some u → h'.get? b = some u) (hp : h.objs.size ≤ a) (new : ObjOk P w (upd H a o) h' a o) : HOk P w (upd H a o) h' := fun b u e => by
  have hn := x.fresh hp
  by_cases hb : b = a
  · subst hb; rw [upd_same] at e; cases e; exact new
  · rw [upd_ne hb] at e
    exact (x b u e).stay (fun c v _ q => k c v q) (fun c q => by rw [upd_ne (ne_of_none q hn)]; exact q) fun c xs q => by rw [upd_ne (ne_of_none q hn)]; exact q
end

/-- what may be read as u: it is u, or a known u -/
def Rd (H : Hp) (a : Addr) (u : HO) : Prop := H a = some u ∨ ∃ o, H a = some (.frz o u)
theorem Rd.ok {P : Program} {w : World} {H : Hp} {h : Heap} {a : Addr} {u : HO} (r : Rd H a u) (x : HOk P w H h) : ObjOk P w H h a u := by
  rcases r with r | ⟨o, r⟩
  · exact x a u r
  · obtain ⟨_, q⟩ := x a _ r
    exact q
/-- what may be written -/
def Mut : Option HO → Prop
  | some (.lst _) => True
  | some (.dK _) => True
  | some (.dT _) => True
  | some (.set _ _) => True
  | some (.ins _ _ _) => True
  | some (.ext _) => True
  | _ => False
section
variable {P : Program} {w : World} {H : Hp} {h h' : Heap} {x e : Addr} {o' : HO}
/-- the object at e is changed: x itself, or the dict of the instance x -/
theorem HOk.write (ok : HOk P w H h) (mu : Mut (H x)) (he : e = x ∨ H e = some (.own x)) (k : ∀ b u, b ≠ e → h.get? b = some u → h'.get? b = some u) (heo : ∃ u, h'.get? e = some u)
    (new : ObjOk P w (upd H x o') h' x o') : HOk P w (upd H x o') h' := fun b u q => by
  have nown : ∀ c y, H c = some (.own y) → c ≠ x := fun c y r z => by subst z; rw [r] at mu; exact mu
  have ntup : ∀ c xs, H c = some (.tup xs) → c ≠ x := fun c xs r z => by subst z; rw [r] at mu; exact mu
  by_cases hb : b = x
  · subst hb; rw [upd_same] at q; cases q; exact new
  · rw [upd_ne hb] at q
    by_cases hbe : b = e
    · have q' : H b = some (.own x) := by
        rcases he with z | z
        · exact absurd (hbe.trans z) hb
        · rw [hbe]; exact z
      rw [q] at q'; cases q'
      obtain ⟨v, hv⟩ := heo
      exact ⟨v, by rw [hbe]; exact hv⟩
    · refine (ok b u q).stay (fun c v hc r => k c v ?_ r) (fun c r => by rw [upd_ne (nown c b r)]; exact r) fun c xs r => by rw [upd_ne (ntup c xs r)]; exact r
      rcases hc with rfl | hc
      · exact hbe
      · rintro rfl
        rcases he with z | z
        · exact nown c b hc z
        · rw [hc] at z; cases z; exact hb rfl
end

/-! ### kept unless tracked; of the frames at fs (the callers') the slots may change (an exception that passes writes there); of the records at ex (iterators) nothing is said -/
structure Un (fs ex : List Addr) (H H' : Hp) (h h' : Heap) : Prop where
  keep : ∀ b o, h.get? b = some o → H b = none → b ∉ fs → b ∉ ex → h'.get? b = some o
  slot : ∀ b o, h.get? b = some o → H b = none → b ∈ fs → b ∉ ex → ∃ sl, h'.get? b = some { o with slots := sl }
  free : ∀ b o, h.get? b = some o → H b = none → b ∉ ex → H' b = none
  there : ∀ b o, h.get? b = some o → b ∉ ex → ∃ o', h'.get? b = some o'
  tups : ∀ b xs, H b = some (.tup xs) → H' b = some (.tup xs)
  frzs : ∀ b o u, H b = some (.frz o u) → H' b = some (.frz o u)
  tbls : ∀ b ps, H b = some (.tbl ps) → ∃ more, H' b = some (.tbl (ps ++ more))
section
variable {fs fs' ex ex' : List Addr} {H H1 H2 : Hp} {h h1 h2 h' : Heap} {a x e : Addr} {o : HO}
theorem Un.any (u : Un fs ex H H1 h h1) {b : Addr} {ob : Obj} (q : h.get? b = some ob) (n : H b = none) (hx : b ∉ ex) : ∃ sl, h1.get? b = some { ob with slots := sl } := by
  by_cases hb : b ∈ fs
  · exact u.slot b ob q n hb hx
  · exact ⟨ob.slots, u.keep b ob q n hb hx⟩
theorem Un.kept (k : ∀ b u, h.get? b = some u → h'.get? b = some u) : Un fs ex H H h h' :=
  ⟨fun b ob q _ _ _ => k b ob q, fun b ob q _ _ _ => ⟨ob.slots, k b ob q⟩, fun _ _ _ n _ => n, fun b ob q _ => ⟨ob, k b ob q⟩, fun _ _ q => q, fun _ _ _ q => q, fun _ ps q => ⟨#[], by rw [q]; simp⟩⟩
theorem Un.refl : Un fs ex H H h h := Un.kept fun _ _ q => q
theorem Un.laid (k : ∀ b u, h.get? b = some u → h'.get? b = some u) (hp : h.objs.size ≤ a) (hn : H a = none) : Un fs ex H (upd H a o) h h' where
  keep := fun b u q _ _ _ => k b u q
  slot := fun b u q _ _ _ => ⟨u.slots, k b u q⟩
  free := fun b u q n _ => by rw [upd_ne (Nat.ne_of_lt (Nat.lt_of_lt_of_le (Heap.lt_size q) hp))]; exact n
  there := fun b u q _ => ⟨u, k b u q⟩
  tups := fun b xs q => by rw [upd_ne (ne_of_none q hn)]; exact q
  frzs := fun b u xs q => by rw [upd_ne (ne_of_none q hn)]; exact q
  tbls := fun b ps q => ⟨#[], by rw [upd_ne (ne_of_none q hn), q]; simp⟩
theorem Un.write (mu : Mut (H x)) (he : e = x ∨ H e = some (.own x)) (k : ∀ b u, b ≠ e → h.get? b = some u → h'.get? b = some u) (heo : ∃ u, h'.get? e = some u) : Un fs ex H (upd H x o) h h' := by
  have hx : ∀ b, H b = none → b ≠ x := fun b n z => by subst z; rw [n] at mu; exact mu
  have hb : ∀ b, H b = none → b ≠ e := fun b n z => by
    subst z
    rcases he with r | r
    · exact hx b n r
    · rw [n] at r; cases r
  have hm : ∀ b u, H b = some u → ¬ Mut (some u) → b ≠ x := fun b u q nm z => by subst z; rw [q] at mu; exact nm mu
  refine ⟨fun b u q n _ _ => k b u (hb b n) q, fun b u q n _ _ => ⟨u.slots, k b u (hb b n) q⟩, fun b u q n _ => by rw [upd_ne (hx b n)]; exact n, fun b u q _ => ?_,
    fun b xs q => by rw [upd_ne (hm b _ q fun z => z)]; exact q, fun b u xs q => by rw [upd_ne (hm b _ q fun z => z)]; exact q, fun b ps q => ⟨#[], by rw [upd_ne (hm b _ q fun z => z), q]; simp⟩⟩
  by_cases hbe : b = e
  · subst hbe; exact heo
  · exact ⟨u, k b u hbe q⟩
end

/-! ### the heap without what is tracked -/
def trk (h : Heap) (H : Hp) : List Addr := (List.range h.objs.size).filter fun a => (H a).isSome
def hidT (h : Heap) (H : Hp) : Heap := PySem.W.hideAll h (trk h H)
theorem hidT_size (h : Heap) (H : Hp) : (hidT h H).objs.size = h.objs.size := PySem.W.hideAll_size _ _
theorem hidT_get {h : Heap} {H : Hp} {b : Addr} {o : Obj} (e : h.get? b = some o) (n : H b = none) : (hidT h H).get? b = some o :=
  PySem.W.hideAll_get _ e fun hm => by
    have q : (H b).isSome = true := (List.mem_filter.mp hm).2
    rw [n] at q; simp at q
theorem of_hidT {h : Heap} {H : Hp} {b : Addr} {o : Obj} (e : (hidT h H).get? b = some o) : h.get? b = some o ∧ H b = none := by
  have e' : h.get? b = some o := PySem.W.of_hideAll (trk h H) e
  refine ⟨e', ?_⟩
  cases q : H b with
  | none => rfl
  | some x =>
    have hm : b ∈ trk h H := List.mem_filter.mpr ⟨List.mem_range.mpr (Heap.lt_size e'), by simp [q]⟩
    have z : (hidT h H).get? b = none := PySem.W.hideAll_none (trk h H) hm
    rw [z] at e; cases e

/-! ### OpenK's ledger, filled with every new object but one -/
end L2

namespace L2
open PySem PySem.Spec PyProof.Rows

/-- the module's facts, over the base: the heap at the law's entry without what is tracked there -/
structure Mod (K : PySem.W.Frag) (mg : Str → Option Value) (base : Heap) : Prop where
  kin : K.In base
  glob : base.Ns mainGlobals mg
  blt : ∃ mb, base.Ns builtinsNs mb ∧ ∀ x : Str, x ≠ "__name__" → mb x = bootBuiltins x
  nolimit : base.NoLimit

/-- the context: a def's body (or a comprehension's block) running. base: fixed through the whole law; s₀, H₀: the entry; outer: the frames whose slots others may change (a def's callers); stack: all frames that run;
   ex: iterators that were made ahead of the entry and are walked here (a comprehension's); fn: the names whose cells were made at the entry (a def: all; a comprehension's block: its own); calm: not within an except suite; pn: pins that every state bears; xe: what is wanted of an exception that leaves the code -/
structure Cx where
  prog : Program
  w : World
  K : PySem.W.Frag
  mg : Str → Option Value
  base : Heap
  A : Around
  N : List Str
  s₀ : Shared
  H₀ : Hp
  env : Env
  outer : List Env
  stack : List Env
  ex : List Addr
  fn : Str → Bool
  calm : Bool
  pn : List (Addr × Obj)
  xe : Value → Shared → Prop
/-- the callers' frames -/
def frs (l : List Env) : List Addr := l.filterMap (·.frame)
abbrev Cx.fs (X : Cx) : List Addr := frs X.outer

def Vis (sc : Scope) (x : Str) : Prop := sc.names.lookup x = some .local ∨ sc.names.lookup x = some .cell ∨ sc.names.lookup x = some .free
def Loc (sc : Scope) (x : Str) : Prop := sc.names.lookup x = some .local ∨ sc.names.lookup x = some .cell
def Look (env : Env) (h : Heap) (m : Str → Option Value) (x : Str) (u : Value) : Prop :=
  (env.kindOf x = some .local ∧ m x = some u) ∨ ((env.kindOf x = some .cell ∨ env.kindOf x = some .free) ∧ ∃ c, env.cells.lookup x = some c ∧ h.IsCell c (some u))

structure Cx.Ok (X : Cx) : Prop where
  mod : Mod X.K X.mg X.base
  kind : X.env.scope.kind = .function
  glob : X.env.globals = mainGlobals
  blt : X.env.builtins = builtinsNs
  above : X.s₀.heap.objs.size ≤ X.env.locals
  inj : ∀ x y c, X.env.cells.lookup x = some c → X.env.cells.lookup y = some c → x = y
  has : ∀ x, (X.env.kindOf x = some .cell ∨ X.env.kindOf x = some .free) → ∃ c, X.env.cells.lookup x = some c
  cab : ∀ x c, X.fn x = true → X.env.cells.lookup x = some c → X.s₀.heap.objs.size ≤ c
  hd : X.calm = true → X.A.handled = none
  frames : X.A.frames = some X.stack
  stk : X.stack = X.outer ∨ (X.stack = X.env :: X.outer ∧ X.env.frame = some X.env.locals)
  exf : ∀ b ∈ X.ex, b ≠ X.env.locals ∧ ∀ x c, X.env.cells.lookup x = some c → c ≠ b
  bs : ∀ b o, X.base.get? b = some o → X.s₀.heap.get? b = some o ∧ X.H₀ b = none
  bsz : X.base.objs.size ≤ X.s₀.heap.objs.size
  noex : ∀ b o, X.base.get? b = some o → b ∉ X.ex
  exfs : ∀ b ∈ X.ex, b ∉ X.fs
  funs : X.s₀.heap.FunFrames X.base X.outer
  frf : ∀ b ∈ X.fs, X.H₀ b = none

structure Inv (X : Cx) (pins : List (Addr × Obj)) (σ : List (Option V)) (H : Hp) (s : Shared) : Prop where
  ok : X.Ok
  os : s.os = X.s₀.os
  bare : AllBare s.gens
  base : Un X.fs X.ex X.H₀ H X.s₀.heap s.heap
  loc : ∃ m, s.heap.Ns X.env.locals m ∧ ∀ (i : Nat) (x : Str) (v : V), X.N[i]? = some x → σ[i]? = some (some v) → Vis X.env.scope x → ∃ u, RelV v u ∧ Look X.env s.heap m x u
  cell : ∀ x c, X.env.cells.lookup x = some c → ∃ v, s.heap.IsCell c v
  free : H X.env.locals = none
  freeC : ∀ x c, X.env.cells.lookup x = some c → H c = none
  pin : ∀ p ∈ X.pn ++ pins, s.heap.get? p.1 = some p.2 ∧ H p.1 = none ∧ p.1 ≠ X.env.locals ∧ p.1 ∉ X.fs ∧ ∀ v, p.2.data ≠ .cell v
  hok : HOk X.prog X.w H s.heap
  len : σ.length = X.N.length

section
variable {X : Cx} {pins : List (Addr × Obj)} {σ : List (Option V)} {H H' : Hp} {s : Shared} {h' : Heap}

theorem Cx.Ok.nofr (ok : X.Ok) {b : Addr} {o : Obj} (e : X.base.get? b = some o) : b ∉ X.fs := fun hb => by
  have := (ok.funs.mem hb).1
  rw [e] at this; cases this
theorem Inv.bs (I : Inv X pins σ H s) : ∀ b o, X.base.get? b = some o → s.heap.get? b = some o ∧ H b = none := fun b o e =>
  ⟨I.base.keep b o (I.ok.bs b o e).1 (I.ok.bs b o e).2 (I.ok.nofr e) (I.ok.noex b o e), I.base.free b o (I.ok.bs b o e).1 (I.ok.bs b o e).2 (I.ok.noex b o e)⟩
theorem Inv.bk (I : Inv X pins σ H s) : ∀ b o, X.base.get? b = some o → s.heap.get? b = some o := fun b o e => (I.bs b o e).1
theorem Inv.mod (I : Inv X pins σ H s) : Mod X.K X.mg X.base := I.ok.mod
theorem Inv.kIn (I : Inv X pins σ H s) : X.K.In s.heap := I.ok.mod.kin.keeps I.bk
/-- the frame over the base: for OpenK's rules (K.In X.base is I.mod.kin) -/
theorem Inv.fr (I : Inv X pins σ H s) : ∃ m, Fr X.base X.env.locals s.heap m :=
  let ⟨m, hn, _⟩ := I.loc
  ⟨m, hn, I.bk, Nat.le_trans I.ok.bsz I.ok.above⟩
theorem Inv.lt (I : Inv X pins σ H s) : X.env.locals < s.heap.objs.size := let ⟨_, hn, _⟩ := I.loc; hn.lt
theorem Inv.sz (I : Inv X pins σ H s) : X.s₀.heap.objs.size ≤ s.heap.objs.size := Nat.le_trans I.ok.above (Nat.le_of_lt I.lt)
theorem Inv.nofs (I : Inv X pins σ H s) {a : Addr} (h : s.heap.objs.size ≤ a) : a ∉ X.fs := fun hb => by
  obtain ⟨_, o, ho, _⟩ := I.ok.funs.mem hb
  exact absurd (Nat.lt_of_lt_of_le (Heap.lt_size ho) (Nat.le_trans I.sz h)) (Nat.lt_irrefl _)
theorem Inv.cne (I : Inv X pins σ H s) : ∀ x c, X.env.cells.lookup x = some c → c ≠ X.env.locals := fun x c e z => by
  obtain ⟨v, o, ho, hd⟩ := I.cell x c e
  obtain ⟨m, ⟨o', es, ep, ho', hd', _⟩, _⟩ := I.loc
  rw [z, ho'] at ho; cases ho; rw [hd'] at hd; cases hd
theorem Inv.funs (I : Inv X pins σ H s) : s.heap.FunFrames X.base X.outer := by
  have all : ∀ (l : List Env), (∀ b ∈ frs l, b ∈ X.fs) → X.s₀.heap.FunFrames X.base l → s.heap.FunFrames X.base l := by
    intro l
    induction l with
    | nil => intro _ _; trivial
    | cons env r ih =>
      intro hs hl
      obtain ⟨hk, ⟨L, o, hf, hn, ho, hd⟩, hr⟩ := hl
      have hL : L ∈ X.fs := hs L (by unfold frs; rw [List.filterMap_cons, hf]; exact List.mem_cons_self)
      obtain ⟨sl, e⟩ := I.base.slot L o ho (I.ok.frf L hL) hL fun z => I.ok.exfs L z hL
      exact ⟨hk, ⟨L, _, hf, hn, e, hd⟩, ih (fun b hb => hs b (by unfold frs; rw [List.filterMap_cons, hf]; exact List.mem_cons_of_mem _ hb)) hr⟩
  exact all X.outer (fun _ hb => hb) I.ok.funs

/-- the frames that run, for a call -/
theorem Inv.stack (I : Inv X pins σ H s) : s.heap.FunFrames X.base X.stack := by
  rcases I.ok.stk with e | ⟨e, hf⟩
  · rw [e]; exact I.funs
  · rw [e]
    obtain ⟨m, hn, _⟩ := I.loc
    refine .cons (by rw [I.ok.kind]; decide) hf hn ?_ I.funs
    exact Heap.get?_none_of_le (Nat.le_trans I.ok.bsz I.ok.above)
theorem Inv.stkSub (I : Inv X pins σ H s) : ∀ b ∈ frs X.stack, b ∈ X.env.locals :: X.fs := fun b hb => by
  rcases I.ok.stk with e | ⟨e, hf⟩
  · rw [e] at hb; exact List.mem_cons_of_mem _ hb
  · rw [e] at hb
    unfold frs at hb
    rw [List.filterMap_cons, hf] at hb
    exact hb
theorem Inv.stkFree (I : Inv X pins σ H s) : ∀ b ∈ frs X.stack, H b = none := fun b hb => by
  rcases List.mem_cons.mp (I.stkSub b hb) with e | hb
  · rw [e]; exact I.free
  · obtain ⟨_, o, ho, _⟩ := I.ok.funs.mem hb
    exact I.base.free b o ho (I.ok.frf b hb) fun z => I.ok.exfs b z hb

/-- THE STEP: the untracked objects but the frame and the records at ch are kept (the callers' frames up to slots), the frame's map is kept, the new abstract heap is held -/
theorem Inv.step {g' : Array GenState} {t' : Nat} {d' : Drawn} {ch : List Addr} (I : Inv X pins σ H s)
    (hch : ∀ b ∈ ch, (b ∈ X.ex ∨ X.s₀.heap.objs.size ≤ b) ∧ b ≠ X.env.locals ∧ (∀ x c, X.env.cells.lookup x = some c → c ≠ b) ∧ ∀ p ∈ X.pn ++ pins, p.1 ≠ b)
    (keep : ∀ b o, b ≠ X.env.locals → b ∉ X.fs → b ∉ ch → s.heap.get? b = some o → H b = none → h'.get? b = some o)
    (slot : ∀ b o, b ≠ X.env.locals → b ∈ X.fs → b ∉ ch → s.heap.get? b = some o → H b = none → ∃ sl, h'.get? b = some { o with slots := sl }) (free : ∀ b o, b ∉ ch → s.heap.get? b = some o → H b = none → H' b = none)
    (there : ∀ b o, b ∉ ch → s.heap.get? b = some o → ∃ o', h'.get? b = some o')
    (tups : ∀ b xs, H b = some (.tup xs) → H' b = some (.tup xs)) (frzs : ∀ b o u, H b = some (.frz o u) → H' b = some (.frz o u)) (tbls : ∀ b ps, H b = some (.tbl ps) → ∃ more, H' b = some (.tbl (ps ++ more)))
    (ns : ∀ m, s.heap.Ns X.env.locals m → h'.Ns X.env.locals m) (hok : HOk X.prog X.w H' h') (hg : AllBare g') :
    Inv X pins σ H' { s with heap := h', gens := g', drawn := d', toks := t' } := by
  have neL : ∀ b o, X.s₀.heap.get? b = some o → b ≠ X.env.locals := fun b o e => Nat.ne_of_lt (Nat.lt_of_lt_of_le (Heap.lt_size e) I.ok.above)
  have neC : ∀ b o, X.s₀.heap.get? b = some o → b ∉ X.ex → b ∉ ch := fun b o e hx hb => by
    rcases (hch b hb).1 with z | z
    · exact hx z
    · exact absurd (Nat.lt_of_lt_of_le (Heap.lt_size e) z) (Nat.lt_irrefl _)
  have cellK : ∀ x c, X.env.cells.lookup x = some c → ∀ v, s.heap.IsCell c v → h'.IsCell c v := fun x c e v ⟨o, ho, hd⟩ => by
    have nch : c ∉ ch := fun z => (hch c z).2.2.1 x c e rfl
    by_cases hc : c ∈ X.fs
    · obtain ⟨sl, q⟩ := slot c o (I.cne x c e) hc nch ho (I.freeC x c e)
      exact ⟨_, q, hd⟩
    · exact ⟨o, keep c o (I.cne x c e) hc nch ho (I.freeC x c e), hd⟩
  refine ⟨I.ok, I.os, hg, ⟨fun b o e n hb hx => ?_, fun b o e n hb hx => ?_, fun b o e n hx => ?_, fun b o e hx => ?_, fun b xs e => tups b xs (I.base.tups b xs e), fun b o xs e => frzs b o xs (I.base.frzs b o xs e), fun b ps e => ?_⟩, ?_, fun x c e => ?_, ?_, fun x c e => ?_, fun p hp => ?_, hok, I.len⟩
  · exact keep b o (neL b o e) hb (neC b o e hx) (I.base.keep b o e n hb hx) (I.base.free b o e n hx)
  · obtain ⟨sl, e1⟩ := I.base.slot b o e n hb hx
    obtain ⟨sl', e2⟩ := slot b _ (neL b o e) hb (neC b o e hx) e1 (I.base.free b o e n hx)
    exact ⟨sl', e2⟩
  · obtain ⟨o', e1⟩ := I.base.there b o e hx
    exact free b o' (neC b o e hx) e1 (I.base.free b o e n hx)
  · obtain ⟨o', e1⟩ := I.base.there b o e hx
    exact there b o' (neC b o e hx) e1
  · obtain ⟨m1, e1⟩ := I.base.tbls b ps e
    obtain ⟨m2, e2⟩ := tbls b _ e1
    exact ⟨m1 ++ m2, by rw [e2, Array.append_assoc]⟩
  · obtain ⟨m, hn, hl⟩ := I.loc
    refine ⟨m, ns m hn, fun i x v e1 e2 e3 => ?_⟩
    obtain ⟨u, r, l⟩ := hl i x v e1 e2 e3
    refine ⟨u, r, ?_⟩
    rcases l with l | ⟨k, c, e, z⟩
    · exact .inl l
    · exact .inr ⟨k, c, e, cellK x c e _ z⟩
  · obtain ⟨v, z⟩ := I.cell x c e
    exact ⟨v, cellK x c e v z⟩
  · obtain ⟨m, ⟨o, _, _, ho, _⟩, _⟩ := I.loc
    exact free _ o (fun z => (hch _ z).2.1 rfl) ho I.free
  · obtain ⟨v, o, ho, hd⟩ := I.cell x c e
    exact free c o (fun z => (hch c z).2.2.1 x c e rfl) ho (I.freeC x c e)
  · obtain ⟨e, n, ne, nf, d⟩ := I.pin p hp
    have nch : p.1 ∉ ch := fun z => (hch p.1 z).2.2.2 p hp rfl
    exact ⟨keep p.1 p.2 ne nf nch e n, free p.1 p.2 nch e n, ne, nf, d⟩
/-- .. where the frame's own object is kept too -/
theorem Inv.un {t' : Nat} (I : Inv X pins σ H s) (u : Un X.fs [] H H' s.heap h') (hok : HOk X.prog X.w H' h') : Inv X pins σ H' { s with heap := h', toks := t' } := by
  obtain ⟨m, ⟨o, es, ep, ho, r⟩, _⟩ := id I.loc
  obtain ⟨sl, hL⟩ := u.any ho I.free (by simp)
  exact I.step (g' := s.gens) (d' := s.drawn) (ch := []) (fun _ z => nomatch z) (fun b o _ hb _ e n => u.keep b o e n hb (by simp)) (fun b o _ hb _ e n => u.slot b o e n hb (by simp)) (fun b o _ e n => u.free b o e n (by simp)) (fun b o _ e => u.there b o e (by simp)) u.tups u.frzs u.tbls (fun m' hm => by
    obtain ⟨o', es', ep', ho', r'⟩ := hm
    rw [ho] at ho'; cases ho'
    exact ⟨_, es', ep', hL, r'⟩) hok I.bare
/-- behind a call (or a comprehension's block): the slots of this frame may have changed too, the records at ch may have turned -/
theorem Inv.call {g' : Array GenState} {t' : Nat} {d' : Drawn} {ch : List Addr} (I : Inv X pins σ H s) (u : Un (frs X.stack) ch H H' s.heap h') (hok : HOk X.prog X.w H' h') (hg : AllBare g')
    (hch : ∀ b ∈ ch, (b ∈ X.ex ∨ X.s₀.heap.objs.size ≤ b) ∧ b ≠ X.env.locals ∧ (∀ x c, X.env.cells.lookup x = some c → c ≠ b) ∧ ∀ p ∈ X.pn ++ pins, p.1 ≠ b) :
    Inv X pins σ H' { s with heap := h', gens := g', drawn := d', toks := t' } := by
  obtain ⟨m, ⟨o, es, ep, ho, r⟩, _⟩ := id I.loc
  obtain ⟨sl, hL⟩ := u.any ho I.free fun z => (hch _ z).2.1 rfl
  exact I.step (ch := ch) hch (fun b o hL hb hc e n => u.keep b o e n (fun z => (List.mem_cons.mp (I.stkSub b z)).elim hL hb) hc) (fun b o _ _ hc e n => u.any e n hc) (fun b o hc e n => u.free b o e n hc) (fun b o hc e => u.there b o e hc) u.tups u.frzs u.tbls (fun m' hm => by
    obtain ⟨o', es', ep', ho', r'⟩ := hm
    rw [ho] at ho'; cases ho'
    exact ⟨_, es', ep', hL, r'⟩) hok hg
/-- an untracked record of ours (an iterator) has turned -/
theorem Inv.turned {t' : Nat} {it : Addr} (I : Inv X pins σ H s) (k : ∀ b o, b ≠ it → s.heap.get? b = some o → h'.get? b = some o) (hn : H it = none) (hL : it ≠ X.env.locals)
    (h1 : it ∈ X.ex ∨ X.s₀.heap.objs.size ≤ it) (h2 : ∀ x c, X.env.cells.lookup x = some c → c ≠ it) (h3 : ∀ p ∈ X.pn ++ pins, p.1 ≠ it) : Inv X pins σ H { s with heap := h', toks := t' } := by
  have nit : ∀ b u, H b = some u → b ≠ it := fun b u e z => by rw [z, hn] at e; cases e
  refine I.step (g' := s.gens) (d' := s.drawn) (ch := [it]) (fun b hb => ?_) (fun b o _ _ hc e _ => k b o (fun z => hc (by simp [z])) e) (fun b o _ _ hc e _ => ⟨o.slots, k b o (fun z => hc (by simp [z])) e⟩) (fun _ _ _ _ n => n)
    (fun b o hc e => ⟨o, k b o (fun z => hc (by simp [z])) e⟩) (fun _ _ e => e) (fun _ _ _ e => e) (fun b ps e => ⟨#[], by rw [e]; simp⟩) (fun m hm => ?_) (fun b u e => ?_) I.bare
  · have e : b = it := by simpa using hb
    subst e
    exact ⟨h1, hL, h2, h3⟩
  · obtain ⟨o, es, ep, ho, r⟩ := hm
    exact ⟨o, es, ep, k _ o (Ne.symm hL) ho, r⟩
  · refine (I.hok b u e).stay (fun c v hc q => k c v ?_ q) (fun _ q => q) fun _ _ q => q
    rcases hc with z | z
    · rw [z]; exact nit b u e
    · exact nit c _ z
theorem Inv.tok (I : Inv X pins σ H s) (t : Nat) : Inv X pins σ H { s with toks := t } := I.un (h' := s.heap) (t' := t) Un.refl I.hok
/-- all objects kept -/
theorem Inv.kept {t' : Nat} (I : Inv X pins σ H s) (k : ∀ b u, s.heap.get? b = some u → h'.get? b = some u) : Inv X pins σ H { s with heap := h', toks := t' } := I.un (Un.kept k) (I.hok.kept k)
/-- a new object laid and tracked -/
theorem Inv.laid {a : Addr} {o : HO} {t' : Nat} (I : Inv X pins σ H s) (k : ∀ b u, s.heap.get? b = some u → h'.get? b = some u) (hp : s.heap.objs.size ≤ a) (new : ObjOk X.prog X.w (upd H a o) h' a o) :
    Inv X pins σ (upd H a o) { s with heap := h', toks := t' } := I.un (Un.laid k hp (I.hok.fresh hp)) (I.hok.laid k hp new)
/-- an object written -/
theorem Inv.write {x e : Addr} {o : HO} {t' : Nat} (I : Inv X pins σ H s) (mu : Mut (H x)) (he : e = x ∨ H e = some (.own x)) (k : ∀ b u, b ≠ e → s.heap.get? b = some u → h'.get? b = some u) (heo : ∃ u, h'.get? e = some u)
    (new : ObjOk X.prog X.w (upd H x o) h' x o) : Inv X pins σ (upd H x o) { s with heap := h', toks := t' } := I.un (Un.write mu he k heo) (I.hok.write mu he k heo new)
/-- forgetting slots, pins -/
theorem Inv.weak {σ' : List (Option V)} (I : Inv X pins σ H s) (hl : σ'.length = σ.length) (w : ∀ (i : Nat) v, σ'[i]? = some (some v) → σ[i]? = some (some v)) : Inv X pins σ' H s :=
  ⟨I.ok, I.os, I.bare, I.base, let ⟨m, hn, hl'⟩ := I.loc; ⟨m, hn, fun i x v e1 e2 e3 => hl' i x v e1 (w i v e2) e3⟩, I.cell, I.free, I.freeC, I.pin, I.hok, hl.trans I.len⟩
theorem Inv.pins_of {pins' : List (Addr × Obj)} (I : Inv X pins σ H s) (h : ∀ p ∈ pins', s.heap.get? p.1 = some p.2 ∧ H p.1 = none ∧ p.1 ≠ X.env.locals ∧ p.1 ∉ X.fs ∧ ∀ v, p.2.data ≠ .cell v) : Inv X pins' σ H s :=
  ⟨I.ok, I.os, I.bare, I.base, I.loc, I.cell, I.free, I.freeC, fun p hp => (List.mem_append.mp hp).elim (fun z => I.pin p (List.mem_append_left _ z)) (h p), I.hok, I.len⟩

theorem nodup_ix {N : List Str} (hN : N.Nodup) {i j : Nat} {x : Str} (a : N[i]? = some x) (b : N[j]? = some x) : i = j := by
  obtain ⟨h1, e1⟩ := List.getElem?_eq_some_iff.mp a
  obtain ⟨h2, e2⟩ := List.getElem?_eq_some_iff.mp b
  exact (List.getElem_inj hN).mp (e1.trans e2.symm)

/-- a name is stored; what changed -/
theorem store_ok2 {M : Model} {A : Around} {E : Value → Shared → Prop} {i : Nat} {x : Str} {v : V} {u : Value} {Q : Unit → Shared → Prop} (I : Inv X pins σ H s) (hN : X.N.Nodup) (hi : X.N[i]? = some x) (hx : Loc X.env.scope x) (r : RelV v u)
    (h : ∀ s', Inv X pins (σ.set i (some v)) H s' → (∃ a, Heap.SameBut a s.heap s'.heap ∧ (a = X.env.locals ∨ X.env.cells.lookup x = some a)) → Q () s') (hf : X.fn x = true ∨ X.env.scope.names.lookup x = some .local := by first | exact .inl rfl | exact .inr rfl | assumption) : wpAny M A (storeName X.env x u) Q E s := by
  obtain ⟨m, hn, hl⟩ := id I.loc
  have hcls : (X.env.scope.kind == .class || (X.env.scope.kind == .module && X.env.locals != X.env.globals)) = false := by rw [I.ok.kind]; rfl
  have hiσ : i < σ.length := by rw [I.len]; exact (List.getElem?_eq_some_iff.mp hi).1
  have cne := I.cne
  have tracked : ∀ {a : Addr} {h' : Heap}, (∃ o, s.heap.get? a = some o ∧ H a = none) → Heap.SameBut a s.heap h' → HOk X.prog X.w H h' := fun {a h'} ha hs b ob e => by
    obtain ⟨_, _, hfree⟩ := ha
    refine (I.hok b ob e).stay (fun c w' hc q => (hs.2 c ?_).trans q) (fun _ q => q) fun _ _ q => q
    rintro rfl
    rcases hc with rfl | hc
    · rw [hfree] at e; cases e
    · rw [hfree] at hc; cases hc
  rcases hx with hk | hk
  · refine wpAny_storeName_local hk hn (fun h' hn' hs => ?_) hcls
    obtain ⟨oL, _, _, hoL, _⟩ := id hn
    refine h _ ⟨I.ok, I.os, I.bare, ⟨fun b o e n hb hx => ?_, fun b o e n hb hx => ?_, I.base.free, fun b o e hx => ?_, I.base.tups, I.base.frzs, I.base.tbls⟩, ⟨_, hn', fun j y v' e1 e2 e3 => ?_⟩, fun y c e => ?_, I.free, I.freeC, fun p hp => ?_, tracked ⟨oL, hoL, I.free⟩ hs, by simpa using I.len⟩ ⟨_, hs, .inl rfl⟩
    · exact (hs.2 b (Nat.ne_of_lt (Nat.lt_of_lt_of_le (Heap.lt_size e) I.ok.above))).trans (I.base.keep b o e n hb hx)
    · obtain ⟨sl, e1⟩ := I.base.slot b o e n hb hx
      exact ⟨sl, (hs.2 b (Nat.ne_of_lt (Nat.lt_of_lt_of_le (Heap.lt_size e) I.ok.above))).trans e1⟩
    · obtain ⟨o', e1⟩ := I.base.there b o e hx
      exact ⟨o', (hs.2 b (Nat.ne_of_lt (Nat.lt_of_lt_of_le (Heap.lt_size e) I.ok.above))).trans e1⟩
    · by_cases hj : j = i
      · subst hj
        rw [hi] at e1; cases e1
        rw [List.getElem?_set_self hiσ] at e2
        cases e2
        exact ⟨u, r, .inl ⟨hk, by simp⟩⟩
      · rw [List.getElem?_set_ne (Ne.symm hj)] at e2
        obtain ⟨u', r', q⟩ := hl j y v' e1 e2 e3
        refine ⟨u', r', ?_⟩
        rcases q with ⟨k, e⟩ | ⟨k, c, e, z⟩
        · refine .inl ⟨k, ?_⟩
          have : y ≠ x := fun e => hj (nodup_ix hN e1 (e ▸ hi))
          simp [this, e]
        · exact .inr ⟨k, c, e, z.sameBut hs (cne y c e)⟩
    · obtain ⟨w', z⟩ := I.cell y c e
      exact ⟨w', z.sameBut hs (cne y c e)⟩
    · obtain ⟨e, n, ne, nf, d⟩ := I.pin p hp
      exact ⟨(hs.2 p.1 ne).trans e, n, ne, nf, d⟩
  · have hfn : X.fn x = true := by
      rcases hf with z | z
      · exact z
      · rw [z] at hk; cases hk
    obtain ⟨c, hc⟩ := I.ok.has x (.inl hk)
    obtain ⟨w', z⟩ := I.cell x c hc
    refine wpAny_storeName_cell I.ok.kind hk hc z (fun h' hc' hs => ?_)
    obtain ⟨oc, hoc, hocd⟩ := id z
    refine h { s with heap := h' } ⟨I.ok, I.os, I.bare, ⟨fun b o e n hb hx => ?_, fun b o e n hb hx => ?_, I.base.free, fun b o e hx => ?_, I.base.tups, I.base.frzs, I.base.tbls⟩, ⟨m, hn.sameBut hs (Ne.symm (cne x c hc)), fun j y v' e1 e2 e3 => ?_⟩, fun y c' e => ?_, I.free, I.freeC, fun p hp => ?_, tracked ⟨oc, hoc, I.freeC x c hc⟩ hs, by simpa using I.len⟩ ⟨c, hs, .inr hc⟩
    · exact (hs.2 b (Nat.ne_of_lt (Nat.lt_of_lt_of_le (Heap.lt_size e) (I.ok.cab x c hfn hc)))).trans (I.base.keep b o e n hb hx)
    · obtain ⟨sl, e1⟩ := I.base.slot b o e n hb hx
      exact ⟨sl, (hs.2 b (Nat.ne_of_lt (Nat.lt_of_lt_of_le (Heap.lt_size e) (I.ok.cab x c hfn hc)))).trans e1⟩
    · obtain ⟨o', e1⟩ := I.base.there b o e hx
      exact ⟨o', (hs.2 b (Nat.ne_of_lt (Nat.lt_of_lt_of_le (Heap.lt_size e) (I.ok.cab x c hfn hc)))).trans e1⟩
    · by_cases hj : j = i
      · subst hj
        rw [hi] at e1; cases e1
        rw [List.getElem?_set_self hiσ] at e2
        cases e2
        exact ⟨u, r, .inr ⟨.inl hk, c, hc, hc'⟩⟩
      · rw [List.getElem?_set_ne (Ne.symm hj)] at e2
        obtain ⟨u', r', q⟩ := hl j y v' e1 e2 e3
        refine ⟨u', r', ?_⟩
        rcases q with q | ⟨k, c', e, z'⟩
        · exact .inl q
        · refine .inr ⟨k, c', e, z'.sameBut hs ?_⟩
          rintro rfl
          exact hj (nodup_ix hN e1 (I.ok.inj _ _ _ e hc ▸ hi))
    · by_cases hcc : c' = c
      · subst hcc; exact ⟨_, hc'⟩
      · obtain ⟨w2, z2⟩ := I.cell y c' e
        exact ⟨w2, z2.sameBut hs hcc⟩
    · obtain ⟨e, n, ne, nf, d⟩ := I.pin p hp
      refine ⟨(hs.2 p.1 ?_).trans e, n, ne, nf, d⟩
      intro q
      rw [q, hoc] at e
      have q' : oc = p.2 := Option.some.inj e
      exact d w' (by rw [← q']; exact hocd)
theorem store_ok {M : Model} {A : Around} {E : Value → Shared → Prop} {i : Nat} {x : Str} {v : V} {u : Value} {Q : Unit → Shared → Prop} (I : Inv X pins σ H s) (hN : X.N.Nodup) (hi : X.N[i]? = some x) (hx : Loc X.env.scope x) (r : RelV v u)
    (h : ∀ s', Inv X pins (σ.set i (some v)) H s' → Q () s') (hf : X.fn x = true ∨ X.env.scope.names.lookup x = some .local := by first | exact .inl rfl | exact .inr rfl | assumption) : wpAny M A (storeName X.env x u) Q E s :=
  store_ok2 I hN hi hx r (fun s' I' _ => h s' I') hf
/-- behind a call or a block, the state as it is -/
theorem Inv.call' {s' : Shared} {ch : List Addr} (I : Inv X pins σ H s) (ho : s'.os = s.os) (u : Un (frs X.stack) ch H H' s.heap s'.heap) (hok : HOk X.prog X.w H' s'.heap) (hg : AllBare s'.gens)
    (hch : ∀ b ∈ ch, (b ∈ X.ex ∨ X.s₀.heap.objs.size ≤ b) ∧ b ≠ X.env.locals ∧ (∀ x c, X.env.cells.lookup x = some c → c ≠ b) ∧ ∀ p ∈ X.pn ++ pins, p.1 ≠ b) : Inv X pins σ H' s' := by
  obtain ⟨h', g', d', t', o'⟩ := s'
  have e : o' = s.os := ho
  subst e
  exact I.call (g' := g') (t' := t') (d' := d') u hok hg hch
end

/-! ### the judgements -/
/-- an exception: its class, its own dict's address (where it has one), the abstract heap behind it -/
abbrev XK := Value → Option Addr → Hp → Prop
abbrev St := List (Option V)
abbrev VK := V → Hp → Prop
/-- an expression's reading; a test's; an argument list's -/
abbrev TE := St → Hp → VK → Prop
abbrev TT := St → Hp → (Bool → Hp → Prop) → Prop
abbrev TA := St → Hp → (List V → Hp → Prop) → Prop
/-- what is wanted behind a statement -/
structure Ends where
  nx : St → Hp → Prop
  rt : VK
  bk : St → Hp → Prop := fun _ _ => False
  ct : St → Hp → Prop := fun _ _ => False
abbrev TS := Ends → St → Hp → Prop

def EP (X : Cx) (pins : List (Addr × Obj)) (σ : St) (Q : VK) (u : Value) (s' : Shared) : Prop := ∃ v H', Inv X pins σ H' s' ∧ RelV v u ∧ Q v H'
def TP (X : Cx) (pins : List (Addr × Obj)) (σ : St) (Q : Bool → Hp → Prop) (b : Bool) (s' : Shared) : Prop := ∃ H', Inv X pins σ H' s' ∧ Q b H'
def AP (X : Cx) (pins : List (Addr × Obj)) (σ : St) (Q : List V → Hp → Prop) (us : List Value) (s' : Shared) : Prop := ∃ vs H', Inv X pins σ H' s' ∧ Vals vs us ∧ Q vs H'
def SP (X : Cx) (pins : List (Addr × Obj)) (D : Ends) (f : Flow) (s' : Shared) : Prop :=
  match f with
  | .next => ∃ σ' H', Inv X pins σ' H' s' ∧ D.nx σ' H'
  | .brk => ∃ σ' H', Inv X pins σ' H' s' ∧ D.bk σ' H'
  | .cont => ∃ σ' H', Inv X pins σ' H' s' ∧ D.ct σ' H'
  | .ret u => ∃ v σ' H', Inv X pins σ' H' s' ∧ RelV v u ∧ D.rt v H'

def PE (X : Cx) (e : Expr) (t : TE) : Prop :=
  ∀ (pins : List (Addr × Obj)) (s : Shared) (σ : St) (H : Hp) (Q : VK), Inv X pins σ H s → t σ H Q → wpAny (model X.prog X.w) X.A (eval e X.env) (EP X pins σ Q) X.xe s
def PT (X : Cx) (e : Expr) (t : TT) : Prop :=
  ∀ (pins : List (Addr × Obj)) (s : Shared) (σ : St) (H : Hp) (Q : Bool → Hp → Prop), Inv X pins σ H s → t σ H Q → wpAny (model X.prog X.w) X.A (isTrue e X.env (eval e X.env)) (TP X pins σ Q) X.xe s
/-- a test whatever its 'whole' is (and, or) -/
def PW (X : Cx) (e : Expr) (t : TT) : Prop :=
  ∀ (whole : Sem Value) (pins : List (Addr × Obj)) (s : Shared) (σ : St) (H : Hp) (Q : Bool → Hp → Prop), Inv X pins σ H s → t σ H Q → wpAny (model X.prog X.w) X.A (isTrue e X.env whole) (TP X pins σ Q) X.xe s
theorem PW.pt {X : Cx} {e : Expr} {t : TT} (h : PW X e t) : PT X e t := h _
/-- an argument list (no star), from the left -/
def PA (X : Cx) (es : List Expr) (t : TA) : Prop :=
  ∀ (pos : Pos) (pins : List (Addr × Obj)) (s : Shared) (σ : St) (H : Hp) (Q : List V → Hp → Prop), Inv X pins σ H s → t σ H Q → wpAny (model X.prog X.w) X.A (spliced (backTo pos (starEach es X.env))) (AP X pins σ Q) X.xe s
def PS (X : Cx) (st : Stmt) (t : TS) : Prop :=
  ∀ (pins : List (Addr × Obj)) (s : Shared) (σ : St) (H : Hp) (D : Ends), Inv X pins σ H s → t D σ H → wpAny (model X.prog X.w) X.A (exec st X.env) (SP X pins D) X.xe s
def PSs (X : Cx) (st : List Stmt) (t : TS) : Prop :=
  ∀ (pins : List (Addr × Obj)) (s : Shared) (σ : St) (H : Hp) (D : Ends), Inv X pins σ H s → t D σ H → wpAny (model X.prog X.w) X.A (execs st X.env) (SP X pins D) X.xe s
/-- weaken the end -/
theorem thn {α : Type} {t : Sem α} {Q Q' : α → Shared → Prop} {M : Model} {A : Around} {E : Value → Shared → Prop} {s : Shared} (h : wpAny M A t Q E s) (hQ : ∀ a s, Q a s → Q' a s) : wpAny M A t Q' E s := wpAny_mono h hQ fun _ _ x => x
end L2

namespace L2
open PySem PySem.Spec PyProof.Rows
section
variable {X : Cx}

/-- two expressions in a row -/
theorem bin {a b : Expr} {ta tb : TE} (ha : PE X a ta) (hb : PE X b tb) {pins : List (Addr × Obj)} {s : Shared} {σ : St} {H : Hp} {R : V → V → Hp → Prop} (I : Inv X pins σ H s) (h : ta σ H fun x H1 => tb σ H1 fun y H2 => R x y H2)
    {α : Type} {Q : α → Shared → Prop} {f : Value → Value → Sem α}
    (hf : ∀ v u s2 x y H2, Inv X pins σ H2 s2 → RelV x v → RelV y u → R x y H2 → wpAny (model X.prog X.w) X.A (f v u) Q X.xe s2) :
    wpAny (model X.prog X.w) X.A (eval a X.env) (fun v s₁ => wpAny (model X.prog X.w) X.A (eval b X.env) (fun u s₂ => wpAny (model X.prog X.w) X.A (f v u) Q X.xe s₂) X.xe s₁) X.xe s := by
  refine thn (ha pins s σ H _ I h) fun v s1 ⟨x, H1, I1, r1, q1⟩ => ?_
  refine thn (hb pins s1 σ H1 _ I1 q1) fun u s2 ⟨y, H2, I2, r2, q2⟩ => ?_
  exact hf v u s2 x y H2 I2 r1 r2 q2

/-! ### names and constants -/
def tVar (i : Nat) : TE := fun σ H Q => ∃ v, σ[i]? = some (some v) ∧ Q v H
def tC (v : V) : TE := fun _ H Q => Q v H
theorem pe_var {i : Nat} {x : Str} {pos : Pos} (hN : X.N[i]? = some x) (hv : Vis X.env.scope x) (hd : (x == ("__debug__" : Str)) = false := by decide) (hcd : (x == ("__classdict__" : Str)) = false := by decide) : PE X (.Name x pos) (tVar i) := by
  intro pins s σ H Q I h
  obtain ⟨v, e, h⟩ := h
  obtain ⟨m, hn, hl⟩ := I.loc
  obtain ⟨u, r, l⟩ := hl i x v hN e hv
  have fin : EP X pins σ Q u s := ⟨v, H, I, r, h⟩
  rcases l with ⟨hk, hm⟩ | ⟨hk, c, hc, hcell⟩
  · exact wpAny_Name (wpAny_loadName_local I.ok.kind hk hn hm fin) hd
  · rcases hk with hk | hk
    · exact wpAny_Name (wpAny_loadName_cell I.ok.kind hk hc hcell fin) hd
    · exact wpAny_Name (wpAny_loadName_free I.ok.kind hk hc hcell fin hcd) hd
theorem pe_int {i j pos} : PE X (.Constant (.int i) j pos) (tC (.int i)) := fun _ _ _ H _ I h => wpAny_Constant_int ⟨.int i, H, I.tok _, ⟨_, rfl⟩, h⟩
theorem pe_bl {b j pos} : PE X (.Constant (.bool b) j pos) (tC (.bl b)) := fun _ _ _ H _ I h => Constant_bool ⟨.bl b, H, I, rfl, h⟩
theorem pe_str {x j pos} : PE X (.Constant (.str x) j pos) (tC (.str x)) := fun _ _ _ H _ I h => Calls.Constant_str ⟨.str x, H, I.tok _, ⟨_, rfl⟩, h⟩

/-- a global name of the def -/
def Gl (X : Cx) (x : Str) : Prop := X.env.kindOf x = some .globalImplicit
theorem ld_glob {E : Value → Shared → Prop} {pins : List (Addr × Obj)} {s : Shared} {σ : St} {H : Hp} {x : Str} {u : Value} {pos : Pos} {Q : Value → Shared → Prop} (I : Inv X pins σ H s) (hg : Gl X x) (hm : X.mg x = some u) (h : Q u s)
    (hd : (x == ("__debug__" : Str)) = false := by decide) : wpAny (model X.prog X.w) X.A (eval (.Name x pos) X.env) Q E s :=
  Calls.Name_function_global I.ok.kind hg (Calls.loadGlobal_global (by rw [I.ok.glob]; exact I.mod.glob.keeps I.bk) hm h) hd
theorem ld_blt {E : Value → Shared → Prop} {pins : List (Addr × Obj)} {s : Shared} {σ : St} {H : Hp} {x : Str} {u : Value} {pos : Pos} {Q : Value → Shared → Prop} (I : Inv X pins σ H s) (hg : Gl X x) (hm : X.mg x = none) (hv : bootBuiltins x = some u) (h : Q u s)
    (hn : x ≠ "__name__" := by decide) (hd : (x == ("__debug__" : Str)) = false := by decide) : wpAny (model X.prog X.w) X.A (eval (.Name x pos) X.env) Q E s := by
  obtain ⟨mb, h1, h2⟩ := I.mod.blt
  exact Calls.Name_function_global I.ok.kind hg (Calls.loadGlobal_builtin (by rw [I.ok.glob]; exact I.mod.glob.keeps I.bk) hm (by rw [I.ok.blt]; exact h1.keeps I.bk) ((h2 x hn).trans hv) h) hd
theorem pe_bltn {x : Str} {v : V} {u : Value} {pos : Pos} (hg : Gl X x) (hm : X.mg x = none) (hv : bootBuiltins x = some u) (r : RelV v u) (hn : x ≠ "__name__" := by decide) (hd : (x == ("__debug__" : Str)) = false := by decide) : PE X (.Name x pos) (tC v) :=
  fun _ _ _ H _ I h => ld_blt I hg hm hv ⟨v, H, I, r, h⟩ hn hd

/-! ### arithmetic -/
variable {a b : Expr} {ta tb : TE} {pos : Pos}
/-! ### comparisons -/
def PC (X : Cx) (op : CmpOp) (a b : Expr) (t : TE) : Prop :=
  ∀ (pins : List (Addr × Obj)) (s : Shared) (σ : St) (H : Hp) (Q : VK), Inv X pins σ H s → t σ H Q →
    wpAny (model X.prog X.w) X.A (eval a X.env) (fun v s₁ => wpAny (model X.prog X.w) X.A (eval b X.env) (fun u s₂ => wpAny (model X.prog X.w) X.A (compareOp op v u) (EP X pins σ Q) X.xe s₂) X.xe s₁) X.xe s
/-- a comparison as a value, as a test -/
def tB (t : TE) : TT := fun σ H Q => t σ H fun x H1 => ∃ c, x = .bl c ∧ Q c H1
theorem pt_cmp {op : CmpOp} {t : TE} (h : PC X op a b t) (h1 : behindInMarks op b = false := by first | exact nobehind _ (by decide) (by decide) | rfl) : PT X (.Compare a [op] [b] pos) (tB t) := by
  intro pins s σ H Q I hw
  refine wpAny_isTrue_Compare1 (thn (h pins s σ H _ I hw) fun v s1 h1 => thn h1 fun u s2 h2 => thn h2 fun c s3 ⟨x, H1, I1, r1, q1⟩ => ?_) h1
  obtain ⟨d, rfl, q⟩ := q1
  cases r1
  exact wpAny_truthy_bool ⟨H1, I1, q⟩
/-- an expression whose value is a bool, as a test -/
theorem pt_val {e : Expr} {t : TE} (h : PE X e t) (he : ∀ whole, isTrue e X.env whole = (do let v ← whole; standAt e.pos; holding [v] (truthy v)) := by intro _; rfl) : PT X e (tB t) := by
  intro pins s σ H Q I hw
  refine isTrue_plain (thn (h pins s σ H _ I hw) fun v s1 ⟨x, H1, I1, r1, q1⟩ => ?_) (he _)
  obtain ⟨d, rfl, q⟩ := q1
  cases r1
  exact wpAny_truthy_bool ⟨H1, I1, q⟩

/-! ### and, or, not -/
variable {tA tB' : TT} {rest : List Expr}
def tOr (t u : TT) : TT := fun σ H Q => t σ H fun c H1 => if c = true then Q true H1 else u σ H1 Q
def tNot (t : TT) : TT := fun σ H Q => t σ H fun c H1 => Q (!c) H1
theorem pw_or1 (ha : PT X a tA) : PW X (.BoolOp .Or [a] pos) tA := by
  intro wh pins s σ H Q I h
  refine isTrue_or (thn (ha pins s σ H Q I h) fun c s1 e => ?_)
  cases c with
  | false => exact isTrue_or_nil e
  | true => exact e
theorem pw_or (ha : PT X a tA) (hb : PW X (.BoolOp .Or (b :: rest) pos) tB') : PW X (.BoolOp .Or (a :: b :: rest) pos) (tOr tA tB') := by
  intro wh pins s σ H Q I h
  refine isTrue_or (thn (ha pins s σ H _ I h) fun c s1 ⟨H1, I1, q1⟩ => ?_)
  cases c with
  | true => exact ⟨H1, I1, q1⟩
  | false => exact hb wh pins s1 σ H1 Q I1 q1
theorem pt_not (ha : PT X a tA) : PT X (.UnaryOp .Not a pos) (tNot tA) := by
  intro pins s σ H Q I h
  exact isTrue_not (ha pins s σ H (fun c H1 => Q (!c) H1) I h)
/-- .. as values (bools) -/
def tAndV (ta tb : TE) : TE := fun σ H Q => ta σ H fun x H1 => ∃ c, x = .bl c ∧ if c = true then tb σ H1 Q else Q (.bl false) H1
theorem pe_one {op} {t : TE} (h : PE X a t) : PE X (.BoolOp op [a] pos) t := fun pins s σ H Q I hw => BoolOp_one (h pins s σ H Q I hw)
theorem pe_and (ha : PE X a ta) (hb : PE X (.BoolOp .And (b :: rest) pos) tb) : PE X (.BoolOp .And (a :: b :: rest) pos) (tAndV ta tb) := by
  intro pins s σ H Q I h
  refine BoolOp_and (thn (ha pins s σ H _ I h) fun v s1 ⟨x, H1, I1, r1, q1⟩ => ?_)
  obtain ⟨c, rfl, q1⟩ := q1
  cases r1
  refine wpAny_truthy_bool ?_
  cases c with
  | true => exact hb pins s1 σ H1 Q I1 q1
  | false => exact ⟨.bl false, H1, I1, rfl, q1⟩
end
end L2

namespace L2
open PySem PySem.Spec PyProof.Rows

/-! ### a list, a tuple that is read: tracked, frozen, or an object of the module -/
def SqL (K : PySem.W.Frag) (H : Hp) (a : Addr) (xs : List V) : Prop :=
  Rd H a (.lst xs) ∨
    ∃ (o : Obj) (its : Array Value) (n : Nat), K.lookup a = some o ∧ o.cls = .type "list" ∧ o.dict = none ∧ o.data = .seq its n ∧ its.size ≤ sizeLine ∧ Vals xs its.toList
def SqT (K : PySem.W.Frag) (H : Hp) (a : Addr) (xs : List V) : Prop :=
  Rd H a (.tup xs) ∨
    ∃ (o : Obj) (its : Array Value) (n : Nat), K.lookup a = some o ∧ o.cls = .type "tuple" ∧ o.data = .seq its n ∧ its.size ≤ sizeLine ∧ Vals xs its.toList
def absV : Value → Option V
  | .none => some .non
  | .bool b => some (.bl b)
  | .int i _ => some (.int i)
  | .str x _ => some (.str x)
  | .bytes b _ => some (.byt b)
  | .float b _ => some (.flt b)
  | .ref a => some (.ref a)
  | .type n => some (.ty n)
  | _ => none
theorem RelV.abs {x : V} {u : Value} (r : RelV x u) : absV u = some x := by
  cases x with
  | non => cases r; rfl
  | bl _ => cases r; rfl
  | int _ => obtain ⟨t, rfl⟩ := r; rfl
  | str _ => obtain ⟨t, rfl⟩ := r; rfl
  | byt _ => obtain ⟨t, rfl⟩ := r; rfl
  | flt _ => obtain ⟨t, rfl⟩ := r; rfl
  | ref _ => cases r; rfl
  | ty _ => cases r; rfl
theorem RelV.inj {x y : V} {u : Value} (r : RelV x u) (q : RelV y u) : x = y := Option.some.inj (r.abs.symm.trans q.abs)
theorem Vals.inj : ∀ {xs ys : List V} {us : List Value}, Vals xs us → Vals ys us → xs = ys
  | _, _, _, .nil, .nil => rfl
  | _, _, _, .cons r t, .cons r' t' => by rw [r.inj r', Vals.inj t t']
section
variable {X : Cx} {pins : List (Addr × Obj)} {σ : St} {H : Hp} {s : Shared} {a : Addr} {xs ys : List V}
theorem SqL.of {K : PySem.W.Frag} (h : H a = some (.lst xs)) : SqL K H a xs := .inl (.inl h)
theorem SqT.of {K : PySem.W.Frag} (h : H a = some (.tup xs)) : SqT K H a xs := .inl (.inl h)
theorem Inv.list (I : Inv X pins σ H s) (h : SqL X.K H a xs) : ∃ its : List Value, Vals xs its ∧ PlainL s.heap a its.toArray ∧ xs.length ≤ sizeLine := by
  rcases h with h | ⟨o, its, n, hk, hc, hd, hs, hz, r⟩
  · obtain ⟨z, its, n, r, e⟩ := h.ok I.hok
    exact ⟨its, r, ⟨_, n, e, rfl, rfl, rfl⟩, z⟩
  · refine ⟨its.toList, r, ⟨o, n, I.kIn a o hk, hc, hd, by simpa using hs⟩, ?_⟩
    have e := r.length
    simp only [Array.length_toList] at e
    omega
theorem Inv.tuple (I : Inv X pins σ H s) (h : SqT X.K H a xs) : ∃ its : List Value, Vals xs its ∧ IsTup s.heap a its.toArray ∧ xs.length ≤ sizeLine := by
  rcases h with h | ⟨o, its, n, hk, hc, hs, hz, r⟩
  · obtain ⟨z, its, r, p⟩ := h.ok I.hok
    exact ⟨its, r, p, z⟩
  · refine ⟨its.toList, r, ⟨o, I.kIn a o hk, hc, n, by simpa using hs⟩, ?_⟩
    have e := r.length
    simp only [Array.length_toList] at e
    omega
theorem Inv.list_inj (I : Inv X pins σ H s) (h : SqL X.K H a xs) (h' : SqL X.K H a ys) : xs = ys := by
  obtain ⟨its, r, ⟨o, n, e, _, _, d⟩, _⟩ := I.list h
  obtain ⟨its', r', ⟨o', n', e', _, _, d'⟩, _⟩ := I.list h'
  rw [e] at e'; cases e'
  rw [d] at d'
  injection d' with d1 _
  have : its = its' := by simpa using congrArg Array.toList d1
  subst this
  exact r.inj r'
theorem Inv.tuple_inj (I : Inv X pins σ H s) (h : SqT X.K H a xs) (h' : SqT X.K H a ys) : xs = ys := by
  obtain ⟨its, r, ⟨o, e, _, n, d⟩, _⟩ := I.tuple h
  obtain ⟨its', r', ⟨o', e', _, n', d'⟩, _⟩ := I.tuple h'
  rw [e] at e'; cases e'
  rw [d] at d'
  injection d' with d1 _
  have : its = its' := by simpa using congrArg Array.toList d1
  subst this
  exact r.inj r'
end

/-! ### another wish about exceptions -/
abbrev Cx.wish (X : Cx) (E : Value → Shared → Prop) : Cx := { X with xe := E }
/-- no exception leaves -/
abbrev Cx.nox (X : Cx) : Cx := X.wish fun _ _ => False
theorem Cx.Ok.wish {X : Cx} (ok : X.Ok) (E : Value → Shared → Prop) : (X.wish E).Ok :=
  ⟨ok.mod, ok.kind, ok.glob, ok.blt, ok.above, ok.inj, ok.has, ok.cab, ok.hd, ok.frames, ok.stk, ok.exf, ok.bs, ok.bsz, ok.noex, ok.exfs, ok.funs, ok.frf⟩
theorem Cx.Ok.unwish {X : Cx} {E : Value → Shared → Prop} (ok : (X.wish E).Ok) : X.Ok :=
  ⟨ok.mod, ok.kind, ok.glob, ok.blt, ok.above, ok.inj, ok.has, ok.cab, ok.hd, ok.frames, ok.stk, ok.exf, ok.bs, ok.bsz, ok.noex, ok.exfs, ok.funs, ok.frf⟩
section
variable {X : Cx} {pins : List (Addr × Obj)} {σ : St} {H : Hp} {s : Shared} {E : Value → Shared → Prop}
theorem Inv.wish (I : Inv X pins σ H s) (E : Value → Shared → Prop) : Inv (X.wish E) pins σ H s := ⟨I.ok.wish E, I.os, I.bare, I.base, I.loc, I.cell, I.free, I.freeC, I.pin, I.hok, I.len⟩
theorem Inv.unwish (I : Inv (X.wish E) pins σ H s) : Inv X pins σ H s := ⟨I.ok.unwish, I.os, I.bare, I.base, I.loc, I.cell, I.free, I.freeC, I.pin, I.hok, I.len⟩
theorem SP.unwish {D : Ends} {f : Flow} {s' : Shared} (h : SP (X.wish E) pins D f s') : SP X pins D f s' := by
  cases f with
  | next => obtain ⟨σ', H', I, q⟩ := h; exact ⟨σ', H', I.unwish, q⟩
  | brk => obtain ⟨σ', H', I, q⟩ := h; exact ⟨σ', H', I.unwish, q⟩
  | cont => obtain ⟨σ', H', I, q⟩ := h; exact ⟨σ', H', I.unwish, q⟩
  | ret u => obtain ⟨v, σ', H', I, r, q⟩ := h; exact ⟨v, σ', H', I.unwish, r, q⟩
theorem PSs.nox {st : List Stmt} {t : TS} (h : PSs X.nox st t) : PSs X st t := fun pins s σ H D I hw =>
  wpAny_mono (h pins s σ H D (I.wish _) hw) (fun _ _ q => q.unwish) fun _ _ z => False.elim z
end

/-! ### blocks and small statements -/
section
variable {X : Cx} {st : Stmt} {rest : List Stmt} {t u : TS} {e : Expr} {te : TE} {pos : Pos}
def tNext : TS := fun D σ H => D.nx σ H
def tSeq (t u : TS) : TS := fun D σ H => t { D with nx := u D } σ H
theorem pss_nil : PSs X [] tNext := fun _ _ σ H _ I h => wpAny_execs_nil ⟨σ, H, I, h⟩
theorem pss_cons (h1 : PS X st t) (h2 : PSs X rest u) : PSs X (st :: rest) (tSeq t u) := by
  intro pins s σ H D I h
  refine wpAny_execs_cons (thn (h1 pins s σ H { D with nx := u D } I h) fun f s1 q => ?_)
  cases f with
  | next =>
    obtain ⟨σ', H', I', q⟩ := q
    exact h2 pins s1 σ' H' D I' q
  | ret v => exact q
  | brk => exact q
  | cont => exact q
theorem pss_one (h1 : PS X st t) : PSs X [st] t := by
  intro pins s σ H D I h
  refine wpAny_execs_cons (thn (h1 pins s σ H D I h) fun f s1 q => ?_)
  cases f with
  | next => exact wpAny_execs_nil q
  | ret v => exact q
  | brk => exact q
  | cont => exact q
/-- in a def's body nothing is shown -/
theorem Inv.quiet {pins : List (Addr × Obj)} {σ : St} {H : Hp} {s : Shared} (I : Inv X pins σ H s) : interactive X.env = false := by simp [interactive, I.ok.kind]
/-- an expression whose value is dropped -/
def tDrop (te : TE) : TS := fun D σ H => te σ H fun _ H1 => D.nx σ H1
theorem ps_expr (he : PE X e te) (hs : swapsWith e none pos.line X.env = pure false := by rfl) : PS X (.Expr e pos) (tDrop te) := by
  intro pins s σ H D I h
  exact wpAny_Expr_any (thn (he pins s σ H _ I h) fun v s1 ⟨x, H1, I1, r1, q1⟩ => ⟨σ, H1, I1, q1⟩) I.quiet hs
def tRet (te : TE) : TS := fun D σ H => te σ H D.rt
theorem ps_ret (he : PE X e te) : PS X (.Return (some e) pos) (tRet te) := by
  intro pins s σ H D I h
  exact wpAny_Return_some (thn (he pins s σ H _ I h) fun v s1 ⟨x, H1, I1, r1, q1⟩ => ⟨x, σ, H1, I1, r1, q1⟩)
def tIfS (c : TT) (t u : TS) : TS := fun D σ H => c σ H fun b H1 => if b = true then t D σ H1 else u D σ H1
theorem ps_if {c : Expr} {a b : List Stmt} {tc : TT} (hc : PT X c tc) (ha : PSs X a t) (hb : PSs X b u) : PS X (.If c a b pos) (tIfS tc t u) := by
  intro pins s σ H D I h
  refine wpAny_If (thn (hc pins s σ H _ I h) fun d s1 ⟨H1, I1, q1⟩ => ?_)
  cases d with
  | true => exact ha pins s1 σ H1 D I1 q1
  | false => exact hb pins s1 σ H1 D I1 q1
end

/-! ### targets -/
abbrev TG := V → St → Hp → (St → Hp → Prop) → Prop
def PG (X : Cx) (target : Expr) (t : TG) : Prop :=
  ∀ (pins : List (Addr × Obj)) (s : Shared) (σ : St) (H : Hp) (v : V) (u : Value) (Q : St → Hp → Prop), Inv X pins σ H s → RelV v u → t v σ H Q →
    wpAny (model X.prog X.w) X.A (assign target X.env u) (fun _ s' => ∃ σ' H', Inv X pins σ' H' s' ∧ Q σ' H') X.xe s
/-- o[i] = v, by values -/
abbrev TSet := V → V → V → Hp → (Hp → Prop) → Prop
def PSet (X : Cx) (t : TSet) : Prop :=
  ∀ (pins : List (Addr × Obj)) (s : Shared) (σ : St) (H : Hp) (o i v : V) (ov iv u : Value) (Q : Hp → Prop), Inv X pins σ H s → RelV o ov → RelV i iv → RelV v u → t o i v H Q →
    wpAny (model X.prog X.w) X.A (setItem ov iv u) (fun _ s' => ∃ H', Inv X pins σ H' s' ∧ Q H') X.xe s
section
variable {X : Cx} {pos : Pos}
def gName (i : Nat) : TG := fun v σ H Q => Q (σ.set i (some v)) H
theorem pg_name {i : Nat} {x : Str} (hN : X.N.Nodup) (hi : X.N[i]? = some x) (hx : Loc X.env.scope x) (hf : X.fn x = true ∨ X.env.scope.names.lookup x = some .local := by first | exact .inl rfl | exact .inr rfl | assumption) : PG X (.Name x pos) (gName i) := by
  intro pins s σ H v u Q I r h
  exact wpAny_assign_Name (store_ok I hN hi hx r (fun s' I' => ⟨_, H, I', h⟩) hf)
/-- o[i] = .. -/
def gSub (to ti : TE) (t : TSet) : TG := fun v σ H Q => to σ H fun o H1 => ti σ H1 fun i H2 => t o i v H2 fun H3 => Q σ H3
theorem pg_sub {o i : Expr} {to ti : TE} {t : TSet} (ho : PE X o to) (hi : PE X i ti) (hs : PSet X t)
    (ha : ∀ v, assign (.Subscript o i pos) X.env v = (do
      let ov ← holding [v] (eval o X.env)
      let iv ← holding [v, ov] (eval i X.env)
      standAt pos
      holding [v, ov, iv] (setItem ov iv v)
      release [v, ov, iv] []) := by intro _; rfl) : PG X (.Subscript o i pos) (gSub to ti t) := by
  intro pins s σ H v u Q I r h
  rw [ha]
  refine wpAny_bind (wpAny_holding (thn (ho pins s σ H _ I h) fun ov s1 ⟨x, H1, I1, r1, q1⟩ => ?_))
  refine wpAny_bind (wpAny_holding (thn (hi pins s1 σ H1 _ I1 q1) fun iv s2 ⟨y, H2, I2, r2, q2⟩ => ?_))
  refine wpAny_bind (wpAny_standAt (wpAny_bind (wpAny_holding (thn (hs pins s2 σ H2 x y v ov iv u _ I2 r1 r2 r q2) fun _ s3 ⟨H3, I3, q3⟩ => ?_))))
  exact wpAny_release ⟨σ, H3, I3, q3⟩
/-- target = value -/
def tAsg (te : TE) (g : TG) : TS := fun D σ H => te σ H fun x H1 => g x σ H1 D.nx
theorem ps_asg {tg e : Expr} {te : TE} {g : TG} (he : PE X e te) (hg : PG X tg g) (hs : swapsWithSole [tg] e pos.line X.env = pure false := by rfl) (hw : swappedStores [tg] e X.env = pure none := by rfl)
    (h1 : (assignEach [tg] X.env).map (·.2) = [assign tg X.env] := by rfl) : PS X (.Assign [tg] e pos) (tAsg te g) := by
  intro pins s σ H D I h
  refine wpAny_Assign_stores (thn (he pins s σ H _ I h) fun v s1 ⟨x, H1, I1, r1, q1⟩ => ?_) hs hw
  rw [h1]
  exact thn (hg pins s1 σ H1 x v _ I1 r1 q1) fun _ s2 q => q
/-- name = value -/
theorem ps_set {i : Nat} {x : Str} {e : Expr} {te : TE} {pos' : Pos} (hN : X.N.Nodup) (hi : X.N[i]? = some x) (hx : Loc X.env.scope x) (he : PE X e te) (hs : swapsWith e (some (.Name x pos')) pos.line X.env = pure false := by rfl) (hf : X.fn x = true ∨ X.env.scope.names.lookup x = some .local := by first | exact .inl rfl | exact .inr rfl | assumption) :
    PS X (.Assign [.Name x pos'] e pos) (tAsg te (gName i)) := by
  intro pins s σ H D I h
  refine wpAny_Assign_Name (thn (he pins s σ H _ I h) fun v s1 ⟨y, H1, I1, r1, q1⟩ => ?_) hs
  exact store_ok I1 hN hi hx r1 (fun s2 I2 => ⟨_, H1, I2, q1⟩) hf
end

/-! ### while -/
section
variable {X : Cx} {pos : Pos}
end

/-! ### what a loop or a comprehension walks -/
/-- at turn i: it yields x (the heap may grow), or it stops -/
structure It where
  go : Nat → Hp → Prop
  yld : Nat → Hp → V → Hp → Prop
  stop : Nat → Hp → Prop
/-- the iterator's own objects may turn: they are not the frame's, not pinned, younger than the entry (or a comprehension's own) -/
def FpOk (X : Cx) (pins : List (Addr × Obj)) (H : Hp) (b : Addr) : Prop :=
  H b = none ∧ b ≠ X.env.locals ∧ b ∉ X.fs ∧ (b ∈ X.ex ∨ X.s₀.heap.objs.size ≤ b) ∧ (∀ x c, X.env.cells.lookup x = some c → c ≠ b) ∧ ∀ p ∈ X.pn ++ pins, p.1 ≠ b
theorem Inv.fpOk {X : Cx} {pins : List (Addr × Obj)} {σ : St} {H H' : Hp} {s : Shared} {b : Addr} (I : Inv X pins σ H s) (hb : s.heap.objs.size ≤ b) (hn : H' b = none) : FpOk X pins H' b := by
  refine ⟨hn, Nat.ne_of_gt (Nat.lt_of_lt_of_le I.lt hb), I.nofs hb, .inr (Nat.le_trans I.sz hb), fun x c e z => ?_, fun p hp z => ?_⟩
  · obtain ⟨v, q⟩ := I.cell x c e
    exact absurd (Nat.lt_of_lt_of_le q.lt (by rw [z]; exact hb)) (Nat.lt_irrefl _)
  · exact absurd (Nat.lt_of_lt_of_le (Heap.lt_size (I.pin p hp).1) (by rw [z]; exact hb)) (Nat.lt_irrefl _)
structure Turn (P : Program) (w : World) (K : PySem.W.Frag) (tg : Expr) (J : It) (fp : List Addr) (it : Addr) (tn : Nat → Heap → Prop) : Prop where
  mem : it ∈ fp
  obj : ∀ i h, tn i h → ∀ b ∈ fp, ∃ o, h.get? b = some o ∧ ∀ v, o.data ≠ .cell v
  keep : ∀ i h h', tn i h → (∀ b ∈ fp, ∀ o, h.get? b = some o → h'.get? b = some o) → tn i h'
  item : ∀ (X : Cx), X.prog = P → X.w = w → X.K = K → X.calm = true → ∀ (i : Nat) (pins : List (Addr × Obj)) (s : Shared) (σ : St) (H : Hp) (E : Value → Shared → Prop), Inv X pins σ H s → (∀ b ∈ fp, FpOk X pins H b) → tn i s.heap → J.go i H →
    wpAny (model P w) X.A (pyNext (.ref it)) (fun r s1 => ∃ u, r = some u ∧
      wpAny (model P w) X.A (letOwnedTupleGo tg (.ref it) u) (fun _ s2 => ∃ x H', Inv X pins σ H' s2 ∧ RelV x u ∧ J.yld i H x H' ∧ tn (i + 1) s2.heap ∧ ∀ b ∈ fp, H' b = none) E s1) E s
  done : ∀ (X : Cx), X.prog = P → X.w = w → X.K = K → X.calm = true → ∀ (i : Nat) (pins : List (Addr × Obj)) (s : Shared) (σ : St) (H : Hp) (E : Value → Shared → Prop), Inv X pins σ H s → (∀ b ∈ fp, FpOk X pins H b) → tn i s.heap → J.stop i H →
    wpAny (model P w) X.A (pyNext (.ref it)) (fun r s1 => r = none ∧ Inv X pins σ H s1) E s
  self : ∀ (A : Around) (i : Nat) (s : Shared) (Q : Value → Shared → Prop) (E : Value → Shared → Prop), tn i s.heap → Q (.ref it) s → wpAny (model P w) A (pyIter (.ref it)) Q E s
abbrev TI := St → Hp → (It → Hp → Prop) → Prop
/-- an iterator has come -/
def PIE (X : Cx) (pins : List (Addr × Obj)) (σ : St) (tg : Expr) (R : It → Hp → Prop) (itv : Value) (s2 : Shared) : Prop :=
  ∃ (it : Addr) (fp : List Addr) (tn : Nat → Heap → Prop) (J : It) (H' : Hp), itv = .ref it ∧ Inv X pins σ H' s2 ∧ Turn X.prog X.w X.K tg J fp it tn ∧ tn 0 s2.heap ∧ (∀ b ∈ fp, FpOk X pins H' b) ∧ R J H'
def PI (X : Cx) (tg iter : Expr) (wi : TI) : Prop :=
  ∀ (pins : List (Addr × Obj)) (s : Shared) (σ : St) (H : Hp) (R : It → Hp → Prop), Inv X pins σ H s → wi σ H R →
    wpAny (model X.prog X.w) X.A (eval iter X.env) (fun v s1 => wpAny (model X.prog X.w) X.A (pyIter v) (PIE X pins σ tg R) X.xe s1) X.xe s

/-- the step ahead of the store is nothing for an iterator that keeps no tuple -/
theorem go_of {M : Model} {A : Around} {E : Value → Shared → Prop} {s : Shared} {tg : Expr} {it : Addr} {u : Value} {o : Obj} {n : String} {vs : Array Value} {Q : Unit → Shared → Prop} (ho : s.heap.get? it = some o) (hc : o.cls = .type n) (hd : o.data = .fields vs)
    (hn : ["enumerate", "zip", "dict_itemiterator", "dict_reverseitemiterator", "odict_iterator", "itertools.zip_longest", "itertools.pairwise"].contains n = false) (hQ : Q () s) : wpAny M A (letOwnedTupleGo tg (.ref it) u) Q E s := by
  unfold letOwnedTupleGo
  cases tg <;> first
    | exact wpAny_pure hQ
    | (cases u <;> first
        | exact wpAny_pure hQ
        | (refine wpAny_bind (wpAny_load ho ?_)
           rw [hc, hd]
           show wpAny M A (if (["enumerate", "zip", "dict_itemiterator", "dict_reverseitemiterator", "odict_iterator", "itertools.zip_longest", "itertools.pairwise"].contains n && vs[0]? == some (rawInt _)) = true then _ else _) Q E s
           rw [if_neg (by intro h; rw [hn, Bool.false_and] at h; cases h)]
           exact wpAny_pure hQ))

/-- the list at a, as it stands at each turn (a loop may append to it) -/
def Itl (K : PySem.W.Frag) (a : Addr) : It :=
  ⟨fun i H => ∃ xs x, SqL K H a xs ∧ xs[i]? = some x, fun i H x H' => H' = H ∧ ∀ xs, SqL K H a xs → xs[i]? = some x, fun i H => ∃ xs, SqL K H a xs ∧ xs.length ≤ i⟩
/-- lo, lo + 1, .. (n of them) -/
def Itr (lo : Int) (n : Nat) : It := ⟨fun i _ => i < n, fun i H x H' => H' = H ∧ x = .int (lo + i), fun i _ => n ≤ i⟩
theorem turn_list {P : Program} {w : World} {K : PySem.W.Frag} {tg : Expr} (a it : Addr) : Turn P w K tg (Itl K a) [it] it (fun i h => h.IsListIter it a i) where
  mem := by simp
  obj := fun i h st b hb => by
    have e : b = it := by simpa using hb
    subst e
    obtain ⟨o, e, c, d⟩ := st
    exact ⟨o, e, fun v z => by rw [d] at z; cases z⟩
  keep := fun i h h' st k => st.at fun o e => k it (by simp) o e
  item := by
    intro X hP hw hK hc i pins s σ H E I hf st hg
    subst hP hw hK
    obtain ⟨xs, x, hq, hx⟩ := hg
    obtain ⟨its, rv, p, hz⟩ := I.list hq
    obtain ⟨u, hu, ru⟩ := rv.get hx
    obtain ⟨f0, f1, f2, f3, f4, f5⟩ := hf it (by simp)
    refine wpAny_pyNext_list_item st p.isList (x := u) (by simpa using hu) fun h' st' sb => ?_
    have I1 : Inv X pins σ H { s with heap := h' } := I.turned (t' := s.toks) (fun b o hb e => (sb.2 b hb).trans e) f0 f1 f3 f4 f5
    obtain ⟨o, e, c, d⟩ := id st'
    exact ⟨u, rfl, go_of (s := { s with heap := h' }) e c d (by decide) ⟨x, H, I1, ru, ⟨rfl, fun ys hy => by rw [I.list_inj hy hq]; exact hx⟩, st', fun b hb => (hf b hb).1⟩⟩
  done := by
    intro X hP hw hK hc i pins s σ H E I hf st hg
    subst hP hw hK
    obtain ⟨xs, hq, hx⟩ := hg
    obtain ⟨its, rv, p, hz⟩ := I.list hq
    obtain ⟨f0, f1, f2, f3, f4, f5⟩ := hf it (by simp)
    have hl := rv.length
    exact wpAny_pyNext_list_end (I.ok.hd hc) st p.isList (by simp; omega) fun h' eb => ⟨rfl, I.turned (t' := s.toks) (fun b o hb e => eb b o hb e) f0 f1 f3 f4 f5⟩
  self := fun _ _ _ _ _ st h => wpAny_pyIter_listiter st h
theorem turn_range {P : Program} {w : World} {K : PySem.W.Frag} {tg : Expr} (it : Addr) (lo : Int) (n : Nat) : Turn P w K tg (Itr lo n) [it] it (fun i h => IsRangeIter h it (lo + (i : Nat) * 1) ((n : Int) - (i : Nat)) 1) where
  mem := by simp
  obj := fun i h st b hb => by
    have e : b = it := by simpa using hb
    subst e
    exact ⟨_, st, fun v z => by
      have z' : Data.fields _ = Data.cell v := z
      cases z'⟩
  keep := fun i h h' st k => k it (by simp) _ st
  item := by
    intro X hP hw hK hc i pins s σ H E I hf st hg
    subst hP hw hK
    obtain ⟨f0, f1, f2, f3, f4, f5⟩ := hf it (by simp)
    have W := Walks.range (prog := X.prog) (w := X.w) (I.ok.hd hc) it lo 1 n
    refine W.item i s _ _ hg st fun v h' tk hv st' kk => ?_
    obtain ⟨t, rfl⟩ := hv
    have I1 : Inv X pins σ H { s with heap := h', toks := tk } := I.turned (fun b o hb e => kk b o (by simpa using hb) e) f0 f1 f3 f4 f5
    refine ⟨_, rfl, go_of (s := { s with heap := h', toks := tk }) (n := "range_iterator") st' rfl rfl (by decide) ⟨.int (lo + i), H, I1, ⟨t, ?_⟩, ⟨rfl, rfl⟩, st', fun b hb => (hf b hb).1⟩⟩
    rw [Int.mul_one]
  done := by
    intro X hP hw hK hc i pins s σ H E I hf st hg
    subst hP hw hK
    obtain ⟨f0, f1, f2, f3, f4, f5⟩ := hf it (by simp)
    exact wpAny_pyNext_range_end (I.ok.hd hc) st (by have : n ≤ i := hg; omega) fun h' eb => ⟨rfl, I.turned (t' := s.toks) (fun b o hb e => eb b o hb e) f0 f1 f3 f4 f5⟩
  self := fun _ _ _ _ _ st h => wpAny_pyIter_rangeiter st h
end L2

namespace L2
open PySem PySem.Spec PyProof.Rows
section
variable {X : Cx} {tg : Expr}
def iList (K : PySem.W.Frag) (tl : TE) : TI := fun σ H R => tl σ H fun x H1 => ∃ a, x = .ref a ∧ (∃ xs, SqL K H1 a xs) ∧ R (Itl K a) H1
theorem pi_list {l : Expr} {tl : TE} (hl : PE X l tl) : PI X tg l (iList X.K tl) := by
  intro pins s σ H R I h
  refine thn (hl pins s σ H _ I h) fun v s1 ⟨x, H1, I1, r1, q1⟩ => ?_
  obtain ⟨a, e, ⟨xs, hq⟩, q⟩ := q1
  subst e
  cases r1
  obtain ⟨its, rv, p, hz⟩ := I1.list hq
  refine wpAny_pyIter_list p.isList ?_
  refine ⟨s1.heap.objs.size, [s1.heap.objs.size], _, _, H1, rfl, I1.kept (t' := s1.toks) fun b o e => Heap.get?_push_of_some _ e, turn_list a _, ⟨_, Heap.get?_push_size _ rfl, rfl, rfl⟩, fun b hb => ?_, q⟩
  have e : b = s1.heap.objs.size := by simpa using hb
  subst e
  exact I1.fpOk (Nat.le_refl _) (I1.hok.fresh (Nat.le_refl _))
/-- a range object just made, walked -/
theorem range_it {pins : List (Addr × Obj)} {σ : St} {H : Hp} {s : Shared} {R : It → Hp → Prop} {E : Value → Shared → Prop} {lo hi : Int} {t u v : Tok} {tk : Nat} (I : Inv X pins σ H s) (h1 : -(2 ^ 62) ≤ lo) (h2 : lo < 2 ^ 62) (h3 : -(2 ^ 62) ≤ hi) (h4 : hi < 2 ^ 62)
    (q : R (Itr lo (hi - lo).toNat) H) : wpAny (model X.prog X.w) X.A (pyIter (.ref s.heap.objs.size)) (PIE X pins σ tg R) E { s with heap := s.heap.push { cls := .type "range", data := .fields #[.int lo t, .int hi u, .int 1 v] }, toks := tk } := by
  refine wpAny_pyIter_range (IsRange.new ..) (small_one h1 h2 h3 h4) ?_
  have I1 : Inv X pins σ H { s with heap := s.heap.push { cls := .type "range", data := .fields #[.int lo t, .int hi u, .int 1 v] }, toks := tk } := I.kept fun b o e => Heap.get?_push_of_some _ e
  refine ⟨(s.heap.push { cls := .type "range", data := .fields #[.int lo t, .int hi u, .int 1 v] }).objs.size, [(s.heap.push { cls := .type "range", data := .fields #[.int lo t, .int hi u, .int 1 v] }).objs.size], _, _, H, rfl,
    I1.kept (t' := tk) fun b o e => Heap.get?_push_of_some _ e, turn_range _ lo (hi - lo).toNat, ?_, fun b hb => ?_, q⟩
  · have e1 : lo + ((0 : Nat) : Int) * 1 = lo := by simp
    have e2 : (((hi - lo).toNat : Nat) : Int) - ((0 : Nat) : Int) = Builtin.Range.rangeSize lo hi 1 := by rw [rangeSize_one]; split <;> omega
    show IsRangeIter _ _ (lo + ((0 : Nat) : Int) * 1) ((((hi - lo).toNat : Nat) : Int) - ((0 : Nat) : Int)) 1
    rw [e1, e2]
    exact Heap.get?_push_size _ rfl
  · have e : b = (s.heap.push { cls := .type "range", data := .fields #[.int lo t, .int hi u, .int 1 v] }).objs.size := by simpa using hb
    subst e
    exact I1.fpOk (Nat.le_refl _) (I1.hok.fresh (Nat.le_refl _))
def iRng1 (ta : TA) : TI := fun σ H R => ta σ H fun vs H1 => ∃ j : Int, vs = [.int j] ∧ -(2 ^ 62) ≤ j ∧ j < 2 ^ 62 ∧ R (Itr 0 j.toNat) H1
theorem pi_range1 {a : Expr} {ta : TA} {p pos : Pos} (hg : Gl X "range") (hm : X.mg "range" = none) (ha : PA X [a] ta) (hs : starEach [a] X.env = [(false, eval a X.env)] := by rfl) : PI X tg (.Call (.Name "range" p) [a] [] pos) (iRng1 ta) := by
  intro pins s σ H R I h
  refine Call_ (ld_blt I hg hm boot_range (PyProof.Rows.callWith_type1 (thn (ha pos pins s σ H _ I h) fun us s1 ⟨vs, H1, I1, r1, q1⟩ => ?_) hs rfl))
  obtain ⟨j, e, q1, q2, q⟩ := q1
  subst e
  cases r1 with
  | cons r rr =>
    cases rr
    obtain ⟨t, rfl⟩ := r
    exact call_range_1 (range_it I1 (by omega) (by omega) q1 q2 (by simpa using q))
/-! ### for -/
/-- W: the invariant by the turn and a measure; N: what the body is to reach -/
def tFor (wi : TI) (g : TG) (tb : TS) : TS := fun D σ H => wi σ H fun J H1 => ∃ W : Nat → Nat → St → Hp → Prop, (∃ m, W 0 m σ H1) ∧ ∀ i m σ H, W i m σ H →
  (J.stop i H ∧ D.nx σ H) ∨ (J.go i H ∧ ∃ N : St → Hp → Prop, (∀ σ' H', N σ' H' → ∃ m', m' < m ∧ W (i + 1) m' σ' H') ∧ ∀ x H', J.yld i H x H' → g x σ H' fun σ2 H2 => tb { D with nx := N, ct := N, bk := D.nx } σ2 H2)
/-- the records at fp as they stand -/
def pinsAt (fp : List Addr) (h : Heap) : List (Addr × Obj) := fp.filterMap fun b => (h.get? b).map fun o => (b, o)
theorem mem_pinsAt {fp : List Addr} {h : Heap} {b : Addr} {o : Obj} (hb : b ∈ fp) (e : h.get? b = some o) : (b, o) ∈ pinsAt fp h := List.mem_filterMap.mpr ⟨b, hb, by rw [e]; rfl⟩
theorem of_pinsAt {fp : List Addr} {h : Heap} {p : Addr × Obj} (hp : p ∈ pinsAt fp h) : p.1 ∈ fp ∧ h.get? p.1 = some p.2 := by
  obtain ⟨b, hb, e⟩ := List.mem_filterMap.mp hp
  cases q : h.get? b with
  | none => rw [q] at e; cases e
  | some o =>
    rw [q] at e
    have e' : (b, o) = p := Option.some.inj e
    subst e'
    exact ⟨hb, q⟩
theorem Inv.pinned {pins : List (Addr × Obj)} {σ : St} {H : Hp} {s : Shared} {fp : List Addr} (I : Inv X pins σ H s) (hf : ∀ b ∈ fp, FpOk X pins H b) (ho : ∀ b ∈ fp, ∃ o, s.heap.get? b = some o ∧ ∀ v, o.data ≠ .cell v) : Inv X (pins ++ pinsAt fp s.heap) σ H s :=
  I.pins_of fun p hp => (List.mem_append.mp hp).elim (fun z => I.pin p (List.mem_append_right _ z)) fun z => by
    obtain ⟨hb, e⟩ := of_pinsAt z
    obtain ⟨f0, f1, f2, _⟩ := hf p.1 hb
    obtain ⟨o, e', d⟩ := ho p.1 hb
    rw [e] at e'; cases e'
    exact ⟨e, f0, f1, f2, d⟩
theorem Inv.unpinned {pins pl : List (Addr × Obj)} {σ : St} {H : Hp} {s : Shared} (I : Inv X (pins ++ pl) σ H s) : Inv X pins σ H s := I.pins_of fun p hp => I.pin p (List.mem_append_right _ (List.mem_append_left _ hp))
theorem ps_for {iter : Expr} {body : List Stmt} {wi : TI} {g : TG} {tb : TS} {pos : Pos} (hp : PassesOwn (model X.prog X.w) X.A X.env X.xe) (hc : X.calm = true) (hi : PI X tg iter wi) (hg : PG X tg g) (hb : PSs X body tb)
    (hs : ∀ x, foldedSetIterable iter X.env x = pure x := by intro _; rfl) : PS X (.For tg iter body [] pos) (tFor wi g tb) := by
  intro pins s σ H D I h
  refine wpAny_For (thn (hi pins s σ H _ I h) fun v s1 h1 => thn h1 fun itv s2 h2 => ?_) hs
  obtain ⟨it, fp, tn, J, H2, e, I2, T, st2, f2, W, ⟨m0, w0⟩, turn⟩ := h2
  subst e
  -- what stays true of the iterator's objects through the loop
  have stat : ∀ {H' : Hp}, (∀ b ∈ fp, H' b = none) → ∀ b ∈ fp, FpOk X pins H' b := fun hn b hb => ⟨hn b hb, (f2 b hb).2⟩
  refine codeAny_forLoop_any (fun n s' => ∃ i σ' H', Inv X pins σ' H' s' ∧ tn i s'.heap ∧ (∀ b ∈ fp, H' b = none) ∧ W i n σ' H') ?_ m0 ⟨0, σ, H2, I2, st2, fun b hb => (f2 b hb).1, w0⟩
  rintro n s3 ⟨i, σ3, H3, I3, st3, fr3, w3⟩
  rcases turn i n σ3 H3 w3 with ⟨stop, qn⟩ | ⟨go, N, hN, step⟩
  · refine wpAny_passesOwn hp (thn (T.done X rfl rfl rfl hc i pins s3 σ3 H3 X.xe I3 (stat fr3) st3 stop) fun r s4 ⟨hr, I4⟩ => ?_)
    subst hr
    exact wpAny_execs_nil ⟨σ3, H3, I4, qn⟩
  · refine wpAny_passesOwn hp (thn (T.item X rfl rfl rfl hc i pins s3 σ3 H3 X.xe I3 (stat fr3) st3 go) fun r s4 ⟨u, hr, h4⟩ => ?_)
    subst hr
    refine wpAny_passesOwn hp (thn h4 fun _ s5 ⟨x, H5, I5, r5, y5, st5, fr5⟩ => ?_)
    have I5' := I5.pinned (stat fr5) (T.obj _ _ st5)
    refine wpAny_passesOwn hp (thn (hg _ s5 σ3 H5 x u _ I5' r5 (step x H5 y5)) fun _ s6 ⟨σ6, H6, I6, q6⟩ => ?_)
    refine wpAny_passesOwn hp (thn (hb _ s6 σ6 H6 _ I6 q6) fun f s7 q7 => ?_)
    have again : ∀ {σ7 : St} {H7 : Hp}, Inv X (pins ++ pinsAt fp s5.heap) σ7 H7 s7 → N σ7 H7 → ∃ m, m < n ∧ ∃ i σ' H', Inv X pins σ' H' s7 ∧ tn i s7.heap ∧ (∀ b ∈ fp, H' b = none) ∧ W i m σ' H' := fun {σ7 H7} I7 n7 => by
      obtain ⟨m', hm, w7⟩ := hN σ7 H7 n7
      refine ⟨m', hm, i + 1, σ7, H7, I7.unpinned, T.keep _ _ _ st5 fun b hb o e => (I7.pin (b, o) (List.mem_append_right _ (List.mem_append_right _ (mem_pinsAt hb e)))).1, fun b hb => ?_, w7⟩
      obtain ⟨o, e, d⟩ := T.obj _ _ st5 b hb
      exact (I7.pin (b, o) (List.mem_append_right _ (List.mem_append_right _ (mem_pinsAt hb e)))).2.1
    cases f with
    | next => obtain ⟨σ7, H7, I7, n7⟩ := q7; exact again I7 n7
    | cont => obtain ⟨σ7, H7, I7, n7⟩ := q7; exact again I7 n7
    | brk => obtain ⟨σ7, H7, I7, q7⟩ := q7; exact ⟨σ7, H7, I7.unpinned, q7⟩
    | ret v => obtain ⟨x7, σ7, H7, I7, r7, q7⟩ := q7; exact ⟨x7, σ7, H7, I7.unpinned, r7, q7⟩
end

/-! ### the forms one uses -/
theorem for_range {lo : Int} {n : Nat} {g : TG} {tb : TS} {D : Ends} {σ : St} {H : Hp} (Pv : Nat → St → Hp → Prop) (h0 : Pv 0 σ H)
    (hs : ∀ i σ H, i < n → Pv i σ H → g (.int (lo + i)) σ H fun σ2 H2 => tb { D with nx := Pv (i + 1), ct := Pv (i + 1), bk := D.nx } σ2 H2) (hd : ∀ σ H, Pv n σ H → D.nx σ H) :
    ∃ W : Nat → Nat → St → Hp → Prop, (∃ m, W 0 m σ H) ∧ ∀ i m σ H, W i m σ H →
      ((Itr lo n).stop i H ∧ D.nx σ H) ∨ ((Itr lo n).go i H ∧ ∃ N : St → Hp → Prop, (∀ σ' H', N σ' H' → ∃ m', m' < m ∧ W (i + 1) m' σ' H') ∧ ∀ x H', (Itr lo n).yld i H x H' → g x σ H' fun σ2 H2 => tb { D with nx := N, ct := N, bk := D.nx } σ2 H2) := by
  refine ⟨fun i m σ H => m = n - i ∧ i ≤ n ∧ Pv i σ H, ⟨n, by simp, Nat.zero_le _, h0⟩, ?_⟩
  rintro i m σ H ⟨rfl, hi, p⟩
  by_cases hlt : i < n
  · refine .inr ⟨hlt, Pv (i + 1), fun σ' H' p' => ⟨n - (i + 1), by omega, rfl, hlt, p'⟩, fun x H' y => ?_⟩
    obtain ⟨e, y⟩ := y
    subst e y
    exact hs i σ _ hlt p
  · have e : i = n := by omega
    subst e
    exact .inl ⟨Nat.le_refl _, hd σ H p⟩
end L2

namespace L2
open PySem PySem.Spec PyProof.Rows

abbrev R2 := V → V → Hp → VK → Prop
/-- a two-place operation on values: f is binaryOp op, inplaceOp op or compareOp op -/
def OpR (X : Cx) (f : Value → Value → Sem Value) (r : R2) : Prop :=
  ∀ (pins : List (Addr × Obj)) (s : Shared) (σ : St) (H : Hp) (x y : V) (v u : Value) (Q : VK), Inv X pins σ H s → RelV x v → RelV y u → r x y H Q →
    wpAny (model X.prog X.w) X.A (f v u) (EP X pins σ Q) X.xe s
/-- a call of a value that is known (a builtin, a type) with values -/
def CallR (X : Cx) (f : Value) (r : List V → Hp → VK → Prop) : Prop :=
  ∀ (pins : List (Addr × Obj)) (s : Shared) (σ : St) (H : Hp) (xs : List V) (us : List Value) (Q : VK), Inv X pins σ H s → Vals xs us → r xs H Q →
    wpAny (model X.prog X.w) X.A (call f us) (EP X pins σ Q) X.xe s
def tOp (r : R2) (ta tb : TE) : TE := fun σ H Q => ta σ H fun x H1 => tb σ H1 fun y H2 => r x y H2 Q
/-- ints in, under C, and a value out -/
def rI (C : Int → Int → Prop) (g : Int → Int → V) : R2 := fun x y H Q => ∃ i j, x = .int i ∧ y = .int j ∧ C i j ∧ Q (g i j) H
def rI0 (g : Int → Int → V) : R2 := fun x y H Q => ∃ i j, x = .int i ∧ y = .int j ∧ Q (g i j) H
section
variable {X : Cx} {a b c : Expr} {ta tb tc : TE} {pos : Pos}

theorem binT (ha : PE X a ta) (hb : PE X b tb) {pins : List (Addr × Obj)} {s : Shared} {σ : St} {H : Hp} {R : V → V → Hp → Prop} (I : Inv X pins σ H s)
    (h : ta σ H fun x H1 => tb σ H1 fun y H2 => R x y H2) {Q : Value → Shared → Prop} {f : Value → Value → Sem Value}
    (hf : ∀ v u s2 x y H2, Inv X pins σ H2 s2 → RelV x v → RelV y u → R x y H2 → wpAny (model X.prog X.w) X.A (f v u) Q X.xe s2) :
    wpAny (model X.prog X.w) X.A (eval a X.env) (fun v s₁ => wpAny (model X.prog X.w) X.A (eval b X.env) (fun u s₂ => wpAny (model X.prog X.w) X.A (f v u) Q X.xe s₂) X.xe s₁) X.xe s := by
  refine thn (ha pins s σ H _ I h) fun v s1 ⟨x, H1, I1, r1, q1⟩ => ?_
  refine thn (hb pins s1 σ H1 _ I1 q1) fun u s2 ⟨y, H2, I2, r2, q2⟩ => ?_
  exact hf v u s2 x y H2 I2 r1 r2 q2

theorem pe_op {op : Operator} {r : R2} (ho : OpR X (binaryOp op) r) (ha : PE X a ta) (hb : PE X b tb) : PE X (.BinOp a op b pos) (tOp r ta tb) := by
  intro pins s σ H Q I h
  exact wpAny_BinOp (binT ha hb I h fun v u s2 x y H2 I2 rx ry q => ho pins s2 σ H2 x y v u Q I2 rx ry q)
/-! ### ints -/
theorem opI {f : Value → Value → Sem Value} {C : Int → Int → Prop} {g : Int → Int → Int}
    (rule : ∀ (i j : Int) (t u : Tok) (s : Shared) (Q : Value → Shared → Prop) (E : Value → Shared → Prop), C i j → Q (.int (g i j) s.toks) { s with toks := s.toks + 1 } → wpAny (model X.prog X.w) X.A (f (.int i t) (.int j u)) Q E s) :
    OpR X f (rI C fun i j => .int (g i j)) := by
  intro pins s σ H x y v u Q I rx ry h
  obtain ⟨i, j, rfl, rfl, hc, q⟩ := h
  obtain ⟨t, rfl⟩ := rx
  obtain ⟨t', rfl⟩ := ry
  exact rule i j t t' s _ _ hc ⟨.int (g i j), H, I.tok _, ⟨_, rfl⟩, q⟩
theorem opI0 {f : Value → Value → Sem Value} {g : Int → Int → Int}
    (rule : ∀ (i j : Int) (t u : Tok) (s : Shared) (Q : Value → Shared → Prop) (E : Value → Shared → Prop), Q (.int (g i j) s.toks) { s with toks := s.toks + 1 } → wpAny (model X.prog X.w) X.A (f (.int i t) (.int j u)) Q E s) :
    OpR X f (rI0 fun i j => .int (g i j)) := by
  intro pins s σ H x y v u Q I rx ry h
  obtain ⟨i, j, rfl, rfl, q⟩ := h
  obtain ⟨t, rfl⟩ := rx
  obtain ⟨t', rfl⟩ := ry
  exact rule i j t t' s _ _ ⟨.int (g i j), H, I.tok _, ⟨_, rfl⟩, q⟩
theorem opB0 {f : Value → Value → Sem Value} {g : Int → Int → Bool}
    (rule : ∀ (i j : Int) (t u : Tok) (s : Shared) (Q : Value → Shared → Prop) (E : Value → Shared → Prop), Q (.bool (g i j)) s → wpAny (model X.prog X.w) X.A (f (.int i t) (.int j u)) Q E s) :
    OpR X f (rI0 fun i j => .bl (g i j)) := by
  intro pins s σ H x y v u Q I rx ry h
  obtain ⟨i, j, rfl, rfl, q⟩ := h
  obtain ⟨t, rfl⟩ := rx
  obtain ⟨t', rfl⟩ := ry
  exact rule i j t t' s _ _ ⟨.bl (g i j), H, I, rfl, q⟩

def CDiv (i j : Int) : Prop := 0 < j ∧ j < 1073741824
def CMul (i j : Int) : Prop := (-(2 ^ 64) < i ∧ i < 2 ^ 64) ∨ (-(2 ^ 64) < j ∧ j < 2 ^ 64)
theorem CMul.ok {i j : Int} (h : CMul i j) : IntMulOk i j := by
  rcases h with ⟨h1, h2⟩ | ⟨h1, h2⟩
  · exact .of_left (intBits_le_64 h1 h2)
  · exact .of_right (intBits_le_64 h1 h2)
theorem op_add : OpR X (binaryOp .Add) (rI0 fun i j => .int (i + j)) := opI0 fun _ _ _ _ _ _ _ q => add_int q
theorem op_sub : OpR X (binaryOp .Sub) (rI0 fun i j => .int (i - j)) := opI0 fun _ _ _ _ _ _ _ q => sub_int q
theorem op_mul : OpR X (binaryOp .Mult) (rI CMul fun i j => .int (i * j)) := opI fun _ _ _ _ _ _ _ hc q => mul_int q hc.ok
/-- // by a positive divisor -/
theorem op_fdiv : OpR X (binaryOp .FloorDiv) (rI CDiv fun i j => .int (i / j)) := opI fun i j _ _ _ _ _ hc q => by
  have h1 : (0 : Int) < j := hc.1
  have h2 : j < 1073741824 := hc.2
  exact floordiv_int (by omega) (by rw [Int.fdiv_eq_ediv_of_nonneg i (by omega)]; exact q) (.inl (PyProof.noPylong_small (by omega)))
/-- % by a positive divisor of any size -/
theorem op_mod : OpR X (binaryOp .Mod) (rI (fun _ j => 0 < j) fun i j => .int (i % j)) := opI fun i j _ _ _ _ _ hc q => by
  have h1 : (0 : Int) < j := hc
  exact mod_int' (by omega) (by rw [Int.fmod_eq_emod_of_nonneg i (by omega)]; exact q)
/-! ### bools among ints: n += (a < b) -/
end

/-! ### comparisons -/
/-- the scalars that == tells apart as data does -/
def scal : V → V → Bool
  | .non, .non => true | .non, .int _ => true | .int _, .non => true | .non, .bl _ => true | .bl _, .non => true | .non, .str _ => true | .str _, .non => true
  | .int _, .int _ => true | .bl _, .bl _ => true | .str _, .str _ => true | .byt _, .byt _ => true
  | .int _, .str _ => true | .str _, .int _ => true | .bl _, .str _ => true | .str _, .bl _ => true
  | _, _ => false
def rEq : R2 := fun x y H Q => scal x y = true ∧ Q (.bl (decide (x = y))) H
def rNe : R2 := fun x y H Q => scal x y = true ∧ Q (.bl (!decide (x = y))) H

theorem dec_int {i j : Int} : decide (V.int i = V.int j) = (i == j) := by
  rw [Bool.eq_iff_iff]
  simp
theorem dec_bl {i j : Bool} : decide (V.bl i = V.bl j) = (i == j) := by
  rw [Bool.eq_iff_iff]
  simp
theorem dec_str {i j : Str} : decide (V.str i = V.str j) = (i == j) := by
  rw [Bool.eq_iff_iff]
  simp
theorem dec_byt {i j : Array UInt8} : decide (V.byt i = V.byt j) = (i.toList == j.toList) := by
  rw [Bool.eq_iff_iff]
  cases i
  cases j
  simp

section
variable {X : Cx} {a b c : Expr} {ta tb tc : TE} {pos : Pos}
theorem fin_bl {pins : List (Addr × Obj)} {σ : St} {H : Hp} {s : Shared} {Q : VK} {k k' : Bool} (I : Inv X pins σ H s) (q : Q (.bl k) H) (e : k = k') : EP X pins σ Q (.bool k') s := by
  subst e
  exact ⟨.bl k, H, I, rfl, q⟩
theorem op_eq : OpR X (compareOp .Eq) rEq := by
  intro pins s σ H x y v u Q I rx ry h
  obtain ⟨hs, q⟩ := h
  cases x with
  | non =>
    cases rx
    cases y with
    | non => cases ry; exact PySem.EqNone.eq_none_none (fin_bl I q (by simp))
    | bl j => cases ry; exact PySem.EqNone.eq_none_bool (fin_bl I q (by simp))
    | int j => obtain ⟨t', rfl⟩ := ry; exact PySem.EqNone.eq_none_int (fin_bl I q (by simp))
    | str j => obtain ⟨t', rfl⟩ := ry; exact PySem.EqNone.eq_none_str (fin_bl I q (by simp))
    | _ => exact absurd (show false = true from hs) Bool.false_ne_true
  | bl i =>
    cases rx
    cases y with
    | non => cases ry; exact PySem.EqNone.eq_bool_none (fin_bl I q (by simp))
    | bl j => cases ry; exact eq_bool (fin_bl I q dec_bl)
    | str j => obtain ⟨t', rfl⟩ := ry; exact PySem.EqMixed.eq_bool_str (fin_bl I q (by simp))
    | _ => exact absurd (show false = true from hs) Bool.false_ne_true
  | int i =>
    obtain ⟨t, rfl⟩ := rx
    cases y with
    | non => cases ry; exact PySem.EqNone.eq_int_none (fin_bl I q (by simp))
    | int j => obtain ⟨t', rfl⟩ := ry; exact eq_int (fin_bl I q dec_int)
    | str j => obtain ⟨t', rfl⟩ := ry; exact PySem.EqMixed.eq_int_str (fin_bl I q (by simp))
    | _ => exact absurd (show false = true from hs) Bool.false_ne_true
  | str i =>
    obtain ⟨t, rfl⟩ := rx
    cases y with
    | non => cases ry; exact PySem.EqNone.eq_str_none (fin_bl I q (by simp))
    | bl j => cases ry; exact PySem.EqMixed.eq_str_bool (fin_bl I q (by simp))
    | int j => obtain ⟨t', rfl⟩ := ry; exact PySem.EqMixed.eq_str_int (fin_bl I q (by simp))
    | str j => obtain ⟨t', rfl⟩ := ry; exact eq_str (fin_bl I q dec_str)
    | _ => exact absurd (show false = true from hs) Bool.false_ne_true
  | byt i =>
    obtain ⟨t, rfl⟩ := rx
    cases y with
    | byt j => obtain ⟨t', rfl⟩ := ry; exact PySem.W.eq_bytes (fin_bl I q dec_byt)
    | _ => exact absurd (show false = true from hs) Bool.false_ne_true
  | _ => cases y <;> exact absurd (show false = true from hs) Bool.false_ne_true
theorem op_ne : OpR X (compareOp .NotEq) rNe := by
  intro pins s σ H x y v u Q I rx ry h
  obtain ⟨hs, q⟩ := h
  cases x with
  | non =>
    cases rx
    cases y with
    | non => cases ry; exact PySem.EqNone.ne_none_none (fin_bl I q (by simp))
    | bl j => cases ry; exact PySem.EqNone.ne_none_bool (fin_bl I q (by simp))
    | int j => obtain ⟨t', rfl⟩ := ry; exact PySem.EqNone.ne_none_int (fin_bl I q (by simp))
    | str j => obtain ⟨t', rfl⟩ := ry; exact PySem.EqNone.ne_none_str (fin_bl I q (by simp))
    | _ => exact absurd (show false = true from hs) Bool.false_ne_true
  | bl i =>
    cases rx
    cases y with
    | non => cases ry; exact PySem.EqNone.ne_bool_none (fin_bl I q (by simp))
    | bl j => cases ry; exact ne_bool (fin_bl I q (congrArg not dec_bl))
    | str j => obtain ⟨t', rfl⟩ := ry; exact PySem.EqMixed.ne_bool_str (fin_bl I q (by simp))
    | _ => exact absurd (show false = true from hs) Bool.false_ne_true
  | int i =>
    obtain ⟨t, rfl⟩ := rx
    cases y with
    | non => cases ry; exact PySem.EqNone.ne_int_none (fin_bl I q (by simp))
    | int j => obtain ⟨t', rfl⟩ := ry; exact ne_int (fin_bl I q (congrArg not dec_int))
    | str j => obtain ⟨t', rfl⟩ := ry; exact PySem.EqMixed.ne_int_str (fin_bl I q (by simp))
    | _ => exact absurd (show false = true from hs) Bool.false_ne_true
  | str i =>
    obtain ⟨t, rfl⟩ := rx
    cases y with
    | non => cases ry; exact PySem.EqNone.ne_str_none (fin_bl I q (by simp))
    | bl j => cases ry; exact PySem.EqMixed.ne_str_bool (fin_bl I q (by simp))
    | int j => obtain ⟨t', rfl⟩ := ry; exact PySem.EqMixed.ne_str_int (fin_bl I q (by simp))
    | str j => obtain ⟨t', rfl⟩ := ry; exact ne_str (fin_bl I q (congrArg not dec_str))
    | _ => exact absurd (show false = true from hs) Bool.false_ne_true
  | byt i =>
    obtain ⟨t, rfl⟩ := rx
    cases y with
    | byt j => obtain ⟨t', rfl⟩ := ry; exact PySem.W.ne_bytes (fin_bl I q (congrArg not dec_byt))
    | _ => exact absurd (show false = true from hs) Bool.false_ne_true
  | _ => cases y <;> exact absurd (show false = true from hs) Bool.false_ne_true

theorem op_lt : OpR X (compareOp .Lt) (rI0 fun i j => .bl (decide (i < j))) := opB0 fun _ _ _ _ _ _ _ q => lt_int q
theorem nomark (b : Expr) {op : CmpOp} (h : op ≠ .In := by decide) (h2 : op ≠ .NotIn := by decide) : behindInMarks op b = false := by
  have e1 : (op == CmpOp.In) = false := by cases op <;> first | rfl | exact absurd rfl h
  have e2 : (op == CmpOp.NotIn) = false := by cases op <;> first | rfl | exact absurd rfl h2
  cases b <;> simp [behindInMarks, e1, e2]
/-- a comparison as a value; hm: nomark b, or (for in, not in) by with_unfolding_all rfl -/
theorem pe_cmpR {op : CmpOp} {r : R2} (ho : OpR X (compareOp op) r) (ha : PE X a ta) (hb : PE X b tb) (hm : behindInMarks op b = false) : PE X (.Compare a [op] [b] pos) (tOp r ta tb) := by
  intro pins s σ H Q I h
  exact wpAny_Compare1 (binT ha hb I h fun v u s2 x y H2 I2 rx ry q => ho pins s2 σ H2 x y v u Q I2 rx ry q) hm
/-- a reading of a value as a test -/
def tTest (t : TE) : TT := fun σ H Q => t σ H fun x H' => ∃ k, x = .bl k ∧ Q k H'
theorem pt_cmpR {op : CmpOp} {r : R2} (ho : OpR X (compareOp op) r) (ha : PE X a ta) (hb : PE X b tb) (hm : behindInMarks op b = false) : PT X (.Compare a [op] [b] pos) (tTest (tOp r ta tb)) := by
  intro pins s σ H Q I h
  refine wpAny_isTrue_Compare1 (thn (ha pins s σ H _ I h) fun v s1 ⟨x, H1, I1, r1, q1⟩ => thn (hb pins s1 σ H1 _ I1 q1) fun u s2 ⟨y, H2, I2, r2, q2⟩ =>
    thn (ho pins s2 σ H2 x y v u _ I2 r1 r2 q2) fun c s3 ⟨z, H3, I3, r3, k, e, q3⟩ => ?_) hm
  subst e
  cases r3
  exact wpAny_truthy_bool ⟨H3, I3, q3⟩
/-! ### truth -/
theorem line63 : (sizeLine : Nat) < 2 ^ 63 := by rw [sizeLine_eq]; decide
/-! ### strs and bytes -/
theorem op_add_str : OpR X (binaryOp .Add) (fun x y H Q => ∃ i j, x = .str i ∧ y = .str j ∧ i.length + j.length ≤ sizeLine ∧ Q (.str (i ++ j)) H) := by
  intro pins s σ H x y v u Q I rx ry h
  obtain ⟨i, j, rfl, rfl, hz, q⟩ := h
  obtain ⟨t, rfl⟩ := rx
  obtain ⟨t', rfl⟩ := ry
  exact add_str (fun t' tk => ⟨.str (i ++ j), H, I.tok _, ⟨_, rfl⟩, q⟩) hz
/-! ### scalar builtins, by CallR -/
theorem vals1 {x : V} {us : List Value} (r : Vals [x] us) : ∃ u, us = [u] ∧ RelV x u := by
  cases r with
  | cons r1 r2 => cases r2; exact ⟨_, rfl, r1⟩
theorem vals2 {x y : V} {us : List Value} (r : Vals [x, y] us) : ∃ u w', us = [u, w'] ∧ RelV x u ∧ RelV y w' := by
  cases r with
  | cons r1 r2 =>
    cases r2 with
    | cons r3 r4 => cases r4; exact ⟨_, _, rfl, r1, r3⟩
theorem call_max2 (hc : X.calm = true) : CallR X (.builtin "max") (fun xs H Q => ∃ i j, xs = [.int i, .int j] ∧ Q (.int (if j > i then j else i)) H) := by
  intro pins s σ H xs us Q I r h
  obtain ⟨i, j, rfl, q⟩ := h
  obtain ⟨u, w', rfl, ⟨t, rfl⟩, ⟨t', rfl⟩⟩ := vals2 r
  refine max_two_ints (I.ok.hd hc) fun h' tk k => ⟨_, H, I.kept k, ?_, q⟩
  by_cases hj : j > i
  · rw [if_pos hj, if_pos hj]; exact ⟨_, rfl⟩
  · rw [if_neg hj, if_neg hj]; exact ⟨_, rfl⟩
theorem call_min2 (hc : X.calm = true) : CallR X (.builtin "min") (fun xs H Q => ∃ i j, xs = [.int i, .int j] ∧ Q (.int (if j < i then j else i)) H) := by
  intro pins s σ H xs us Q I r h
  obtain ⟨i, j, rfl, q⟩ := h
  obtain ⟨u, w', rfl, ⟨t, rfl⟩, ⟨t', rfl⟩⟩ := vals2 r
  refine min_two_ints (I.ok.hd hc) fun h' tk k => ⟨_, H, I.kept k, ?_, q⟩
  by_cases hj : j < i
  · rw [if_pos hj, if_pos hj]; exact ⟨_, rfl⟩
  · rw [if_neg hj, if_neg hj]; exact ⟨_, rfl⟩
theorem call_str_int : CallR X (.type "str") (fun xs H Q => ∃ i, xs = [.int i] ∧ i.natAbs.log2 < 1920 ∧ Q (.str (toString i)) H) := by
  intro pins s σ H xs us Q I r h
  obtain ⟨i, rfl, hz, q⟩ := h
  obtain ⟨u, rfl, t, rfl⟩ := vals1 r
  exact PySem.P.str_of_int hz ⟨.str _, H, I.tok _, ⟨_, rfl⟩, q⟩
end
end L2

namespace L2
open PySem PySem.Spec PyProof.Rows

/-! ### an instance, its attributes a map -/
structure ObjM (h : Heap) (x dx C : Addr) (mA : Str → Option Value) : Prop where
  obj : h.get? x = some (PySem.W.instObj C dx)
  ns : h.Ns1 dx mA
  ne : dx ≠ x

theorem lookIn_ns {h : Heap} {dx : Addr} {mA : Str → Option Value} (n : h.Ns1 dx mA) : ∃ od, h.get? dx = some od ∧ ∀ name, PySem.W.lookIn name od = some (mA name) := by
  obtain ⟨o, es, ep, ho, hd, hk, _, hm⟩ := n
  refine ⟨o, ho, fun name => ?_⟩
  have e := hm name
  unfold nsFind findBy at e
  rw [← Array.find?_toList] at e
  unfold PySem.W.lookIn
  rw [hd]
  dsimp only
  split
  · rename_i y q
    rw [q] at e
    exact congrArg some e
  · rename_i q
    rw [q] at e
    have a : es.toList.any (·.refKey) = false := by
      rw [List.any_eq_false]
      intro y hy
      obtain ⟨z, t, hkey⟩ := hk y (Array.mem_toList_iff.mp hy)
      simp [DictEntry.refKey, hkey]
    have a' : ¬ es.toList.any (·.refKey) = true := by rw [a]; exact Bool.false_ne_true
    rw [if_neg a']
    exact congrArg some e

theorem ObjM.look {h : Heap} {x dx C : Addr} {mA : Str → Option Value} (I : ObjM h x dx C mA) : ∃ od, PySem.W.InstAt h x (PySem.W.instObj C dx) C (some od) ∧ ∀ name, PySem.W.lookIn name od = some (mA name) :=
  let ⟨od, ho, hl⟩ := lookIn_ns I.ns
  ⟨od, ⟨I.obj, rfl, rfl, ho⟩, hl⟩

section
variable {prog : Program} {w : World} {A : Around} {E : Value → Shared → Prop} {s : Shared} {K : PySem.W.Frag} {x dx C f : Addr} {mA : Str → Option Value} {name : Str} {v : Value}

theorem get_map {expr : Bool} {Q : Value → Shared → Prop} (X : K.In s.heap) (I : ObjM s.heap x dx C mA) (hg : PySem.W.plainGet K C name = true) (hh : PySem.W.hasDictIn K C = true)
    (ha : PySem.W.findIn K (.ref C) name = some none) (hv : mA name = some v) (hv' : PySem.W.handedIn v = true) (h : Q v { s with toks := s.toks + 1 }) :
    wpAny (model prog w) A (getAttr (.ref x) name expr) Q E s := by
  obtain ⟨od, J, hl⟩ := I.look
  exact PySem.W.get_value X J (PySem.W.plainGet_of hg).1 (PySem.W.findObj_own hh ha rfl (by rw [hl, hv])) hv' h

theorem get_meth {pl : Sem Bool} {Q : Value × List Value → Shared → Prop} (X : K.In s.heap) (I : ObjM s.heap x dx C mA) (hg : PySem.W.plainGet K C name = true)
    (hf : PySem.W.findIn K (.ref C) name = some (some (.ref f))) (ht : PySem.W.isFn K (.ref f) = true) (hv : mA name = none) (h : Q (.ref f, [.ref x]) s) :
    wpAny (model prog w) A (getMethod (.ref x) name pl) Q E s := by
  obtain ⟨od, J, hl⟩ := I.look
  exact PySem.W.method_fn X J (PySem.W.plainGet_of hg).1 (PySem.W.plainGet_of hg).2 hf (beq_iff_eq.mp ht) (by show (PySem.W.lookIn name od).map (·.isSome) = some false; rw [hl, hv]; rfl) h

theorem set_map {ns : List Str} {Q : Unit → Shared → Prop} (X : K.In s.heap) (I : ObjM s.heap x dx C mA)
    (hs : PySem.W.findIn K (.ref C) "__setattr__" = some (some (.builtin "object.__setattr__"))) (hp : PySem.W.plainOver K C = true) (ht : PySem.W.takerIn K C name = some none) (hh : PySem.W.hasDictIn K C = true)
    (hw : PySem.Within mA ns) (hsz : ns.length ≤ sizeLine)
    (h : ∀ h', ObjM h' x dx C (fun y => if y = name then some v else mA y) → Heap.SameBut dx s.heap h' → Q () { s with heap := h', toks := s.toks + 2 }) :
    wpAny (model prog w) A (setAttr (.ref x) name v) Q E s := by
  obtain ⟨od, J, hl⟩ := I.look
  refine PySem.W.set_plain X J hs (PySem.W.osa_open (s := { s with toks := s.toks + 1 }) (r := none) X J hp ht fun b => ?_)
  obtain ⟨cd, hc, hd'⟩ := PySem.W.any_some hh
  have hx : s.heap.get? x = some ⟨.ref C, some dx, .plain, #[]⟩ := I.obj
  refine wpAny_bind (wpAny_pure (wpAny_bind (wpAny_bind (wpAny_loadPart hx (wpAny_bind (PySem.W.Looks.here (s := { s with toks := s.toks + 1 }) (PySem.W.looks_clsIn X hc) ?_))))))
  rw [hd']
  refine wpAny_pure (a := some dx) (wpAny_bind (wpAny_pure (wpAny_bind ?_)))
  refine wpAny_nsSet1 (s := { s with toks := s.toks + 1 }) I.ns fun h' hn2 hs2 => ?_
  obtain ⟨oD, esD, epD, hoD, hdD, hcD⟩ := hn2.count (PySem.Within.cons name v hw)
  refine wpAny_bind (wpAny_lookBehind hoD (by rw [hdD]; exact pastItsLine_dict (Nat.le_trans hcD (by rw [List.length_cons]; omega))) ?_)
  exact wpAny_pure (h _ ⟨(hs2.2 _ (Ne.symm I.ne)).trans I.obj, hn2, I.ne⟩ hs2)

/-- C(..): the dict at the heap's end, the instance behind it; then its __init__ -/
theorem make_map {R : Result → Shared → Prop} {vs : List Value} {kw : List (Str × Value)} (X : K.In s.heap) (hm : PySem.W.makesIn K C = true)
    (hi : PySem.W.findIn K (.ref C) "__init__" = some (some (.ref f))) (hf : PySem.W.typeIn K (.ref f) = some (.type "function"))
    (h : codeAny (model prog w) (A.under (.builtin "type.__call__" ⟨.ref C :: vs, kw⟩)) (.call (.ref f) ⟨.ref (s.heap.objs.size + 1) :: vs, kw⟩) (PySem.W.InitBack (s.heap.objs.size + 1) R)
      { s with heap := (s.heap.push PySem.W.emptyDict).push (PySem.W.instObj C s.heap.objs.size) }) :
    codeAny (model prog w) A (.call (.ref C) ⟨vs, kw⟩) R s := by
  obtain ⟨hh, g, d, t, os⟩ := s
  exact PySem.W.make_core (PySem.W.makes_of X hm) (PySem.W.looks_findIn X hi) (fun self => PySem.W.bind_fn X self hf) (.inl rfl) h
end

/-! ### the attributes as a list of pairs -/
def putF (f : Str) (v : V) : List (Str × V) → List (Str × V)
  | [] => [(f, v)]
  | (g, x) :: r => if g = f then (g, v) :: r else (g, x) :: putF f v r
theorem lookup_putF (f g : Str) (v : V) : ∀ fs : List (Str × V), (putF f v fs).lookup g = if g = f then some v else fs.lookup g
  | [] => by
    show List.lookup g [(f, v)] = _
    by_cases h : g = f
    · have hb : (g == f) = true := beq_iff_eq.mpr h
      simp only [List.lookup, hb, if_pos h]
    · have hb : (g == f) = false := beq_eq_false_iff_ne.mpr h
      simp only [List.lookup, hb, if_neg h]
  | (k, x) :: r => by
    have ih := lookup_putF f g v r
    rw [show putF f v ((k, x) :: r) = (if k = f then (k, v) :: r else (k, x) :: putF f v r) from rfl]
    by_cases hk : k = f
    · rw [if_pos hk]
      by_cases h : g = k
      · have hb : (g == k) = true := beq_iff_eq.mpr h
        simp only [List.lookup, hb, if_pos (h.trans hk)]
      · have hb : (g == k) = false := beq_eq_false_iff_ne.mpr h
        simp only [List.lookup, hb, if_neg (fun e : g = f => h (e.trans hk.symm))]
    · rw [if_neg hk]
      by_cases h : g = k
      · have hb : (g == k) = true := beq_iff_eq.mpr h
        simp only [List.lookup, hb, if_neg (fun e : g = f => hk (h.symm.trans e))]
      · have hb : (g == k) = false := beq_eq_false_iff_ne.mpr h
        simp only [List.lookup, hb]
        exact ih
theorem keys_putF (f : Str) (v : V) : ∀ fs : List (Str × V), f ∈ (putF f v fs).map (·.1) ∧ ∀ g, g ∈ fs.map (·.1) → g ∈ (putF f v fs).map (·.1)
  | [] => ⟨by simp [putF], fun g h => by simp at h⟩
  | (k, x) :: r => by
    obtain ⟨i1, i2⟩ := keys_putF f v r
    rw [show putF f v ((k, x) :: r) = (if k = f then (k, v) :: r else (k, x) :: putF f v r) from rfl]
    by_cases hk : k = f
    · rw [if_pos hk]
      subst hk
      exact ⟨by simp, fun g h => by simpa using h⟩
    · rw [if_neg hk]
      refine ⟨?_, fun g h => ?_⟩
      · rw [List.map_cons]
        exact List.mem_cons_of_mem _ i1
      · rw [List.map_cons] at h ⊢
        rcases List.mem_cons.mp h with e | e
        · exact List.mem_cons.mpr (.inl e)
        · exact List.mem_cons_of_mem _ (i2 g e)
theorem length_putF (f : Str) (v : V) : ∀ fs : List (Str × V), (putF f v fs).length ≤ fs.length + 1
  | [] => by simp [putF]
  | (k, x) :: r => by
    have ih := length_putF f v r
    rw [show putF f v ((k, x) :: r) = (if k = f then (k, v) :: r else (k, x) :: putF f v r) from rfl]
    by_cases hk : k = f
    · rw [if_pos hk, List.length_cons, List.length_cons]; omega
    · rw [if_neg hk, List.length_cons, List.length_cons]; omega

theorem RelO.some_of {v : V} {o : Option Value} (r : RelO (some v) o) : ∃ u, o = some u ∧ RelV v u := by
  cases o with
  | none => exact (show False from r).elim
  | some u => exact ⟨u, rfl, r⟩
theorem RelO.none_of {o : Option Value} (r : RelO none o) : o = none := by
  cases o with
  | none => rfl
  | some u => exact (show False from r).elim
theorem handed_of {v : V} {u : Value} (r : RelV v u) : PySem.W.handedIn u = true := by
  cases v with
  | non => cases (show u = Value.none from r); rfl
  | bl b => cases (show u = Value.bool b from r); rfl
  | int i => obtain ⟨t, e⟩ := (show ∃ t, u = Value.int i t from r); cases e; rfl
  | str x => obtain ⟨t, e⟩ := (show ∃ t, u = Value.str x t from r); cases e; rfl
  | byt b => obtain ⟨t, e⟩ := (show ∃ t, u = Value.bytes b t from r); cases e; rfl
  | flt b => obtain ⟨t, e⟩ := (show ∃ t, u = Value.float b t from r); cases e; rfl
  | ref a => cases (show u = Value.ref a from r); rfl
  | ty n => cases (show u = Value.type n from r); rfl

section
variable {P : Program} {w : World} {H H' : Hp} {h h' : Heap} {a C dx : Addr} {fs fs' : List (Str × V)}
theorem ins_get (hok : HOk P w H h) (e : H a = some (.ins C dx fs)) : ∃ mA, ObjM h a dx C mA ∧ (∀ f, RelO (fs.lookup f) (mA f)) ∧ PySem.Within mA (fs.map (·.1)) ∧ fs.length ≤ 1000 ∧ H dx = some (.own a) := by
  obtain ⟨d, z, ne, ob, mA, n, r, q⟩ := (show ObjOk P w H h a (.ins C dx fs) from hok a _ e)
  exact ⟨mA, ⟨ob, n, ne⟩, r, q, z, d⟩
end

/-! ### what of the text a class must have -/
structure Cls (K : PySem.W.Frag) (C : Addr) : Prop where
  pg : PySem.W.plainGet K C Str.empty = true
  hd : PySem.W.hasDictIn K C = true
  po : PySem.W.plainOver K C = true
  sa : PySem.W.findIn K (.ref C) "__setattr__" = some (some (.builtin "object.__setattr__"))
theorem Cls.get {K : PySem.W.Frag} {C : Addr} (c : Cls K C) (f : Str) : PySem.W.plainGet K C f = true := c.pg
/-- no class of it has the name -/
def NoAttr (K : PySem.W.Frag) (C : Addr) (f : Str) : Prop := PySem.W.findIn K (.ref C) f = some none
theorem NoAttr.taker {K : PySem.W.Frag} {C : Addr} {f : Str} (n : NoAttr K C f) : PySem.W.takerIn K C f = some none := by
  unfold PySem.W.takerIn
  rw [show PySem.W.findIn K (.ref C) f = some none from n]
  rfl
/-- a method: a plain def of the class or of one above it -/
structure Meth (K : PySem.W.Frag) (C : Addr) (m : Str) (f : Addr) : Prop where
  at_ : PySem.W.findIn K (.ref C) m = some (some (.ref f))
  fn : PySem.W.isFn K (.ref f) = true
  kp : PySem.W.keepIn K (.ref f) = true

section
variable {X : Cx} {pins : List (Addr × Obj)} {σ : St} {H : Hp} {s : Shared} {a C dx : Addr} {fs : List (Str × V)} {f : Str} {v : V} {A : Around} {E : Value → Shared → Prop}

theorem getattr_ok {b : Bool} {Q : Value → Shared → Prop} (I : Inv X pins σ H s) (e : H a = some (.ins C dx fs)) (c : Cls X.K C) (n : NoAttr X.K C f) (l : fs.lookup f = some v)
    (h : ∀ u s', Inv X pins σ H s' → RelV v u → Q u s') : wpAny (model X.prog X.w) A (getAttr (.ref a) f b) Q E s := by
  obtain ⟨mA, O, r, _, _, _⟩ := ins_get I.hok e
  obtain ⟨u, hu, ru⟩ := RelO.some_of (v := v) (o := mA f) (by rw [← l]; exact r f)
  exact get_map I.kIn O (c.get f) c.hd n hu (handed_of ru) (h u _ (I.tok _) ru)

theorem getmeth_ok {m : Str} {g : Addr} {pl : Sem Bool} {Q : Value × List Value → Shared → Prop} (I : Inv X pins σ H s) (e : H a = some (.ins C dx fs)) (c : Cls X.K C) (k : Meth X.K C m g) (l : fs.lookup m = none)
    (h : Q (.ref g, [.ref a]) s) : wpAny (model X.prog X.w) A (getMethod (.ref a) m pl) Q E s := by
  obtain ⟨mA, O, r, _, _, _⟩ := ins_get I.hok e
  have hn : mA m = none := RelO.none_of (by rw [← l]; exact r m)
  exact get_meth I.kIn O (c.get m) k.at_ k.fn hn h

theorem setattr_ok {y : V} {u : Value} {Q : Unit → Shared → Prop} (I : Inv X pins σ H s) (e : H a = some (.ins C dx fs)) (c : Cls X.K C) (n : NoAttr X.K C f) (hl : fs.length < 1000) (ry : RelV y u)
    (h : ∀ s', Inv X pins σ (upd H a (.ins C dx (putF f y fs))) s' → Q () s') : wpAny (model X.prog X.w) A (setAttr (.ref a) f u) Q E s := by
  obtain ⟨mA, O, r, wi, _, ho⟩ := ins_get I.hok e
  have hz : (fs.map (·.1)).length ≤ sizeLine := by rw [List.length_map, sizeLine_eq]; omega
  refine set_map I.kIn O c.sa c.po n.taker c.hd wi hz fun h' O' sb => h _ ?_
  have hd : ∃ o, h'.get? dx = some o := let ⟨o, _, _, e', _⟩ := O'.ns; ⟨o, e'⟩
  refine I.write (x := a) (e := dx) (by rw [e]; exact True.intro) (.inr ho) (fun b q hb z => (sb.2 b hb).trans z) hd ?_
  refine ⟨by rw [upd_ne O.ne]; exact ho, ?_, O.ne, O'.obj, _, O'.ns, fun g => ?_, fun g hg => ?_⟩
  · have := length_putF f y fs; omega
  · show RelO ((putF f y fs).lookup g) (if g = f then some u else mA g)
    rw [lookup_putF]
    by_cases q : g = f
    · rw [if_pos q, if_pos q]; exact ry
    · rw [if_neg q, if_neg q]; exact r g
  · by_cases q : g = f
    · rw [q]; exact (keys_putF f y fs).1
    · refine (keys_putF f y fs).2 g (wi g fun z => hg ?_)
      show (if g = f then some u else mA g) = none
      rw [if_neg q]; exact z

/-- a new instance, tracked, without attributes -/
theorem Inv.made (I : Inv X pins σ H s) : Inv X pins σ (upd (upd H s.heap.objs.size (.own (s.heap.objs.size + 1))) (s.heap.objs.size + 1) (.ins C s.heap.objs.size []))
    { s with heap := (s.heap.push PySem.W.emptyDict).push (PySem.W.instObj C s.heap.objs.size) } := by
  have e1 : (s.heap.push PySem.W.emptyDict).get? s.heap.objs.size = some PySem.W.emptyDict := Heap.get?_push_size s.heap rfl
  have e2 : ((s.heap.push PySem.W.emptyDict).push (PySem.W.instObj C s.heap.objs.size)).get? (s.heap.objs.size + 1) = some (PySem.W.instObj C s.heap.objs.size) := by
    have := Heap.get?_push_size (s.heap.push PySem.W.emptyDict) (o := PySem.W.instObj C s.heap.objs.size) rfl
    rwa [Heap.size_push] at this
  have e3 : (s.heap.push PySem.W.emptyDict).Ns s.heap.objs.size (fun _ => none) := ⟨PySem.W.emptyDict, #[], _, e1, rfl, (fun e he => absurd he (by simp)), fun _ => rfl⟩
  have I1 := I.laid (a := s.heap.objs.size) (o := .own (s.heap.objs.size + 1)) (h' := s.heap.push PySem.W.emptyDict) (t' := s.toks) (fun b u q => Heap.get?_push_of_some _ q) (Nat.le_refl _) ⟨_, e1⟩
  refine I1.laid (a := s.heap.objs.size + 1) (o := .ins C s.heap.objs.size []) (t' := s.toks) (fun b u q => Heap.get?_push_of_some _ q) (Nat.le_of_eq (Heap.size_push _ _)) ?_
  have ne : s.heap.objs.size ≠ s.heap.objs.size + 1 := Nat.ne_of_lt (Nat.lt_succ_self _)
  refine ⟨by rw [upd_ne ne, upd_same], Nat.zero_le _, ne, e2, fun _ => none, (Heap.Ns1.of_empty e3).at fun o q => Heap.get?_push_of_some _ q, fun _ => True.intro, fun y hy => absurd rfl hy⟩

/-- e.f where nothing but the object is asked: through attributeBase (super) and the last hold -/
theorem attr_of {prog : Program} {w : World} {env : Env} {e : Expr} {f : Str} {pos : Pos} {s : Shared} {Q : Value → Shared → Prop} (hb : attributeBase e f env (eval e env) = eval e env)
    (h : wpAny (model prog w) A (eval e env) (fun o s₁ => wpAny (model prog w) A (getAttr o f true) Q E s₁) E s) : wpAny (model prog w) A (eval (.Attribute e f pos) env) Q E s :=
  Attribute_any_ h (by rw [arm_eval_Attribute, hb])
end

/-! ### readings and rules -/
/-- e.f, an attribute of the instance -/
def tFld (K : PySem.W.Frag) (ta : TE) (f : Str) : TE := fun σ H Q => ta σ H fun x H1 => ∃ a C dx fs v, x = .ref a ∧ H1 a = some (.ins C dx fs) ∧ Cls K C ∧ NoAttr K C f ∧ fs.lookup f = some v ∧ Q v H1
/-- e.f = value -/
def sFld (K : PySem.W.Frag) (ta tv : TE) (f : Str) : TS := fun D σ H => tv σ H fun y H1 => ta σ H1 fun x H2 => ∃ a C dx fs, x = .ref a ∧ H2 a = some (.ins C dx fs) ∧ Cls K C ∧ NoAttr K C f ∧ fs.length < 1000 ∧
  D.nx σ (upd H2 a (.ins C dx (putF f y fs)))
section
variable {X : Cx} {o e value : Expr} {f : Str} {pos pos' tpos : Pos} {ta tv : TE}
theorem pe_fld (he : PE X e ta) (hb : attributeBase e f X.env (eval e X.env) = eval e X.env) : PE X (.Attribute e f pos) (tFld X.K ta f) := by
  intro pins s σ H Q I h
  refine attr_of hb (thn (he pins s σ H _ I h) fun u s1 ⟨x, H1, I1, rx, a, C, dx, fs, v, ex, ea, c, n, l, q⟩ => ?_)
  subst ex
  obtain rfl : u = Value.ref a := rx
  exact getattr_ok I1 ea c n l fun u' s2 I2 ru => ⟨v, H1, I2, ru, q⟩
theorem ps_fld (ha : PE X o ta) (hv : PE X value tv) (hs : swapsWith value (some (.Attribute o f pos')) pos.line X.env = pure false) : PS X (.Assign [.Attribute o f pos'] value pos) (sFld X.K ta tv f) := by
  intro pins s σ H D I h
  refine plainObj_wpAny_Assign_Attribute (thn (hv pins s σ H _ I h) fun u s1 ⟨y, H1, I1, ry, q⟩ => thn (ha pins s1 σ H1 _ I1 q) fun ov s2 ⟨x, H2, I2, rx, a, C, dx, fs, ex, ea, c, n, l, q2⟩ => ?_) hs
  subst ex
  obtain rfl : ov = Value.ref a := rx
  exact setattr_ok I2 ea c n l ry fun s3 I3 => ⟨σ, _, I3, q2⟩
end

/-! ### isinstance -/
section
variable {X : Cx} {pins : List (Addr × Obj)} {σ : St} {H : Hp} {s : Shared} {A : Around} {E : Value → Shared → Prop} {Q : Value → Shared → Prop} {c : Value} {b : Bool}
/-- the type of a value, as the fragment's deciders take it; for an instance its class -/
inductive TyOf (K : PySem.W.Frag) (H : Hp) : V → Value → Prop where
  | non : TyOf K H .non (.type "NoneType")
  | bl (x : Bool) : TyOf K H (.bl x) (.type "bool")
  | int (i : Int) : TyOf K H (.int i) (.type "int")
  | str (x : Str) : TyOf K H (.str x) (.type "str")
  | flt (x : UInt64) : TyOf K H (.flt x) (.type "float")
  | lst {a : Addr} {xs : List V} (e : H a = some (.lst xs)) : TyOf K H (.ref a) (.type "list")
  | frz {a : Addr} {o : Obj} {xs : List V} (e : H a = some (.frz o (.lst xs))) : TyOf K H (.ref a) (.type "list")
  | tup {a : Addr} {xs : List V} (e : H a = some (.tup xs)) : TyOf K H (.ref a) (.type "tuple")
  | dK {a : Addr} {kvs : List (Key × V)} (e : H a = some (.dK kvs)) : TyOf K H (.ref a) (.type "dict")
  | dT {a : Addr} {kvs : List (List Key × V)} (e : H a = some (.dT kvs)) : TyOf K H (.ref a) (.type "dict")
  | ins {a C dx : Addr} {fs : List (Str × V)} (e : H a = some (.ins C dx fs)) (cl : Cls K C) (ha : PySem.W.findIn K (.ref C) "__class__" = some (some (.builtin "object.__class__")))
      (hn : PySem.W.specialIn K (.builtin "object.__class__") "__get__" = some (some (.builtin "getset_descriptor.__get__"))) (htk : PySem.W.takesIn K (.builtin "object.__class__") = some true)
      (hm : PySem.W.mroIn K C (.type "object") = some true) : TyOf K H (.ref a) (.ref C)
/-- isinstance(x, c) for one class c, a built-in or an own one: kitOne's answer -/
theorem isinst_ok {x : V} {u t : Value} (I : Inv X pins σ H s) (rx : RelV x u) (ty : TyOf X.K H x t) (e : PySem.W.kitOne X.K t c = some b) (h : ∀ tk, Q (.bool b) { s with toks := tk }) :
    wpAny (model X.prog X.w) A (call (.builtin "isinstance") [u, c]) Q E s := by
  cases ty with
  | non => cases (show u = Value.none from rx); exact PySem.W.kia_one PySem.W.kitx_none I.kIn True.intro e (fun z => nomatch z) h
  | bl y => cases (show u = Value.bool y from rx); exact PySem.W.kia_one PySem.W.kitx_bool I.kIn True.intro e (fun z => nomatch z) h
  | int i => obtain ⟨t, q⟩ := (show ∃ t, u = Value.int i t from rx); cases q; exact PySem.W.kia_one PySem.W.kitx_int I.kIn True.intro e (fun z => nomatch z) h
  | str y => obtain ⟨t, q⟩ := (show ∃ t, u = Value.str y t from rx); cases q; exact PySem.W.kia_one PySem.W.kitx_str I.kIn True.intro e (fun z => nomatch z) h
  | flt y => obtain ⟨t, q⟩ := (show ∃ t, u = Value.float y t from rx); cases q; exact PySem.W.kia_one PySem.W.kitx_float I.kIn True.intro e (fun z => nomatch z) h
  | @lst a xs ea =>
    cases (show u = Value.ref a from rx)
    obtain ⟨_, _, n, _, h1⟩ := (show ObjOk X.prog X.w H s.heap a (.lst xs) from I.hok a _ ea)
    exact PySem.W.kia_one PySem.W.kitx_list I.kIn ⟨_, h1, rfl⟩ e (fun z => nomatch z) h
  | @frz a ob xs ea =>
    cases (show u = Value.ref a from rx)
    obtain ⟨_, _, _, n, _, h1⟩ := (show ObjOk X.prog X.w H s.heap a (.frz ob (.lst xs)) from I.hok a _ ea)
    exact PySem.W.kia_one PySem.W.kitx_list I.kIn ⟨_, h1, rfl⟩ e (fun z => nomatch z) h
  | @tup a xs ea =>
    cases (show u = Value.ref a from rx)
    obtain ⟨_, _, _, p⟩ := (show ObjOk X.prog X.w H s.heap a (.tup xs) from I.hok a _ ea)
    obtain ⟨o, h1, h2, _⟩ := p
    exact PySem.W.kia_one PySem.W.kitx_tuple I.kIn ⟨o, h1, h2⟩ e (fun z => nomatch z) h
  | @dK a kvs ea =>
    cases (show u = Value.ref a from rx)
    obtain ⟨_, _, vs, _, p⟩ := (show ObjOk X.prog X.w H s.heap a (.dK kvs) from I.hok a _ ea)
    obtain ⟨o, es, ep, h1, h2, _⟩ := p
    exact PySem.W.kia_one PySem.W.kitx_dict I.kIn ⟨o, h1, h2.1⟩ e (fun z => nomatch z) h
  | @dT a kvs ea =>
    cases (show u = Value.ref a from rx)
    obtain ⟨_, _, xs, _, o, es, ep, h1, h2, _⟩ := (show ObjOk X.prog X.w H s.heap a (.dT kvs) from I.hok a _ ea)
    exact PySem.W.kia_one PySem.W.kitx_dict I.kIn ⟨o, h1, h2.1⟩ e (fun z => nomatch z) h
  | @ins a C dx fs ea cl ha hn htk hm =>
    cases (show u = Value.ref a from rx)
    obtain ⟨mA, O, _⟩ := ins_get I.hok ea
    obtain ⟨od, J, _⟩ := O.look
    exact PySem.W.kia_one (PySem.W.kitx_own (cl.get _) cl.hd ha hn htk hm) I.kIn J e (fun z => nomatch z) h
end
end L2

namespace L2
open PySem PySem.Spec PyProof.Rows

/-! ### room -/
structure Room (k : Nat) (A : Around) : Prop where
  hd : A.handled = none
  dp : A.depth + 3 * k + 5 < recursionLimit
  un : A.units + 16 * k + 200 < cLine
theorem Room.mono {j k : Nat} {A : Around} (r : Room k A) (h : j ≤ k) : Room j A := ⟨r.hd, by have := r.dp; omega, by have := r.un; omega⟩
theorem Room.deeper {k : Nat} {A : Around} (r : Room (k + 1) A) (env : Env) : Room k (A.deeper env) :=
  ⟨r.hd, by have := r.dp; show A.depth + 1 + 3 * k + 5 < _; omega, by have := r.un; show A.units + 3 + 16 * k + 200 < _; omega⟩
theorem make_depth {A : Around} {C : Addr} {us : List Value} {kw : List (Str × Value)} : (A.under (.builtin "type.__call__" ⟨.ref C :: us, kw⟩)).depth = A.depth + 1 := by
  first | rfl | simp [Around.under, Code.weight, Code.isCreation, Code.isGuard, Code.isCaller, Code.frames, Code.isFrame, guardIds]
theorem make_units {A : Around} {C : Addr} {us : List Value} {kw : List (Str × Value)} : (A.under (.builtin "type.__call__" ⟨.ref C :: us, kw⟩)).units = A.units + 1 := by
  first | rfl | simp [Around.under, Code.cUnits, Code.frames, Code.isFrame]
theorem Room.make {k : Nat} {A : Around} (r : Room (k + 1) A) (C : Addr) (us : List Value) (kw : List (Str × Value)) : Room k (A.under (.builtin "type.__call__" ⟨.ref C :: us, kw⟩)) :=
  ⟨r.hd, by have := r.dp; rw [make_depth]; omega, by have := r.un; rw [make_units]; omega⟩
theorem Room.depth {k : Nat} {A : Around} (r : Room k A) : A.depth < recursionLimit := by have := r.dp; omega
/-! ### argument lists and displays -/
def tNil : TA := fun _ H Q => Q [] H
def tCons (ta : TE) (tr : TA) : TA := fun σ H Q => ta σ H fun x H1 => tr σ H1 fun xs H2 => Q (x :: xs) H2
section
variable {X : Cx} {e : Expr} {es : List Expr} {te : TE} {t : TA} {pos : Pos}
theorem pa_nil : PA X [] tNil := fun _ _ _ _ H Q I h => Calls.spliced_nil ⟨[], H, I, .nil, h⟩
theorem pa_cons (ha : PE X e te) (hr : PA X es t) (hs : starEach (e :: es) X.env = (false, eval e X.env) :: starEach es X.env := by rfl) : PA X (e :: es) (tCons te t) := by
  intro pos pins s σ H Q I h
  rw [hs]
  show wpAny _ _ (spliced ((false, eval e X.env) :: backTo pos (starEach es X.env))) _ _ s
  refine Calls.spliced_cons (thn (ha pins s σ H _ I h) fun u s1 ⟨x, H1, I1, r1, q1⟩ => ?_)
  exact thn (hr pos pins s1 σ H1 _ I1 q1) fun us s2 ⟨xs, H2, I2, r2, q2⟩ => ⟨x :: xs, H2, I2, .cons r1 r2, q2⟩

/-- a tuple, a list of written items -/
def tTup (t : TA) : TE := fun σ H Q => t σ H fun xs H1 => xs.length ≤ sizeLine ∧ ∀ p, H1 p = none → Q (.ref p) (upd H1 p (.tup xs))
def tLst (t : TA) : TE := fun σ H Q => t σ H fun xs H1 => xs.length ≤ sizeLine ∧ ∀ p, H1 p = none → Q (.ref p) (upd H1 p (.lst xs))
theorem pe_tup {x1} (h : PA X es t) : PE X (.Tuple es x1 pos) (tTup t) := by
  intro pins s σ H Q I hq
  refine wpAny_Tuple_spliced (thn (h pos pins s σ H _ I hq) fun us s1 ⟨xs, H1, I1, r, z, q⟩ => ⟨by rw [← r.length]; exact z, ?_⟩)
  have hf : H1 s1.heap.objs.size = none := I1.hok.fresh (Nat.le_refl _)
  refine ⟨.ref s1.heap.objs.size, upd H1 s1.heap.objs.size (.tup xs), I1.laid (t' := s1.toks) (fun b u e => Heap.get?_push_of_some _ e) (Nat.le_refl _) ?_, rfl, q _ hf⟩
  exact ⟨z, us, r, ⟨_, Heap.get?_push_size _ rfl, rfl, _, rfl⟩⟩
theorem pe_lst (h : PA X es t) : PE X (.List es pos) (tLst t) := by
  intro pins s σ H Q I hq
  refine wpAny_List_spliced (thn (h pos pins s σ H _ I hq) fun us s1 ⟨xs, H1, I1, r, z, q⟩ => ⟨by rw [← r.length]; exact z, ?_⟩)
  have hf : H1 s1.heap.objs.size = none := I1.hok.fresh (Nat.le_refl _)
  refine ⟨.ref s1.heap.objs.size, upd H1 s1.heap.objs.size (.lst xs), I1.laid (t' := s1.toks) (fun b u e => Heap.get?_push_of_some _ e) (Nat.le_refl _) ?_, rfl, q _ hf⟩
  exact ⟨z, us, 0, r, Heap.get?_push_size _ rfl⟩
end

/-! ### what a def promises -/
/-- a def's promise: the bound arguments in the parameters' order, the heap, the wanted end, the wanted exception -/
abbrev Sp := List V → Hp → VK → XK → Prop
/-- how an exception lies behind a call (file 08 gives it): the callers' frames, abstract heap and state ahead of the call, the wish, the exception, the state -/
abbrev CXT := List Env → Hp → Shared → XK → Value → Shared → Prop

/-- the state at a call -/
structure Env0 (P : Program) (w : World) (K : PySem.W.Frag) (mg : Str → Option Value) (base : Heap) (A : Around) (outer : List Env) (s : Shared) (H : Hp) : Prop where
  frames : A.frames = some outer
  mod : Mod K mg base
  bs : ∀ b o, base.get? b = some o → s.heap.get? b = some o ∧ H b = none
  bsz : base.objs.size ≤ s.heap.objs.size
  funs : s.heap.FunFrames base outer
  frf : ∀ b ∈ frs outer, H b = none
  hok : HOk P w H s.heap
  bare : AllBare s.gens
/-- a call's end -/
def CE (outer : List Env) (P : Program) (w : World) (H : Hp) (s : Shared) (Q : VK) (u : Value) (s' : Shared) : Prop :=
  ∃ v H', s'.os = s.os ∧ AllBare s'.gens ∧ Un (frs outer) [] H H' s.heap s'.heap ∧ HOk P w H' s'.heap ∧ RelV v u ∧ Q v H'
def CR (CX : CXT) (outer : List Env) (P : Program) (w : World) (H : Hp) (s : Shared) (Q : VK) (E : XK) (r : Result) (s' : Shared) : Prop :=
  match r with
  | .ok (.ret u) => CE outer P w H s Q u s'
  | .ok _ => False
  | .error e => CX outer H s E e s'
structure FnOk (P : Program) (w : World) (K : PySem.W.Frag) (mg : Str → Option Value) (base : Heap) (CX : CXT) (k : Nat) (f : Addr) (fd : FuncData) (ps : List Str) (sp : Sp) : Prop where
  len : ∀ vs H Q E, sp vs H Q E → vs.length = ps.length
  run : ∀ (A : Around) (outer : List Env) (s : Shared) (H : Hp) (args : Args) (us : List Value) (vs : List V) (Q : VK) (E : XK), Room k A → Env0 P w K mg base A outer s H → BindsTo s fd args (ps.zip us) → Vals vs us → sp vs H Q E →
    codeAny (model P w) A (.call (.ref f) args) (CR CX outer P w H s Q E) s
theorem FnOk.mono {P : Program} {w : World} {K : PySem.W.Frag} {mg : Str → Option Value} {base : Heap} {CX : CXT} {j k : Nat} {f : Addr} {fd : FuncData} {ps : List Str} {sp : Sp} (F : FnOk P w K mg base CX j f fd ps sp) (h : j ≤ k) :
    FnOk P w K mg base CX k f fd ps sp := ⟨F.len, fun A outer s H args us vs Q E hr => F.run A outer s H args us vs Q E (hr.mono h)⟩
theorem Env0.make {P : Program} {w : World} {K : PySem.W.Frag} {mg : Str → Option Value} {base : Heap} {A : Around} {outer : List Env} {s : Shared} {H : Hp} (e : Env0 P w K mg base A outer s H) (C : Addr) (us : List Value) (kw : List (Str × Value)) :
    Env0 P w K mg base (A.under (.builtin "type.__call__" ⟨.ref C :: us, kw⟩)) outer s H := ⟨by first | exact e.frames | (simpa [Around.under, Code.envs, Code.isFrame, pushEnvs] using e.frames), e.mod, e.bs, e.bsz, e.funs, e.frf, e.hok, e.bare⟩
section
variable {X : Cx} {pins : List (Addr × Obj)} {σ : St} {H : Hp} {s s' : Shared}
/-- from a body: what a callee wants -/
theorem Inv.env0 (I : Inv X pins σ H s) : Env0 X.prog X.w X.K X.mg X.base X.A X.stack s H :=
  ⟨I.ok.frames, I.ok.mod, I.bs, Nat.le_trans I.ok.bsz I.sz, I.stack, I.stkFree, I.hok, I.bare⟩
/-- behind a call -/
theorem Inv.after {Q : VK} {u : Value} (I : Inv X pins σ H s) (h : CE X.stack X.prog X.w H s Q u s') : EP X pins σ Q u s' := by
  obtain ⟨v, H', os, bare, un, hok, r, q⟩ := h
  obtain ⟨hh, g, d, t, os'⟩ := s'
  obtain rfl : os' = s.os := os
  exact ⟨v, H', I.call (h' := hh) (g' := g) (d' := d) (t' := t) (ch := []) un hok bare (fun b z => absurd z (by simp)), r, q⟩
end

/-! ### calls -/
/-- f(..): the written arguments, then the defaults dvs; E: what is wanted of an exception -/
def tCall (sp : Sp) (dvs : List V) (E : XK) (t : TA) : TE := fun σ H Q => t σ H fun vs H1 => sp (vs ++ dvs) H1 Q E
/-- C(..): a new instance and its dict, then __init__ -/
def tMake (C : Addr) (sp : Sp) (dvs : List V) (E : XK) (t : TA) : TE := fun σ H Q => t σ H fun vs H1 => ∀ x dx, H1 x = none → H1 dx = none → dx ≠ x →
  sp (.ref x :: (vs ++ dvs)) (upd (upd H1 dx (.own x)) x (.ins C dx [])) (fun v H2 => v = .non ∧ Q (.ref x) H2) E

/-- how the parameters are bound: us the positional arguments, kw the keywords' values by name, ds the defaults that fill up -/
def Binds (K : PySem.W.Frag) (fd : FuncData) (ps : List Str) (ds : List Value) : Prop :=
  ∀ (s : Shared) (us : List Value), K.In s.heap → (us ++ ds).length = ps.length → BindsTo s fd ⟨us, []⟩ (ps.zip (us ++ ds))
/-- every parameter is given -/
theorem Binds.all {K : PySem.W.Frag} {fd : FuncData} {ps : List Str} (h : ∀ us : List Value, us.length = ps.length → bindArgs fd ⟨us, []⟩ = pure (ps.zip us)) : Binds K fd ps [] := fun s us _ hl => by
  rw [List.append_nil] at hl ⊢
  exact .of_eq (h us hl)

/-- an exception of a callee reaches what this body wants of exceptions -/
def Passes (CX : CXT) (X : Cx) (E : XK) : Prop := ∀ (pins : List (Addr × Obj)) (σ : St) (H : Hp) (s : Shared) (e : Value) (s' : Shared), Inv X pins σ H s → CX X.stack H s E e s' → X.xe e s'

section
variable {X : Cx} {CX : CXT} {k : Nat} {f C : Addr} {fd : FuncData} {ps : List Str} {sp : Sp} {dvs : List V} {ds : List Value} {E : XK} {x m : Str} {p pos apos : Pos} {e o : Expr} {es : List Expr} {ta : TE} {t : TA}

/-- the callee runs -/
theorem run_fn {pins : List (Addr × Obj)} {σ : St} {H : Hp} {s : Shared} {Q : VK} {us : List Value} {vs : List V} (F : FnOk X.prog X.w X.K X.mg X.base CX k f fd ps sp) (hr : Room k X.A) (hb : Binds X.K fd ps ds) (hd : Vals dvs ds) (hx : Passes CX X E)
    (I : Inv X pins σ H s) (r : Vals vs us) (h : sp (vs ++ dvs) H Q E) : wpAny (model X.prog X.w) X.A (call (.ref f) us) (EP X pins σ Q) X.xe s := by
  have r2 : Vals (vs ++ dvs) (us ++ ds) := r.append hd
  have hl : (us ++ ds).length = ps.length := by rw [← r2.length]; exact F.len _ _ _ _ h
  refine wpAny_call (codeAny_mono (F.run X.A X.stack s H ⟨us, []⟩ (us ++ ds) (vs ++ dvs) Q E hr I.env0 (hb s us I.kIn hl) r2 h) fun r s' hq => ?_)
  cases r with
  | error e => exact hx pins σ H s e s' I hq
  | ok fl =>
    cases fl with
    | ret u => exact I.after hq
    | next => exact False.elim hq
    | brk => exact False.elim hq
    | cont => exact False.elim hq

theorem pe_call (F : FnOk X.prog X.w X.K X.mg X.base CX k f fd ps sp) (hr : Room k X.A) (hg : Gl X x) (hm : X.mg x = some (.ref f)) (hk : PySem.W.keepIn X.K (.ref f) = true) (hb : Binds X.K fd ps ds) (hd : Vals dvs ds) (hx : Passes CX X E)
    (ha : PA X (e :: es) t) (hdb : (x == ("__debug__" : Str)) = false := by decide) (he : starEach (e :: es) X.env = (false, eval e X.env) :: starEach es X.env := by rfl) (hpl : (backTo pos (starEach es X.env)).any (·.1) = false := by rfl) :
    PE X (.Call (.Name x p) (e :: es) [] pos) (tCall sp dvs E t) := by
  intro pins s σ H Q I h
  refine wpAny_Call_Name_kw (ld_glob I hg hm ?_ hdb)
  refine PySem.W.callWith_K (h₀ := X.base) I.ok.mod.kin hk (thn (ha pos pins s σ H _ I h) fun us s1 ⟨vs, H1, I1, r, q⟩ => ⟨I1.kIn, ?_⟩) he hpl
  exact run_fn F hr hb hd hx I1 r q
/-- what a class must have to be made -/
structure Mk (K : PySem.W.Frag) (C f : Addr) : Prop where
  makes : PySem.W.makesIn K C = true
  init : PySem.W.findIn K (.ref C) "__init__" = some (some (.ref f))
  fn : PySem.W.isFn K (.ref f) = true
  kp : PySem.W.keepIn K (.ref C) = true

theorem run_make {pins : List (Addr × Obj)} {σ : St} {H : Hp} {s : Shared} {Q : VK} {us : List Value} {vs : List V} (M : Mk X.K C f) (F : FnOk X.prog X.w X.K X.mg X.base CX k f fd ps sp) (hr : Room (k + 1) X.A) (hb : Binds X.K fd ps ds) (hd : Vals dvs ds)
    (hx : Passes CX X E) (I : Inv X pins σ H s) (r : Vals vs us)
    (h : ∀ x dx, H x = none → H dx = none → dx ≠ x → sp (.ref x :: (vs ++ dvs)) (upd (upd H dx (.own x)) x (.ins C dx [])) (fun v H2 => v = .non ∧ Q (.ref x) H2) E) :
    wpAny (model X.prog X.w) X.A (call (.ref C) us) (EP X pins σ Q) X.xe s := by
  have hq := h (s.heap.objs.size + 1) s.heap.objs.size (I.hok.fresh (Nat.le_succ _)) (I.hok.fresh (Nat.le_refl _)) (Nat.ne_of_lt (Nat.lt_succ_self _))
  have I2 := Inv.made (C := C) I
  have r2 : Vals (V.ref (s.heap.objs.size + 1) :: (vs ++ dvs)) (Value.ref (s.heap.objs.size + 1) :: (us ++ ds)) := .cons rfl (r.append hd)
  have hl : (Value.ref (s.heap.objs.size + 1) :: us ++ ds).length = ps.length := by
    have e := r2.length
    rw [F.len _ _ _ _ hq] at e
    exact e.symm
  refine wpAny_call (make_map (f := f) I.kIn M.makes M.init (beq_iff_eq.mp M.fn) (codeAny_mono (F.run _ X.stack _ _ ⟨Value.ref (s.heap.objs.size + 1) :: us, []⟩ (Value.ref (s.heap.objs.size + 1) :: (us ++ ds)) _ _ E (hr.make C us [])
    (I2.env0.make C us []) (hb _ (Value.ref (s.heap.objs.size + 1) :: us) I2.kIn hl) r2 hq) fun r s' hq' => ?_))
  cases r with
  | error e => exact hx pins σ _ _ e s' I2 hq'
  | ok fl =>
    cases fl with
    | ret u =>
      obtain ⟨v, H', I3, rv, ev, q3⟩ := I2.after hq'
      subst ev
      exact ⟨rv, ⟨V.ref (s.heap.objs.size + 1), H', I3, rfl, q3⟩⟩
    | next => exact False.elim hq'
    | brk => exact False.elim hq'
    | cont => exact False.elim hq'
theorem pe_make (M : Mk X.K C f) (F : FnOk X.prog X.w X.K X.mg X.base CX k f fd ps sp) (hr : Room (k + 1) X.A) (hg : Gl X x) (hm : X.mg x = some (.ref C)) (hb : Binds X.K fd ps ds) (hd : Vals dvs ds) (hx : Passes CX X E)
    (ha : PA X (e :: es) t) (hdb : (x == ("__debug__" : Str)) = false := by decide) (he : starEach (e :: es) X.env = (false, eval e X.env) :: starEach es X.env := by rfl) (hpl : (backTo pos (starEach es X.env)).any (·.1) = false := by rfl) :
    PE X (.Call (.Name x p) (e :: es) [] pos) (tMake C sp dvs E t) := by
  intro pins s σ H Q I h
  refine wpAny_Call_Name_kw (ld_glob I hg hm ?_ hdb)
  refine PySem.W.callWith_K (h₀ := X.base) I.ok.mod.kin M.kp (thn (ha pos pins s σ H _ I h) fun us s1 ⟨vs, H1, I1, r, q⟩ => ⟨I1.kIn, ?_⟩) he hpl
  exact run_make M F hr hb hd hx I1 r q
end

/-! ### keywords -/
section
variable {X : Cx} {CX : CXT} {k : Nat} {f C : Addr} {fd : FuncData} {ps ks : List Str} {sp : Sp} {E : XK} {x m : Str} {p pos apos kpos : Pos} {e o : Expr} {es : List Expr} {kws : List Keyword} {te ta : TE} {t tk : TA} {nm : Option Str}
variable {g : List Value → List Value → List Value} {gV : List V → List V → List V}
end

/-! ### a def's body keeps its promise -/
/-- names: the parameters first -/
structure FnScope (N P : List Str) (sc : Scope) : Prop where
  kind : sc.kind = .function
  co : sc.isCoroutine = false
  gen : sc.isGenerator = false
  nd : N.Nodup
  pre : N.take P.length = P
  par : ∀ x ∈ P, sc.names.lookup x = some .local ∨ sc.names.lookup x = some .cell
  nofree : ∀ y ∈ sc.names, y.2 ≠ .free

theorem bindL_out {kindOf : Str → Option NameKind} {x : Str} : ∀ {binds : List (Str × Value)} {m : Str → Option Value}, (∀ v, (x, v) ∉ binds) → bindL kindOf binds m x = m x
  | [], _, _ => rfl
  | (n, v) :: r, m, h => by
    unfold bindL
    rw [bindL_out fun w hw => h w (List.mem_cons_of_mem _ hw)]
    split
    · have : x ≠ n := by rintro rfl; exact h v List.mem_cons_self
      simp [this]
    · rfl
theorem bindC_out {kindOf : Str → Option NameKind} {x : Str} : ∀ {binds : List (Str × Value)} {m : Str → Option Value}, (∀ v, (x, v) ∉ binds) → bindC kindOf binds m x = m x
  | [], _, _ => rfl
  | (n, v) :: r, m, h => by
    unfold bindC
    rw [bindC_out fun w hw => h w (List.mem_cons_of_mem _ hw)]
    split
    · rfl
    · have : x ≠ n := by rintro rfl; exact h v List.mem_cons_self
      simp [this]
theorem bindL_get {kindOf : Str → Option NameKind} {x : Str} {v : Value} : ∀ {P : List Str} {vs : List Value} {i : Nat} {m : Str → Option Value}, P.Nodup → P[i]? = some x → vs[i]? = some v → kindOf x = some .local →
    bindL kindOf (P.zip vs) m x = some v
  | [], _, _, _, _, h, _, _ => by simp at h
  | _ :: _, [], _, _, _, _, h, _ => by simp at h
  | p :: P, w :: vs, 0, m, nd, h1, h2, hk => by
    simp at h1 h2; subst h1; subst h2
    show bindL kindOf ((p, w) :: P.zip vs) m p = _
    unfold bindL
    rw [bindL_out fun v hv => (List.nodup_cons.mp nd).1 (List.of_mem_zip hv).1, if_pos hk]
    simp
  | p :: P, w :: vs, i + 1, m, nd, h1, h2, hk => by
    show bindL kindOf ((p, w) :: P.zip vs) m x = _
    unfold bindL
    exact bindL_get (i := i) (List.nodup_cons.mp nd).2 (by simpa using h1) (by simpa using h2) hk
theorem bindC_get {kindOf : Str → Option NameKind} {x : Str} {v : Value} : ∀ {P : List Str} {vs : List Value} {i : Nat} {m : Str → Option Value}, P.Nodup → P[i]? = some x → vs[i]? = some v → kindOf x ≠ some .local →
    bindC kindOf (P.zip vs) m x = some v
  | [], _, _, _, _, h, _, _ => by simp at h
  | _ :: _, [], _, _, _, _, h, _ => by simp at h
  | p :: P, w :: vs, 0, m, nd, h1, h2, hk => by
    simp at h1 h2; subst h1; subst h2
    show bindC kindOf ((p, w) :: P.zip vs) m p = _
    unfold bindC
    rw [bindC_out fun v hv => (List.nodup_cons.mp nd).1 (List.of_mem_zip hv).1, if_neg hk]
    simp
  | p :: P, w :: vs, i + 1, m, nd, h1, h2, hk => by
    show bindC kindOf ((p, w) :: P.zip vs) m x = _
    unfold bindC
    exact bindC_get (i := i) (List.nodup_cons.mp nd).2 (by simpa using h1) (by simpa using h2) hk

/-- the names' values at the entry -/
def start (N : List Str) (vs : List V) : St := vs.map some ++ List.replicate (N.length - vs.length) none

/-- the context of a def's body, at its entry; an exception leaves the frame, then lies as CX says -/
def cxOf (CX : CXT) (P : Program) (w : World) (K : PySem.W.Frag) (mg : Str → Option Value) (base : Heap) (N : List Str) (qual : Str) (scope : Scope) (f : Addr) (cd : Value) (A : Around) (outer : List Env) (s : Shared) (H : Hp) (E : XK) : Cx where
  prog := P
  w := w
  K := K
  mg := mg
  base := base
  A := A.deeper (envOfC qual scope s.heap.objs.size f cd)
  N := N
  s₀ := s
  H₀ := H
  env := envOfC qual scope s.heap.objs.size f cd
  outer := outer
  stack := envOfC qual scope s.heap.objs.size f cd :: outer
  ex := []
  calm := true
  fn := fun _ => true
  pn := []
  xe := fun e s' => wpAny (model P w) (A.deeper (envOfC qual scope s.heap.objs.size f cd)) (leaving (envOfC qual scope s.heap.objs.size f cd) e) (fun _ s'' => CX outer H s E e s'') (fun e' s'' => CX outer H s E e' s'') s'

theorem cell_has {sc : Scope} {n : Nat} {x : Str} (h : sc.names.lookup x = some .cell) : ∃ c, (cellsFrom n sc.names []).lookup x = some c := by
  have q := PySem.W.cellsFrom_some sc.names n [] (.inl h)
  exact Option.isSome_iff_exists.mp q

theorem inv_start {CX : CXT} {P : Program} {w : World} {K : PySem.W.Frag} {mg : Str → Option Value} {base : Heap} {N ps : List Str} {qual : Str} {scope : Scope} {f : Addr} {cd : Value} {A : Around} {outer : List Env} {s s1 : Shared} {H : Hp} {E : XK} {us : List Value} {vs : List V}
    (S : FnScope N ps scope) (hd : A.handled = none) (e0 : Env0 P w K mg base A outer s H) (hl : vs.length = ps.length) (r : Vals vs us)
    (x : InCallC s s.heap.objs.size (bindL (envOfC qual scope s.heap.objs.size f cd).kindOf (ps.zip us) fun _ => none) (cellsFrom (s.heap.objs.size + 1) scope.names []) (bindC (envOfC qual scope s.heap.objs.size f cd).kindOf (ps.zip us) fun _ => none) s1) :
    Inv (cxOf CX P w K mg base N qual scope f cd A outer s H E) [] (start N vs) H s1 := by
  have hpl : ps.length ≤ N.length := by have := congrArg List.length S.pre; rw [List.length_take] at this; omega
  obtain ⟨h1, tk, rfl, hk⟩ := x.done
  have noA : ∀ b : Addr, b ∉ (cxOf CX P w K mg base N qual scope f cd A outer s H E).ex := fun b z => absurd (show b ∈ ([] : List Addr) from z) (by simp)
  refine ⟨⟨e0.mod, S.kind, rfl, rfl, Nat.le_refl _, fun y z c h1 h2 => ?_, fun y hy => ?_, fun y c _ h => ?_, fun _ => hd, Around.frames_deeper e0.frames, .inr ⟨rfl, rfl⟩, fun b z => absurd z (noA b), e0.bs, e0.bsz, fun b _ _ => noA b, fun b z => absurd z (noA b), e0.funs, e0.frf⟩,
    rfl, e0.bare, Un.kept hk, ⟨_, x.toInCall.ns, fun i y v h1 h2 h3 => ?_⟩, fun y c h => ⟨_, x.cell y c h⟩, e0.hok.fresh (Nat.le_refl _), fun y c h => ?_, fun p hp => absurd (show p ∈ ([] : List (Addr × Obj)) from hp) (by simp), e0.hok.kept hk, ?_⟩
  · exact name_of_addr x.apart (PySem.mem_of_lookup h1) (PySem.mem_of_lookup h2)
  · have hy : scope.names.lookup y = some .cell ∨ scope.names.lookup y = some .free := hy
    rcases hy with hy | hy
    · exact cell_has hy
    · exact absurd rfl (S.nofree _ (PySem.mem_of_lookup hy))
  · exact Nat.le_of_lt (x.above y c (PySem.mem_of_lookup h))
  · have hi : i < vs.length := by
      unfold start at h2
      by_cases hi : i < vs.length
      · exact hi
      · rw [List.getElem?_append_right (by simpa using hi)] at h2
        rw [List.getElem?_replicate] at h2
        split at h2 <;> cases h2
    have ha : vs[i]? = some v := by
      unfold start at h2
      rw [List.getElem?_append_left (by simpa using hi), List.getElem?_map] at h2
      cases e : vs[i]? with
      | none => rw [e] at h2; cases h2
      | some a => rw [e] at h2; cases h2; rfl
    obtain ⟨u, hu, rv⟩ := r.get ha
    have hp : ps[i]? = some y := by
      rw [← S.pre, List.getElem?_take_of_lt (by omega)]; exact h1
    have ndP : ps.Nodup := by rw [← S.pre]; exact S.nd.sublist (List.take_sublist _ _)
    refine ⟨u, rv, ?_⟩
    rcases S.par y (List.mem_of_getElem? hp) with k | k
    · exact .inl ⟨k, bindL_get ndP hp hu k⟩
    · obtain ⟨c, e⟩ := cell_has (n := s.heap.objs.size + 1) k
      refine .inr ⟨.inl k, c, e, ?_⟩
      have q := x.cell y c e
      rw [bindC_get ndP hp hu (by show scope.names.lookup y ≠ _; rw [k]; decide)] at q
      exact q
  · exact e0.hok.fresh (Nat.le_of_lt (x.above y c (PySem.mem_of_lookup h)))
  · unfold start
    show _ = N.length
    rw [List.length_append, List.length_map, List.length_replicate]
    omega

/-- THE RULE: a def (or a method) of the text, by its body. The body's reading t is chosen for each entry; it is run at the parameters' values -/
theorem fn_of {CX : CXT} {P : Program} {w : World} {K : PySem.W.Frag} {mg : Str → Option Value} {base : Heap} {k : Nat} {f : Addr} {name qual : Str} {params : Arguments} {body : List Stmt} {scope : Scope} {dV kV doc pm cdv ct oc : Value} {an od : Option Addr}
    {osl : Array (Option Value)} {N ps : List Str} {sp : Sp} (lk : K.lookup f = some ⟨oc, od, .func (PySem.W.fnOf name qual params body scope dV kV doc pm an cdv ct), osl⟩) (hcd : PySem.W.codeIn K cdv qual = true) (S : FnScope N ps scope)
    (len : ∀ vs H Q E, sp vs H Q E → vs.length = ps.length)
    (hbody : ∀ (A : Around) (outer : List Env) (s : Shared) (H : Hp) (vs : List V) (Q : VK) (E : XK), Room k (A.deeper (envOfC qual scope s.heap.objs.size f cdv)) → sp vs H Q E →
      ∃ t, PSs (cxOf CX P w K mg base N qual scope f cdv A outer s H E) body t ∧ t { nx := fun _ H' => Q .non H', rt := Q } (start N vs) H) :
    FnOk P w K mg base CX (k + 1) f (PySem.W.fnOf name qual params body scope dV kV doc pm an cdv ct) ps sp := by
  refine ⟨len, fun A outer s H args us vs Q E hr e0 hb r hsp => ?_⟩
  have hl := len _ _ _ _ hsp
  have KX : K.In s.heap := e0.mod.kin.keeps fun b o e => (e0.bs b o e).1
  have lim : s.heap.NoLimit := e0.mod.nolimit.keeps fun b o e => (e0.bs b o e).1
  have hkind : ∀ y ∈ ps.zip us, scope.names.lookup y.1 = some .local ∨ (scope.names.lookup y.1 = some .cell ∧ ((cellsFrom (s.heap.objs.size + 1) scope.names []).lookup y.1).isSome = true) := fun ⟨n, v⟩ hy => by
    rcases S.par n (List.of_mem_zip hy).1 with q | q
    · exact .inl q
    · exact .inr ⟨q, PySem.W.cellsFrom_some _ _ _ (.inl q)⟩
  refine codeAny_call_function hr.depth (KX _ _ lk) rfl S.co S.gen rfl (PySem.W.codeRec_of KX hcd) (hb _ _ _ _ ?_)
  refine wpAny_newFunctionEnv_cells S.kind hkind fun env he s1 x => ?_
  subst he
  refine ⟨lim.keeps x.toInCall.keep, codeAny_func ?_⟩
  obtain ⟨t, ht, hq⟩ := hbody A outer s H vs Q E (hr.deeper _) hsp
  have I : Inv (cxOf CX P w K mg base N qual scope f cdv A outer s H E) [] (start N vs) H s1 := inv_start S hr.hd e0 hl r x
  refine wpAny_mono (ht [] s1 (start N vs) H _ I hq) (fun fl s' hs => ?_) fun e s' hs => hs
  have fin : ∀ {σ' : St} {H' : Hp} {v : V} {u : Value}, Inv (cxOf CX P w K mg base N qual scope f cdv A outer s H E) [] σ' H' s' → RelV v u → Q v H' → CE outer P w H s Q u s' :=
    fun {σ' H' v u} J rv q => ⟨v, H', J.os, J.bare, J.base, J.hok, rv, q⟩
  cases fl with
  | ret u =>
    obtain ⟨v, σ', H', J, rv, q⟩ := hs
    exact fin J rv q
  | next =>
    obtain ⟨σ', H', J, q⟩ := hs
    exact fin (v := V.non) (u := Value.none) J rfl q
  | brk =>
    obtain ⟨_, _, _, q⟩ := hs
    exact False.elim q
  | cont =>
    obtain ⟨_, _, _, q⟩ := hs
    exact False.elim q
end L2

namespace L2
open PySem PySem.Spec PyProof.Rows
section
variable {X : Cx} {x : Str} {p pos : Pos} {e : Expr} {es : List Expr} {t : TA} {id T : String} {r : List V → Hp → VK → Prop}

def tCB (r : List V → Hp → VK → Prop) (t : TA) : TE := fun σ H Q => t σ H fun vs H1 => r vs H1 Q
/-- f(e, ..), f a built-in function -/
theorem pe_callB (hc : CallR X (.builtin id) r) (hg : Gl X x) (hm : X.mg x = none) (hv : bootBuiltins x = some (.builtin id)) (ha : PA X (e :: es) t) (hn : x ≠ "__name__" := by decide) (hdb : (x == ("__debug__" : Str)) = false := by decide)
    (he : starEach (e :: es) X.env = (false, eval e X.env) :: starEach es X.env := by rfl) (hpl : (backTo pos (starEach es X.env)).any (·.1) = false := by rfl) : PE X (.Call (.Name x p) (e :: es) [] pos) (tCB r t) := by
  intro pins s σ H Q I h
  refine wpAny_Call_Name_kw (ld_blt I hg hm hv ?_ hn hdb)
  exact PyProof.Rows.callWith_builtin1 (thn (ha pos pins s σ H _ I h) fun us s1 ⟨vs, H1, I1, r1, q1⟩ => hc pins s1 σ H1 vs us Q I1 r1 q1) he hpl
/-- T(e, ..), T a built-in type -/
theorem pe_callTy (hc : CallR X (.type T) r) (hg : Gl X x) (hm : X.mg x = none) (hv : bootBuiltins x = some (.type T)) (ha : PA X (e :: es) t) (hn : x ≠ "__name__" := by decide) (hdb : (x == ("__debug__" : Str)) = false := by decide)
    (he : starEach (e :: es) X.env = (false, eval e X.env) :: starEach es X.env := by rfl) (hpl : (backTo pos (starEach es X.env)).any (·.1) = false := by rfl) : PE X (.Call (.Name x p) (e :: es) [] pos) (tCB r t) := by
  intro pins s σ H Q I h
  refine wpAny_Call_Name_kw (ld_blt I hg hm hv ?_ hn hdb)
  exact PyProof.Rows.callWith_type1 (thn (ha pos pins s σ H _ I h) fun us s1 ⟨vs, H1, I1, r1, q1⟩ => hc pins s1 σ H1 vs us Q I1 r1 q1) he hpl
end
end L2

namespace HT
open PySem PyProof.Rows

section
open PySem.SeqAt
open PySem.AutoSeq1 (wpAny_loadPart')
open PySem.MeetsSeq PySem.MeetsSeq2 PySem.MeetsSeq3

end

section
variable {prog : Program} {w : World} {A : Around} {E : Value → Shared → Prop} {s : Shared}

/-! ### t[a:b], not the whole -/
end
end HT

namespace L2
open PySem PySem.Spec PyProof.Rows

/-! ### the parts of a slice -/
abbrev TO := St → Hp → (Option Int → Hp → Prop) → Prop
/-- a slice's part (left out, or an int) -/
def PO (X : Cx) (e : Option Expr) (t : TO) : Prop :=
  ∀ (pins : List (Addr × Obj)) (s : Shared) (σ : St) (H : Hp) (Q : Option Int → Hp → Prop), Inv X pins σ H s → t σ H Q →
    wpAny (model X.prog X.w) X.A (evalPart e X.env) (fun u s' => ∃ o H', Inv X pins σ H' s' ∧ IsPart u o ∧ Q o H') X.xe s
def tNoPart : TO := fun _ H Q => Q none H
def tPart (t : TE) : TO := fun σ H Q => t σ H fun x H1 => ∃ i, x = .int i ∧ Q (some i) H1

section
variable {X : Cx} {e : Expr} {te : TE} {lo hi : Option Expr} {tl th : TO} {pos p2 : Pos}

theorem po_none : PO X none tNoPart := by
  intro pins s σ H Q I h
  rw [evalPart_none]
  exact wpAny_pure ⟨none, H, I, .none, h⟩
theorem po_some (h : PE X e te) : PO X (some e) (tPart te) := by
  intro pins s σ H Q I hw
  rw [evalPart_some]
  refine thn (h pins s σ H _ I hw) fun u s1 ⟨x, H1, I1, r1, q1⟩ => ?_
  obtain ⟨i, rfl, q⟩ := q1
  obtain ⟨t, rfl⟩ := r1
  exact ⟨some i, H1, I1, .int i t, q⟩

/-- what a slice of a value is, by values: the slice object stands at sl -/
def SlR (X : Cx) (r : V → Option Int → Option Int → Hp → VK → Prop) : Prop :=
  ∀ (pins : List (Addr × Obj)) (s : Shared) (σ : St) (H : Hp) (x : V) (v vl vu : Value) (lo hi : Option Int) (sl : Addr) (Q : VK), Inv X pins σ H s → RelV x v → s.heap.IsSliceOf sl vl vu .none → IsPart vl lo → IsPart vu hi → r x lo hi H Q →
    ∃ T id, typeLookup (.type T) "__getitem__" = pure (some (.builtin id)) ∧ s.TypeIs v T ∧ wpAny (model X.prog X.w) X.A (getItem v (.ref sl)) (EP X pins σ Q) X.xe s
def tSl (r : V → Option Int → Option Int → Hp → VK → Prop) (te : TE) (tl th : TO) : TE := fun σ H Q => te σ H fun x H1 => tl σ H1 fun l H2 => th σ H2 fun u H3 => r x l u H3 Q
/-- a[lo:hi], any a -/
theorem pe_slice {r : V → Option Int → Option Int → Hp → VK → Prop} (hr : SlR X r) (he : PE X e te) (hl : PO X lo tl) (hu : PO X hi th) : PE X (.Subscript e (.Slice lo hi none p2) pos) (tSl r te tl th) := by
  intro pins s σ H Q I h
  refine Subscript_ (thn (he pins s σ H _ I h) fun v s1 ⟨x, H1, I1, r1, q1⟩ => ?_)
  refine wpAny_Slice (thn (hl pins s1 σ H1 _ I1 q1) fun vl s2 ⟨l, H2, I2, pl, q2⟩ => thn (hu pins s2 σ H2 _ I2 q2) fun vu s3 ⟨u, H3, I3, pu, q3⟩ => ?_)
  rw [evalPart_none]
  refine wpAny_pure ?_
  have I4 : Inv X pins σ H3 { s3 with heap := s3.heap.push { cls := .type "slice", data := .fields #[vl, vu, .none] } } := I3.kept (t' := s3.toks) fun b ob q => Heap.get?_push_of_some _ q
  obtain ⟨T, id, hT, ht, hg⟩ := hr pins { s3 with heap := s3.heap.push { cls := .type "slice", data := .fields #[vl, vu, .none] } } σ H3 x v vl vu l u s3.heap.objs.size Q I4 r1 (Heap.IsSliceOf.new ..) pl pu q3
  show wpAny (model X.prog X.w) X.A (subscriptTail e (.Slice lo hi none p2) v (.ref s3.heap.objs.size)) (EP X pins σ Q) X.xe { s3 with heap := s3.heap.push { cls := .type "slice", data := .fields #[vl, vu, .none] } }
  exact tail_any (ops := [.ref s3.heap.objs.size, v]) ht hT hg (by with_unfolding_all rfl)

/-! ### t < u, t + u -/
theorem Vals.nil_iff {xs : List V} {us : List Value} (r : Vals xs us) : us = [] ↔ xs = [] := by
  cases r with
  | nil => simp
  | cons _ _ => simp
end
end L2

namespace L2
open PySem PySem.Spec PyProof.Rows

/-! ### places -/
/-- the place that an index of any sign means -/
def ixN (n : Nat) (i : Int) : Option Nat := if 0 ≤ i then (if i < n then some i.toNat else none) else if -(n : Int) ≤ i then some (i + n).toNat else none
def atI {α : Type} (xs : List α) (i : Int) : Option α := (ixN xs.length i).bind fun j => xs[j]?
theorem ixN_seq {n : Nat} {i : Int} {j : Nat} (h : ixN n i = some j) : seqIndex? i n = some j ∧ j < n ∧ -(n : Int) ≤ i ∧ i < n := by
  unfold ixN at h
  by_cases h0 : 0 ≤ i
  · rw [if_pos h0] at h
    by_cases h1 : i < n
    · rw [if_pos h1] at h
      have e : i.toNat = j := Option.some.inj h
      exact ⟨by rw [seqIndex_of h0 h1, e], by omega, by omega, h1⟩
    · rw [if_neg h1] at h; cases h
  · rw [if_neg h0] at h
    by_cases h1 : -(n : Int) ≤ i
    · rw [if_pos h1] at h
      have e : (i + n).toNat = j := Option.some.inj h
      exact ⟨by rw [seqIndex_neg (by omega) h1, e], by omega, h1, by omega⟩
    · rw [if_neg h1] at h; cases h
theorem atI_get {α : Type} {xs : List α} {i : Int} {v : α} (h : atI xs i = some v) : ∃ j, seqIndex? i xs.length = some j ∧ xs[j]? = some v ∧ j < xs.length ∧ -(xs.length : Int) ≤ i ∧ i < xs.length := by
  unfold atI at h
  cases e : ixN xs.length i with
  | none => rw [e] at h; cases h
  | some j =>
    rw [e] at h
    obtain ⟨h1, h2, h3, h4⟩ := ixN_seq e
    exact ⟨j, h1, h, h2, h3, h4⟩
theorem atI_nat {α : Type} {xs : List α} {j : Nat} {v : α} (h : xs[j]? = some v) : atI xs (j : Int) = some v := by
  have hj : j < xs.length := (List.getElem?_eq_some_iff.mp h).1
  have e : ixN xs.length (j : Int) = some j := by
    unfold ixN
    rw [if_pos (by omega), if_pos (by omega)]; simp
  unfold atI; rw [e]; exact h
/-! ### what may be subscripted -/
/-- what stands as an index of a plain subscript -/
def PlainIx (b : Expr) : Prop := ∀ o i, subscripted b false o i = operate [o, i] (getItem o i)
/-- a subscript by values -/
def IxR (X : Cx) (r : R2) : Prop :=
  ∀ (value slice : Expr) (pins : List (Addr × Obj)) (s : Shared) (σ : St) (H : Hp) (x y : V) (v u : Value) (Q : VK), Inv X pins σ H s → RelV x v → RelV y u → r x y H Q →
    subscripted slice false v u = operate [v, u] (getItem v u) → wpAny (model X.prog X.w) X.A (subscriptTail value slice v u) (EP X pins σ Q) X.xe s
/-- a call of a builtin's method by values: the receiver, the arguments -/
def MtR (X : Cx) (id : String) (r : V → List V → Hp → VK → Prop) : Prop :=
  ∀ (pins : List (Addr × Obj)) (s : Shared) (σ : St) (H : Hp) (x : V) (xs : List V) (v : Value) (us : List Value) (Q : VK), Inv X pins σ H s → RelV x v → Vals xs us → r x xs H Q →
    wpAny (model X.prog X.w) X.A (call (.builtin id) (v :: us)) (EP X pins σ Q) X.xe s
section
variable {X : Cx} {a b : Expr} {ta tb : TE} {pos : Pos}
/-- a[b] -/
theorem pe_ix {r : R2} (hr : IxR X r) (ha : PE X a ta) (hb : PE X b tb) (hs : PlainIx b) : PE X (.Subscript a b pos) (tOp r ta tb) := by
  intro pins s σ H Q I h
  exact Subscript_ (binT ha hb I h fun v u s2 x y H2 I2 rx ry q => hr a b pins s2 σ H2 x y v u Q I2 rx ry q (hs _ _))

def rIxL (K : PySem.W.Frag) : R2 := fun x y H Q => ∃ p xs i v, x = .ref p ∧ y = .int i ∧ SqL K H p xs ∧ atI xs i = some v ∧ Q v H
def rIxT (K : PySem.W.Frag) : R2 := fun x y H Q => ∃ p xs i v, x = .ref p ∧ y = .int i ∧ SqT K H p xs ∧ atI xs i = some v ∧ Q v H
def rIxS : R2 := fun x y H Q => ∃ z i c, x = .str z ∧ y = .int i ∧ z.length ≤ sizeLine ∧ atI z.cps.toList i = some c ∧ Q (.str ⟨#[c]⟩) H
theorem ix_list : IxR X (rIxL X.K) := by
  intro value slice pins s σ H x y v u Q I rx ry h hs
  obtain ⟨p, xs, i, z, rfl, rfl, hq, he, q⟩ := h
  cases rx
  obtain ⟨t, rfl⟩ := ry
  obtain ⟨its, r, pl, hz⟩ := I.list hq
  obtain ⟨j, h1, h2, h3, h4, h5⟩ := atI_get he
  obtain ⟨w, ew, rw'⟩ := r.get h2
  have hl := r.length
  have hn := line63
  have fin : EP X pins σ Q w s := ⟨z, H, I, rw', q⟩
  by_cases h0 : 0 ≤ i
  · have hj : i.toNat = j := by
      rw [seqIndex_of h0 h5] at h1
      exact Option.some.inj h1
    exact item_listR pl.isList h0 (by omega) (by rw [hj]; simpa using ew) fin hs
  · have hj : (i + (its.toArray.size : Int)).toNat = j := by
      rw [seqIndex_neg (by omega) h4] at h1
      rw [List.size_toArray, ← hl]
      exact Option.some.inj h1
    exact subscriptTail_builtinR (x := w) pl.isList.typeIs slot_list_getitem.lookup
      (wpAny_getItem_list_neg (Q := fun r s' => r = w ∧ EP X pins σ Q r s') pl.isList (by omega) (by rw [List.size_toArray] <;> omega) (by omega) (by rw [hj]; simpa using ew) ⟨rfl, fin⟩) hs
theorem ix_tup : IxR X (rIxT X.K) := by
  intro value slice pins s σ H x y v u Q I rx ry h hs
  obtain ⟨p, xs, i, z, rfl, rfl, hq, he, q⟩ := h
  cases rx
  obtain ⟨t, rfl⟩ := ry
  obtain ⟨its, r, pl, hz⟩ := I.tuple hq
  obtain ⟨j, h1, h2, h3, h4, h5⟩ := atI_get he
  obtain ⟨w, ew, rw'⟩ := r.get h2
  have hl := r.length
  have hn := line63
  have fin : EP X pins σ Q w s := ⟨z, H, I, rw', q⟩
  exact subscriptTail_builtinR (x := w) pl.typeIs slot_tuple_getitem.lookup
    (getItem_tuple (j := j) (Q := fun r s' => r = w ∧ EP X pins σ Q r s') pl (by omega) (by omega) (by rw [List.size_toArray, ← hl]; exact h1) (by simpa using ew) ⟨rfl, fin⟩) hs
theorem ix_str : IxR X rIxS := by
  intro value slice pins s σ H x y v u Q I rx ry h hs
  obtain ⟨z, i, c, rfl, rfl, hz, he, q⟩ := h
  obtain ⟨t, rfl⟩ := rx
  obtain ⟨t', rfl⟩ := ry
  obtain ⟨j, h1, h2, h3, h4, h5⟩ := atI_get he
  have hl : z.cps.toList.length = z.length := by simp [Str.length]
  rw [hl] at h1 h4 h5
  have hn := line63
  exact tail_any (typeIs_str s z t) slot_str_getitem.lookup (getItem_str (c := c) (by
    have e1 : decide (i < -(2 ^ 63 : Int)) = false := decide_eq_false (by omega)
    have e2 : decide (i ≥ 2 ^ 63) = false := decide_eq_false (by omega)
    rw [e1, e2, Bool.or_false]) (by rw [h1]; simpa using h2) ⟨.str ⟨#[c]⟩, H, I.tok _, ⟨_, rfl⟩, q⟩) hs
/-! ### xs[i] = v, any sign -/
/-- the list's object behind a store -/
theorem mapSeq_set (its : List Value) (n j : Nat) (u : Value) : Obj.mapSeq (·.setIfInBounds j u) { cls := .type "list", data := .seq its.toArray n } = { cls := .type "list", data := .seq (its.set j u).toArray n } := by
  simp [Obj.mapSeq]
theorem Inv.lst {pins : List (Addr × Obj)} {σ : St} {H : Hp} {s : Shared} {p : Addr} {xs : List V} (I : Inv X pins σ H s) (h : H p = some (.lst xs)) :
    ∃ (its : List Value) (n : Nat), Vals xs its ∧ s.heap.get? p = some { cls := .type "list", data := .seq its.toArray n } ∧ xs.length ≤ sizeLine := by
  obtain ⟨z, its, n, r, e⟩ := I.hok p _ h
  exact ⟨its, n, r, e, z⟩
/-- the list at p is written by an update of its object -/
theorem Inv.lstUpd {pins : List (Addr × Obj)} {σ : St} {H : Hp} {s : Shared} {p : Addr} {xs ys : List V} {its its' : List Value} {n n' : Nat} {f : Obj → Obj} (I : Inv X pins σ H s) (h : H p = some (.lst xs))
    (ho : s.heap.get? p = some { cls := .type "list", data := .seq its.toArray n }) (hf : f { cls := .type "list", data := .seq its.toArray n } = { cls := .type "list", data := .seq its'.toArray n' }) (r : Vals ys its') (hz : ys.length ≤ sizeLine) (t : Nat) :
    Inv X pins σ (upd H p (.lst ys)) { s with heap := s.heap.update p f, toks := t } := by
  have e : (s.heap.update p f).get? p = some { cls := .type "list", data := .seq its'.toArray n' } := by
    rw [Heap.get?_update_self f ho (by rw [hf] <;> rfl), hf]
  refine I.write (x := p) (e := p) (by rw [h]; trivial) (.inl rfl) (fun b u hb q => (Heap.get?_update_other _ _ (Ne.symm hb)).trans q) ⟨_, e⟩ ?_
  exact ⟨hz, its', n', r, e⟩
def rSetL : V → V → V → Hp → (Hp → Prop) → Prop := fun o i v H Q => ∃ p xs k j, o = .ref p ∧ i = .int k ∧ H p = some (.lst xs) ∧ ixN xs.length k = some j ∧ Q (upd H p (.lst (xs.set j v)))
theorem set_list : PSet X rSetL := by
  intro pins s σ H o i v ov iv u Q I ro ri rv h
  obtain ⟨p, xs, k, j, rfl, rfl, hp, hj, q⟩ := h
  cases ro
  obtain ⟨t, rfl⟩ := ri
  obtain ⟨its, n, r, ho, hz⟩ := I.lst hp
  obtain ⟨h1, h2, h3, h4⟩ := ixN_seq hj
  have hl := r.length
  have hn := line63
  have I' : Inv X pins σ (upd H p (.lst (xs.set j v))) { s with heap := s.heap.update p (Obj.mapSeq (·.setIfInBounds j u)) } :=
    I.lstUpd hp ho (mapSeq_set its n j u) (r.set rv j) (by rw [List.length_set]; exact hz) s.toks
  by_cases h0 : 0 ≤ k
  · have hk : k.toNat = j := by
      rw [seqIndex_of h0 h4] at h1
      exact Option.some.inj h1
    exact PySem.W.ki_setAt ho h0 (by omega) (by rw [List.size_toArray, ← hl]; exact h4) (by rw [hk]; exact ⟨_, I', q⟩)
  · have hk : (k + (its.toArray.size : Int)).toNat = j := by
      rw [seqIndex_neg (by omega) h3] at h1
      rw [List.size_toArray, ← hl]
      exact Option.some.inj h1
    exact PySem.W.ki_setBack ho (by omega) (by rw [List.size_toArray, ← hl]; exact h3) (by omega) (by rw [hk]; exact ⟨_, I', q⟩)

/-! ### slices -/
/-! ### in, not in: flat items -/
def flatV : V → Bool
  | .non => true
  | .bl _ => true
  | .int _ => true
  | .str _ => true
  | _ => false
/-- == of flat values -/
def eqV : V → V → Bool
  | .non, .non => true
  | .bl a, .bl b => a == b
  | .bl a, .int b => (if a then 1 else 0) == b
  | .int a, .bl b => a == (if b then 1 else 0)
  | .int a, .int b => a == b
  | .str a, .str b => a == b
  | _, _ => false
theorem eqAt_V {A : Around} {s : Shared} {y x : V} {u v : Value} (ry : RelV y u) (rx : RelV x v) (fy : flatV y = true) (fx : flatV x = true) : SeqAt.EqAt A s u v (eqV y x) := by
  cases y with
  | non =>
    cases ry
    cases x with
    | non => cases rx; exact SeqAt.EqAt.same _
    | bl b => cases rx; exact SeqAt.EqAt.none_bool b
    | int b => obtain ⟨t, rfl⟩ := rx; exact SeqAt.EqAt.none_int b t
    | str b => obtain ⟨t, rfl⟩ := rx; exact SeqAt.EqAt.none_str b t
    | _ => exact absurd (show false = true from fx) Bool.false_ne_true
  | bl a =>
    cases ry
    cases x with
    | non => cases rx; exact SeqAt.EqAt.bool_none a
    | bl b => cases rx; exact SeqAt.EqAt.bool_bool a b
    | int b => obtain ⟨t, rfl⟩ := rx; exact SeqAt.EqAt.bool_int a b t
    | str b => obtain ⟨t, rfl⟩ := rx; exact SeqAt.EqAt.bool_str a b t
    | _ => exact absurd (show false = true from fx) Bool.false_ne_true
  | int a =>
    obtain ⟨t', rfl⟩ := ry
    cases x with
    | non => cases rx; exact SeqAt.EqAt.int_none a t'
    | bl b => cases rx; exact SeqAt.EqAt.int_bool a t' b
    | int b => obtain ⟨t, rfl⟩ := rx; exact SeqAt.EqAt.int_int a t' b t
    | str b => obtain ⟨t, rfl⟩ := rx; exact SeqAt.EqAt.int_str a t' b t
    | _ => exact absurd (show false = true from fx) Bool.false_ne_true
  | str a =>
    obtain ⟨t', rfl⟩ := ry
    cases x with
    | non => cases rx; exact SeqAt.EqAt.str_none a t'
    | bl b => cases rx; exact SeqAt.EqAt.str_bool a t' b
    | int b => obtain ⟨t, rfl⟩ := rx; exact SeqAt.EqAt.str_int a t' b t
    | str b => obtain ⟨t, rfl⟩ := rx; exact SeqAt.EqAt.str_str a t' b t
    | _ => exact absurd (show false = true from fx) Bool.false_ne_true
  | _ => exact absurd (show false = true from fy) Bool.false_ne_true
/-- the items' answers, read off the values (a value's own answer does not lean on its token) -/
def eqU (x : V) (u : Value) : Bool := match u with
  | .none => eqV .non x
  | .bool b => eqV (.bl b) x
  | .int i _ => eqV (.int i) x
  | .str z _ => eqV (.str z) x
  | _ => false
theorem eqU_of {x y : V} {u : Value} (r : RelV y u) (f : flatV y = true) : eqU x u = eqV y x := by
  cases y with
  | non => cases r; rfl
  | bl b => cases r; rfl
  | int i => obtain ⟨t, rfl⟩ := r; rfl
  | str z => obtain ⟨t, rfl⟩ := r; rfl
  | _ => exact absurd (show false = true from f) Bool.false_ne_true
theorem any_eqU {x : V} : ∀ {xs : List V} {us : List Value}, Vals xs us → xs.all flatV = true → us.any (eqU x) = xs.any fun y => eqV y x
  | _, _, .nil, _ => rfl
  | y :: xs, u :: us, .cons r t, f => by
    rw [List.all_cons, Bool.and_eq_true] at f
    rw [List.any_cons, List.any_cons, eqU_of r f.1, any_eqU t f.2]
theorem mem_eqAt {A : Around} {s : Shared} {x : V} {v : Value} (rx : RelV x v) (fx : flatV x = true) : ∀ {xs : List V} {us : List Value}, Vals xs us → xs.all flatV = true → ∀ u ∈ us, SeqAt.EqAt A s u v (eqU x u)
  | _, _, .nil, _ => fun u hu => by cases hu
  | y :: xs, u :: us, .cons r t, f => fun u' hu => by
    rw [List.all_cons, Bool.and_eq_true] at f
    rcases List.mem_cons.mp hu with rfl | hu
    · rw [eqU_of r f.1]; exact eqAt_V r rx f.1 fx
    · exact mem_eqAt rx fx t f.2 u' hu
def inV (x : V) (xs : List V) : Bool := xs.any fun y => eqV y x
/-- x in a list or tuple of flat items -/
def rIn (K : PySem.W.Frag) (neg : Bool) : R2 := fun x y H Q => ∃ p xs, y = .ref p ∧ (SqL K H p xs ∨ SqT K H p xs) ∧ flatV x = true ∧ xs.all flatV = true ∧ Q (.bl (if neg then !inV x xs else inV x xs)) H
theorem op_in_seq : OpR X (compareOp .In) (rIn X.K false) := by
  intro pins s σ H x y v u Q I rx ry h
  obtain ⟨p, xs, rfl, hq, fx, fs, q⟩ := h
  cases ry
  rcases hq with hq | hq
  · obtain ⟨its, r, pl, hz⟩ := I.list hq
    refine SeqAt.in_listAt (eqU x) pl.isList (fun w hw => mem_eqAt rx fx r fs w (by simpa using hw)) ⟨.bl _, H, I, rfl, ?_⟩
    rw [show its.toArray.any (eqU x) = its.any (eqU x) by simp, any_eqU r fs]
    exact q
  · obtain ⟨its, r, pl, hz⟩ := I.tuple hq
    refine SeqAt.in_tupleAt (eqU x) pl (fun w hw => mem_eqAt rx fx r fs w (by simpa using hw)) ⟨.bl _, H, I, rfl, ?_⟩
    rw [show its.toArray.any (eqU x) = its.any (eqU x) by simp, any_eqU r fs]
    exact q
/-! ### len, list(x), tuple(x) of any list or tuple that is read -/
theorem call_len_seq : CallR X (.builtin "len") (fun xs H Q => ∃ p ys, xs = [.ref p] ∧ (SqL X.K H p ys ∨ SqT X.K H p ys) ∧ Q (.int ys.length) H) := by
  intro pins s σ H xs us Q I r h
  obtain ⟨p, ys, rfl, hq, q⟩ := h
  obtain ⟨u, rfl, rx⟩ := vals1 r
  cases rx
  have hn := line63
  rcases hq with hq | hq
  · obtain ⟨its, r', pl, hz⟩ := I.list hq
    have hlen := r'.length
    exact Calls.call_len_list pl.isList (by simp only [List.size_toArray] <;> omega) ⟨.int ys.length, H, I.tok _, ⟨s.toks + 1, by rw [List.size_toArray, hlen]⟩, q⟩
  · obtain ⟨its, r', pl, hz⟩ := I.tuple hq
    have hlen := r'.length
    exact len_tuple pl (by simp only [List.size_toArray] <;> omega) ⟨.int ys.length, H, I.tok _, ⟨s.toks + 1, by rw [List.size_toArray, hlen]⟩, q⟩
/-! ### the call of a builtin's method: o.m(..) -/
/-- the value is of that builtin type -/
def tyV (K : PySem.W.Frag) (T : String) (x : V) (H : Hp) : Prop := match x with
  | .str _ => T = "str"
  | .int _ => T = "int"
  | .ref p => (T = "list" ∧ ∃ xs, SqL K H p xs) ∨ (T = "tuple" ∧ ∃ o, K.lookup p = some o ∧ o.cls = .type "tuple" ∧ o.dict = none) ∨
      (T = "dict" ∧ ((∃ kvs, H p = some (.dK kvs)) ∨ ∃ kvs, H p = some (.dT kvs))) ∨ (T = "set" ∧ ∃ S n, H p = some (.set S n))
  | _ => False
theorem tyV_is {pins : List (Addr × Obj)} {σ : St} {H : Hp} {s : Shared} {T : String} {x : V} {v : Value} (I : Inv X pins σ H s) (r : RelV x v) (ty : tyV X.K T x H) :
    s.TypeIs v T ∧ ∀ a, v = .ref a → ∃ ob, s.heap.get? a = some ob ∧ ob.dict = none := by
  cases x with
  | str z =>
    obtain ⟨t, rfl⟩ := r
    cases (show T = "str" from ty)
    exact ⟨typeIs_str s z t, fun _ e => nomatch e⟩
  | int i =>
    obtain ⟨t, rfl⟩ := r
    cases (show T = "int" from ty)
    exact ⟨typeIs_int s i t, fun _ e => nomatch e⟩
  | ref p =>
    cases r
    rcases ty with ⟨rfl, xs, hq⟩ | ⟨rfl, o, hk, hc, hd⟩ | ⟨rfl, hk⟩ | ⟨rfl, S, n, hk⟩
    · obtain ⟨its, _, pl, _⟩ := I.list hq
      refine ⟨pl.isList.typeIs, fun a e => ?_⟩
      cases e
      obtain ⟨o, n, e, c, hd, _⟩ := pl
      exact ⟨o, e, hd⟩
    · refine ⟨⟨o, I.kIn p o hk, hc⟩, fun a e => ?_⟩
      cases e
      exact ⟨o, I.kIn _ o hk, hd⟩
    · have z : ∃ o, s.heap.get? p = some o ∧ o.ExactDict := by
        rcases hk with ⟨kvs, hk⟩ | ⟨kvs, hk⟩
        · obtain ⟨_, _, _, _, o, _, _, e, ex, _⟩ := I.hok p _ hk
          exact ⟨o, e, ex⟩
        · obtain ⟨_, _, _, _, o, _, _, e, ex, _⟩ := I.hok p _ hk
          exact ⟨o, e, ex⟩
      obtain ⟨o, e, ex⟩ := z
      refine ⟨⟨o, e, ex.1⟩, fun a e2 => ?_⟩
      cases e2
      exact ⟨o, e, ex.2.1⟩
    · obtain ⟨o, _, _, _, e, ex, _⟩ := I.hok p _ hk
      refine ⟨⟨o, e, ex.1⟩, fun a e2 => ?_⟩
      cases e2
      exact ⟨o, e, ex.2.1⟩
  | _ => exact False.elim ty
def tBM (K : PySem.W.Frag) (T : String) (r : V → List V → Hp → VK → Prop) (to : TE) (t : TA) : TE := fun σ H Q => to σ H fun x H1 => tyV K T x H1 ∧ t σ H1 fun xs H2 => r x xs H2 Q
variable {o e : Expr} {es : List Expr} {to : TE} {t : TA} {name : Str} {apos cpos : Pos} {T id : String} {r : V → List V → Hp → VK → Prop}
theorem pe_bm (pa : PlainAttrs T) (slot : Slot T name id) (hty : typeOf (.builtin id) = pure (.type "method_descriptor")) (hm : MtR X id r) (ho : PE X o to) (ha : PA X (e :: es) t)
    (hbase : attributeBase o name X.env (eval o X.env) = eval o X.env := by rfl)
    (hfew : ((backTo cpos (starEach (e :: es) X.env)).all (fun x => !x.1) && (backToKw cpos (keywordEach [] X.env)).all (fun x => x.1.isSome)
      && decide ((e :: es).length + ([] : List Keyword).length + (if ([] : List Keyword).isEmpty then 0 else 1) < 30)) = true := by rfl)
    (hline : (apos.endLine == cpos.line) = true := by rfl) (hs : starEach (e :: es) X.env = (false, eval e X.env) :: starEach es X.env := by rfl) (hplain : (backTo cpos (starEach es X.env)).any (·.1) = false := by rfl) :
    PE X (.Call (.Attribute o name apos) (e :: es) [] cpos) (tBM X.K T r to t) := by
  intro pins s σ H Q I h
  refine wpAny_Call_method_late hbase hfew hline rfl (thn (ho pins s σ H _ I h) fun v s1 ⟨x, H1, I1, r1, ty, q1⟩ => ?_)
  obtain ⟨h1, h2⟩ := tyV_is I1 r1 ty
  refine ⟨T, id, pa, slot, hty, h1, h2, ?_⟩
  have hA := ha cpos pins s1 σ H1 _ I1 q1
  rw [hs] at hA ⊢
  refine Calls.callWith_builtin (by show (false || (backTo cpos (starEach es X.env)).any (·.1)) = false; rw [hplain] <;> rfl) (Calls.evalArgs_plain ?_)
  exact thn hA fun us s2 ⟨vs, H2, I2, r2, q2⟩ => hm pins s2 σ H2 x vs v us Q I2 r1 r2 q2
/- xs.append(e), list.index on a module's tuple .. are MtR facts of 06m -/
end
end L2

namespace L2
open PySem PySem.Spec PyProof.Rows

def MtM (X : Cx) (id : String) (r : V → List V → Hp → VK → Prop) : Prop :=
  ∀ (pins : List (Addr × Obj)) (s : Shared) (σ : St) (H : Hp) (x : V) (xs : List V) (v : Value) (us : List Value) (Q : VK), Inv X pins σ H s → RelV x v → Vals xs us → r x xs H Q →
    wpAny (model X.prog X.w) X.A (call (.builtin id) (v :: us)) (EP X pins σ Q) X.xe s

/-! ### lists of values -/
theorem Vals.one : ∀ {x : V} {us : List Value}, Vals [x] us → ∃ u, us = [u] ∧ RelV x u
  | _, _, .cons r .nil => ⟨_, rfl, r⟩
section
variable {X : Cx} {pins : List (Addr × Obj)} {σ : St} {H : Hp} {s : Shared} {l b : Addr} {xs ys zs : List V}

/-! ### the two steps: a tracked list is rewritten, a new list is laid -/
theorem Inv.lset {its its' : List Value} {n : Nat} {f : Array Value → Array Value} {t' : Nat} (I : Inv X pins σ H s) (hH : H l = some (.lst xs))
    (e : s.heap.get? l = some { cls := .type "list", data := .seq its.toArray n }) (hf : f its.toArray = its'.toArray) (hv : Vals ys its') (hz : ys.length ≤ sizeLine) :
    Inv X pins σ (upd H l (.lst ys)) { s with heap := s.heap.update l (Obj.mapSeq f), toks := t' } := by
  have q := PySem.IsL.update e f
  rw [hf] at q
  refine I.write (x := l) (e := l) (by rw [hH]; exact trivial) (.inl rfl) (fun b' u hb hu => (Heap.get?_update_other s.heap (Obj.mapSeq f) (Ne.symm hb)).trans hu) ⟨_, q⟩ ?_
  exact ⟨hz, its', _, hv, q⟩
theorem Inv.lnew {its : List Value} {t' : Nat} (I : Inv X pins σ H s) (hv : Vals ys its) (hz : ys.length ≤ sizeLine) :
    Inv X pins σ (upd H s.heap.objs.size (.lst ys)) { s with heap := s.heap.push { cls := .type "list", data := .seq its.toArray }, toks := t' } :=
  I.laid (fun _ _ q => Heap.get?_push_of_some _ q) (Nat.le_refl _) ⟨hz, its, 0, hv, Heap.get?_push_size _ rfl⟩
theorem Inv.fresh (I : Inv X pins σ H s) : H s.heap.objs.size = none := I.hok.fresh (Nat.le_refl _)
theorem Inv.lstM (I : Inv X pins σ H s) (hH : H l = some (.lst xs)) : xs.length ≤ sizeLine ∧ ∃ (its : List Value) (n : Nat), Vals xs its ∧ xs.length = its.length ∧ s.heap.get? l = some { cls := .type "list", data := .seq its.toArray n } := by
  obtain ⟨z, its, n, r, e⟩ := I.hok l _ hH
  exact ⟨z, its, n, r, r.length, e⟩

end

section
variable {X : Cx}

/-! ### methods -/
def rAppend : V → List V → Hp → VK → Prop := fun x vs H Q => ∃ l xs y, x = .ref l ∧ vs = [y] ∧ H l = some (.lst xs) ∧ xs.length < sizeLine ∧ Q .non (upd H l (.lst (xs ++ [y])))
theorem mt_append : MtM X "list.append" rAppend := by
  intro pins s σ H x vs v us Q I rx rv h
  obtain ⟨l, xs, y, rfl, rfl, hH, hz, q⟩ := h
  cases rx
  obtain ⟨u, rfl, ru⟩ := rv.one
  obtain ⟨z, its, n, r, hl, e⟩ := I.lstM hH
  refine call_meets F.slot_list_append ⟨_, e, rfl⟩ F.entry_list_append (F.args_list_append_2 _ _) (PySem.list_append l its.toArray n u (by rw [List.size_toArray]; omega)) ⟨e, ?_⟩
  refine ⟨.non, _, I.lset (its' := its ++ [u]) hH e (by simp) (r.append (.cons ru .nil)) ?_, rfl, q⟩
  rw [List.length_append, List.length_singleton]
  omega

/-! ### list + list, list += list, list * int -/
/-! ### del xs[i] -/
end

/-! ### xs[a:b] = ys -/
section
variable {prog : Program} {w : World} {A : Around} {E : Value → Shared → Prop} {s : Shared}
set_option maxRecDepth 100000 in
end

section
variable {X : Cx}
end
end L2

namespace L2
open PySem PySem.Spec PyProof.Rows

/-! ### lists of pairs as tables -/
section
variable {κ : Type} [DecidableEq κ]
end


/-! ### a tracked dict, its keys ints and texts or tuples of these -/
section
variable {P : Program} {w : World} {H : Hp} {h : Heap} {a : Addr}
end

section
variable {X : Cx} {pins : List (Addr × Obj)} {σ : St} {H : Hp} {s : Shared} {a : Addr} {y v : V} {u r : Value} {o : Option V} {A : Around} {E : Value → Shared → Prop}

end

section
variable {X : Cx} {pins : List (Addr × Obj)} {σ : St} {H : Hp} {s : Shared} {a : Addr} {kvs : List (Key × V)} {k : Key} {u : Value} {A : Around} {E : Value → Shared → Prop}
end


/-! ### readings and rules -/
section
variable {X : Cx} {o i e value : Expr} {pos pos' tpos : Pos} {td ty tv : TE}
end


/-! ### displays -/
section
variable {X : Cx} {pos : Pos}
end

/-! ### methods -/
section
variable {X : Cx} {pins : List (Addr × Obj)} {σ : St} {H : Hp} {s : Shared} {a : Addr} {y d : V} {u r : Value} {o : Option V} {A : Around} {E : Value → Shared → Prop}
end

section
variable {X : Cx} {o e f : Expr} {apos cpos : Pos} {td ty tx : TE}
end

/-! ### dict(d): a copy -/
section
variable {X : Cx} {pins : List (Addr × Obj)} {σ : St} {H : Hp} {s : Shared} {a : Addr} {kvs : List (Key × V)} {A : Around} {E : Value → Shared → Prop}
end


section
variable {X : Cx} {pins : List (Addr × Obj)} {σ : St} {H : Hp} {s : Shared} {a : Addr} {y : V} {u : Value} {A : Around} {E : Value → Shared → Prop}
end
end L2

namespace Att
open PySem PySem.W PySem.Calls PyProof.Rows

/-! ### the script -/
theorem ints_of_wellAll {P : Params} {h : Heap} : ∀ (ns : List Int) (vs : List Value), WellAll P h vs (ns.map WData.int) → IntsAre vs ns := by
  intro ns
  induction ns with
  | nil =>
    intro vs w
    rw [List.map_nil] at w
    cases w
    exact .nil
  | cons n ns ih =>
    intro vs w
    rw [List.map_cons] at w
    cases w with
    | cons a b =>
      cases a
      exact .cons _ _ (ih _ b)

theorem script_of {l : OpenLaw} {n : Nat} (hn : l.most = some n) {P : Params} {h : Heap} {args : List WData} {vals : List Value}
    (hpre : l.row.toRowW.claim.pre args = true) (hwl : WellAll P h vals args) :
    ∃ a vs ns, vals = [Value.ref a] ∧ args = [WData.list (ns.map WData.int)] ∧ h.get? a = some { cls := .type "list", data := .seq vs.toArray } ∧ IntsAre vs ns ∧ ns.length ≤ n := by
  have hsh : WShape.hasAll [] args [.list .int] = true := (pre_splitW hpre).1
  have hc : l.pre.holds [] { args := args } = true := (pre_splitW hpre).2
  obtain ⟨d, r, rfl, h1, h2⟩ := hasAllW_cons hsh
  obtain rfl := hasAllW_nil h2
  obtain ⟨xs, rfl, h3⟩ := hasW_list h1
  obtain ⟨ns, rfl⟩ := items_int h3
  have hlen : ns.length ≤ n := by
    unfold OpenLaw.pre at hc
    have h4 : (WTm.not (.lt (.lit (.int (n : Int))) (.len (.arg 0)))).holds [] { args := [.list (ns.map .int)] } = true := by
      have h4 := (holds_andW hc).1
      rw [hn] at h4
      exact h4
    have h5 := condW_of h4 (w_not (w_lt w_lit (w_len_list (w_arg rfl))))
    rw [List.length_map] at h5
    refine Nat.le_of_not_lt fun q => ?_
    have q' : (n : Int) < ((ns.length : Nat) : Int) := by omega
    first
      | (rw [decide_eq_true q'] at h5; exact absurd h5 (by decide))
      | (simp at h5; omega)
  cases hwl with
  | cons w1 w2 =>
    cases w2
    cases w1 with
    | list ho hall => exact ⟨_, _, ns, rfl, rfl, ho, ints_of_wellAll ns _ hall, hlen⟩

theorem post_true (l : OpenLaw) (args : List WData) : l.row.toRowW.claim.post args (.bool true) args = true :=
  postW_of (r := l.row.toRowW) (X := (true == true))
    (show WShape.has [] (.bool true) .bool = true by first | rfl | decide | simp [WShape.has, WShape.arms, WShape.armsAll])
    (show (WTm.eq .res (.lit (.bool true))).value [] { args := args, res := some (.bool true), after := args } = some (.bool (true == true)) from w_eq_bool (w_res rfl) w_lit) rfl

/-! ### the attachment: holds_open's last premise (the goal 'hc' behind k_head) from a wpAny of the law's body -/
/-- the same from a codeAny of the CALL (for a layer whose function contracts speak of calls) -/
theorem attach_call {l : OpenLaw} {n : Nat} {q : Program} {loose : List Str} {XP : (Str → Option Value) → Heap → Prop} {YP : World → Heap → Prop} {d : DefRec}
    (hn : l.most = some n) (hdf : d.params.defaults = [])
    (call : ∀ (w : World) (s₀ s₁ : Shared) (mg mb : Str → Option Value) (fa : Addr) (o : Obj) (pm cd doc : Value) (a : Addr) (vs : List Value) (ns : List Int),
      Ground q loose [] XP w s₀ mg mb s₁.heap → YP w s₁.heap →
      s₁.heap.get? fa = some o → o.data = .func (docDef d.name d.params d.body d.scope pm cd doc) → s₁.heap.CodeRec cd d.name → mg d.name = some (.ref fa) →
      s₁.heap.get? a = some { cls := .type "list", data := .seq vs.toArray } → IntsAre vs ns → ns.length ≤ n → s₁.gens = #[] →
      codeAny (model l.prog w) callerA (.call (.ref fa) ⟨[.ref a], []⟩) (fun r s' => r = .ok (.ret (.bool true)) ∧ OldK s₁.heap s'.heap ∧ s'.os = s₁.os ∧ AllBare s'.gens) s₁) :
    WalkO q loose XP YP l.row.toRowW d [] (fun f vs => PySem.call f vs) := by
  intro w s₀ s₁ mg mb G Y fa o pm cd doc dV kV ho hd hcd hD hmg hg args vals as hpre hlay hrd hwl hlo
  obtain rfl : dV = .none := Dflts.none hD hdf
  obtain rfl : kV = .none := Dflts.noKw hD
  obtain ⟨a, vs, ns, rfl, rfl, hobj, hints, hlen⟩ := script_of hn hpre hwl
  refine enter_call (codeAny_mono (call w s₀ s₁ mg mb fa o pm cd doc a vs ns G Y ho (fd_plain hd) hcd hmg hobj hints hlen hg) fun r s' hq => ?_)
  obtain ⟨rfl, h2, h3, h4⟩ := hq
  exact ⟨.inl ⟨.bool true, .bool true, [], rfl, fun _ => rfl, .bool true, post_true l _, fun _ => ⟨List.Pairwise.nil, fun _ hm => (nomatch hm)⟩⟩, h2, h3, h4⟩

/-! ### rules over ANY heap (no ledger) from facts about the written part K: the library's own take a ledger (News) for what they write -/
section
variable {prog : Program} {w : World} {A : Around} {E : Value → Shared → Prop} {s : Shared} {K : Frag}

/-! the whole heap as the ledger: makes every rule that writes through a ledger a rule over any heap -/
end
end Att

namespace L2
open PySem PySem.Spec PyProof.Rows

theorem vals_ints : ∀ {vs : List Value} {ns : List Int}, IntsAre vs ns → Vals (ns.map V.int) vs
  | _, _, .nil => .nil
  | _, _, .cons n t h => .cons ⟨t, rfl⟩ (vals_ints h)

/-- nothing is tracked but the script, known to the object (or it is an object of the module) -/
def Only (H : Hp) : Prop := ∀ b, H b = none ∨ ∃ o xs, H b = some (.frz o (.lst xs))

/-- THE HEAD: the law's promise, at the heap behind the top. F, the promise of the law's def, may use that base is part of the heap (so K.In base, base.Ns mainGlobals mg stand in Mod) -/
theorem law_call {P : Program} {w : World} {K : PySem.W.Frag} {mg mb : Str → Option Value} {CX : CXT} {k : Nat} {fa a : Addr} {fd : FuncData} {x : Str} {sp : Sp} {s₁ : Shared} {vs : List Value} {ns : List Int}
    (KX : K.In s₁.heap) (hns : s₁.heap.Ns mainGlobals mg) (hb : s₁.heap.Ns builtinsNs mb) (hbb : ∀ x : Str, x ≠ "__name__" → mb x = bootBuiltins x) (hlim : s₁.heap.NoLimit) (hg : s₁.gens = #[])
    (ha : s₁.heap.get? a = some { cls := .type "list", data := .seq vs.toArray }) (hi : IntsAre vs ns) (hl : ns.length ≤ sizeLine) (hr : Room k callerA)
    (F : ∀ base : Heap, K.In base → base.Ns mainGlobals mg → FnOk P w K mg base CX k fa fd [x] sp) (hbind : ∀ (s : Shared) (u : Value), BindsTo s fd ⟨[u], []⟩ [(x, u)])
    (hsp : ∀ H : Hp, Only H → SqL K H a (ns.map V.int) → sp [.ref a] H (fun v _ => v = .bl true) fun _ _ _ => False)
    (hCX : ∀ H e s', CX [] H s₁ (fun _ _ _ => False) e s' → False) :
    codeAny (model P w) callerA (.call (.ref fa) ⟨[.ref a], []⟩) (fun r s' => r = .ok (.ret (.bool true)) ∧ OldK s₁.heap s'.heap ∧ s'.os = s₁.os ∧ AllBare s'.gens) s₁ := by
  have rv := vals_ints hi
  have lenV := hi.length
  -- from an abstract heap in which nothing but the script may be tracked
  have core : ∀ H : Hp, Only H → SqL K H a (ns.map V.int) → HOk P w H s₁.heap → (∀ b, H b ≠ none → b = a) → (H a ≠ none → K.lookup a = none) →
      codeAny (model P w) callerA (.call (.ref fa) ⟨[.ref a], []⟩) (fun r s' => r = .ok (.ret (.bool true)) ∧ OldK s₁.heap s'.heap ∧ s'.os = s₁.os ∧ AllBare s'.gens) s₁ := by
    intro H hO hS hok hA hK
    have base_of : ∀ {b : Addr} {o : Obj}, s₁.heap.get? b = some o → H b = none → (hidT s₁.heap H).get? b = some o := fun e n => hidT_get e n
    have noA : ∀ {b : Addr} {o : Obj} {es : Array DictEntry} {ep : Nat}, s₁.heap.get? b = some o → o.data = .dict es ep → H b = none := fun {b o es ep} e d => by
      cases q : H b with
      | none => rfl
      | some u =>
        have e' : b = a := hA b (by rw [q]; simp)
        subst e'
        rw [ha] at e; cases e
        have d' : Data.seq vs.toArray _ = Data.dict es ep := d
        cases d'
    have nsK : ∀ {b : Addr} {m : Str → Option Value}, s₁.heap.Ns b m → (hidT s₁.heap H).Ns b m := fun {b m} ⟨o, es, ep, e, d, r⟩ => ⟨o, es, ep, base_of e (noA e d), d, r⟩
    have hKb : K.In (hidT s₁.heap H) := fun b o e => base_of (KX b o e) (by
      cases q : H b with
      | none => rfl
      | some u =>
        have e' : b = a := hA b (by rw [q]; simp)
        subst e'
        rw [hK (by rw [q]; simp)] at e; cases e)
    have hM : Mod K mg (hidT s₁.heap H) := ⟨hKb, nsK hns, ⟨mb, nsK hb, hbb⟩, let ⟨mc, h1, h2⟩ := hlim; ⟨mc, nsK h1, h2⟩⟩
    have e0 : Env0 P w K mg (hidT s₁.heap H) callerA [] s₁ H := ⟨rfl, hM, fun b o e => of_hidT e, Nat.le_of_eq (hidT_size _ _), trivial, fun b hb => absurd (show b ∈ ([] : List Addr) from hb) (by simp), hok, .of_eq hg⟩
    refine codeAny_mono ((F _ hKb (nsK hns)).run callerA [] s₁ H ⟨[.ref a], []⟩ [.ref a] [.ref a] _ _ hr e0 (hbind s₁ (.ref a)) (.cons rfl .nil) (hsp H hO hS)) fun r s' h => ?_
    cases r with
    | error e => exact (hCX H e s' h).elim
    | ok fl =>
      cases fl with
      | next => exact False.elim h
      | brk => exact False.elim h
      | cont => exact False.elim h
      | ret u =>
        obtain ⟨v, H', os, bare, un, hok', r', q⟩ := h
        have q' : v = .bl true := q
        subst q'
        obtain rfl : u = Value.bool true := r'
        refine ⟨rfl, OldK.of_keep fun b o e => ?_, os, bare⟩
        cases q : H b with
        | none => exact un.keep b o e q (by intro z; exact absurd (show b ∈ ([] : List Addr) from z) (by simp)) (by simp)
        | some u =>
          rcases hO b with z | ⟨ob, xs, z⟩
          · rw [q] at z; cases z
          · have z2 := un.frzs b ob _ z
            obtain ⟨e1, _⟩ := hok b _ z
            obtain ⟨e2, _⟩ := hok' b _ z2
            rw [e] at e1; cases e1
            exact e2
  cases hk : K.lookup a with
  | some o =>
    -- the script is one of the module's own objects
    have e := KX a o hk
    rw [ha] at e
    cases e
    refine core (fun _ => none) (fun _ => .inl rfl) (.inr ⟨_, vs.toArray, _, hk, rfl, rfl, rfl, by rw [List.size_toArray, lenV]; exact hl, by simpa using rv⟩) (fun b u z => by have z' : (none : Option HO) = some u := z; cases z') (fun b z => absurd rfl z) fun z => absurd rfl z
  | none =>
    refine core (fun b => if b = a then some (.frz { cls := .type "list", data := .seq vs.toArray } (.lst (ns.map V.int))) else none) (fun b => ?_) (.inl (.inr ⟨{ cls := .type "list", data := .seq vs.toArray }, if_pos rfl⟩)) (fun b u z => ?_) (fun b z => ?_) fun _ => hk
    · by_cases hb : b = a
      · exact .inr ⟨_, _, if_pos hb⟩
      · exact .inl (if_neg hb)
    · by_cases hb : b = a
      · have z' := (if_pos hb).symm.trans z
        cases z'
        subst hb
        exact ⟨ha, by rw [List.length_map]; exact hl, vs, _, rv, ha⟩
      · have z' := (if_neg hb).symm.trans z
        cases z'
    · by_cases hb : b = a
      · exact hb
      · exact absurd (if_neg hb) z
end L2

namespace L2
open PySem PySem.Spec PyProof.Rows

/-- the goal that k_head leaves (case hc), from the law's promise. F gives the function object fd (K's own) once, then the promise over every base -/
theorem walk_of {l : PySem.W.OpenLaw} {n k : Nat} {q : Program} {loose : List Str} {XP : (Str → Option Value) → Heap → Prop} {YP : World → Heap → Prop} {d : DefRec} {K : Params → PySem.W.Frag} {CX : World → CXT} {sp : World → Sp} {x : Str}
    (hn : l.most = some n) (hn2 : n ≤ sizeLine) (hdf : d.params.defaults = []) (hr : Room k callerA)
    (hY : ∀ (w : World) (h : Heap), YP w h → (K w.params).In h)
    (F : ∀ (w : World) (mg : Str → Option Value) (fa : Addr) (h : Heap), (K w.params).In h → h.Ns mainGlobals mg → mg d.name = some (.ref fa) →
      ∃ fd : FuncData, (∀ (s : Shared) (u : Value), BindsTo s fd ⟨[u], []⟩ [(x, u)]) ∧
        ∀ base : Heap, (K w.params).In base → base.Ns mainGlobals mg → FnOk l.prog w (K w.params) mg base (CX w) k fa fd [x] (sp w))
    (hsp : ∀ (w : World) (H : Hp) (a : Addr) (ns : List Int), ns.length ≤ n → Only H → SqL (K w.params) H a (ns.map V.int) → sp w [.ref a] H (fun v _ => v = .bl true) fun _ _ _ => False)
    (hCX : ∀ (w : World) (H : Hp) (s : Shared) (e : Value) (s' : Shared), CX w [] H s (fun _ _ _ => False) e s' → False) :
    PySem.W.WalkO q loose XP YP l.row.toRowW d [] (fun f vs => PySem.call f vs) := by
  refine Att.attach_call hn hdf fun w s₀ s₁ mg mb fa o pm cd doc a vs ns G Y ho hd hcd hmg hobj hints hlen hg => ?_
  have KX := hY w _ Y
  obtain ⟨fd, hb, hF⟩ := F w mg fa _ KX G.T.g hmg
  exact law_call KX G.T.g G.T.b G.T.builtins G.T.nolimit hg hobj hints (Nat.le_trans hlen hn2) hr hF hb (fun H hO hS => hsp w H a ns hlen hO hS) fun H e s' => hCX w H s₁ e s'
end L2

/- THE LAST THEOREM (shape; LID, My.* are yours):
   My.Adr: a structure of the addresses that your layer names (classes, functions); My.Txt K t: a structure (Prop) of the equations over K;
   My.txt_mk : {K} {implicit addresses ..} (e1 : nsIn K mainGlobals "law" = some (some (.ref f))) (e2 : K.lookup f = some ⟨oc, od, .func (fnOf "law" "law" params body scope dV kV doc pm an cdv ct), sl⟩) (e3 : codeIn K cdv "law" = true) .. : ∃ t, My.Txt K t

set_option maxRecDepth 100000 in
set_option maxHeartbeats 0 in
theorem PySem.Challenge.cw_LID_holds : PySem.Challenge.rw_LID.Holds := by
  w_on; o_law; k_head; (case hw => w_witness2)
  k_fill
  refine L2.walk_of (l := PySem.Challenge.rw_LID) (n := 63) (k := 40) (x := "script") (CX := fun w => ..) (sp := fun _ => My.sp_law) rfl (by decide) rfl ⟨rfl, by decide, by decide⟩ (fun w h Y => PySem.W.kIn_of Y) ?F ?S ?C
  case F =>
    intro w mg fa h KX G hmg
    have T : ∃ t, My.Txt (L2.KOf KX) t := by
      dsimp only [L2.KOf]                          -- K must stand as «<heap const> w.params» for k_is
      refine' My.txt_mk ?e1 ?e2 ?e3 ..
      (case e1 => PySem.W.k_is)                    -- in the order: a name -> its address -> its object -> its parts
      (case e2 => PySem.W.k_is)
      ..
    obtain ⟨t, T⟩ := T
    have e0 := hmg.symm.trans (PySem.W.mg_of KX G T.law)
    cases e0                                       -- fa is the law's own address
    exact ⟨_, fun s u => .of_eq rfl, fun base kb nb => My.law_fn T kb nb⟩     -- if «.of_eq rfl» comes too early: refine' ⟨_, ?b, fun base kb nb => My.law_fn T kb nb⟩; exact fun s u => .of_eq rfl
  case S => exact fun w H a ns hl hO hS => ..
  case C => exact ..
(the tactic k_is has no namespace: write k_is) -/

/-! SHORT WORDS over the layer: a def of the text, its body, what a loop and a test want. -/
namespace L2
open PySem PySem.Spec PyProof.Rows

/-! ### the text by places -/
/-- the j-th statement of a class's body -/
def inClass (s : Stmt) (j : Nat) : Stmt := match s with
  | .ClassDef _ _ _ body _ _ _ _ _ _ _ => body.getD j (.Pass ⟨0, 0, 0, 0⟩)
  | _ => .Pass ⟨0, 0, 0, 0⟩
def defArgs (s : Stmt) : Arguments := match s with
  | .FunctionDef _ a _ _ _ _ _ _ _ _ => a
  | _ => { posonlyargs := [], args := [], vararg := none, kwonlyargs := [], kw_defaults := [], kwarg := none, defaults := [] }
def defBody (s : Stmt) : List Stmt := match s with
  | .FunctionDef _ _ b _ _ _ _ _ _ _ => b
  | _ => []
def defScope (s : Stmt) : Scope := match s with
  | .FunctionDef _ _ _ _ _ _ sc _ _ _ => sc
  | _ => { kind := .function, names := [], isGenerator := false, isCoroutine := false }

/-! ### no exception leaves a def -/
abbrev CX0 : CXT := fun _ _ _ _ _ _ => False
abbrev E0 : XK := fun _ _ _ => False
theorem pass0 {X : Cx} : Passes CX0 X E0 := fun _ _ _ _ _ _ _ h => h.elim

/-! ### a def (or method) of the text as it stands behind the top -/
structure Fun (K : PySem.W.Frag) (x qual : Str) (st : Stmt) (f : Addr) (fd : FuncData) : Prop where
  ex : ∃ (oc : Value) (od : Option Addr) (kV doc pm : Value) (an : Option Addr) (cdv ct : Value) (osl : Array (Option Value)),
    fd = PySem.W.fnOf x qual (defArgs st) (defBody st) (defScope st) .none kV doc pm an cdv ct ∧ K.lookup f = some ⟨oc, od, .func fd, osl⟩ ∧ PySem.W.codeIn K cdv qual = true
  kp : PySem.W.keepIn K (.ref f) = true
section
variable {P : Program} {w : World} {K : PySem.W.Frag} {mg : Str → Option Value} {base : Heap}
/-- THE RULE for a def: its body as a term of rules, and the reading of that term -/
theorem Fun.ok {x qual : Str} {st : Stmt} {f : Addr} {fd : FuncData} {N ps : List Str} {k : Nat} {sp : Sp} (F : Fun K x qual st f fd) (S : FnScope N ps (defScope st)) (len : ∀ vs H Q E, sp vs H Q E → vs.length = ps.length)
    (hbody : ∀ (cdv : Value) (A : Around) (outer : List Env) (s : Shared) (H : Hp) (vs : List V) (Q : VK) (E : XK), Room k (A.deeper (envOfC qual (defScope st) s.heap.objs.size f cdv)) → sp vs H Q E →
      ∃ t, PSs (cxOf CX0 P w K mg base N qual (defScope st) f cdv A outer s H E).nox (defBody st) t ∧ t { nx := fun _ H' => Q .non H', rt := Q } (start N vs) H) : FnOk P w K mg base CX0 (k + 1) f fd ps sp := by
  obtain ⟨oc, od, kV, doc, pm, an, cdv, ct, osl, rfl, lk, hcd⟩ := F.ex
  refine fn_of lk hcd S len fun A outer s H vs Q E hr hsp => ?_
  obtain ⟨t, h, q⟩ := hbody cdv A outer s H vs Q E hr hsp
  exact ⟨t, h.nox, q⟩
/-- how its arguments bind (no defaults): h is «fun _ _ _ _ _ _ us hl => match us, hl with | [_, _], _ => rfl», one _ a parameter -/
theorem Fun.binds {x qual : Str} {st : Stmt} {f : Addr} {fd : FuncData} {ps : List Str} (F : Fun K x qual st f fd)
    (h : ∀ (kV doc pm : Value) (an : Option Addr) (cdv ct : Value) (us : List Value), us.length = ps.length → bindArgs (PySem.W.fnOf x qual (defArgs st) (defBody st) (defScope st) .none kV doc pm an cdv ct) ⟨us, []⟩ = pure (ps.zip us)) : Binds K fd ps [] := by
  obtain ⟨oc, od, kV, doc, pm, an, cdv, ct, osl, rfl, lk, hcd⟩ := F.ex
  exact .all (h kV doc pm an cdv ct)
theorem fun_mk {x qual : Str} {st : Stmt} {f : Addr} {oc : Value} {od an : Option Addr} {osl : Array (Option Value)} {kV doc pm cdv ct : Value} (l : K.lookup f = some ⟨oc, od, .func (PySem.W.fnOf x qual (defArgs st) (defBody st) (defScope st) .none kV doc pm an cdv ct), osl⟩)
    (c : PySem.W.codeIn K cdv qual = true) (k : PySem.W.keepIn K (.ref f) = true) : Fun K x qual st f (PySem.W.fnOf x qual (defArgs st) (defBody st) (defScope st) .none kV doc pm an cdv ct) := ⟨⟨oc, od, kV, doc, pm, an, cdv, ct, osl, rfl, l, c⟩, k⟩
end
theorem small1000 {n : Nat} (h : n ≤ 1000) : n < sizeLine := Nat.lt_of_le_of_lt h (by decide)

/-! ### expressions in short: the name that stands in the i-th slot -/
section
variable {X : Cx}
theorem pv (i : Nat) {x : Str} {pos : Pos} (hN : X.N[i]? = some x := by rfl) (hv : Vis X.env.scope x := by first | exact Or.inl rfl | exact Or.inr (Or.inl rfl) | exact Or.inr (Or.inr rfl)) (hd : (x == ("__debug__" : Str)) = false := by decide)
    (hcd : (x == ("__classdict__" : Str)) = false := by decide) : PE X (.Name x pos) (tVar i) := pe_var hN hv hd hcd
end

/-! ### tests -/
theorem iteF {A B : Prop} (h : B) : if false = true then A else B := by
  rw [if_neg Bool.false_ne_true]
  exact h
theorem iteT {A B : Prop} (h : A) : if true = true then A else B := by
  rw [if_pos rfl]
  exact h
theorem ite2 {c A B : Prop} [Decidable c] (h1 : c → A) (h2 : ¬ c → B) : if c then A else B := by
  by_cases h : c
  · rw [if_pos h]
    exact h1 h
  · rw [if_neg h]
    exact h2 h
theorem iteNS {c A B : Prop} [Decidable c] (hc : c) (h : B) : if (!decide c) = true then A else B := by
  rw [decide_eq_true hc]
  exact iteF h

/-! ### heaps -/
/-- all that was tracked is as it was -/
def Same (H H' : Hp) : Prop := ∀ b o, H b = some o → H' b = some o
theorem Same.refl (H : Hp) : Same H H := fun _ _ h => h
theorem Same.trans {H H1 H2 : Hp} (a : Same H H1) (b : Same H1 H2) : Same H H2 := fun c o h => b c o (a c o h)
theorem Same.free {H H' : Hp} (e : Same H H') {l : Addr} (h : H' l = Option.none) : H l = Option.none := by
  cases q : H l with
  | none => rfl
  | some o =>
    rw [e l o q] at h
    cases h
theorem Same.seq {K : PySem.W.Frag} {H H' : Hp} {a : Addr} {xs : List V} (e : Same H H') (h : SqL K H a xs) : SqL K H' a xs := by
  rcases h with (h | ⟨o, h⟩) | h
  · exact .inl (.inl (e _ _ h))
  · exact .inl (.inr ⟨o, e _ _ h⟩)
  · exact .inr h

end L2

namespace L2
open PySem PySem.Spec PyProof.Rows
section
variable {X : Cx}
end
/-! ### a dict's pairs: keys that differ -/
section
variable {κ : Type} [DecidableEq κ]
end
end L2

set_option Elab.async false

set_option Elab.async false
set_option linter.all false
set_option maxRecDepth 100000
set_option maxHeartbeats 4000000
/-! COMPREHENSIONS over the hand layer: [elt for tg in iter], [elt for tg in iter if c], and name = [..] -/
namespace L2
open PySem PySem.Spec PyProof.Rows

/-! ### what a block's closure is -/
def clos (cells : List (Str × Addr)) : List (Str × NameKind) → List (Str × Addr) → List (Str × Addr)
  | [], acc => acc
  | (n, k) :: r, acc => clos cells r (if k == .free then (n, (cells.lookup n).getD 0) :: acc else acc)
theorem clos_go {env : Env} : ∀ (names : List (Str × NameKind)) (acc : List (Str × Addr)), (∀ x ∈ names, x.2 = .free → ∃ c, env.cells.lookup x.1 = some c) →
    (forIn (m := Sem) names acc fun x r => if (x.2 == NameKind.free) = true then (do let a ← cellOf env x.1; pure (ForInStep.yield ((x.1, a) :: r))) else pure (ForInStep.yield r)) = pure (clos env.cells names acc)
  | [], acc, _ => rfl
  | (n, k) :: r, acc, h => by
    have hr : ∀ x ∈ r, x.2 = .free → ∃ c, env.cells.lookup x.1 = some c := fun x hx => h x (List.mem_cons_of_mem _ hx)
    rw [List.forIn_cons]
    by_cases hk : k = .free
    · subst hk
      obtain ⟨c, hc⟩ := h (n, .free) List.mem_cons_self rfl
      have hc : env.cells.lookup n = some c := hc
      have e : cellOf env n = pure c := by unfold cellOf; rw [hc]
      have q := clos_go r ((n, c) :: acc) hr
      show ((do let a ← cellOf env n; pure (ForInStep.yield ((n, a) :: acc))) >>= _) = _
      rw [e]
      refine Eq.trans ?goalA (Eq.trans q ?goalB)
      case goalA => rfl
      case goalB =>
        show _ = pure (clos env.cells r ((n, (env.cells.lookup n).getD 0) :: acc))
        rw [hc]
        rfl
    · have hb : (k == NameKind.free) = false := by simpa using hk
      have q := clos_go r acc hr
      show ((if (k == NameKind.free) = true then _ else _) >>= _) = pure (clos env.cells r (if k == .free then _ else acc))
      rw [hb]
      exact q
theorem closureFor_eq {scope : Scope} {env : Env} (h : ∀ x ∈ scope.names, x.2 = .free → ∃ c, env.cells.lookup x.1 = some c) : closureFor scope env = pure (clos env.cells scope.names []) := by
  have q := clos_go scope.names [] h
  unfold closureFor
  show (forIn scope.names [] _ >>= fun cs => pure cs) = _
  refine Eq.trans (congrArg (fun t => t >>= fun cs => pure cs) (Eq.trans ?_ q)) ?_
  · rfl
  · rfl
theorem clos_lookup {cells : List (Str × Addr)} : ∀ (names : List (Str × NameKind)) (acc : List (Str × Addr)), (∀ y ∈ names, y.2 = .free → ∃ c, cells.lookup y.1 = some c) → (∀ x c, acc.lookup x = some c → cells.lookup x = some c) →
    ∀ x c, (clos cells names acc).lookup x = some c → cells.lookup x = some c
  | [], acc, _, h2 => h2
  | (n, k) :: r, acc, h1, h2 => by
    have hr : ∀ x ∈ r, x.2 = .free → ∃ c, cells.lookup x.1 = some c := fun x hx => h1 x (List.mem_cons_of_mem _ hx)
    refine clos_lookup r _ hr ?_
    intro x c e
    by_cases hk : k = .free
    · subst hk
      obtain ⟨c', hc⟩ := h1 (n, .free) List.mem_cons_self rfl
      have hc : cells.lookup n = some c' := hc
      rw [show (if (NameKind.free == NameKind.free) = true then (n, (cells.lookup n).getD 0) :: acc else acc) = (n, (cells.lookup n).getD 0) :: acc from rfl, hc] at e
      rw [List.lookup_cons] at e
      cases q : x == n with
      | true =>
        rw [q] at e
        have e1 : x = n := by simpa using q
        have e2 : c' = c := Option.some.inj e
        rw [e1, hc, e2]
      | false =>
        rw [q] at e
        exact h2 x c e
    · have hb : (k == NameKind.free) = false := by simpa using hk
      rw [hb] at e
      exact h2 x c e
theorem clos_has {cells : List (Str × Addr)} : ∀ (names : List (Str × NameKind)) (acc : List (Str × Addr)) (x : Str), ((x, NameKind.free) ∈ names ∨ ∃ c, acc.lookup x = some c) → ∃ c, (clos cells names acc).lookup x = some c
  | [], acc, x, h => h.elim (fun z => nomatch z) id
  | (n, k) :: r, acc, x, h => by
    refine clos_has r _ x ?_
    rcases h with h | ⟨c, h⟩
    · rcases List.mem_cons.mp h with e | e
      · have e1 : x = n := congrArg Prod.fst e
        have e2 : NameKind.free = k := congrArg Prod.snd e
        subst e2
        subst e1
        exact .inr ⟨(cells.lookup x).getD 0, by show List.lookup x ((x, _) :: acc) = _; rw [List.lookup_cons, beq_self_eq_true]⟩
      · exact .inl e
    · right
      by_cases hk : (k == NameKind.free) = true
      · rw [if_pos hk, List.lookup_cons]
        cases x == n with
        | true => exact ⟨_, rfl⟩
        | false => exact ⟨c, h⟩
      · rw [if_neg hk]
        exact ⟨c, h⟩

/-! ### an untracked record of ours is tracked; a tracked list is let go -/
section
variable {X : Cx} {pins : List (Addr × Obj)} {σ : St} {H : Hp} {s : Shared} {a : Addr} {o : HO}
theorem Inv.track (I : Inv X pins σ H s) (hn : H a = none) (h0 : X.s₀.heap.objs.size ≤ a) (hL : a ≠ X.env.locals) (h2 : ∀ x c, X.env.cells.lookup x = some c → c ≠ a) (h3 : ∀ p ∈ X.pn ++ pins, p.1 ≠ a)
    (new : ObjOk X.prog X.w (upd H a o) s.heap a o) : Inv X pins σ (upd H a o) s := by
  have old : ∀ b u, X.s₀.heap.get? b = some u → b ≠ a := fun b u e => Nat.ne_of_lt (Nat.lt_of_lt_of_le (Heap.lt_size e) h0)
  have trk : ∀ b u, H b = some u → b ≠ a := fun b u e z => by rw [z, hn] at e; cases e
  refine ⟨I.ok, I.os, I.bare, ⟨I.base.keep, I.base.slot, fun b u e n hx => ?_, I.base.there, fun b xs e => ?_, fun b u v e => ?_, fun b ps e => ?_⟩, I.loc, I.cell, ?_, fun x c e => ?_, fun p hp => ?_, fun b u e => ?_, I.len⟩
  · rw [upd_ne (old b u e)]; exact I.base.free b u e n hx
  · have q := I.base.tups b xs e; rw [upd_ne (trk _ _ q)]; exact q
  · have q := I.base.frzs b u v e; rw [upd_ne (trk _ _ q)]; exact q
  · obtain ⟨m, q⟩ := I.base.tbls b ps e; exact ⟨m, by rw [upd_ne (trk _ _ q)]; exact q⟩
  · rw [upd_ne (Ne.symm hL)]; exact I.free
  · rw [upd_ne (h2 x c e)]; exact I.freeC x c e
  · obtain ⟨e1, e2, e3⟩ := I.pin p hp
    exact ⟨e1, by rw [upd_ne (h3 p hp)]; exact e2, e3⟩
  · by_cases hb : b = a
    · subst hb; rw [upd_same] at e; cases e; exact new
    · rw [upd_ne hb] at e
      exact (I.hok b u e).stay (fun c v _ q => q) (fun c q => by rw [upd_ne (trk _ _ q)]; exact q) fun c xs q => by rw [upd_ne (trk _ _ q)]; exact q
theorem Inv.untrack {ys : List V} (I : Inv X pins σ (upd H a (.lst ys)) s) (hn : H a = none) : Inv X pins σ H s := by
  have off : ∀ b, upd H a (.lst ys) b = none → H b = none := fun b e => by
    by_cases hb : b = a
    · rw [hb, upd_same] at e; cases e
    · rw [upd_ne hb] at e; exact e
  have off2 : ∀ b u, upd H a (.lst ys) b = some u → u ≠ .lst ys → H b = some u := fun b u e ne => by
    by_cases hb : b = a
    · rw [hb, upd_same] at e; cases e; exact absurd rfl ne
    · rw [upd_ne hb] at e; exact e
  refine ⟨I.ok, I.os, I.bare, ⟨I.base.keep, I.base.slot, fun b u e n hx => off _ (I.base.free b u e n hx), I.base.there, fun b xs e => off2 _ _ (I.base.tups b xs e) (by intro z; cases z), fun b u v e => off2 _ _ (I.base.frzs b u v e) (by intro z; cases z), fun b ps e => ?_⟩, I.loc, I.cell, off _ I.free, fun x c e => off _ (I.freeC x c e), fun p hp => ?_, fun b u e => ?_, I.len⟩
  · obtain ⟨m, q⟩ := I.base.tbls b ps e; exact ⟨m, off2 _ _ q (by intro z; cases z)⟩
  · obtain ⟨e1, e2, e3⟩ := I.pin p hp
    exact ⟨e1, off _ e2, e3⟩
  · have hb : b ≠ a := fun z => by rw [z, hn] at e; cases e
    exact (I.hok b u (by rw [upd_ne hb]; exact e)).stay (fun c v _ q => q) (fun c q => off2 _ _ q (by intro z; cases z)) fun c xs q => off2 _ _ q (by intro z; cases z)
end

/-! ### the names of a block: those of the def first, the block's own behind; ms: which of them keep their values inside -/
def maskS : List Bool → St → St
  | [], _ => []
  | _ :: bs, [] => none :: maskS bs []
  | b :: bs, v :: σ => cond b v none :: maskS bs σ
theorem maskS_length : ∀ (ms : List Bool) (σ : St), (maskS ms σ).length = ms.length
  | [], _ => rfl
  | _ :: bs, [] => by show (maskS bs []).length + 1 = bs.length + 1; rw [maskS_length bs []]
  | b :: bs, v :: σ => by show (maskS bs σ).length + 1 = bs.length + 1; rw [maskS_length bs σ]
theorem maskS_get : ∀ {ms : List Bool} {σ : St} {i : Nat} {v : V}, (maskS ms σ)[i]? = some (some v) → ms[i]? = some true ∧ σ[i]? = some (some v)
  | [], _, i, v, h => by simp [maskS] at h
  | b :: bs, [], 0, v, h => by simp [maskS] at h
  | b :: bs, [], i + 1, v, h => by
    have h' : (maskS bs [])[i]? = some (some v) := h
    have q := (maskS_get (ms := bs) (σ := []) (i := i) h').2
    simp at q
  | true :: bs, w :: σ, 0, v, h => ⟨rfl, h⟩
  | false :: bs, w :: σ, 0, v, h => by simp [maskS] at h
  | b :: bs, w :: σ, i + 1, v, h => by
    have h' : (maskS bs σ)[i]? = some (some v) := h
    exact maskS_get (ms := bs) (σ := σ) (i := i) h'
def okMask (sc : Scope) : List Str → List Str → List Bool → Bool
  | [], _, [] => true
  | x :: N, y :: NX, true :: ms => decide (x = y) && decide (sc.names.lookup x ≠ some .local) && okMask sc N NX ms
  | _ :: N, NX, false :: ms => okMask sc N NX.tail ms
  | _, _, _ => false
theorem okMask_len {sc : Scope} : ∀ {N NX : List Str} {ms : List Bool}, okMask sc N NX ms = true → ms.length = N.length
  | [], _, [], _ => rfl
  | x :: N, y :: NX, true :: ms, h => by
    rw [okMask, Bool.and_eq_true] at h
    rw [List.length_cons, List.length_cons, okMask_len h.2]
  | x :: N, [], false :: ms, h => by
    rw [okMask] at h
    rw [List.length_cons, List.length_cons, okMask_len h]
  | x :: N, y :: NX, false :: ms, h => by
    rw [okMask] at h
    rw [List.length_cons, List.length_cons, okMask_len h]
  | [], _, _ :: _, h => by simp [okMask] at h
  | _ :: _, _, [], h => by simp [okMask] at h
  | _ :: _, [], true :: _, h => by simp [okMask] at h
theorem okMask_at {sc : Scope} : ∀ {N NX : List Str} {ms : List Bool} {i : Nat} {x : Str}, okMask sc N NX ms = true → N[i]? = some x → ms[i]? = some true → NX[i]? = some x ∧ sc.names.lookup x ≠ some .local
  | x :: N, y :: NX, true :: ms, 0, z, h, h1, h2 => by
    rw [okMask, Bool.and_eq_true, Bool.and_eq_true] at h
    have e : x = z := Option.some.inj h1
    have e2 : x = y := of_decide_eq_true h.1.1
    subst e
    exact ⟨by rw [← e2]; rfl, of_decide_eq_true h.1.2⟩
  | x :: N, y :: NX, true :: ms, i + 1, z, h, h1, h2 => by
    rw [okMask, Bool.and_eq_true] at h
    exact okMask_at (i := i) h.2 h1 h2
  | x :: N, NX, false :: ms, 0, z, h, h1, h2 => by simp at h2
  | x :: N, [], false :: ms, i + 1, z, h, h1, h2 => by
    rw [okMask] at h
    have q := (okMask_at (i := i) h h1 h2).1
    simp at q
  | x :: N, y :: NX, false :: ms, i + 1, z, h, h1, h2 => by
    rw [okMask] at h
    exact okMask_at (i := i) h h1 h2
  | [], _, [], i, z, h, h1, h2 => by simp at h1
  | [], _, _ :: _, i, z, h, h1, h2 => by simp [okMask] at h
  | _ :: _, _, [], i, z, h, h1, h2 => by simp [okMask] at h
  | _ :: _, [], true :: _, i, z, h, h1, h2 => by simp [okMask] at h
/-- what is asked of a block's scope: closed, by decide +kernel -/
structure CompScope (out sc : Scope) (NX N : List Str) (ms : List Bool) : Prop where
  kind : sc.kind = .function
  nocell : ∀ x ∈ sc.names, x.2 ≠ .cell
  own : ∀ x ∈ sc.names, x.2 = .local → sc.names.lookup x.1 = some .local
  fre : ∀ x ∈ sc.names, x.2 = .free → out.names.lookup x.1 = some .cell ∨ out.names.lookup x.1 = some .free
  nd : N.Nodup
  mask : okMask sc N NX ms = true
/-- a target that stores in the slots ks alone -/
def Sets (g : TG) (ks : List Nat) : Prop := ∀ (x : V) (σ : St) (H : Hp) (Q Q' : St → Hp → Prop), g x σ H Q → (∀ σ2 H2, (σ2.length = σ.length ∧ ∀ i, i ∉ ks → σ2[i]? = σ[i]?) → Q σ2 H2 → Q' σ2 H2) → g x σ H Q'
theorem sets_name (i : Nat) : Sets (gName i) [i] := fun x σ H Q Q' h k => k _ _ ⟨List.length_set, fun j hj => by
  rw [List.getElem?_set_ne (fun z => hj (by simp [z]))]⟩ h
/-! ### the block's context -/
def cxComp (X : Cx) (sc : Scope) (N : List Str) (C : Addr) (ex : List Addr) (s : Shared) (H : Hp) : Cx :=
  { X with N := N, s₀ := s, H₀ := H, env := compEnvC sc (clos X.env.cells sc.names []) C X.env, outer := X.stack, ex := ex, fn := fun _ => false, pn := [], xe := fun _ _ => False }
/-- tests of a comprehension -/
def PTs (X : Cx) (ifs : List Expr) (t : TT) : Prop :=
  ∀ (pins : List (Addr × Obj)) (s : Shared) (σ : St) (H : Hp) (Q : Bool → Hp → Prop), Inv X pins σ H s → t σ H Q →
    wpAny (model X.prog X.w) X.A (forIn ifs true fun c r => if r = true then do let ok ← isTrue c X.env (eval c X.env); pure (ForInStep.yield ok) else pure (ForInStep.yield r)) (TP X pins σ Q) X.xe s
def tYes : TT := fun _ H Q => Q true H
theorem pts_nil {X : Cx} : PTs X [] tYes := fun pins s σ H Q I h => wpAny_tests_nil ⟨H, I, h⟩
theorem pts_one {X : Cx} {c : Expr} {t : TT} (h : PT X c t) : PTs X [c] t := fun pins s σ H Q I q => wpAny_tests_one (h pins s σ H Q I q)

/-- the reading of a comprehension: W, what holds ahead of the turn i (the items made so far, the heap) -/
def tComp (ms : List Bool) (wi : TI) (g : TG) (tc : TT) (te : TE) : TE := fun σ H Q => wi σ H fun J H1 =>
  ∃ W : Nat → Nat → List V → Hp → Prop, (∃ m, W 0 m [] H1) ∧ ∀ i m ys H, W i m ys H →
    (J.stop i H ∧ ∀ D, H D = none → Q (.ref D) (upd H D (.lst ys))) ∨
    (J.go i H ∧ ys.length < sizeLine ∧ ∃ N : List V → Hp → Prop, (∀ ys' H', N ys' H' → ∃ m', m' < m ∧ W (i + 1) m' ys' H') ∧
      ∀ x H', J.yld i H x H' → g x (maskS ms σ) H' fun σ2 H2 => tc σ2 H2 fun b H3 => if b = true then te σ2 H3 fun v H4 => N (ys ++ [v]) H4 else N ys H3)
section
variable {prog : Program} {w : World} {A : Around} {R : Result → Shared → Prop} {s : Shared}
theorem codeAny_compLoop_own {elt target iter : Expr} {ifs : List Expr} {scope : Scope} {pos : Pos} {it acc : Value} {env : Env} (I : Nat → Shared → Prop)
    (turn : ∀ n s, I n s → wpAny (model prog w) A (pyNext it) (fun r s₁ => match r with
      | none => R (.ok .next) s₁
      | some v => wpAny (model prog w) A (letOwnedTupleGo target it v) (fun _ s₁' => wpAny (model prog w) A (assign target env v) (fun _ s₂ =>
          wpAny (model prog w) A (forIn ifs true fun c r => if r = true then do let ok ← isTrue c env (eval c env); pure (ForInStep.yield ok) else pure (ForInStep.yield r)) (fun ok s₃ =>
            if ok = true then wpAny (model prog w) A (eval elt env) (fun x s₄ =>
              wpAny (model prog w) A (call (.builtin "list.append") [acc, x]) (fun _ s₅ => ∃ m, m < n ∧ I m s₅) (fun _ _ => False) s₄) (fun _ _ => False) s₃
            else ∃ m, m < n ∧ I m s₃) (fun _ _ => False) s₂) (fun _ _ => False) s₁') (fun _ _ => False) s₁) (fun _ _ => False) s)
    (n : Nat) (h : I n s) :
    codeAny (model prog w) A (.compLoop (.ListComp elt [⟨target, iter, ifs, 0⟩] scope pos) 0 it acc env) R s := by
  have fe : ∀ {α : Type} {t : Sem α} {Q : α → Shared → Prop} {E : Value → Shared → Prop} {s : Shared}, wpAny (model prog w) A t Q (fun _ _ => False) s → wpAny (model prog w) A t Q E s := fun h => wpAny_mono h (fun _ _ q => q) fun _ _ f => f.elim
  refine codeAny_loop rfl I (fun n s hI => ?_) n h
  show wpAny _ A ((compTurn (.ListComp elt [⟨target, iter, ifs, 0⟩] scope pos) 0 it acc env).onRaise (fun x => do noteFrame x env; theTreesLotGoes x)) _ _ s
  refine wpAny_noted ?_
  rw [compTurn_list]
  refine wpAny_bind (wpAny_standAt (wpAny_bind (wpAny_mono (turn n s hI) (fun r s₁ h₁ => ?_) fun _ _ f => f.elim)))
  cases r with
  | none => exact wpAny_pure h₁
  | some v =>
    refine wpAny_bind (wpAny_mono h₁ (fun _ s₁' h₁' => ?_) fun _ _ f => f.elim)
    refine wpAny_bind (wpAny_mono h₁' (fun _ s₂ h₂ => wpAny_bind (wpAny_mono h₂ (fun ok s₃ h₃ => ?_) fun _ _ f => f.elim)) fun _ _ f => f.elim)
    cases ok with
    | false => exact wpAny_pure ⟨rfl, h₃⟩
    | true =>
      exact wpAny_bind (wpAny_bind (wpAny_mono h₃ (fun x s₄ h₄ => wpAny_bind (wpAny_mono h₄ (fun _ s₅ h₅ => wpAny_pure (wpAny_pure ⟨rfl, h₅⟩)) fun _ _ f => f.elim)) fun _ _ f => f.elim))
end

/-! ### the rule -/
section
variable {X : Cx} {pins : List (Addr × Obj)} {σ : St} {H : Hp} {s s1 : Shared} {out sc : Scope} {N : List Str} {ms : List Bool}
theorem CompScope.cells (S : CompScope out sc X.N N ms) (ho : X.env.scope = out) (ok : X.Ok) : ∀ x ∈ sc.names, x.2 = .free → ∃ c, X.env.cells.lookup x.1 = some c := fun x hx hf => by
  subst ho
  exact ok.has x.1 (S.fre x hx hf)
theorem lookup_mem {α β : Type} [BEq α] [LawfulBEq α] : ∀ {l : List (α × β)} {x : α} {y : β}, l.lookup x = some y → (x, y) ∈ l
  | [], _, _, h => by simp at h
  | (a, b) :: r, x, y, h => by
    rw [List.lookup_cons] at h
    cases q : x == a with
    | true =>
      rw [q] at h
      have e1 : x = a := by simpa using q
      have e2 : b = y := Option.some.inj h
      rw [e1, e2]
      exact List.mem_cons_self
    | false =>
      rw [q] at h
      exact List.mem_cons_of_mem _ (lookup_mem h)
/-- the names of a block as relabelled: local stays; what is seen and not local was free -/
theorem relabel_lookup {env : Env} : ∀ {names : List (Str × NameKind)} {x : Str} {k : NameKind}, (∀ y ∈ names, y.2 ≠ .cell) →
    (names.map fun (n, k) => if (k == NameKind.free && env.scope.kind == .function && env.kindOf n == some .cell) then (n, NameKind.cell) else (n, k)).lookup x = some k → (k = .cell ∨ k = .free) → names.lookup x = some .free
  | [], _, _, _, h, _ => by simp at h
  | (n, k') :: r, x, k, hc, h, hk => by
    have hc' : ∀ y ∈ r, y.2 ≠ .cell := fun y hy => hc y (List.mem_cons_of_mem _ hy)
    have ih := @relabel_lookup env r x k hc'
    have hk' : k' ≠ .cell := hc (n, k') List.mem_cons_self
    replace h : List.lookup x ((if (k' == NameKind.free && env.scope.kind == .function && env.kindOf n == some .cell) = true then (n, NameKind.cell) else (n, k')) :: _) = some k := h
    cases hx : x == n with
    | true =>
      by_cases hb : (k' == NameKind.free && env.scope.kind == .function && env.kindOf n == some .cell) = true
      · rw [Bool.and_eq_true, Bool.and_eq_true] at hb
        have e : k' = .free := by simpa using hb.1.1
        rw [List.lookup_cons, hx, e]
      · rw [if_neg hb, List.lookup_cons, hx] at h
        have e : k' = k := Option.some.inj h
        rw [List.lookup_cons, hx, e]
        rcases hk with z | z
        · exact absurd (e.trans z) hk'
        · rw [z]
    | false =>
      have h2 : List.lookup x (r.map fun (n, k) => if (k == NameKind.free && env.scope.kind == .function && env.kindOf n == some .cell) then (n, NameKind.cell) else (n, k)) = some k := by
        by_cases hb : (k' == NameKind.free && env.scope.kind == .function && env.kindOf n == some .cell) = true
        · rw [if_pos hb, List.lookup_cons, hx] at h; exact h
        · rw [if_neg hb, List.lookup_cons, hx] at h; exact h
      rw [List.lookup_cons, hx]
      exact ih h2 hk
theorem relabel_local {env : Env} : ∀ {names : List (Str × NameKind)} {x : Str},
    (names.map fun (n, k) => if (k == NameKind.free && env.scope.kind == .function && env.kindOf n == some .cell) then (n, NameKind.cell) else (n, k)).lookup x = some .local → names.lookup x = some .local
  | [], _, h => by simp at h
  | (n, k') :: r, x, h => by
    have ih := @relabel_local env r x
    replace h : List.lookup x ((if (k' == NameKind.free && env.scope.kind == .function && env.kindOf n == some .cell) = true then (n, NameKind.cell) else (n, k')) :: _) = some .local := h
    cases hx : x == n with
    | true =>
      by_cases hb : (k' == NameKind.free && env.scope.kind == .function && env.kindOf n == some .cell) = true
      · rw [if_pos hb, List.lookup_cons, hx] at h
        have e : NameKind.cell = .local := Option.some.inj h
        cases e
      · rw [if_neg hb, List.lookup_cons, hx] at h
        rw [List.lookup_cons, hx]
        exact h
    | false =>
      rw [List.lookup_cons, hx]
      refine ih ?_
      by_cases hb : (k' == NameKind.free && env.scope.kind == .function && env.kindOf n == some .cell) = true
      · rw [if_pos hb, List.lookup_cons, hx] at h; exact h
      · rw [if_neg hb, List.lookup_cons, hx] at h; exact h
/-- a block is entered: its frame at C (the accumulator stands apart) -/
theorem Inv.block (I : Inv X pins σ H s) (S : CompScope out sc X.N N ms) (ho : X.env.scope = out) {C : Addr} {ex : List Addr} {t' : Nat} {h1 : Heap} {m : Str → Option Value} (hex : ∀ b ∈ ex, FpOk X pins H b) (hlt : ∀ b ∈ ex, b < s.heap.objs.size)
    (hC : s.heap.objs.size ≤ C) (hn : h1.Ns C m) (kp : ∀ b o, s.heap.get? b = some o → h1.get? b = some o) : Inv (cxComp X sc N C ex s H) [] (maskS ms σ) H { s with heap := h1, toks := t' } := by
  have hcells := S.cells ho I.ok
  have clk : ∀ x c, (clos X.env.cells sc.names []).lookup x = some c → X.env.cells.lookup x = some c := clos_lookup sc.names [] hcells (fun x c e => by simp at e)
  have seen : ∀ x, ((relabel sc X.env).names.lookup x = some .cell ∨ (relabel sc X.env).names.lookup x = some .free) → sc.names.lookup x = some .free := fun x hx => by
    rcases hx with z | z
    · exact relabel_lookup S.nocell z (.inl rfl)
    · exact relabel_lookup S.nocell z (.inr rfl)
  have hasC : ∀ x, sc.names.lookup x = some .free → ∃ c, (clos X.env.cells sc.names []).lookup x = some c := fun x hx => clos_has sc.names [] x (.inl (lookup_mem hx))
  have ok : (cxComp X sc N C ex s H).Ok := by
    refine ⟨I.ok.mod, S.kind, I.ok.glob, I.ok.blt, hC, fun x y c e1 e2 => I.ok.inj x y c (clk x c e1) (clk y c e2), fun x hx => hasC x (seen x hx), fun x c e => (by cases e), I.ok.hd, I.ok.frames, .inl rfl, fun b hb => ⟨?_, fun x c e => (hex b hb).2.2.2.2.1 x c (clk x c e)⟩, I.bs, ?_, fun b o e hb => ?_, fun b hb hb' => ?_, I.stack, I.stkFree⟩
    · exact Nat.ne_of_lt (Nat.lt_of_lt_of_le (hlt b hb) hC)
    · exact Nat.le_trans I.ok.bsz I.sz
    · rcases (hex b hb).2.2.2.1 with z | z
      · exact I.ok.noex b o e z
      · exact absurd (Nat.lt_of_lt_of_le (Heap.lt_size (I.ok.bs b o e).1) z) (Nat.lt_irrefl _)
    · rcases List.mem_cons.mp (I.stkSub b hb') with z | z
      · exact (hex b hb).2.1 z
      · exact (hex b hb).2.2.1 z
  obtain ⟨m0, _, hl0⟩ := I.loc
  refine ⟨ok, rfl, I.bare, Un.kept kp, ⟨m, hn, fun i x v e1 e2 e3 => ?_⟩, fun x c e => ?_, I.hok.fresh hC, fun x c e => I.freeC x c (clk x c e), fun p hp => absurd hp (by show p ∉ ([] ++ [] : List (Addr × Obj)); simp), I.hok.kept kp, ?_⟩
  · obtain ⟨g1, g2⟩ := maskS_get e2
    obtain ⟨g3, g4⟩ := okMask_at S.mask e1 g1
    have e3 : (relabel sc X.env).names.lookup x = some .local ∨ (relabel sc X.env).names.lookup x = some .cell ∨ (relabel sc X.env).names.lookup x = some .free := e3
    rcases e3 with z | z
    · exact absurd (relabel_local z) g4
    · have q := seen x z
      have w := S.fre (x, .free) (lookup_mem q) rfl
      have w : X.env.scope.names.lookup x = some .cell ∨ X.env.scope.names.lookup x = some .free := by rw [ho]; exact w
      obtain ⟨u, r, l⟩ := hl0 i x v g3 g2 (.inr w)
      refine ⟨u, r, ?_⟩
      rcases l with ⟨l, _⟩ | ⟨_, c, hc, o, hco, hcd⟩
      · have l : X.env.scope.names.lookup x = some .local := l
        rcases w with w | w <;> (rw [l] at w; cases w)
      · obtain ⟨c', hc'⟩ := hasC x q
        have e : c' = c := Option.some.inj ((clk x c' hc').symm.trans hc)
        subst e
        exact .inr ⟨z, c', hc', o, kp _ _ hco, hcd⟩
  · obtain ⟨v, o, hco, hcd⟩ := I.cell x c (clk x c e)
    exact ⟨v, o, kp _ _ hco, hcd⟩
  · rw [maskS_length, okMask_len S.mask]; rfl
variable {elt iter tg : Expr} {ifs : List Expr} {pos : Pos} {wi : TI} {g : TG} {tc : TT} {te : TE} {ks : List Nat}
/-- the block runs: RR is what is wanted at its end -/
theorem comp_core {E : Value → Shared → Prop} {RR : Value → Addr → Result → Shared → Prop} {it : Addr} {fp : List Addr} {tn : Nat → Heap → Prop} {J : It} {Qv : VK} (S : CompScope out sc X.N N ms) (ho : X.env.scope = out) (hc : X.calm = true) (hks : ∀ k ∈ ks, ms[k]? = some false) (hst : Sets g ks)
    (hg : ∀ C ex s H, PG (cxComp X sc N C ex s H) tg g) (ht : ∀ C ex s H, PTs (cxComp X sc N C ex s H) ifs tc) (he : ∀ C ex s H, PE (cxComp X sc N C ex s H) elt te)
    (I : Inv X pins σ H s) (T : Turn X.prog X.w X.K tg J fp it tn) (st0 : tn 0 s.heap) (f0 : ∀ b ∈ fp, FpOk X pins H b)
    (h : ∃ W : Nat → Nat → List V → Hp → Prop, (∃ m, W 0 m [] H) ∧ ∀ i m ys H, W i m ys H →
      (J.stop i H ∧ ∀ D, H D = none → Qv (.ref D) (upd H D (.lst ys))) ∨
      (J.go i H ∧ ys.length < sizeLine ∧ ∃ N : List V → Hp → Prop, (∀ ys' H', N ys' H' → ∃ m', m' < m ∧ W (i + 1) m' ys' H') ∧
        ∀ x H', J.yld i H x H' → g x (maskS ms σ) H' fun σ2 H2 => tc σ2 H2 fun b H3 => if b = true then te σ2 H3 fun v H4 => N (ys ++ [v]) H4 else N ys H3))
    (hRR : ∀ D C H' s' m', Inv X pins σ H' s' → H' C = none → s.heap.objs.size ≤ C → s'.heap.Ns C m' → Qv (.ref D) H' → RR (.ref D) C (.ok .next) s') :
    wpAny (model X.prog X.w) X.A (newList []) (fun acc s₃ => wpAny (model X.prog X.w) X.A (newFunctionEnv sc X.env.globals (clos X.env.cells sc.names []) [] X.env.qual none .none (some X.env)) (fun cenv s₄ =>
      codeAny (model X.prog X.w) X.A (.compStart (.ListComp elt [⟨tg, iter, ifs, 0⟩] sc pos) 0 (.ref it) acc { cenv with scope := relabel sc X.env }) (RR acc cenv.locals) s₄) E s₃) E s := by
  obtain ⟨W, ⟨m0, w0⟩, turn⟩ := h
  refine wpAny_newObj_type (wpAny_newFunctionEnv S.nocell (by intro y hy; simp at hy) (fun h₁ hns₁ hsb₁ => ?_) S.kind)
  dsimp only at hns₁ hsb₁ ⊢
  generalize hH2 : s.heap.push { cls := .type "list", dict := none, data := .seq ([] : List Value).toArray } = H2 at hns₁ hsb₁ ⊢
  generalize hDe : s.heap.objs.size = D at hns₁ hsb₁ ⊢
  generalize hCe : H2.objs.size = C at hns₁ hsb₁ ⊢
  have hCD : C = D + 1 := by rw [← hCe, ← hH2, Heap.size_push, hDe]
  have hDs : s.heap.objs.size ≤ D := Nat.le_of_eq hDe
  have hCs : s.heap.objs.size ≤ C := by omega
  have hDC : D ≠ C := by omega
  have below : ∀ b, b < s.heap.objs.size → b ≠ C ∧ b ≠ D := fun b hb => ⟨by omega, by omega⟩
  have old : ∀ b o, s.heap.get? b = some o → h₁.get? b = some o := fun b o e => hsb₁.extBut b o (below b (Heap.lt_size e)).1 (Heap.get?_push_of_some _ (hH2 ▸ Heap.get?_push_of_some _ e))
  have objD : h₁.get? D = some { cls := .type "list", dict := none, data := .seq ([] : List Value).toArray } := hsb₁.extBut _ _ hDC (Heap.get?_push_of_some _ (hH2 ▸ hDe ▸ Heap.get?_push_size _ rfl))
  have flt : ∀ b ∈ fp, b < s.heap.objs.size := fun b hb => by
    obtain ⟨o, e, _⟩ := T.obj 0 _ st0 b hb
    exact Heap.lt_size e
  have hcells := S.cells ho I.ok
  have clk : ∀ x c, (clos X.env.cells sc.names []).lookup x = some c → c < s.heap.objs.size := fun x c e => by
    obtain ⟨v, o, hco, _⟩ := I.cell x c (clos_lookup sc.names [] hcells (fun x c e => by simp at e) x c e)
    exact Heap.lt_size hco
  generalize hX : cxComp X sc N C fp s H = Y
  have hgY : PG Y tg g := hX ▸ hg C fp s H
  have htY : PTs Y ifs tc := hX ▸ ht C fp s H
  have heY : PE Y elt te := hX ▸ he C fp s H
  have Yprog : Y.prog = X.prog := by rw [← hX]; rfl
  have Yw : Y.w = X.w := by rw [← hX]; rfl
  have YK : Y.K = X.K := by rw [← hX]; rfl
  have Ycalm : Y.calm = true := by rw [← hX]; exact hc
  have YA : Y.A = X.A := by rw [← hX]; rfl
  have Yxe : Y.xe = fun _ _ => False := by rw [← hX]; rfl
  have Ypn : Y.pn = [] := by rw [← hX]; rfl
  have Yex : Y.ex = fp := by rw [← hX]; rfl
  have Ys0 : Y.s₀ = s := by rw [← hX]; rfl
  have YH0 : Y.H₀ = H := by rw [← hX]; rfl
  have Yfs : Y.fs = frs X.stack := by rw [← hX]; rfl
  have YL : Y.env.locals = C := by rw [← hX]; rfl
  have Ycl : Y.env.cells = clos X.env.cells sc.names [] := by rw [← hX]; rfl
  have Yenv : Y.env = { (newEnv sc C X.env.globals (clos X.env.cells sc.names []) X.env.qual none .none (some X.env) 0) with scope := relabel sc X.env } := by rw [← hX]; rfl
  have IY0 : ∀ t', Inv Y [] (maskS ms σ) H { s with heap := h₁, toks := t' } := fun t' => by rw [← hX]; exact I.block S ho f0 flt hCs hns₁ old
  have fpY : ∀ {H' : Hp} {ps : List (Addr × Obj)}, (∀ b ∈ fp, H' b = none) → (∀ p ∈ ps, p.1 = D) → ∀ b ∈ fp, FpOk Y ps H' b := fun {H' ps} hn hp b hb => by
    refine ⟨hn b hb, by rw [YL]; exact (below b (flt b hb)).1, fun z => ?_, .inl (by rw [Yex]; exact hb), fun x c e z => ?_, fun p hp' z => ?_⟩
    · rw [Yfs] at z
      rcases List.mem_cons.mp (I.stkSub b z) with y | y
      · exact (f0 b hb).2.1 y
      · exact (f0 b hb).2.2.1 y
    · rw [Ycl] at e
      exact (f0 b hb).2.2.2.2.1 x c (clos_lookup sc.names [] hcells (fun x c e => by simp at e) x c e) z
    · rw [Ypn] at hp'
      exact (below b (flt b hb)).2 (z.symm.trans (hp p hp'))
  have dY : ∀ {H' : Hp} {ps : List (Addr × Obj)}, H' D = none → (∀ p ∈ ps, p.1 ∈ fp) → FpOk Y ps H' D := fun {H' ps} hn hp => by
    refine ⟨hn, by rw [YL]; exact hDC, fun z => ?_, .inr (by rw [Ys0]; exact hDs), fun x c e z => ?_, fun p hp' z => ?_⟩
    · rw [Yfs] at z
      have q : H D = none := I.stkFree D z
      rcases List.mem_cons.mp (I.stkSub D z) with y | y
      · exact (below _ I.lt).2 y.symm
      · exact I.nofs hDs y
    · rw [Ycl] at e
      exact (below c (clk x c e)).2 z
    · rw [Ypn] at hp'
      exact (below p.1 (flt p.1 (hp p hp'))).2 z
  have wk : ∀ {σ6 : St}, (σ6.length = (maskS ms σ).length ∧ ∀ i, i ∉ ks → σ6[i]? = (maskS ms σ)[i]?) → (∀ (i : Nat) v, (maskS ms σ)[i]? = some (some v) → σ6[i]? = some (some v)) := fun {σ6} hf i v e => by
    rw [hf.2 i (fun z => ?_)]
    · exact e
    · have q := (maskS_get e).1
      rw [hks i z] at q
      cases q
  have loop : ∀ t', codeAny (model X.prog X.w) X.A (.compLoop (.ListComp elt [⟨tg, iter, ifs, 0⟩] sc pos) 0 (.ref it) (.ref D) Y.env) (RR (.ref D) C) { s with heap := h₁, toks := t' } := fun t' => by
    refine codeAny_compLoop_own (fun n s' => ∃ i ys H', Inv Y [] (maskS ms σ) H' s' ∧ tn i s'.heap ∧ (∀ b ∈ fp, H' b = none) ∧ H' D = none ∧ (∃ (its : List Value) (n : Nat), Vals ys its ∧ s'.heap.get? D = some { cls := .type "list", data := .seq its.toArray n }) ∧ ys.length ≤ sizeLine ∧ W i n ys H') ?_ m0
      ⟨0, [], H, IY0 t', T.keep _ _ _ st0 (fun b _ o e => old b o e), fun b hb => (f0 b hb).1, I.hok.fresh hDs, ⟨[], _, .nil, objD⟩, Nat.zero_le _, w0⟩
    rintro n s3 ⟨i, ys, H3, I3, st3, fr3, hD3, ⟨its, nn, vs3, ob3⟩, hl3, w3⟩
    rcases turn i n ys H3 w3 with ⟨stop, qn⟩ | ⟨go, hlen, NN, hN, step⟩
    · have z := T.done Y Yprog Yw YK Ycalm i (pinsAt [D] s3.heap) s3 (maskS ms σ) H3 (fun _ _ => False) (I3.pinned (fp := [D]) (pins := []) (fun b hb => ?c1) (fun b hb => ?c2)) (fpY fr3 (fun p hp => ?c3)) st3 stop
      case c1 => rw [List.mem_singleton.mp hb]; exact dY hD3 (fun p hp => absurd hp (by simp))
      case c2 => rw [List.mem_singleton.mp hb]; exact ⟨_, ob3, fun v e => by cases e⟩
      case c3 => exact List.mem_singleton.mp (of_pinsAt hp).1
      rw [YA] at z
      refine wpAny_mono z (fun r s4 hr4 => ?_) fun _ _ f => f
      obtain ⟨hr, I4⟩ := hr4
      subst hr
      obtain ⟨obD, hD4, _⟩ := I4.pin (D, _) (List.mem_append_right _ (mem_pinsAt (List.mem_singleton.mpr rfl) ob3))
      have b4 := I4.base
      rw [Yfs, Yex, YH0, Ys0] at b4
      have hok4 := I4.hok
      rw [Yprog, Yw] at hok4
      have I5 : Inv X pins σ H3 s4 := I.call' (ch := fp) (by rw [I4.os, Ys0]) b4 hok4 I4.bare (fun b hb => ⟨(f0 b hb).2.2.2.1, (f0 b hb).2.1, (f0 b hb).2.2.2.2.1, (f0 b hb).2.2.2.2.2⟩)
      have nC : H3 C = none := by rw [← YL]; exact I4.free
      obtain ⟨m4, hm4, _⟩ := I4.loc
      rw [YL] at hm4
      refine hRR D C (upd H3 D (.lst ys)) s4 m4 (I5.track hD4 (Nat.le_trans I.sz hDs) (fun z => (below _ I.lt).2 z.symm) (fun x c e => ?_) (fun p hp => ?_) ⟨hl3, its, nn, vs3, obD⟩) (by rw [upd_ne (Ne.symm hDC)]; exact nC) hCs hm4 (qn D hD4)
      · obtain ⟨v, o, hco, _⟩ := I.cell x c e
        exact (below c (Heap.lt_size hco)).2
      · exact (below _ (Heap.lt_size (I.pin p hp).1)).2
    · have z := T.item Y Yprog Yw YK Ycalm i (pinsAt [D] s3.heap) s3 (maskS ms σ) H3 (fun _ _ => False) (I3.pinned (fp := [D]) (pins := []) (fun b hb => ?c1) (fun b hb => ?c2)) (fpY fr3 (fun p hp => ?c3)) st3 go
      case c1 => rw [List.mem_singleton.mp hb]; exact dY hD3 (fun p hp => absurd hp (by simp))
      case c2 => rw [List.mem_singleton.mp hb]; exact ⟨_, ob3, fun v e => by cases e⟩
      case c3 => exact List.mem_singleton.mp (of_pinsAt hp).1
      rw [YA] at z
      refine wpAny_mono z (fun r s4 hr4 => ?_) fun _ _ f => f
      obtain ⟨u, hr, h4⟩ := hr4
      subst hr
      refine wpAny_mono h4 (fun _ s5 h5 => ?_) fun _ _ f => f
      obtain ⟨x, H5, I5, r5, y5, st5, fr5⟩ := h5
      have I5' := I5.pinned (fpY fr5 (fun p hp => List.mem_singleton.mp (of_pinsAt hp).1)) (T.obj _ _ st5)
      have q5 := hst x (maskS ms σ) H5 _ (fun σ2 H2 => (σ2.length = (maskS ms σ).length ∧ ∀ i, i ∉ ks → σ2[i]? = (maskS ms σ)[i]?) ∧ (tc σ2 H2 fun b H3 => if b = true then te σ2 H3 fun v H4 => NN (ys ++ [v]) H4 else NN ys H3)) (step x H5 y5) (fun σ2 H2 f q => ⟨f, q⟩)
      have z5 := hgY _ s5 (maskS ms σ) H5 x u _ I5' r5 q5
      rw [Yprog, Yw, YA, Yxe] at z5
      refine wpAny_mono z5 (fun _ s6 h6 => ?_) fun _ _ f => f
      obtain ⟨σ6, H6, I6, f6, q6⟩ := h6
      have z6 := htY _ s6 σ6 H6 _ I6 q6
      rw [Yprog, Yw, YA, Yxe] at z6
      refine wpAny_mono z6 (fun b s7 h7 => ?_) fun _ _ f => f
      obtain ⟨H7, I7, q7⟩ := h7
      -- what the pins say behind
      have back : ∀ {H8 : Hp} {s8 : Shared}, Inv Y (([] ++ pinsAt [D] s3.heap) ++ pinsAt fp s5.heap) σ6 H8 s8 → (∀ b ∈ fp, H8 b = none) ∧ H8 D = none ∧ s8.heap.get? D = some { cls := .type "list", data := .seq its.toArray nn } ∧ (∀ b ∈ fp, ∀ o, s5.heap.get? b = some o → s8.heap.get? b = some o) ∧ Inv Y (pinsAt fp s5.heap) σ6 H8 s8 := fun {H8 s8} I8 => by
        obtain ⟨obD, hD8, _⟩ := I8.pin (D, _) (List.mem_append_right _ (List.mem_append_left _ (List.mem_append_right _ (mem_pinsAt (List.mem_singleton.mpr rfl) ob3))))
        refine ⟨fun b hb => ?_, hD8, obD, fun b hb o e => (I8.pin (b, o) (List.mem_append_right _ (List.mem_append_right _ (mem_pinsAt hb e)))).1, I8.pins_of fun p hp => I8.pin p (List.mem_append_right _ (List.mem_append_right _ hp))⟩
        obtain ⟨o, e, _⟩ := T.obj _ _ st5 b hb
        exact (I8.pin (b, o) (List.mem_append_right _ (List.mem_append_right _ (mem_pinsAt hb e)))).2.1
      cases b with
      | false =>
        have q7 : NN ys H7 := q7
        obtain ⟨m', hm', w'⟩ := hN _ _ q7
        obtain ⟨k1, k2, k3, k4, k5⟩ := back I7
        show ∃ m, m < n ∧ _
        exact ⟨m', hm', i + 1, ys, H7, (k5.pins_of (fun p hp => absurd hp (by simp))).weak f6.1.symm (wk f6), T.keep _ _ _ st5 k4, k1, k2, ⟨its, nn, vs3, k3⟩, hl3, w'⟩
      | true =>
        have q7 : te σ6 H7 fun v H4 => NN (ys ++ [v]) H4 := q7
        have z7 := heY _ s7 σ6 H7 _ I7 q7
        rw [Yprog, Yw, YA, Yxe] at z7
        show wpAny _ _ _ _ _ _
        refine wpAny_mono z7 (fun v s8 h8 => ?_) fun _ _ f => f
        obtain ⟨v8, H8, I8, r8, q8⟩ := h8
        obtain ⟨k1, k2, k3, k4, k5⟩ := back I8
        have I9 : Inv Y (pinsAt fp s5.heap) σ6 (upd H8 D (.lst ys)) s8 := k5.track k2 (by rw [Ys0]; exact hDs) (by rw [YL]; exact hDC) (fun x c e z => (below c (clk x c (by rw [Ycl] at e; exact e))).2 z) (fun p hp => by
          rw [Ypn] at hp
          exact (below p.1 (flt p.1 (of_pinsAt hp).1)).2) ⟨hl3, its, nn, vs3, k3⟩
        have z8 := mt_append (X := Y) (pinsAt fp s5.heap) s8 σ6 (upd H8 D (.lst ys)) (.ref D) [v8] (.ref D) [v] (fun _ H9 => H9 = upd (upd H8 D (.lst ys)) D (.lst (ys ++ [v8]))) I9 rfl (.cons r8 .nil) ⟨D, ys, v8, rfl, rfl, upd_same, hlen, rfl⟩
        rw [Yprog, Yw, YA, Yxe] at z8
        refine wpAny_mono z8 (fun _ s9 h9 => ?_) fun _ _ f => f
        obtain ⟨_, H9, I9', _, e9⟩ := h9
        subst e9
        rw [upd_upd] at I9'
        have I10 := I9'.untrack k2
        obtain ⟨m', hm', w'⟩ := hN _ _ q8
        have ok9 : ObjOk Y.prog Y.w _ s9.heap D (.lst (ys ++ [v8])) := I9'.hok D _ upd_same
        obtain ⟨l9, its9, n9, vs9, ob9⟩ := ok9
        refine ⟨m', hm', i + 1, ys ++ [v8], H8, (I10.pins_of (fun p hp => absurd hp (by simp))).weak f6.1.symm (wk f6), T.keep _ _ _ st5 (fun b hb o e => ?_), k1, k2, ⟨its9, n9, vs9, ob9⟩, l9, w'⟩
        exact (I10.pin (b, o) (List.mem_append_right _ (mem_pinsAt hb e))).1
  have z := fun t' => codeAny_compStart_list (loop t') (T.self _ 0 _ _ _ (T.keep _ _ _ st0 (fun b _ o e => old b o e)) (loop t'))
  rw [Yenv] at z
  exact z _

/-- [elt for tg in iter (if c)] -/
theorem pe_comp {NX : List Str} (S : CompScope out sc NX N ms) (ho : X.env.scope = out) (hnx : X.N = NX) (hc : X.calm = true) (hi : PI X tg iter wi) (hst : Sets g ks) (hks : ∀ k ∈ ks, ms[k]? = some false)
    (hg : ∀ C ex s H, PG (cxComp X sc N C ex s H) tg g) (ht : ∀ C ex s H, PTs (cxComp X sc N C ex s H) ifs tc) (he : ∀ C ex s H, PE (cxComp X sc N C ex s H) elt te)
    (hs : ∀ x, foldedSetIterable iter X.env x = pure x := by intro _; rfl) : PE X (.ListComp elt [⟨tg, iter, ifs, 0⟩] sc pos) (tComp ms wi g tc te) := by
  intro pins s σ H Q I h
  subst hnx
  rw [eval_ListComp]
  refine wpAny_comprehension_free (use := none) (g := ⟨tg, iter, ifs, 0⟩) (gs := []) rfl hs (closureFor_eq (S.cells ho I.ok)) S.kind S.own (thn (hi pins s σ H _ I h) fun v s1 h1 => thn h1 fun itv s2 h2 => ?_)
  obtain ⟨it, fp, tn, J, H2, e, I2, T, st2, f2, hW⟩ := h2
  subst e
  refine comp_core (Qv := Q) S ho hc hks hst hg ht he I2 T st2 f2 hW ?_
  intro D C H' s' m' I' nC hC hm q
  refine ⟨m', hm, fun h' sb => ⟨.ref D, H', ?_, rfl, q⟩⟩
  exact I'.turned (t' := s'.toks) (it := C) (fun b o hb e => sb.extBut b o hb e) nC (Ne.symm (Nat.ne_of_lt (Nat.lt_of_lt_of_le I2.lt hC))) (.inr (Nat.le_trans I2.sz hC)) (fun x c e => by
    obtain ⟨v, o, hco, _⟩ := I2.cell x c e
    exact Nat.ne_of_lt (Nat.lt_of_lt_of_le (Heap.lt_size hco) hC)) (fun p hp => Nat.ne_of_lt (Nat.lt_of_lt_of_le (Heap.lt_size (I2.pin p hp).1) hC))
end

/-! ### the forms one uses: what holds ahead of the turn i, of the items made and the heap -/
theorem comp_list {K : PySem.W.Frag} {a : Addr} {xs : List V} {B : V → List V → (List V → Hp → Prop) → Hp → Prop} {Z : List V → Hp → Prop} {H : Hp} (Pv : Nat → List V → Hp → Prop) (h0 : Pv 0 [] H) (hl : ∀ i ys H, i ≤ xs.length → Pv i ys H → SqL K H a xs)
    (hy : ∀ i ys H, i < xs.length → Pv i ys H → ys.length < sizeLine) (hs : ∀ i x ys H, xs[i]? = some x → Pv i ys H → B x ys (Pv (i + 1)) H) (hd : ∀ ys H, Pv xs.length ys H → Z ys H) :
    ∃ W : Nat → Nat → List V → Hp → Prop, (∃ m, W 0 m [] H) ∧ ∀ i m ys H, W i m ys H →
      ((Itl K a).stop i H ∧ Z ys H) ∨ ((Itl K a).go i H ∧ ys.length < sizeLine ∧ ∃ N : List V → Hp → Prop, (∀ ys' H', N ys' H' → ∃ m', m' < m ∧ W (i + 1) m' ys' H') ∧ ∀ x H', (Itl K a).yld i H x H' → B x ys N H') := by
  refine ⟨fun i m ys H => m = xs.length - i ∧ i ≤ xs.length ∧ Pv i ys H, ⟨xs.length, by simp, Nat.zero_le _, h0⟩, ?_⟩
  rintro i m ys H ⟨rfl, hi, p⟩
  have q := hl i ys H hi p
  by_cases hlt : i < xs.length
  · refine .inr ⟨⟨xs, xs[i], q, by simp [hlt]⟩, hy i ys H hlt p, Pv (i + 1), fun ys' H' p' => ⟨xs.length - (i + 1), by omega, rfl, hlt, p'⟩, fun x H' y => ?_⟩
    obtain ⟨e, y⟩ := y
    subst e
    exact hs i x ys _ (y xs q) p
  · have e : i = xs.length := by omega
    subst e
    exact .inl ⟨⟨xs, q, Nat.le_refl _⟩, hd ys H p⟩
theorem comp_range {lo : Int} {n : Nat} {B : V → List V → (List V → Hp → Prop) → Hp → Prop} {Z : List V → Hp → Prop} {H : Hp} (Pv : Nat → List V → Hp → Prop) (h0 : Pv 0 [] H)
    (hy : ∀ i ys H, i < n → Pv i ys H → ys.length < sizeLine) (hs : ∀ i ys H, i < n → Pv i ys H → B (.int (lo + i)) ys (Pv (i + 1)) H) (hd : ∀ ys H, Pv n ys H → Z ys H) :
    ∃ W : Nat → Nat → List V → Hp → Prop, (∃ m, W 0 m [] H) ∧ ∀ i m ys H, W i m ys H →
      ((Itr lo n).stop i H ∧ Z ys H) ∨ ((Itr lo n).go i H ∧ ys.length < sizeLine ∧ ∃ N : List V → Hp → Prop, (∀ ys' H', N ys' H' → ∃ m', m' < m ∧ W (i + 1) m' ys' H') ∧ ∀ x H', (Itr lo n).yld i H x H' → B x ys N H') := by
  refine ⟨fun i m ys H => m = n - i ∧ i ≤ n ∧ Pv i ys H, ⟨n, by simp, Nat.zero_le _, h0⟩, ?_⟩
  rintro i m ys H ⟨rfl, hi, p⟩
  by_cases hlt : i < n
  · refine .inr ⟨hlt, hy i ys H hlt p, Pv (i + 1), fun ys' H' p' => ⟨n - (i + 1), by omega, rfl, hlt, p'⟩, fun x H' y => ?_⟩
    obtain ⟨e, y⟩ := y
    subst e y
    exact hs i ys _ hlt p
  · have e : i = n := by omega
    subst e
    exact .inl ⟨Nat.le_refl _, hd ys H p⟩
end L2

set_option Elab.async false
set_option linter.all false
set_option maxRecDepth 100000
set_option maxHeartbeats 4000000
/-! DATA: None, bools, ints, texts, tuples and lists of these, however deep; ==, != and in over them -/
namespace L2
open PySem PySem.Spec PyProof.Rows

inductive Dt where
  | non | bl (b : Bool) | int (i : Int) | str (x : Str) | tup (l : List Dt) | lst (l : List Dt)

mutual
def dEq : Dt → Dt → Bool
  | .non, .non => true
  | .bl a, .bl b => a == b
  | .bl a, .int b => (if a then 1 else 0) == b
  | .int a, .bl b => a == (if b then 1 else 0)
  | .int a, .int b => a == b
  | .str a, .str b => a == b
  | .tup l, .tup m => dEqs l m
  | .lst l, .lst m => dEqs l m
  | _, _ => false
def dEqs : List Dt → List Dt → Bool
  | [], [] => true
  | a :: l, b :: m => dEq a b && dEqs l m
  | _, _ => false
end
mutual
theorem dEq_refl : ∀ d : Dt, dEq d d = true
  | .non => by rw [dEq]
  | .bl a => by rw [dEq]; exact beq_self_eq_true a
  | .int a => by rw [dEq]; exact beq_self_eq_true a
  | .str a => by rw [dEq]; exact beq_self_eq_true a
  | .tup l => by rw [dEq]; exact dEqs_refl l
  | .lst l => by rw [dEq]; exact dEqs_refl l
theorem dEqs_refl : ∀ l : List Dt, dEqs l l = true
  | [] => by rw [dEqs]
  | a :: l => by rw [dEqs, dEq_refl a, dEqs_refl l]; rfl
end
mutual
def dep : Dt → Nat
  | .tup l => deps l + 1
  | .lst l => deps l + 1
  | _ => 0
def deps : List Dt → Nat
  | [] => 0
  | a :: l => max (dep a) (deps l)
end
mutual
def Is (K : PySem.W.Frag) (H : Hp) : Dt → V → Prop
  | .non, v => v = .non
  | .bl b, v => v = .bl b
  | .int i, v => v = .int i
  | .str x, v => v = .str x
  | .tup l, v => ∃ a xs, v = .ref a ∧ SqT K H a xs ∧ Iss K H l xs
  | .lst l, v => ∃ a xs, v = .ref a ∧ SqL K H a xs ∧ Iss K H l xs
def Iss (K : PySem.W.Frag) (H : Hp) : List Dt → List V → Prop
  | [], vs => vs = []
  | d :: l, vs => ∃ v r, vs = v :: r ∧ Is K H d v ∧ Iss K H l r
end
theorem Iss.length {K : PySem.W.Frag} {H : Hp} : ∀ {l : List Dt} {vs : List V}, Iss K H l vs → vs.length = l.length
  | [], vs, h => by rw [Iss] at h; rw [h]; rfl
  | d :: l, vs, h => by
    rw [Iss] at h
    obtain ⟨v, r, rfl, _, h2⟩ := h
    rw [List.length_cons, List.length_cons, Iss.length h2]
theorem Iss.nil {K : PySem.W.Frag} {H : Hp} : Iss K H [] [] := by rw [Iss]
theorem Iss.cons {K : PySem.W.Frag} {H : Hp} {d : Dt} {l : List Dt} {v : V} {r : List V} (h1 : Is K H d v) (h2 : Iss K H l r) : Iss K H (d :: l) (v :: r) := by rw [Iss]; exact ⟨v, r, rfl, h1, h2⟩
theorem Iss.get {K : PySem.W.Frag} {H : Hp} : ∀ {l : List Dt} {vs : List V} {i : Nat} {v : V}, Iss K H l vs → vs[i]? = some v → ∃ d, l[i]? = some d ∧ Is K H d v
  | [], vs, i, v, h, e => by rw [Iss] at h; rw [h] at e; simp at e
  | d :: l, vs, 0, v, h, e => by
    rw [Iss] at h
    obtain ⟨w, r, rfl, h1, h2⟩ := h
    have e : w = v := Option.some.inj e
    subst e
    exact ⟨d, rfl, h1⟩
  | d :: l, vs, i + 1, v, h, e => by
    rw [Iss] at h
    obtain ⟨w, r, rfl, h1, h2⟩ := h
    exact Iss.get h2 (i := i) e
theorem Iss.strs {K : PySem.W.Frag} {H : Hp} : ∀ ns : List Str, Iss K H (ns.map Dt.str) (ns.map V.str)
  | [] => .nil
  | n :: ns => .cons (by rw [Is]) (Iss.strs ns)
/-- data stay where lists and tuples stay -/
theorem Same.tup {K : PySem.W.Frag} {H H' : Hp} {a : Addr} {xs : List V} (e : Same H H') (h : SqT K H a xs) : SqT K H' a xs := by
  rcases h with (h | ⟨o, h⟩) | h
  · exact .inl (.inl (e _ _ h))
  · exact .inl (.inr ⟨o, e _ _ h⟩)
  · exact .inr h
mutual
theorem Is.same {K : PySem.W.Frag} {H H' : Hp} (s : Same H H') : ∀ {d : Dt} {v : V}, Is K H d v → Is K H' d v
  | .non, v, h => by rw [Is] at h ⊢; exact h
  | .bl b, v, h => by rw [Is] at h ⊢; exact h
  | .int i, v, h => by rw [Is] at h ⊢; exact h
  | .str x, v, h => by rw [Is] at h ⊢; exact h
  | .tup l, v, h => by
    rw [Is] at h ⊢
    obtain ⟨a, xs, e, h1, h2⟩ := h
    exact ⟨a, xs, e, s.tup h1, Iss.same s h2⟩
  | .lst l, v, h => by
    rw [Is] at h ⊢
    obtain ⟨a, xs, e, h1, h2⟩ := h
    exact ⟨a, xs, e, s.seq h1, Iss.same s h2⟩
theorem Iss.same {K : PySem.W.Frag} {H H' : Hp} (s : Same H H') : ∀ {l : List Dt} {vs : List V}, Iss K H l vs → Iss K H' l vs
  | [], vs, h => by rw [Iss] at h ⊢; exact h
  | d :: l, vs, h => by
    rw [Iss] at h ⊢
    obtain ⟨v, r, e, h1, h2⟩ := h
    exact ⟨v, r, e, Is.same s h1, Iss.same s h2⟩
end
/-! ### equality -/
def ej (l m : List Dt) (j : Nat) : Bool := match l[j]?, m[j]? with
  | some a, some b => dEq a b
  | _, _ => false
theorem dEqs_all : ∀ l m : List Dt, ((List.range (min l.length m.length)).all (ej l m) && l.length == m.length) = dEqs l m
  | [], [] => by rw [dEqs]; rfl
  | [], b :: m => by simp [dEqs]
  | a :: l, [] => by simp [dEqs]
  | a :: l, b :: m => by
    rw [dEqs, ← dEqs_all l m]
    have e : min (a :: l).length (b :: m).length = min l.length m.length + 1 := by simp only [List.length_cons]; omega
    rw [e, List.range_succ_eq_map, List.all_cons, List.all_map]
    have e2 : (ej (a :: l) (b :: m) ∘ Nat.succ) = ej l m := by funext j; rfl
    have e3 : ej (a :: l) (b :: m) 0 = dEq a b := rfl
    have e4 : ((a :: l).length == (b :: m).length) = (l.length == m.length) := by simp
    rw [e2, e3, e4, Bool.and_assoc]
section
variable {X : Cx} {pins : List (Addr × Obj)} {σ : St} {H : Hp} {s : Shared}
theorem Inv.tupleD {K : PySem.W.Frag} (I : Inv X pins σ H s) (hK : X.K = K) {l : List Dt} {v : V} {u : Value} (h : Is K H (.tup l) v) (r : RelV v u) : ∃ (a : Addr) (xs : List V) (its : List Value), v = .ref a ∧ u = .ref a ∧ SqT K H a xs ∧ Iss K H l xs ∧ Vals xs its ∧ s.heap.IsTuple a its.toArray := by
  subst hK
  rw [Is] at h
  obtain ⟨a, xs, rfl, h1, h2⟩ := h
  obtain ⟨its, h3, h4, _⟩ := I.tuple h1
  exact ⟨a, xs, its, rfl, r, h1, h2, h3, h4⟩
theorem Inv.listD {K : PySem.W.Frag} (I : Inv X pins σ H s) (hK : X.K = K) {l : List Dt} {v : V} {u : Value} (h : Is K H (.lst l) v) (r : RelV v u) : ∃ (a : Addr) (xs : List V) (its : List Value), v = .ref a ∧ u = .ref a ∧ SqL K H a xs ∧ Iss K H l xs ∧ Vals xs its ∧ s.heap.IsList a its.toArray := by
  subst hK
  rw [Is] at h
  obtain ⟨a, xs, rfl, h1, h2⟩ := h
  obtain ⟨its, h3, h4, _⟩ := I.list h1
  exact ⟨a, xs, its, rfl, r, h1, h2, h3, h4.isList⟩
mutual
/-- one thing is two data: they are alike -/
theorem eq_same (I : Inv X pins σ H s) : ∀ (d e : Dt) {v : V}, Is X.K H d v → Is X.K H e v → dEq d e = true
  | .tup l, .tup m, v, h1, h2 => by
    rw [Is] at h1; rw [Is] at h2
    obtain ⟨a, xs, rfl, q1, q2⟩ := h1
    obtain ⟨b, ys, e, q3, q4⟩ := h2
    cases e
    have e := I.tuple_inj q1 q3
    subst e
    rw [dEq]
    exact eqs_same I l m q2 q4
  | .lst l, .lst m, v, h1, h2 => by
    rw [Is] at h1; rw [Is] at h2
    obtain ⟨a, xs, rfl, q1, q2⟩ := h1
    obtain ⟨b, ys, e, q3, q4⟩ := h2
    cases e
    have e := I.list_inj q1 q3
    subst e
    rw [dEq]
    exact eqs_same I l m q2 q4
  | .tup l, .lst m, v, h1, h2 => by
    rw [Is] at h1; rw [Is] at h2
    obtain ⟨a, xs, rfl, q1, q2⟩ := h1
    obtain ⟨b, ys, e, q3, q4⟩ := h2
    cases e
    obtain ⟨i1, _, k1, _⟩ := I.tuple q1
    obtain ⟨i2, _, k2, _⟩ := I.list q3
    exact absurd rfl (SeqAt.ne_of_list_tuple k2.isList k1)
  | .lst l, .tup m, v, h1, h2 => by
    rw [Is] at h1; rw [Is] at h2
    obtain ⟨a, xs, rfl, q1, q2⟩ := h1
    obtain ⟨b, ys, e, q3, q4⟩ := h2
    cases e
    obtain ⟨i1, _, k1, _⟩ := I.tuple q3
    obtain ⟨i2, _, k2, _⟩ := I.list q1
    exact absurd rfl (SeqAt.ne_of_list_tuple k2.isList k1)
  | .non, e, v, h1, h2 => by
    rw [Is] at h1; subst h1
    cases e <;> rw [Is] at h2 <;> first | rfl | (exfalso; first | (cases h2; done) | (obtain ⟨_, _, z, _⟩ := h2; cases z))
  | .bl b, e, v, h1, h2 => by
    rw [Is] at h1; subst h1
    cases e <;> rw [Is] at h2 <;> first | (cases h2; rw [dEq]; exact beq_self_eq_true _) | (exfalso; first | (cases h2; done) | (obtain ⟨_, _, z, _⟩ := h2; cases z))
  | .int b, e, v, h1, h2 => by
    rw [Is] at h1; subst h1
    cases e <;> rw [Is] at h2 <;> first | (cases h2; rw [dEq]; exact beq_self_eq_true _) | (exfalso; first | (cases h2; done) | (obtain ⟨_, _, z, _⟩ := h2; cases z))
  | .str b, e, v, h1, h2 => by
    rw [Is] at h1; subst h1
    cases e <;> rw [Is] at h2 <;> first | (cases h2; rw [dEq]; exact beq_self_eq_true _) | (exfalso; first | (cases h2; done) | (obtain ⟨_, _, z, _⟩ := h2; cases z))
  | .tup l, .non, v, h1, h2 => by rw [Is] at h1; rw [Is] at h2; obtain ⟨_, _, z, _⟩ := h1; rw [h2] at z; cases z
  | .tup l, .bl _, v, h1, h2 => by rw [Is] at h1; rw [Is] at h2; obtain ⟨_, _, z, _⟩ := h1; rw [h2] at z; cases z
  | .tup l, .int _, v, h1, h2 => by rw [Is] at h1; rw [Is] at h2; obtain ⟨_, _, z, _⟩ := h1; rw [h2] at z; cases z
  | .tup l, .str _, v, h1, h2 => by rw [Is] at h1; rw [Is] at h2; obtain ⟨_, _, z, _⟩ := h1; rw [h2] at z; cases z
  | .lst l, .non, v, h1, h2 => by rw [Is] at h1; rw [Is] at h2; obtain ⟨_, _, z, _⟩ := h1; rw [h2] at z; cases z
  | .lst l, .bl _, v, h1, h2 => by rw [Is] at h1; rw [Is] at h2; obtain ⟨_, _, z, _⟩ := h1; rw [h2] at z; cases z
  | .lst l, .int _, v, h1, h2 => by rw [Is] at h1; rw [Is] at h2; obtain ⟨_, _, z, _⟩ := h1; rw [h2] at z; cases z
  | .lst l, .str _, v, h1, h2 => by rw [Is] at h1; rw [Is] at h2; obtain ⟨_, _, z, _⟩ := h1; rw [h2] at z; cases z
theorem eqs_same (I : Inv X pins σ H s) : ∀ (l m : List Dt) {vs : List V}, Iss X.K H l vs → Iss X.K H m vs → dEqs l m = true
  | [], [], vs, h1, h2 => by rw [dEqs]
  | [], b :: m, vs, h1, h2 => by rw [Iss] at h1; rw [Iss] at h2; obtain ⟨_, _, z, _⟩ := h2; rw [h1] at z; cases z
  | a :: l, [], vs, h1, h2 => by rw [Iss] at h1; rw [Iss] at h2; obtain ⟨_, _, z, _⟩ := h1; rw [h2] at z; cases z
  | a :: l, b :: m, vs, h1, h2 => by
    rw [Iss] at h1; rw [Iss] at h2
    obtain ⟨v, r, rfl, q1, q2⟩ := h1
    obtain ⟨v', r', e, q3, q4⟩ := h2
    cases e
    rw [dEqs, eq_same I a b q1 q3, eqs_same I l m q2 q4]
    rfl
end
theorem dep_le {d : Dt} : ∀ {l : List Dt} {j : Nat}, l[j]? = some d → dep d ≤ deps l
  | [], j, h => by simp at h
  | a :: l, 0, h => by
    have e : a = d := Option.some.inj h
    subst e
    rw [deps]; omega
  | a :: l, j + 1, h => by
    have q := dep_le (l := l) (j := j) h
    rw [deps]; omega
/-- the items' answers -/
theorem items_eq {A : Around} {l m : List Dt} {xs ys : List V} {us vs : List Value} (ih : ∀ (j : Nat) (d e : Dt) {x y : V} {u v : Value}, l[j]? = some d → m[j]? = some e → Is X.K H d x → Is X.K H e y → RelV x u → RelV y v → SeqAt.EqAt A s u v (dEq d e))
    (h1 : Iss X.K H l xs) (h2 : Iss X.K H m ys) (r1 : Vals xs us) (r2 : Vals ys vs) : ∀ j (q1 : j < us.toArray.size) (q2 : j < vs.toArray.size), SeqAt.EqAt A s us.toArray[j] vs.toArray[j] (ej l m j) := by
  intro j q1 q2
  have q1' : j < us.length := by simpa using q1
  have q2' : j < vs.length := by simpa using q2
  have e1 : us.toArray[j] = us[j] := by simp
  have e2 : vs.toArray[j] = vs[j] := by simp
  rw [e1, e2]
  have lx : j < xs.length := by rw [r1.length]; exact q1'
  have ly : j < ys.length := by rw [r2.length]; exact q2'
  obtain ⟨u, hu, ru⟩ := r1.get (List.getElem?_eq_getElem lx)
  obtain ⟨v, hv, rv⟩ := r2.get (List.getElem?_eq_getElem ly)
  obtain ⟨d, hd, id⟩ := h1.get (List.getElem?_eq_getElem lx)
  obtain ⟨e, he, ie⟩ := h2.get (List.getElem?_eq_getElem ly)
  have e3 : us[j] = u := by rw [List.getElem?_eq_getElem q1'] at hu; exact Option.some.inj hu
  have e4 : vs[j] = v := by rw [List.getElem?_eq_getElem q2'] at hv; exact Option.some.inj hv
  have e5 : ej l m j = dEq d e := by unfold ej; rw [hd, he]
  rw [e3, e4, e5]
  exact ih j d e hd he id ie ru rv
theorem eqs_tup {l m : List Dt} {xs ys : List V} {us vs : List Value} (h1 : Iss X.K H l xs) (h2 : Iss X.K H m ys) (r1 : Vals xs us) (r2 : Vals ys vs) : ((List.range (min us.toArray.size vs.toArray.size)).all (ej l m) && us.toArray.size == vs.toArray.size) = dEqs l m := by
  have e1 : us.toArray.size = l.length := by rw [List.size_toArray, ← r1.length, h1.length]
  have e2 : vs.toArray.size = m.length := by rw [List.size_toArray, ← r2.length, h2.length]
  rw [e1, e2, dEqs_all]
/-- == of data, the answer that is asked for -/
theorem eqAt_D (I : Inv X pins σ H s) : ∀ (n : Nat) (A : Around) (d e : Dt) {x y : V} {u v : Value}, dep d ≤ n → A.units + n + 1 < cLine → Is X.K H d x → Is X.K H e y → RelV x u → RelV y v → SeqAt.EqAt A s u v (dEq d e) := by
  intro n
  induction n with
  | zero =>
    intro A d e x y u v hn hu h1 h2 r1 r2
    have hu0 : A.units < cLine := by omega
    cases d with
    | tup l => rw [dep] at hn; omega
    | lst l => rw [dep] at hn; omega
    | _ => 
      rw [Is] at h1; subst h1
      cases e with
      | tup m =>
        obtain ⟨a, xs, its, rfl, rfl, q1, q2, q3, q4⟩ := I.tupleD rfl h2 r2
        first
          | (cases r1; exact SeqAt.EqAt.none_tuple q4 hu0)
          | (cases r1; exact SeqAt.EqAt.bool_tuple _ q4 hu0)
          | (obtain ⟨t, rfl⟩ := r1; exact SeqAt.EqAt.int_tuple _ t q4 hu0)
          | (obtain ⟨t, rfl⟩ := r1; exact SeqAt.EqAt.str_tuple _ t q4 hu0)
      | lst m =>
        obtain ⟨a, xs, its, rfl, rfl, q1, q2, q3, q4⟩ := I.listD rfl h2 r2
        first
          | (cases r1; exact SeqAt.EqAt.none_list q4 hu0)
          | (cases r1; exact SeqAt.EqAt.bool_list _ q4 hu0)
          | (obtain ⟨t, rfl⟩ := r1; exact SeqAt.EqAt.int_list _ t q4 hu0)
          | (obtain ⟨t, rfl⟩ := r1; exact SeqAt.EqAt.str_list _ t q4 hu0)
      | _ =>
        rw [Is] at h2; subst h2
        exact eqAt_V r1 r2 rfl rfl
  | succ n ih =>
    intro A d e x y u v hn hu h1 h2 r1 r2
    have hu0 : A.units < cLine := by omega
    have hu1 : A.in1.units + n + 1 < cLine := by show A.units + 1 + n + 1 < cLine; omega
    cases d with
    | tup l =>
      obtain ⟨a, xs, its, rfl, rfl, q1, q2, q3, q4⟩ := I.tupleD rfl h1 r1
      rw [dep] at hn
      cases e with
      | tup m =>
        obtain ⟨b, ys, ist, rfl, rfl, p1, p2, p3, p4⟩ := I.tupleD rfl h2 r2
        by_cases hab : a = b
        · subst hab
          rw [eq_same I _ _ h1 h2]
          exact SeqAt.EqAt.same _
        · refine SeqAt.EqAt.of_refs hab ?_
          have z := SeqAt.RcAt.tuples q4 p4 hu0 (items_eq (X := X) (fun j d e {x y u v} hd _ g1 g2 g3 g4 => ih A.in1 d e (Nat.le_trans (dep_le hd) (by omega)) hu1 g1 g2 g3 g4) q2 p2 q3 p3)
          rw [eqs_tup q2 p2 q3 p3] at z
          rw [dEq]
          exact z
      | lst m =>
        obtain ⟨b, ys, ist, rfl, rfl, p1, p2, p3, p4⟩ := I.listD rfl h2 r2
        exact SeqAt.EqAt.tuple_list q4 p4 hu0
      | non => rw [Is] at h2; subst h2; cases r2; exact SeqAt.EqAt.tuple_none q4 hu0
      | bl b => rw [Is] at h2; subst h2; cases r2; exact SeqAt.EqAt.tuple_bool _ q4 hu0
      | int i => rw [Is] at h2; subst h2; obtain ⟨t, rfl⟩ := r2; exact SeqAt.EqAt.tuple_int _ t q4 hu0
      | str i => rw [Is] at h2; subst h2; obtain ⟨t, rfl⟩ := r2; exact SeqAt.EqAt.tuple_str _ t q4 hu0
    | lst l =>
      obtain ⟨a, xs, its, rfl, rfl, q1, q2, q3, q4⟩ := I.listD rfl h1 r1
      rw [dep] at hn
      cases e with
      | lst m =>
        obtain ⟨b, ys, ist, rfl, rfl, p1, p2, p3, p4⟩ := I.listD rfl h2 r2
        by_cases hab : a = b
        · subst hab
          rw [eq_same I _ _ h1 h2]
          exact SeqAt.EqAt.same _
        · refine SeqAt.EqAt.of_refs hab ?_
          rw [dEq]
          have ei := eqs_tup q2 p2 q3 p3
          by_cases hz : its.toArray.size = ist.toArray.size
          · have z := SeqAt.RcAt.lists q4 p4 hz hu0 (items_eq (X := X) (fun j d e {x y u v} hd _ g1 g2 g3 g4 => ih A.in1 d e (Nat.le_trans (dep_le hd) (by omega)) hu1 g1 g2 g3 g4) q2 p2 q3 p3)
            rw [← hz, Nat.min_self, beq_self_eq_true, Bool.and_true] at ei
            rw [ei] at z
            exact z
          · have hz' : (its.toArray.size == ist.toArray.size) = false := by simpa using hz
            rw [hz', Bool.and_false] at ei
            rw [← ei]
            exact SeqAt.RcAt.lists_lengths q4 p4 (by simpa using hz) hu0
      | tup m =>
        obtain ⟨b, ys, ist, rfl, rfl, p1, p2, p3, p4⟩ := I.tupleD rfl h2 r2
        exact SeqAt.EqAt.list_tuple q4 p4 hu0
      | non => rw [Is] at h2; subst h2; cases r2; exact SeqAt.EqAt.list_none q4 hu0
      | bl b => rw [Is] at h2; subst h2; cases r2; exact SeqAt.EqAt.list_bool _ q4 hu0
      | int i => rw [Is] at h2; subst h2; obtain ⟨t, rfl⟩ := r2; exact SeqAt.EqAt.list_int _ t q4 hu0
      | str i => rw [Is] at h2; subst h2; obtain ⟨t, rfl⟩ := r2; exact SeqAt.EqAt.list_str _ t q4 hu0
    | _ =>
      rw [Is] at h1; subst h1
      cases e with
      | tup m =>
        obtain ⟨a, xs, its, rfl, rfl, q1, q2, q3, q4⟩ := I.tupleD rfl h2 r2
        first
          | (cases r1; exact SeqAt.EqAt.none_tuple q4 hu0)
          | (cases r1; exact SeqAt.EqAt.bool_tuple _ q4 hu0)
          | (obtain ⟨t, rfl⟩ := r1; exact SeqAt.EqAt.int_tuple _ t q4 hu0)
          | (obtain ⟨t, rfl⟩ := r1; exact SeqAt.EqAt.str_tuple _ t q4 hu0)
      | lst m =>
        obtain ⟨a, xs, its, rfl, rfl, q1, q2, q3, q4⟩ := I.listD rfl h2 r2
        first
          | (cases r1; exact SeqAt.EqAt.none_list q4 hu0)
          | (cases r1; exact SeqAt.EqAt.bool_list _ q4 hu0)
          | (obtain ⟨t, rfl⟩ := r1; exact SeqAt.EqAt.int_list _ t q4 hu0)
          | (obtain ⟨t, rfl⟩ := r1; exact SeqAt.EqAt.str_list _ t q4 hu0)
      | _ =>
        rw [Is] at h2; subst h2
        exact eqAt_V r1 r2 rfl rfl
end
end L2

set_option Elab.async false
set_option linter.all false
set_option maxRecDepth 100000
set_option maxHeartbeats 4000000
/-! MORE RULES over the hand layer: == and in over data, insert, [::-1], sum, enumerate, whole slices of tuples, sums of tuples, isinstance, classes without __init__ -/
namespace L2
open PySem PySem.Spec PyProof.Rows
section
variable {X : Cx} {a b e o : Expr} {ta tb te : TE} {pos : Pos}
/-! ### ==, !=, in, not in -/
def seqD : Dt → Bool
  | .tup _ => true
  | .lst _ => true
  | _ => false
def rEqD (K : PySem.W.Frag) : R2 := fun x y H Q => ∃ d e, Is K H d x ∧ Is K H e y ∧ seqD d = true ∧ seqD e = true ∧ dep d ≤ 50 ∧ Q (.bl (dEq d e)) H
def rNeD (K : PySem.W.Frag) : R2 := fun x y H Q => ∃ d e, Is K H d x ∧ Is K H e y ∧ seqD d = true ∧ seqD e = true ∧ dep d ≤ 50 ∧ Q (.bl (!dEq d e)) H
theorem eqD_core {pins : List (Addr × Obj)} {s : Shared} {σ : St} {H : Hp} {d e : Dt} {x y : V} {v u : Value} (hu : X.A.units + 60 < cLine) (I : Inv X pins σ H s) (h1 : Is X.K H d x) (h2 : Is X.K H e y) (g1 : seqD d = true) (g2 : seqD e = true) (g3 : dep d ≤ 50) (rx : RelV x v) (ry : RelV y u) :
    SeqAt.RcAt X.A s v u (dEq d e) ∧ SeqAt.RcNeAt X.A s v u (!dEq d e) := by
  have hu0 : X.A.units < cLine := by omega
  have hu1 : X.A.in1.units + 50 + 1 < cLine := by show X.A.units + 1 + 50 + 1 < cLine; omega
  cases d with
  | tup l =>
    obtain ⟨a, xs, its, rfl, rfl, q1, q2, q3, q4⟩ := I.tupleD rfl h1 rx
    rw [dep] at g3
    cases e with
    | tup m =>
      obtain ⟨b, ys, ist, rfl, rfl, p1, p2, p3, p4⟩ := I.tupleD rfl h2 ry
      have it := items_eq (X := X) (A := X.A.in1) (fun j d e {x y u v} hd _ g1 g2 g3 g4 => eqAt_D I 50 X.A.in1 d e (Nat.le_trans (dep_le hd) (by omega)) hu1 g1 g2 g3 g4) q2 p2 q3 p3
      have z1 := SeqAt.RcAt.tuples q4 p4 hu0 it
      have z2 := SeqAt.RcNeAt.tuples q4 p4 hu0 it
      rw [eqs_tup q2 p2 q3 p3] at z1 z2
      rw [dEq]
      exact ⟨z1, z2⟩
    | lst m =>
      obtain ⟨b, ys, ist, rfl, rfl, p1, p2, p3, p4⟩ := I.listD rfl h2 ry
      exact ⟨SeqAt.RcAt.tuple_list q4 p4 hu0, SeqAt.RcNeAt.tuple_list q4 p4 hu0⟩
    | _ => cases g2
  | lst l =>
    obtain ⟨a, xs, its, rfl, rfl, q1, q2, q3, q4⟩ := I.listD rfl h1 rx
    rw [dep] at g3
    cases e with
    | lst m =>
      obtain ⟨b, ys, ist, rfl, rfl, p1, p2, p3, p4⟩ := I.listD rfl h2 ry
      have it := items_eq (X := X) (A := X.A.in1) (fun j d e {x y u v} hd _ g1 g2 g3 g4 => eqAt_D I 50 X.A.in1 d e (Nat.le_trans (dep_le hd) (by omega)) hu1 g1 g2 g3 g4) q2 p2 q3 p3
      rw [dEq]
      have ei := eqs_tup q2 p2 q3 p3
      by_cases hz : its.toArray.size = ist.toArray.size
      · have z1 := SeqAt.RcAt.lists q4 p4 hz hu0 it
        have z2 := SeqAt.RcNeAt.lists q4 p4 hz hu0 it
        rw [← hz, Nat.min_self, beq_self_eq_true, Bool.and_true] at ei
        rw [ei] at z1 z2
        exact ⟨z1, z2⟩
      · have hz' : (its.toArray.size == ist.toArray.size) = false := by simpa using hz
        rw [hz', Bool.and_false] at ei
        rw [← ei]
        exact ⟨SeqAt.RcAt.lists_lengths q4 p4 (by simpa using hz) hu0, SeqAt.RcNeAt.lists_lengths q4 p4 (by simpa using hz) hu0⟩
    | tup m =>
      obtain ⟨b, ys, ist, rfl, rfl, p1, p2, p3, p4⟩ := I.tupleD rfl h2 ry
      exact ⟨SeqAt.RcAt.list_tuple q4 p4 hu0, SeqAt.RcNeAt.list_tuple q4 p4 hu0⟩
    | _ => cases g2
  | _ => cases g1
theorem op_eqD (hu : X.A.units + 60 < cLine) : OpR X (compareOp .Eq) (rEqD X.K) := by
  intro pins s σ H x y v u Q I rx ry h
  obtain ⟨d, e, h1, h2, g1, g2, g3, q⟩ := h
  exact (eqD_core hu I h1 h2 g1 g2 g3 rx ry).1 _ _ _ _ ⟨.bl (dEq d e), H, I, rfl, q⟩
theorem op_neD (hu : X.A.units + 60 < cLine) : OpR X (compareOp .NotEq) (rNeD X.K) := by
  intro pins s σ H x y v u Q I rx ry h
  obtain ⟨d, e, h1, h2, g1, g2, g3, q⟩ := h
  exact (eqD_core hu I h1 h2 g1 g2 g3 rx ry).2 _ _ _ _ ⟨.bl (!dEq d e), H, I, rfl, q⟩
end
section
variable {X : Cx} {a b e o : Expr} {ta tb te : TE} {pos : Pos}
open Classical in
/-! ### xs.insert(i, e), 0 ≤ i -/
/-! ### xs[::-1] -/
/-! ### sum(xs) of ints -/
/-! ### slices of tuples, the whole among them; sums of tuples, empty ones among them -/
/-! ### isinstance(x, T), T a built-in type or an own class -/
theorem call_isinst : CallR X (.builtin "isinstance") (fun xs H Q => ∃ x n t b, xs = [x, .ty n] ∧ TyOf X.K H x t ∧ PySem.W.kitOne X.K t (.type n) = some b ∧ Q (.bl b) H) := by
  intro pins s σ H xs us Q I r h
  obtain ⟨x, n, t, b, rfl, ty, e, q⟩ := h
  obtain ⟨u, w', rfl, ru, rw'⟩ := vals2 r
  cases (show w' = Value.type n from rw')
  exact isinst_ok I ru ty e fun tk => ⟨.bl b, H, I.tok tk, rfl, q⟩
/-! ### C() of a class without __init__ -/
end
/-! ### for i, x in enumerate(xs) -/
section
variable {X : Cx} {a : Expr} {ta : TA} {elts : List Expr} {x1 : Nat} {tpos p pos : Pos}
end
/-! ### displays of written texts, ints: by one look -/
/-! ### a cut: what holds behind a statement, a test, an expression, said once -/
def tCutT (t : TT) : TT := fun σ H Q => ∃ I : Bool → Hp → Prop, t σ H I ∧ ∀ b H', I b H' → Q b H'
theorem pt_cut {X : Cx} {e : Expr} {t : TT} (h : PT X e t) : PT X e (tCutT t) := by
  intro pins s σ H Q I0 h0
  obtain ⟨I, h1, h2⟩ := h0
  exact thn (h pins s σ H _ I0 h1) fun b s' ⟨H', q1, q2⟩ => ⟨H', q1, h2 _ _ q2⟩
end L2

set_option Elab.async false
set_option linter.all false
set_option maxRecDepth 100000
set_option maxHeartbeats 4000000
/-! STILL MORE RULES: texts joined, cut, found; dicts copied and compared; great products; a method of a class that the reading names -/
namespace L2
open PySem PySem.Spec PyProof.Rows
section
variable {X : Cx} {a b e o : Expr} {ta tb te : TE} {pos : Pos}
/-! ### products of great numbers -/
/-! ### ' '.join(xs) -/
theorem strsAre_of : ∀ {ys : List Str} {us : List Value}, Vals (ys.map V.str) us → StrsAre us ys
  | [], us, h => by cases h; exact .nil
  | y :: ys, us, h => by
    cases h with
    | cons r rr =>
      obtain ⟨t, rfl⟩ := r
      exact .cons _ _ (strsAre_of rr)
def rJoin (K : PySem.W.Frag) : V → List V → Hp → VK → Prop := fun x vs H Q => ∃ z p ys, x = .str z ∧ vs = [.ref p] ∧ SqL K H p (ys.map V.str) ∧ (ys.map (·.length)).sum + ys.length * z.length ≤ 16777216 ∧ Q (.str (Txt.join z ys)) H
theorem mt_join : MtR X "str.join" (rJoin X.K) := by
  intro pins s σ H x vs v us Q I rx rv h
  obtain ⟨z, p, ys, rfl, rfl, hx, hl, q⟩ := h
  obtain ⟨t, rfl⟩ := rx
  obtain ⟨u, rfl, ru⟩ := vals1 rv
  cases ru
  obtain ⟨its, r, pl, hz⟩ := I.list hx
  exact join_list pl.isList (strsAre_of r) hl fun t' k => ⟨.str (Txt.join z ys), H, I.tok k, ⟨_, rfl⟩, q⟩
/-! ### x.index(y), y one sign that is there -/
/-! ### x[lo:hi] of a text -/
theorem part_of {v : Value} {o : Option Int} (h : IsPart v o) : ∃ l : Option (Int × Tok), v = partValue l ∧ l.map (·.1) = o := by
  cases h with
  | none => exact ⟨none, rfl, rfl⟩
  | int i t => exact ⟨some (i, t), rfl, rfl⟩
theorem sl_str : SlR X (fun x lo hi H Q => ∃ z, x = .str z ∧ z.length ≤ sizeLine ∧ Q (.str (Txt.slice z lo hi)) H) := by
  intro pins s σ H x v vl vu lo hi sl Q I rx hs pl pu h
  obtain ⟨z, rfl, hz, q⟩ := h
  obtain ⟨t, rfl⟩ := rx
  obtain ⟨l, rfl, el⟩ := part_of pl
  obtain ⟨u, rfl, eu⟩ := part_of pu
  refine ⟨"str", _, F.slot_str_getitem.lookup, typeIs_str s z t, ?_⟩
  refine wpAny_getItem_str_slice (l := l) (u := u) (st := none) hs rfl ?_
  unfold sliceMade slicePicked
  rw [el, eu]
  have e : ∀ t' k, EP X pins σ Q (.str (Txt.slice z lo hi) t') { s with toks := k } := fun t' k => ⟨.str (Txt.slice z lo hi), H, I.tok k, ⟨_, rfl⟩, q⟩
  have hl := Txt.slice_le z lo hi
  unfold Txt.slice at e hl
  refine post_val_or_made (fun hc => ?_) e
  rw [if_neg (show ¬ (((1 : Int) == 1 && (Builtin.Str.strSliceIndices lo hi 1 z.length).length == z.length) = true) from hc)] at hl
  exact Nat.le_trans hl hz
/-! ### list + list, either one read -/
theorem op_catL : OpR X (binaryOp .Add) (fun x y H Q => ∃ l b xs zs, x = .ref l ∧ y = .ref b ∧ SqL X.K H l xs ∧ SqL X.K H b zs ∧ xs.length + zs.length ≤ sizeLine ∧ ∀ p, H p = none → Q (.ref p) (upd H p (.lst (xs ++ zs)))) := by
  intro pins s σ H x y v u Q I rx ry h
  obtain ⟨l, b, xs, zs, rfl, rfl, hH, hB, hz, q⟩ := h
  cases rx
  cases ry
  obtain ⟨its, r, pl, z1⟩ := I.list hH
  obtain ⟨its2, r2, pl2, z2⟩ := I.list hB
  have hl := r.length
  have hl2 := r2.length
  obtain ⟨⟨cls, dd, data, sl⟩, ho, hc, n, hd⟩ := pl.isList
  obtain ⟨⟨cls2, dd2, data2, sl2⟩, ho2, hc2, n2, hd2⟩ := pl2.isList
  simp only at hc hd hc2 hd2
  subst hc hd hc2 hd2
  refine concat_meets ⟨_, ho, rfl⟩ ⟨_, ho2, rfl⟩ noFill_list_add seq_list_add PySem.F.slot_list_add PySem.F.entry_list_add (PySem.F.args_list_add_2 _ _) (list_addW l b its.toArray its2.toArray n n2 dd dd2 sl sl2 (by rw [List.size_toArray, List.size_toArray]; omega)) ⟨ho, ho2, ?_⟩
  have ea : its.toArray ++ its2.toArray = (its ++ its2).toArray := by simp
  rw [ea]
  exact ⟨.ref _, _, I.lnew (t' := s.toks) (r.append r2) (by rw [List.length_append]; omega), rfl, q _ I.fresh⟩
/-! ### dict(d): a copy -/
/-! ### two dicts of the same pairs are alike -/
end
/-! ### o.m(..), the class of o named in the reading -/
/-- a method m of the class C that keeps the promise sp, with room k -/
structure MOk (P : Program) (w : World) (K : PySem.W.Frag) (mg : Str → Option Value) (base : Heap) (k : Nat) (C : Addr) (m : Str) (sp : Sp) : Prop where
  cl : Cls K C
  run : ∃ (f : Addr) (fd : FuncData) (ps : List Str), Meth K C m f ∧ FnOk P w K mg base CX0 k f fd ps sp ∧ Binds K fd ps []
def tMethP (P : Program) (w : World) (K : PySem.W.Frag) (mg : Str → Option Value) (base : Heap) (k : Nat) (m : Str) (ta : TE) (t : TA) : TE := fun σ H Q => ta σ H fun x H1 => ∃ a C dx fs sp, x = .ref a ∧ H1 a = some (.ins C dx fs) ∧ fs.lookup m = none ∧ MOk P w K mg base k C m sp ∧
  t σ H1 fun vs H2 => sp (x :: vs) H2 Q E0
section
variable {X : Cx} {m : Str} {pos apos : Pos} {e o : Expr} {es : List Expr} {ta : TE} {t : TA} {k : Nat}
theorem pe_methP {pl : Sem Bool} (he : PE X o ta) (hr : Room k X.A) (ha : PA X (e :: es) t)
    (hst : starEach (e :: es) X.env = (false, eval e X.env) :: starEach es X.env := by rfl) (hpl : (backTo pos (starEach es X.env)).any (·.1) = false := by rfl)
    (ht : eval (.Call (.Attribute o m apos) (e :: es) [] pos) X.env = (do
      let ov ← eval o X.env
      standAt apos.atName
      let (f, first) ← holding [ov] (getMethod ov m pl)
      callWith pos f first (backTo pos (starEach (e :: es) X.env)) (backToKw pos (keywordEach [] X.env))) := by rfl) :
    PE X (.Call (.Attribute o m apos) (e :: es) [] pos) (tMethP X.prog X.w X.K X.mg X.base k m ta t) := by
  intro pins s σ H Q I h
  refine PySem.W.methodCall_KW (pl := pl) (thn (he pins s σ H _ I h) fun u s1 ⟨x, H1, I1, rx, a, C, dx, fs, sp, ex, ea, l, M, q⟩ => ?_) ht
  subst ex
  obtain rfl : u = Value.ref a := rx
  obtain ⟨c, f, fd, ps, hm, F, hb⟩ := M
  refine getmeth_ok I1 ea c hm l ?_
  refine PySem.W.callWith_K (first := [.ref a]) (h₀ := X.base) I.ok.mod.kin hm.kp (thn (ha pos pins s1 σ H1 _ I1 q) fun us s2 ⟨vs, H2, I2, r, q2⟩ => ⟨I2.kIn, ?_⟩) hst hpl
  exact run_fn (us := .ref a :: us) (vs := .ref a :: vs) (dvs := []) F hr hb .nil pass0 I2 (.cons rfl r) (by rw [List.append_nil]; exact q2)
theorem pe_methP0 {pl : Sem Bool} (he : PE X o ta) (hr : Room k X.A)
    (ht : eval (.Call (.Attribute o m apos) [] [] pos) X.env = (do
      let ov ← eval o X.env
      standAt apos.atName
      let (f, first) ← holding [ov] (getMethod ov m pl)
      callWith pos f first (backTo pos (starEach [] X.env)) (backToKw pos (keywordEach [] X.env))) := by rfl) :
    PE X (.Call (.Attribute o m apos) [] [] pos) (tMethP X.prog X.w X.K X.mg X.base k m ta tNil) := by
  intro pins s σ H Q I h
  refine PySem.W.methodCall_KW (pl := pl) (thn (he pins s σ H _ I h) fun u s1 ⟨x, H1, I1, rx, a, C, dx, fs, sp, ex, ea, l, M, q⟩ => ?_) ht
  subst ex
  obtain rfl : u = Value.ref a := rx
  obtain ⟨c, f, fd, ps, hm, F, hb⟩ := M
  refine getmeth_ok I1 ea c hm l ?_
  exact PySem.W.callWith_K0 (first := [.ref a]) I1.kIn hm.kp (run_fn (us := [.ref a]) (vs := [.ref a]) (dvs := []) F hr hb .nil pass0 I1 (.cons rfl .nil) q)
end
end L2

set_option Elab.async false
set_option linter.all false
set_option maxRecDepth 100000
set_option maxHeartbeats 4000000
/-! xs.count(y), xs.index(y) of flat items -/
namespace L2
open PySem PySem.Spec PyProof.Rows
section
variable {X : Cx}
end
end L2

set_option Elab.async false
set_option linter.all false
set_option maxRecDepth 100000
set_option maxHeartbeats 4000000
/-! range with a step, zip of lists and tuples, x.split(y) -/
namespace L2
open PySem PySem.Spec PyProof.Rows
/-! ### range(a, b, c), c above 0 -/
def Its (lo c : Int) (n : Nat) : It := ⟨fun i _ => i < n, fun i H x H' => H' = H ∧ x = .int (lo + i * c), fun i _ => n ≤ i⟩
theorem turn_steps {P : Program} {w : World} {K : PySem.W.Frag} {tg : Expr} (it : Addr) (lo c : Int) (n : Nat) : Turn P w K tg (Its lo c n) [it] it (fun i h => IsRangeIter h it (lo + (i : Nat) * c) ((n : Int) - (i : Nat)) c) where
  mem := by simp
  obj := fun i h st b hb => by
    have e : b = it := by simpa using hb
    subst e
    exact ⟨_, st, fun v z => by
      have z' : Data.fields _ = Data.cell v := z
      cases z'⟩
  keep := fun i h h' st k => k it (by simp) _ st
  item := by
    intro X hP hw hK hc i pins s σ H E I hf st hg
    subst hP hw hK
    obtain ⟨f0, f1, f2, f3, f4, f5⟩ := hf it (by simp)
    have W := Walks.range (prog := X.prog) (w := X.w) (I.ok.hd hc) it lo c n
    refine W.item i s _ _ hg st fun v h' tk hv st' kk => ?_
    obtain ⟨t, rfl⟩ := hv
    have I1 : Inv X pins σ H { s with heap := h', toks := tk } := I.turned (fun b o hb e => kk b o (by simpa using hb) e) f0 f1 f3 f4 f5
    exact ⟨_, rfl, go_of (s := { s with heap := h', toks := tk }) (n := "range_iterator") st' rfl rfl (by decide) ⟨.int (lo + i * c), H, I1, ⟨t, rfl⟩, ⟨rfl, rfl⟩, st', fun b hb => (hf b hb).1⟩⟩
  done := by
    intro X hP hw hK hc i pins s σ H E I hf st hg
    subst hP hw hK
    obtain ⟨f0, f1, f2, f3, f4, f5⟩ := hf it (by simp)
    exact wpAny_pyNext_range_end (I.ok.hd hc) st (by have : n ≤ i := hg; omega) fun h' eb => ⟨rfl, I.turned (t' := s.toks) (fun b o hb e => eb b o hb e) f0 f1 f3 f4 f5⟩
  self := fun _ _ _ _ _ st h => wpAny_pyIter_rangeiter st h
theorem steps_small {a b c : Int} (ha : 0 ≤ a) (ha' : a < 1000000) (hb : 0 ≤ b) (hb' : b < 1000000) (hc : 0 < c) (hc' : c < 1000000) : Builtin.Range.small a b c = true := by
  have q0 := Int.ediv_nonneg (a := b - a - 1) (b := c)
  have q1 : 0 ≤ b - a - 1 → (b - a - 1) / c ≤ b - a - 1 := fun h => Int.ediv_le_self _ h
  unfold Builtin.Range.small Builtin.Range.rangeSize
  simp only [Builtin.Range.rangeFitsLong, Bool.and_eq_true, Bool.or_eq_true, decide_eq_true_eq, beq_iff_eq, hc, gt_iff_lt, if_true]
  split <;> omega
theorem steps_size {a b c : Int} (hc : 0 < c) : 0 ≤ Builtin.Range.rangeSize a b c := by
  unfold Builtin.Range.rangeSize
  rw [if_pos hc]
  split
  · have := Int.ediv_nonneg (a := b - a - 1) (b := c) (by omega) (by omega)
    omega
  · exact Int.le_refl 0
def iRng3 (ta : TA) : TI := fun σ H R => ta σ H fun vs H1 => ∃ a b c : Int, vs = [.int a, .int b, .int c] ∧ (0 ≤ a ∧ a < 1000000 ∧ 0 ≤ b ∧ b < 1000000 ∧ 0 < c ∧ c < 1000000) ∧ R (Its a c (Builtin.Range.rangeSize a b c).toNat) H1
section
variable {X : Cx} {tg : Expr}
theorem steps_it {pins : List (Addr × Obj)} {σ : St} {H : Hp} {s : Shared} {R : It → Hp → Prop} {E : Value → Shared → Prop} {a b c : Int} {t u v : Tok} {tk : Nat} (I : Inv X pins σ H s) (hs : Builtin.Range.small a b c = true) (hc : 0 < c)
    (q : R (Its a c (Builtin.Range.rangeSize a b c).toNat) H) : wpAny (model X.prog X.w) X.A (pyIter (.ref s.heap.objs.size)) (PIE X pins σ tg R) E { s with heap := s.heap.push { cls := .type "range", data := .fields #[.int a t, .int b u, .int c v] }, toks := tk } := by
  refine wpAny_pyIter_range (IsRange.new ..) hs ?_
  have I1 : Inv X pins σ H { s with heap := s.heap.push { cls := .type "range", data := .fields #[.int a t, .int b u, .int c v] }, toks := tk } := I.kept fun b o e => Heap.get?_push_of_some _ e
  refine ⟨_, [(s.heap.push { cls := .type "range", data := .fields #[.int a t, .int b u, .int c v] }).objs.size], _, _, H, rfl, I1.kept (t' := tk) fun b o e => Heap.get?_push_of_some _ e, turn_steps _ a c (Builtin.Range.rangeSize a b c).toNat, ?_, fun b hb => ?_, q⟩
  · have e1 : a + ((0 : Nat) : Int) * c = a := by simp
    have e2 : (((Builtin.Range.rangeSize a b c).toNat : Nat) : Int) - ((0 : Nat) : Int) = Builtin.Range.rangeSize a b c := by have := steps_size (a := a) (b := b) hc; omega
    show IsRangeIter _ _ (a + ((0 : Nat) : Int) * c) ((((Builtin.Range.rangeSize a b c).toNat : Nat) : Int) - ((0 : Nat) : Int)) c
    rw [e1, e2]
    exact Heap.get?_push_size _ rfl
  · rw [List.mem_singleton.mp hb]
    exact I1.fpOk (Nat.le_refl _) (I1.hok.fresh (Nat.le_refl _))
theorem pi_range3 {a b c : Expr} {ta : TA} {p pos : Pos} (hg : Gl X "range") (hm : X.mg "range" = none) (ha : PA X [a, b, c] ta)
    (hs : starEach [a, b, c] X.env = [(false, eval a X.env), (false, eval b X.env), (false, eval c X.env)] := by rfl) (hs2 : starEach [b, c] X.env = [(false, eval b X.env), (false, eval c X.env)] := by rfl) :
    PI X tg (.Call (.Name "range" p) [a, b, c] [] pos) (iRng3 ta) := by
  intro pins s σ H R I h
  refine Call_ (ld_blt I hg hm boot_range (PyProof.Rows.callWith_type1 (thn (ha pos pins s σ H _ I h) fun us s1 ⟨vs, H1, I1, r1, q1⟩ => ?_) (by rw [hs, hs2]) (by rw [hs2]; rfl)))
  obtain ⟨i, j, k, e, ⟨q1, q2, q3, q4, q5, q6⟩, q⟩ := q1
  subst e
  cases r1 with
  | cons r rr =>
    cases rr with
    | cons r' rr =>
      cases rr with
      | cons r'' rr =>
        cases rr
        obtain ⟨t, rfl⟩ := r
        obtain ⟨t', rfl⟩ := r'
        obtain ⟨t'', rfl⟩ := r''
        exact call_range_3 (by omega) (steps_it I1 (steps_small q1 q2 q3 q4 q5 q6) q5 q) (.inl (PyProof.noPylong_small (by omega)))
end
theorem for_steps {lo c : Int} {n : Nat} {g : TG} {tb : TS} {D : Ends} {σ : St} {H : Hp} (Pv : Nat → St → Hp → Prop) (h0 : Pv 0 σ H)
    (hs : ∀ (i : Nat) σ H, i < n → Pv i σ H → g (.int (lo + i * c)) σ H fun σ2 H2 => tb { D with nx := Pv (i + 1), ct := Pv (i + 1), bk := D.nx } σ2 H2) (hd : ∀ σ H, Pv n σ H → D.nx σ H) :
    ∃ W : Nat → Nat → St → Hp → Prop, (∃ m, W 0 m σ H) ∧ ∀ i m σ H, W i m σ H →
      ((Its lo c n).stop i H ∧ D.nx σ H) ∨ ((Its lo c n).go i H ∧ ∃ N : St → Hp → Prop, (∀ σ' H', N σ' H' → ∃ m', m' < m ∧ W (i + 1) m' σ' H') ∧ ∀ x H', (Its lo c n).yld i H x H' → g x σ H' fun σ2 H2 => tb { D with nx := N, ct := N, bk := D.nx } σ2 H2) := by
  refine ⟨fun i m σ H => m = n - i ∧ i ≤ n ∧ Pv i σ H, ⟨n, by simp, Nat.zero_le _, h0⟩, ?_⟩
  rintro i m σ H ⟨rfl, hi, p⟩
  by_cases hlt : i < n
  · refine .inr ⟨hlt, Pv (i + 1), fun σ' H' p' => ⟨n - (i + 1), by omega, rfl, hlt, p'⟩, fun x H' y => ?_⟩
    obtain ⟨e, y⟩ := y
    subst e y
    exact hs i σ _ hlt p
  · have e : i = n := by omega
    subst e
    exact .inl ⟨Nat.le_refl _, hd σ H p⟩
/-- // by a positive divisor below 2 ** 64 -/
theorem op_fdivB {X : Cx} : OpR X (binaryOp .FloorDiv) (rI (fun _ j => 0 < j ∧ j < 18446744073709551616) fun i j => .int (i / j)) := opI fun i j _ _ _ _ _ hc q => by
  have h1 : (0 : Int) < j := hc.1
  have h2 : j < 18446744073709551616 := hc.2
  refine floordiv_int (by omega) (by rw [Int.fdiv_eq_ediv_of_nonneg i (by omega)]; exact q) (.inl (PyProof.noPylong_of_log2 ?_))
  have h3 : j.natAbs < 2 ^ 64 := by show j.natAbs < 18446744073709551616; omega
  exact Nat.lt_trans ((Nat.log2_lt (by omega)).mpr h3) (by decide)
/-! ### x.split(y) -/
def rSplit : V → List V → Hp → VK → Prop := fun x vs H Q => ∃ z y : Str, x = .str z ∧ vs = [.str y] ∧ (y.length == 0) = false ∧ z.length ≤ sizeLine ∧ (Builtin.Str.partsBetween z (Builtin.Str.occurrences z y 0 z.length (z.length + 1)) y.length).length ≤ sizeLine ∧
  ∀ p, H p = none → Q (.ref p) (upd H p (.lst ((Txt.split z y).map V.str)))
theorem vals_strs : ∀ l : List (Str × Tok), Vals ((l.map (·.1)).map V.str) (strValues l)
  | [] => .nil
  | (x, t) :: l => .cons ⟨t, rfl⟩ (vals_strs l)
theorem mt_split {X : Cx} : MtR X "str.split" rSplit := by
  intro pins s σ H x vs v us Q I rx rv h
  obtain ⟨z, y, rfl, rfl, hy, hz, hn, q⟩ := h
  obtain ⟨t, rfl⟩ := rx
  obtain ⟨u, rfl, ru⟩ := vals1 rv
  obtain ⟨t', rfl⟩ := ru
  have one : (1 : Nat) ≤ sizeLine := by decide
  cases h1 : (decide (z.length < y.length) || decide (Builtin.Str.strKind z < Builtin.Str.strKind y)) with
  | true =>
    have e : Txt.split z y = [z] := if_pos h1
    rw [e] at q
    exact call_meets F.slot_str_split (typeIs_str _ _ _) F.entry_str_split (F.args_str_split_2 _ _) (meets_str_split_cannot_occur z y t t' h1) ⟨.ref _, _, I.lnew (ys := [.str z]) (its := [.str z t]) (t' := s.toks) (.cons ⟨t, rfl⟩ .nil) one, rfl, q _ I.fresh⟩
  | false =>
    cases hf : (Builtin.Str.occurrences z y 0 z.length (z.length + 1)).isEmpty with
    | true =>
      have e : Txt.split z y = [z] := (if_neg (ne_true_of_eq_false h1)).trans (if_pos hf)
      rw [e] at q
      exact call_meets F.slot_str_split (typeIs_str _ _ _) F.entry_str_split (F.args_str_split_2 _ _) (meets_str_split_not_found z y t t' h1 hy hf) ⟨.ref _, _, I.lnew (ys := [.str z]) (its := [.str z t]) (t' := s.toks) (.cons ⟨t, rfl⟩ .nil) one, rfl, q _ I.fresh⟩
    | false =>
      have e : Txt.split z y = Builtin.Str.partsBetween z (Builtin.Str.occurrences z y 0 z.length (z.length + 1)) y.length := (if_neg (ne_true_of_eq_false h1)).trans (if_neg (ne_true_of_eq_false hf))
      rw [e] at q
      refine call_meets F.slot_str_split (typeIs_str _ _ _) F.entry_str_split (F.args_str_split_2 _ _) (meets_str_split_sep z y t t' h1 hy hf hz hn) ?_
      have ev := vals_strs (numbered s.toks (Builtin.Str.partsBetween z (Builtin.Str.occurrences z y 0 z.length (z.length + 1)) y.length))
      rw [numbered_texts, ← strsFrom_eq] at ev
      exact ⟨.ref _, _, I.lnew ev (by rw [List.length_map]; exact hn), rfl, q _ I.fresh⟩
end L2

set_option Elab.async false
set_option linter.all false
set_option maxRecDepth 100000
set_option maxHeartbeats 4000000
/-! for x, y in zip(xs, ys): each a list or a tuple -/
namespace L2
open PySem PySem.Spec PyProof.Rows
section
variable {prog : Program} {w : World} {A : Around} {E : Value → Shared → Prop} {s : Shared}
variable {z TI TO i1 i2 l1 l2 : Addr} {b1 b2 : Bool} {k1 k2 : Nat} {xs ys : Array Value}
end
/-! ### making it -/
/-! ### walking it -/
section
variable {X : Cx} {a b : Expr} {ta : TA} {elts : List Expr} {x1 : Nat} {tpos p pos : Pos}
end
end L2

set_option Elab.async false
set_option linter.all false
set_option maxRecDepth 100000
set_option maxHeartbeats 4000000
/-! C.m(self, ..) of an own class; list(range(a, b)) -/
namespace L2
open PySem PySem.Spec PyProof.Rows
structure CMeth (K : PySem.W.Frag) (C : Addr) (m : Str) (f : Addr) : Prop where
  hg : PySem.W.specialIn K (.ref C) "__getattribute__" = some (some (.builtin "type.__getattribute__"))
  rd : PySem.W.readsIn K C (.type "type") = true
  fc : PySem.W.findCls K (.ref C) (.type "type") m = some (.val (.ref f))
  kp : PySem.W.keepIn K (.ref f) = true
section
variable {X : Cx} {CX : CXT} {k : Nat} {f C : Addr} {fd : FuncData} {ps : List Str} {sp : Sp} {dvs : List V} {ds : List Value} {E : XK} {x m : Str} {p pos apos : Pos} {e : Expr} {es : List Expr} {t : TA}
theorem pe_callC {pl : Sem Bool} (hg : Gl X x) (hm : X.mg x = some (.ref C)) (M : CMeth X.K C m f) (F : FnOk X.prog X.w X.K X.mg X.base CX k f fd ps sp) (hr : Room k X.A) (hb : Binds X.K fd ps ds) (hd : Vals dvs ds) (hx : Passes CX X E) (ha : PA X (e :: es) t)
    (hdb : (x == ("__debug__" : Str)) = false := by decide) (hst : starEach (e :: es) X.env = (false, eval e X.env) :: starEach es X.env := by rfl) (hpl : (backTo pos (starEach es X.env)).any (·.1) = false := by rfl)
    (ht : eval (.Call (.Attribute (.Name x p) m apos) (e :: es) [] pos) X.env = (do
      let ov ← eval (.Name x p) X.env
      standAt apos.atName
      let (f, first) ← holding [ov] (getMethod ov m pl)
      callWith pos f first (backTo pos (starEach (e :: es) X.env)) (backToKw pos (keywordEach [] X.env))) := by rfl) :
    PE X (.Call (.Attribute (.Name x p) m apos) (e :: es) [] pos) (tCall sp dvs E t) := by
  intro pins s σ H Q I h
  refine PySem.W.methodCall_KW (pl := pl) (ld_glob I hg hm ?_ hdb) ht
  refine PySem.W.method_cls I.kIn M.hg (PySem.W.cls_value I.kIn M.rd M.fc rfl ?_)
  have I1 := I.tok (s.toks + 1)
  refine PySem.W.callWith_K (first := []) (h₀ := X.base) I.ok.mod.kin M.kp (thn (ha pos pins _ σ H _ I1 h) fun us s2 ⟨vs, H2, I2, r, q2⟩ => ⟨I2.kIn, ?_⟩) hst hpl
  exact run_fn (us := us) (vs := vs) F hr hb hd hx I2 r q2
end
end L2

set_option Elab.async false
set_option linter.all false
set_option maxRecDepth 100000
set_option maxHeartbeats 4000000
/-! range(a, b) of any ints: small ones and great ones; list(range(a, b)) -/
namespace L2
open PySem PySem.Spec PyProof.Rows
section
variable {X : Cx} {tg a b : Expr} {ta : TA} {p p1 pos pos1 : Pos}
end
/-! ### list(range(a, b)) -/
section
variable {prog : Program} {w : World} {A : Around} {s : Shared} {R : Result → Shared → Prop} {r : Addr} {a b c : Int} {t u v : Tok} {n : Nat}
end
section
variable {X : Cx} {a b : Expr} {ta : TA} {p p1 pos pos1 : Pos}
end
end L2

set_option Elab.async false
set_option linter.all false
set_option maxRecDepth 100000
set_option maxHeartbeats 4000000
namespace L2
open PySem PySem.Spec PyProof.Rows
section
variable {X : Cx}
end
end L2

set_option Elab.async false
set_option linter.all false
set_option maxRecDepth 100000
set_option maxHeartbeats 4000000
namespace NwS
open PySem

def byText (w : World) : Bool := w.params.followText "set-order"
def txt : Value → Str
  | .str x _ => x
  | _ => ⟨#[]⟩
abbrev setObj (es : Array (Int × Value)) (ep : Nat) (t : SetTable) : Obj := { cls := .type "set", dict := none, data := .set es ep t, slots := #[] }

structure SetT (prog : Program) (w : World) (h : Heap) (a : Addr) (ss : List Str) (es : Array (Int × Value)) (ep : Nat) (t : SetTable) : Prop where
  obj : h.get? a = some (setObj es ep t)
  el : ElemsOf (strKind prog w) es.toList
  pm : (es.toList.map (fun e => txt e.2)).Perm ss
  bd : es.size < scanBound
  ft : t.fits es.size = true
  pl : es.size = 0 ∨ t.plain = false
  ld : byText w = false → t.led = true

theorem orStandIn_led (t : SetTable) (n : Nat) : (t.orStandIn n).led = t.led := by
  unfold SetTable.orStandIn; split <;> rfl
theorem layNew_led (t : SetTable) (es : Array (Int × Value)) (h : Int) (x : Value) : (layNew t es h x).2.1.led = t.led := by
  unfold layNew
  split
  · exact orStandIn_led _ _
  · rfl
theorem relayAll_led (t : SetTable) (es : Array (Int × Value)) (n : Nat) : (relayAll t es n).2.1.led = t.led ∧ (t.plain = false → (relayAll t es n).2.1.plain = false) := by
  unfold relayAll
  split
  · rename_i t' order e
    have : t'.led = t.led ∧ t'.plain = t.plain := by
      unfold SetTable.relaid SetTable.laid at e
      simp only [Option.bind_eq_bind, Option.pure_def, Option.bind_eq_some_iff] at e
      obtain ⟨ow, _, e2⟩ := e
      injection e2 with e2
      injection e2 with e2 _
      subst e2
      exact ⟨rfl, rfl⟩
    dsimp only
    split
    · exact ⟨this.1, fun z => this.2.trans z⟩
    · exact ⟨rfl, fun _ => rfl⟩
  · exact ⟨rfl, fun _ => rfl⟩

section
variable {prog : Program} {w : World} {A : Around} {E : Value → Shared → Prop} {s : Shared}

theorem store_get {h : Heap} {a : Addr} {es es' : Array (Int × Value)} {ep : Nat} {t t' : SetTable} (ho : h.get? a = some (setObj es ep t)) :
    (h.update a (Obj.putSet es' t')).get? a = some (setObj es' (ep + 1) t') := by
  have := Heap.get?_update_self (Obj.putSet es' t') ho (by rw [putSet_of es' t' rfl]; rfl)
  rw [putSet_of es' t' rfl] at this; exact this

theorem txt_of {e : Int × Value} {x : Str} (h : (strKind prog w).is x e.2 = true) : txt e.2 = x := by
  obtain ⟨t, e1⟩ := Value.isStrOf_shape (x := x) (v := e.2) h
  rw [e1]; rfl

theorem tail_ok {g : Bool → Sem Unit} (hg : ∀ (b : Bool) (s₁ : Shared) (Q' : Unit → Shared → Prop), Q' () s₁ → wpAny (model prog w) A (g b) Q' E s₁)
    {a : Addr} {es : Array (Int × Value)} {ep : Nat} {t : SetTable} (ho : s.heap.get? a = some (setObj es ep t))
    {es1 : Array (Int × Value)} {t2 : SetTable} {ss : List Str} (hel1 : ElemsOf (strKind prog w) es1.toList) (hpm : (es1.toList.map (fun e => txt e.2)).Perm ss)
    (hb1 : es1.size < scanBound) (hf2 : t2.fits es1.size = true) (hp2 : t2.plain = false) (hl2 : byText w = false → t2.led = true) {wasDummy : Bool} {R : Option Bool → Shared → Prop}
    (h : ∀ h' es' ep' t', Heap.SameBut a s.heap h' → SetT prog w h' a ss es' ep' t' → es'.size = es1.size → R (some true) { s with heap := h' }) :
    wpAny (model prog w) A (do
        storeSet a es1 t2
        if (!wasDummy && t2.tooFull) = true then do
            g (relayAll t2 es1 (SetTable.grown es1.size)).2.2
            storeSet a (relayAll t2 es1 (SetTable.grown es1.size)).1 (relayAll t2 es1 (SetTable.grown es1.size)).2.1
            pure (some true)
          else pure (some true)) R E s := by
  refine wpAny_bind (wpAny_storeSet_of ho rfl ?_ (fits_of_scanBound hb1))
  have ho1 := store_get (es' := es1) (t' := t2) ho
  have hsb1 := Heap.SameBut.update s.heap a (Obj.putSet es1 t2)
  split
  · have hp := relayAll_perm t2 es1 (SetTable.grown es1.size)
    have hfr := relayAll_fits t2 es1 (SetTable.grown es1.size)
    have hld := relayAll_led t2 es1 (SetTable.grown es1.size)
    generalize hRl : relayAll t2 es1 (SetTable.grown es1.size) = Rl at hp hfr hld ⊢
    obtain ⟨es2, t3, gave2⟩ := Rl
    dsimp only at hp hfr hld ⊢
    have hel2 : ElemsOf (strKind prog w) es2.toList := hel1.perm hp
    have hsz : es2.size = es1.size := by rw [← Array.length_toList, hp.length_eq, Array.length_toList]
    have hb2 : es2.size < scanBound := by rw [hsz]; exact hb1
    refine wpAny_bind (hg _ _ _ ?_)
    refine wpAny_bind (wpAny_storeSet_of ho1 rfl ?_ (fits_of_scanBound hb2))
    exact wpAny_pure (h _ es2 _ t3 (hsb1.trans (Heap.SameBut.update _ a _)) ⟨store_get ho1, hel2, (hp.map _).trans hpm, hb2, hfr, .inr (hld.2 hp2), fun z => hld.1.trans (hl2 z)⟩ hsz)
  · exact wpAny_pure (h _ es1 _ t2 hsb1 ⟨ho1, hel1, hpm, hb1, hf2, .inr hp2, hl2⟩ rfl)

theorem add_ok {a : Addr} {ss : List Str} {es : Array (Int × Value)} {ep : Nat} {t : SetTable} {x : Str} {tk : Tok} {Q : Bool → Shared → Prop} (hS : SetT prog w s.heap a ss es ep t) (hroom : es.size + 1 < scanBound)
    (h : ∀ h' es' ep' t' b, Heap.SameBut a s.heap h' → SetT prog w h' a (if x ∈ ss then ss else ss ++ [x]) es' ep' t' → es'.size ≤ es.size + 1 → Q b { s with heap := h' }) :
    wpAny (model prog w) A (setAddHashed a (.str x tk) (hashStr w x)) Q E s := by
  obtain ⟨ho, hel, hpm, hb, hf, hpl, hld⟩ := id hS
  have hkey : (strKind prog w).is x (.str x tk) = true := by simp [strKind, Value.isStrOf]
  have hsc : (Value.str x tk).scannable = true := rfl
  show wpAny (model prog w) A (setAddHashed a (.str x tk) ((strKind prog w).hash x)) Q E s
  unfold setAddHashed setAddHashedIn
  refine wpAny_holding (wpAny_bind (wpAny_setState_of ho rfl hf ?_))
  dsimp only
  rw [byScan_of hsc hb hel]
  simp only [↓reduceIte]
  unfold setAddByScan
  refine wpAny_bind ?_
  refine wpAny_bind (wpAny_rule ?_)
  refine wpAny_bind (wpAny_setScan_of hkey ho rfl hf hel ?_)
  cases hr : List.findIdx? (fun e => (strKind prog w).is x e.2) es.toList with
  | some j =>
    dsimp only
    obtain ⟨hj, hpj, _⟩ := List.findIdx?_eq_some_iff_getElem.mp hr
    have hm : x ∈ ss := hpm.mem_iff.mp (List.mem_map.mpr ⟨es.toList[j], List.getElem_mem hj, txt_of hpj⟩)
    refine wpAny_pure (wpAny_pure ?_)
    have e : s = { s with heap := s.heap } := by cases s; rfl
    rw [e]
    refine h s.heap es ep t _ (Heap.SameBut.refl a s.heap) ?_ (Nat.le_succ _)
    rw [if_pos hm]; exact hS
  | none =>
    dsimp only
    have hm : x ∉ ss := fun z => by
      obtain ⟨e, he, e1⟩ := List.mem_map.mp (hpm.mem_iff.mpr z)
      obtain ⟨⟨k, hk, _⟩, _⟩ := hel e he
      have := List.findIdx?_eq_none_iff.mp hr e he
      rw [txt_of hk] at e1; subst e1
      rw [hk] at this; exact Bool.noConfusion this
    have hgw : ∀ (b : Bool) {s₁ : Shared} {Q' : Unit → Shared → Prop}, Q' () s₁ → wpAny (model prog w) A (match b with | true => rule "set.scan.the-table-gave-way" | false => pure ()) Q' E s₁ :=
      fun b s₁ Q' hq => by cases b <;> first | exact wpAny_pure hq | exact wpAny_rule hq
    have hperm := layNew_perm t es ((strKind prog w).hash x) (.str x tk)
    have hfits := layNew_fits t es ((strKind prog w).hash x) (.str x tk)
    have hled := layNew_led t es ((strKind prog w).hash x) (.str x tk)
    generalize hL : layNew t es ((strKind prog w).hash x) (.str x tk) = L at hperm hfits hled ⊢
    obtain ⟨es1, t1, wasDummy, gave⟩ := L
    dsimp only at hperm hfits hled ⊢
    rw [Array.toList_push] at hperm
    have hel1 : ElemsOf (strKind prog w) es1.toList := (hel.push hkey hsc).perm hperm
    have hpm1 : (es1.toList.map (fun e => txt e.2)).Perm (ss ++ [x]) := by
      refine (hperm.map _).trans ?_
      rw [List.map_append]
      exact hpm.append_right _
    have hsz1 : es1.size = es.size + 1 := by rw [← Array.length_toList, hperm.length_eq, List.length_append, Array.length_toList]; rfl
    have hb1' : es1.size < scanBound := by rw [hsz1]; exact hroom
    refine wpAny_bind (hgw _ ?_)
    have hend : ∀ h' es' ep' t', Heap.SameBut a s.heap h' → SetT prog w h' a (ss ++ [x]) es' ep' t' → es'.size = es1.size → Q true { s with heap := h' } := by
      intro h' es' ep' t' hsb hS' hz
      refine h h' es' ep' t' _ hsb ?_ (by omega)
      rw [if_neg hm]; exact hS'
    split
    · refine wpAny_bind ?_
      rw [hashByValue_scannable 8 hsc]
      refine wpAny_pure ?_
      refine tail_ok ?_ ho hel1 hpm1 hb1' ?_ ?_ ?_ ?_
      · intro b s₁ Q' hq; cases b <;> first | exact wpAny_pure hq | exact wpAny_rule hq
      · exact SetTable.fits_plain_off hfits
      · rfl
      · exact fun z => hled.trans (hld z)
      · intro h' es' ep' t' hsb hS' hz; dsimp only; exact wpAny_pure (hend h' es' ep' t' hsb hS' hz)
    · rename_i hnp
      refine wpAny_bind (wpAny_pure ?_)
      simp only [↓reduceIte]
      refine tail_ok ?_ ho hel1 hpm1 hb1' hfits ?_ ?_ ?_
      · intro b s₁ Q' hq; cases b <;> first | exact wpAny_pure hq | exact wpAny_rule hq
      · simpa using hnp
      · exact fun z => hled.trans (hld z)
      · intro h' es' ep' t' hsb hS' hz; dsimp only; exact wpAny_pure (hend h' es' ep' t' hsb hS' hz)
end
end NwS

set_option Elab.async false
set_option linter.all false
set_option maxRecDepth 100000
set_option maxHeartbeats 4000000
namespace NwS
open PySem
open Sem (wp)

theorem slot_si_next : Slot "set_iterator" "__next__" "set_iterator.__next__" :=
  .of (owner := "set_iterator") (n := "__next__") (by rw [typeLookup_type, builtinLookup_eq_fast]; kernel_rfl) (by decide +kernel) (by decide +kernel) (by decide +kernel)
    (by first | exact .inl (by decide +kernel) | exact .inr (by decide +kernel)) (by rw [isSubtype_type]; kernel_rfl)
theorem slot_si_iter : Slot "set_iterator" "__iter__" "set_iterator.__iter__" :=
  .of (owner := "set_iterator") (n := "__iter__") (by rw [typeLookup_type, builtinLookup_eq_fast]; kernel_rfl) (by decide +kernel) (by decide +kernel) (by decide +kernel)
    (by first | exact .inl (by decide +kernel) | exact .inr (by decide +kernel)) (by rw [isSubtype_type]; kernel_rfl)
theorem entry_si_next : entryFor table "set_iterator.__next__" = some Builtin.«set_iterator.__next__» := entryFor_of_fast (by kernel_rfl)
theorem entry_si_iter : entryFor table "set_iterator.__iter__" = some Builtin.«dict_keyiterator.__iter__» :=
  entryFor_alias (id' := "dict_keyiterator.__iter__") (by kernel_rfl) rfl (by decide +kernel) (by kernel_rfl)
theorem args_si_next (a : Value) : argsOk "set_iterator.__next__" ⟨[a], []⟩ := by unfold argsOk; kernel_rfl
theorem args_si_iter (a : Value) : argsOk "set_iterator.__iter__" ⟨[a], []⟩ := by unfold argsOk; kernel_rfl
theorem entry_set_iter : entryFor table "set.__iter__" = some Builtin.«frozenset.__iter__» :=
  entryFor_alias (id' := "frozenset.__iter__") (by kernel_rfl) rfl (by decide +kernel) (by kernel_rfl)

def SIter (h : Heap) (I a : Addr) (first : Value) (i n ep : Nat) : Prop :=
  ∃ o, h.get? I = some o ∧ o.cls = .type "set_iterator" ∧ o.data = .fields #[first, .int i 0, .ref a, .int n 0, .int ep 0]

theorem perm_erase {α : Type} {l : List α} {i : Nat} (h : i < l.length) : (l[i] :: l.eraseIdx i).Perm l := by
  have e : l = l.take i ++ l[i] :: l.drop (i + 1) := by
    rw [List.getElem_cons_drop h, List.take_append_drop]
  rw [List.eraseIdx_eq_take_drop_succ]
  conv => rhs; rw [e]
  exact List.perm_middle.symm
theorem perm_pick {α : Type} (next : Nat → Nat) : ∀ (n k : Nat) (left : List α) (out : Array α), n = left.length → (pickOrder.go next n k left out).toList.Perm (out.toList ++ left)
  | 0, k, left, out, h => by
    have : left = [] := List.length_eq_zero_iff.mp h.symm
    subst this
    simp [pickOrder.go]
  | n + 1, k, left, out, h => by
    have hl : next k % left.length < left.length := Nat.mod_lt _ (by omega)
    unfold pickOrder.go
    rw [List.getElem?_eq_getElem hl]
    dsimp only
    refine (perm_pick next n (k + 1) _ _ (by rw [List.length_eraseIdx_of_lt hl]; omega)).trans ?_
    rw [Array.toList_push, List.append_assoc]
    exact (perm_erase hl).append_left _
theorem perm_pickOrder {α : Type} (next : Nat → Nat) (xs : Array α) : (pickOrder next xs).toList.Perm xs.toList := by
  have := perm_pick next xs.size 0 xs.toList #[] (by simp)
  simpa [pickOrder] using this

section
variable {prog : Program} {w : World} {A : Around} {E : Value → Shared → Prop} {s : Shared}

theorem wpAny_choose' {M : Model} {src : Source} {n : Nat} {Q : Nat → Shared → Prop} (hn : n ≠ 0) (h : ∀ i d, i < n → Q i { s with drawn := d }) : wpAny M A (choose src n) Q E s := fun Γ p hΓ => by
  unfold choose
  rw [Sem.wp_choose]
  exact ⟨hn, by simpa using h _ _ (Nat.mod_lt _ (Nat.pos_of_ne_zero hn))⟩

theorem drawOrder_ok {α : Type} {M : Model} : ∀ (n : Nat) (xs : List α) {s : Shared} {Q : List α → Shared → Prop}, n = xs.length → (∀ ys d, ys.Perm xs → Q ys { s with drawn := d }) → wpAny M A (drawOrder n xs) Q E s
  | 0, xs, s, Q, h, hQ => by
    have : xs = [] := List.length_eq_zero_iff.mp h.symm
    subst this
    unfold drawOrder
    exact wpAny_pure (hQ [] s.drawn .nil)
  | n + 1, [], s, Q, h, hQ => by simp at h
  | n + 1, x :: xs, s, Q, h, hQ => by
    unfold drawOrder
    refine wpAny_bind (wpAny_choose' (by simp) fun i d hi => ?_)
    rw [List.getElem?_eq_getElem hi]
    dsimp only
    refine wpAny_bind (drawOrder_ok n _ (by rw [List.length_eraseIdx_of_lt hi]; simp at h ⊢; omega) fun ys d' hp => ?_)
    exact wpAny_pure (hQ _ d' ((hp.cons _).trans (perm_erase hi)))

theorem SIter.typeIs {I a : Addr} {f : Value} {i n ep : Nat} (h : SIter s.heap I a f i n ep) : s.TypeIs (.ref I) "set_iterator" := let ⟨o, ho, hc, _⟩ := h; ⟨o, ho, hc⟩
theorem SIter.at {h h' : Heap} {I a : Addr} {f : Value} {i n ep : Nat} (x : SIter h I a f i n ep) (e : ∀ o, h.get? I = some o → h'.get? I = some o) : SIter h' I a f i n ep := let ⟨o, ho, r⟩ := x; ⟨o, e _ ho, r⟩

theorem iter_self {I a : Addr} {f : Value} {i n ep : Nat} {Q : Value → Shared → Prop} (hit : SIter s.heap I a f i n ep) (h : Q (.ref I) s) : wpAny (model prog w) A (pyIter (.ref I)) Q E s := by
  refine wpAny_pyIter_slot hit.typeIs slot_si_iter (wpAny_call_entry slot_si_iter hit.typeIs entry_si_iter ?_ (args_si_iter _))
  show wpAny _ _ (ret (.ref I)) _ _ s
  exact wpAny_pure ⟨_, rfl, "set_iterator", _, hit.typeIs, slot_si_next.lookup, h⟩

/-- the next by its place -/
theorem next_drawn {I a T : Addr} {i p : Nat} {es : Array (Int × Value)} {ep : Nat} {t : SetTable} {ps : List Nat} {e : Int × Value} {Q : Option Value → Shared → Prop}
    (hs : s.heap.get? a = some (setObj es ep t)) (hf : t.fits es.size = true) (hit : SIter s.heap I a (.ref T) i es.size ep)
    (hT : s.heap.get? T = some { cls := .type "tuple", data := .seq (ps.map fun (p : Nat) => rawInt p).toArray }) (hp : ps[i]? = some p) (he : es[p]? = some e)
    (hQ : ∀ h', SIter h' I a (.ref T) (i + 1) es.size ep → Heap.SameBut I s.heap h' → Q (some e.2) { s with heap := h' }) :
    wpAny (model prog w) A (pyNext (.ref I)) Q E s := by
  obtain ⟨o, ho, hc, hd⟩ := id hit
  unfold pyNext
  refine wpAny_bind (wpAny_attempt (wpAny_callSpecial?_slot (name := Str.ofString "__next__") hit.typeIs slot_si_next
    (wpAny_call_entry slot_si_next hit.typeIs entry_si_next ?_ (args_si_next _))))
  unfold Builtin.«set_iterator.__next__»
  refine wpAny_bind (wpAny_pure ?_)
  refine wpAny_bind (wpAny_fieldsOf ho hd ?_)
  dsimp only
  refine wpAny_bind (wpAny_setEntries_of hs rfl hf ?_)
  rw [if_neg (by simp)]
  refine wpAny_bind (wpAny_seqItems hT rfl ?_)
  dsimp only
  have e1 : (ps.map fun (p : Nat) => rawInt p).toArray[((i : Nat) : Int).toNat]? = some (rawInt p) := by
    simp [hp]
  rw [e1]
  dsimp only [rawInt]
  refine wpAny_bind ?_
  unfold setNextDrawn
  refine wpAny_bind (wpAny_setState_of hs rfl hf ?_)
  dsimp only
  rw [if_neg (by simp)]
  simp only [Int.toNat_natCast, he]
  refine wpAny_pure ?_
  refine wpAny_bind (wpAny_setField ho hd (by simp) ?_)
  have hit' : SIter (s.heap.update I (Obj.mapFields (·.setIfInBounds 1 (rawInt ((i : Int) + 1))))) I a (.ref T) (i + 1) es.size ep :=
    ⟨_, Heap.get?_update_self _ ho (Obj.isFreed_of_fields (Obj.data_mapFields hd _)), (Obj.cls_mapFields ..).trans hc, by rw [Obj.data_mapFields hd]; simp [rawInt]⟩
  exact wpAny_pure ⟨_, rfl, wpAny_pure (hQ _ hit' (Heap.SameBut.update ..))⟩

theorem stop_ok {h : Heap} {R : Fin → Shared → Prop} {Q : Option Value → Shared → Prop} (hh : A.handled = none) (hQ : ∀ h', (∀ b o, h.get? b = some o → h'.get? b = some o) → Q none { s with heap := h' }) :
    wpAny (model prog w) A.in1 (newExc (.type "StopIteration") [] >>= fun e => (raiseNew e : Sem Fin)) R (fun e s' => wpAny (model prog w) A (isInstance e (.type "StopIteration") >>= fun b => if b = true then pure none else throw e) Q E s') { s with heap := h } := by
  refine wpAny_bind ?_
  simp only [newExc, newTuple]
  refine wpAny_bind (wpAny_newObj_type ?_ (by size_fits))
  refine wpAny_bind (m := firstArgMember _ _) (wpAny_of_eq (a := Value.none) (by first | rfl | (simp only [firstArgMember]; rfl)) ?_)
  refine wpAny_newObj_type ?_ (by size_fits)
  simp only [raiseNew]
  refine wpAny_bind (wpAny_handled ?_)
  rw [show A.in1.handled = none from hh]
  refine wpAny_bind (wpAny_pure (wpAny_throw ?_))
  refine wpAny_bind (wpAny_isInstance (T := "StopIteration") (b := true) ⟨_, Heap.get?_push_size _ rfl, rfl⟩ isSubtype_stop ?_)
  exact wpAny_pure (hQ _ fun b o e => Heap.get?_push_of_some _ (Heap.get?_push_of_some _ e))

theorem end_drawn {I a T : Addr} {i : Nat} {es : Array (Int × Value)} {ep : Nat} {t : SetTable} {ps : List Nat} {Q : Option Value → Shared → Prop} (hh : A.handled = none)
    (hs : s.heap.get? a = some (setObj es ep t)) (hf : t.fits es.size = true) (hit : SIter s.heap I a (.ref T) i es.size ep)
    (hT : s.heap.get? T = some { cls := .type "tuple", data := .seq (ps.map fun (p : Nat) => rawInt p).toArray }) (hp : ps[i]? = none)
    (hQ : ∀ h', (∀ b o, b ≠ I → s.heap.get? b = some o → h'.get? b = some o) → Q none { s with heap := h' }) :
    wpAny (model prog w) A (pyNext (.ref I)) Q E s := by
  obtain ⟨o, ho, hc, hd⟩ := id hit
  unfold pyNext
  refine wpAny_bind (wpAny_attempt (wpAny_callSpecial?_slot (name := Str.ofString "__next__") hit.typeIs slot_si_next
    (wpAny_call_entry slot_si_next hit.typeIs entry_si_next ?_ (args_si_next _))))
  unfold Builtin.«set_iterator.__next__»
  refine wpAny_bind (wpAny_pure ?_)
  refine wpAny_bind (wpAny_fieldsOf ho hd ?_)
  dsimp only
  refine wpAny_bind (wpAny_setEntries_of hs rfl hf ?_)
  rw [if_neg (by simp)]
  refine wpAny_bind (wpAny_seqItems hT rfl ?_)
  dsimp only
  have e1 : (ps.map fun (p : Nat) => rawInt p).toArray[((i : Nat) : Int).toNat]? = none := by
    simp [hp]
  rw [e1]
  dsimp only
  refine wpAny_bind (wpAny_setField ho hd (by simp) ?_)
  refine wpAny_bind (wpAny_setField (Heap.get?_update_self _ ho (Obj.isFreed_of_fields (Obj.data_mapFields hd _))) (Obj.data_mapFields hd _) (by simp) ?_)
  refine stop_ok hh fun h' hk => hQ h' fun b o' hb e => hk b o' ?_
  exact (Heap.get?_update_other _ _ (Ne.symm hb)).trans ((Heap.get?_update_other _ _ (Ne.symm hb)).trans e)

/-- the next by a slot -/
theorem next_int {I a : Addr} {i sl nx : Nat} {es : Array (Int × Value)} {ep : Nat} {t : SetTable} {v : Value} {Q : Option Value → Shared → Prop}
    (hs : s.heap.get? a = some (setObj es ep t)) (hf : t.fits es.size = true) (hit : SIter s.heap I a (.int sl 0) i es.size ep)
    (hn : ∀ (E' : Value → Shared → Prop) (Q' : Option (Value × Nat) → Shared → Prop), Q' (some (v, nx)) s → wpAny (model prog w) A.in1 (setNext a sl i ep) Q' E' s)
    (hQ : ∀ h', SIter h' I a (.int nx 0) (i + 1) es.size ep → Heap.SameBut I s.heap h' → Q (some v) { s with heap := h' }) :
    wpAny (model prog w) A (pyNext (.ref I)) Q E s := by
  obtain ⟨o, ho, hc, hd⟩ := id hit
  unfold pyNext
  refine wpAny_bind (wpAny_attempt (wpAny_callSpecial?_slot (name := Str.ofString "__next__") hit.typeIs slot_si_next
    (wpAny_call_entry slot_si_next hit.typeIs entry_si_next ?_ (args_si_next _))))
  unfold Builtin.«set_iterator.__next__»
  refine wpAny_bind (wpAny_pure ?_)
  refine wpAny_bind (wpAny_fieldsOf ho hd ?_)
  dsimp only
  refine wpAny_bind (wpAny_setEntries_of hs rfl hf ?_)
  rw [if_neg (by simp)]
  simp only [Int.toNat_natCast]
  refine wpAny_bind (hn _ _ ?_)
  dsimp only
  refine wpAny_bind (wpAny_setField ho hd (by simp) ?_)
  have hd1 := Obj.data_mapFields hd (fun vs : Array Value => vs.setIfInBounds 0 (rawInt (nx : Int)))
  have ho1 := Heap.get?_update_self (Obj.mapFields fun vs : Array Value => vs.setIfInBounds 0 (rawInt (nx : Int))) ho (Obj.isFreed_of_fields hd1)
  refine wpAny_bind (wpAny_setField ho1 hd1 (by simp) ?_)
  have hit' : SIter ((s.heap.update I (Obj.mapFields (·.setIfInBounds 0 (rawInt (nx : Int))))).update I (Obj.mapFields (·.setIfInBounds 1 (rawInt ((i : Int) + 1))))) I a (.int nx 0) (i + 1) es.size ep :=
    ⟨_, Heap.get?_update_self _ ho1 (Obj.isFreed_of_fields (Obj.data_mapFields hd1 _)), (Obj.cls_mapFields ..).trans ((Obj.cls_mapFields ..).trans hc), by rw [Obj.data_mapFields hd1]; simp [rawInt]⟩
  exact wpAny_pure ⟨_, rfl, wpAny_pure (hQ _ hit' ((Heap.SameBut.update ..).trans (Heap.SameBut.update ..)))⟩

theorem end_int {I a : Addr} {i sl : Nat} {es : Array (Int × Value)} {ep : Nat} {t : SetTable} {Q : Option Value → Shared → Prop} (hh : A.handled = none)
    (hs : s.heap.get? a = some (setObj es ep t)) (hf : t.fits es.size = true) (hit : SIter s.heap I a (.int sl 0) i es.size ep)
    (hn : ∀ (E' : Value → Shared → Prop) (Q' : Option (Value × Nat) → Shared → Prop), Q' none s → wpAny (model prog w) A.in1 (setNext a sl i ep) Q' E' s)
    (hQ : ∀ h', (∀ b o, b ≠ I → s.heap.get? b = some o → h'.get? b = some o) → Q none { s with heap := h' }) :
    wpAny (model prog w) A (pyNext (.ref I)) Q E s := by
  obtain ⟨o, ho, hc, hd⟩ := id hit
  unfold pyNext
  refine wpAny_bind (wpAny_attempt (wpAny_callSpecial?_slot (name := Str.ofString "__next__") hit.typeIs slot_si_next
    (wpAny_call_entry slot_si_next hit.typeIs entry_si_next ?_ (args_si_next _))))
  unfold Builtin.«set_iterator.__next__»
  refine wpAny_bind (wpAny_pure ?_)
  refine wpAny_bind (wpAny_fieldsOf ho hd ?_)
  dsimp only
  refine wpAny_bind (wpAny_setEntries_of hs rfl hf ?_)
  rw [if_neg (by simp)]
  simp only [Int.toNat_natCast]
  refine wpAny_bind (hn _ _ ?_)
  dsimp only
  refine wpAny_bind (wpAny_setField ho hd (by simp) ?_)
  refine stop_ok hh fun h' hk => hQ h' fun b o' hb e => hk b o' ?_
  exact (Heap.get?_update_other _ _ (Ne.symm hb)).trans e
end
end NwS

set_option Elab.async false
set_option linter.all false
set_option maxRecDepth 100000
set_option maxHeartbeats 4000000
namespace NwS
open PySem
open Sem (wp)
section
variable {prog : Program} {w : World} {A : Around} {E : Value → Shared → Prop} {s : Shared}

theorem sbt_ok {Q : Bool → Shared → Prop} (h : Q (byText w) s) : wpAny (model prog w) A setsByText Q E s := by
  unfold setsByText
  exact wpAny_bind (wpAny_askSetting (wpAny_pure h))

theorem setNext_text {a : Addr} {sl i ep : Nat} {es : Array (Int × Value)} {t : SetTable} {Q : Option (Value × Nat) → Shared → Prop} (hb : byText w = true)
    (hs : s.heap.get? a = some (setObj es ep t)) (hf : t.fits es.size = true)
    (h : Q (((pickOrder (w.params.setOrder a ep) es)[i]?).map fun e => (e.2, sl)) s) : wpAny (model prog w) A (setNext a sl i ep) Q E s := by
  unfold setNext
  refine wpAny_bind (wpAny_setState_of hs rfl hf ?_)
  refine wpAny_bind (sbt_ok ?_)
  rw [hb, if_pos rfl]
  rw [if_neg (by simp)]
  refine wpAny_bind ?_
  unfold setWalk
  refine wpAny_bind (wpAny_setState_of hs rfl hf ?_)
  refine wpAny_bind (sbt_ok ?_)
  rw [hb, if_pos rfl]
  refine wpAny_bind (wpAny_askSetting (wpAny_pure ?_))
  exact wpAny_pure h

theorem setNext_one {a : Addr} {sl i ep : Nat} {es : Array (Int × Value)} {t : SetTable} {Q : Option (Value × Nat) → Shared → Prop} (hb : byText w = false)
    (hs : s.heap.get? a = some (setObj es ep t)) (hf : t.fits es.size = true) (hl : t.led = true) (h1 : es.size ≤ 1)
    (h : Q (match es[SetTable.below t.place sl]?, t.place[SetTable.below t.place sl]? with
      | some (_, x), some j => some (x, j + 1)
      | _, _ => none) s) : wpAny (model prog w) A (setNext a sl i ep) Q E s := by
  unfold setNext
  refine wpAny_bind (wpAny_setState_of hs rfl hf ?_)
  refine wpAny_bind (sbt_ok ?_)
  rw [hb, if_neg (by simp)]
  show wpAny _ _ (if (!t.plain && decide (es.size > 1)) = true then _ else _) _ _ _
  rw [if_neg (by simp; omega)]
  show wpAny _ _ ((if (!t.led && !es.isEmpty) = true then unsupported "set:maker-not-led" else pure ()) >>= _) _ _ _
  rw [hl, if_neg (by simp)]
  exact wpAny_bind (wpAny_pure (wpAny_pure h))

theorem below_zero (xs : Array Nat) (h : xs.size ≤ 1) : SetTable.below xs 0 = 0 := by
  unfold SetTable.below
  rcases Nat.le_one_iff_eq_zero_or_eq_one.mp h with e | e <;> rw [e] <;> simp [SetTable.below.go]
theorem below_one (xs : Array Nat) (h : xs.size = 1) : SetTable.below xs (xs.getD 0 0 + 1) = 1 := by
  unfold SetTable.below
  rw [h]
  have e : xs.getD 0 (xs.getD 0 0 + 1) = xs.getD 0 0 := by simp [Array.getD, h]
  show (if (0 : Nat) < 1 then (if xs.getD ((0 + 1) / 2) (xs.getD 0 0 + 1) < xs.getD 0 0 + 1 then (0 + 1) / 2 + 1 else 0) else 0) = 1
  rw [show (0 + 1) / 2 = 0 from rfl, e, if_pos (by omega), if_pos (by omega)]

theorem walks_text (hh : A.handled = none) (hb : byText w = true) {I a : Addr} (hne : a ≠ I) {es : Array (Int × Value)} {ep : Nat} {t : SetTable} (hf : t.fits es.size = true) :
    Walks prog w A I [I, a] [I] es.size (fun i v => ((pickOrder (w.params.setOrder a ep) es)[i]?).map (·.2) = some v)
      (fun i h => SIter h I a (.int (0 : Nat) 0) i es.size ep ∧ h.get? a = some (setObj es ep t)) where
  sub := fun b hb => by simp at hb; simp [hb]
  frame := fun _ _ _ st hk => ⟨st.1.at fun o e => hk I (by simp) o e, hk a (by simp) _ st.2⟩
  item := fun i s Q E hi st hQ => by
    have hz : (pickOrder (w.params.setOrder a ep) es).size = es.size := by
      rw [← Array.length_toList, (perm_pickOrder _ es).length_eq, Array.length_toList]
    obtain ⟨e, he⟩ : ∃ e, (pickOrder (w.params.setOrder a ep) es)[i]? = some e := ⟨_, Array.getElem?_eq_getElem (by omega)⟩
    refine next_int (v := e.2) (nx := 0) st.2 hf st.1 (fun E' Q' q => setNext_text hb st.2 hf (by rw [he]; exact q)) fun h' hit' hsb => ?_
    exact hQ _ h' s.toks (by rw [he]; rfl) ⟨hit', (hsb.2 a hne).trans st.2⟩ fun b o hb e => (hsb.2 b (fun z => hb (by simp [z]))).trans e
  done := fun s Q E st hQ => by
    have hz : (pickOrder (w.params.setOrder a ep) es).size = es.size := by
      rw [← Array.length_toList, (perm_pickOrder _ es).length_eq, Array.length_toList]
    have he : (pickOrder (w.params.setOrder a ep) es)[es.size]? = none := Array.getElem?_eq_none (by omega)
    refine end_int hh st.2 hf st.1 (fun E' Q' q => setNext_text hb st.2 hf (by rw [he]; exact q)) fun h' hk => ?_
    exact hQ h' s.toks fun b o hb e => hk b o (fun z => hb (by simp [z])) e
  self := fun _ _ _ _ st hQ => iter_self st.1 hQ

theorem walks_drawn (hh : A.handled = none) {I a T : Addr} (hne : a ≠ I) (hTI : T ≠ I) {es : Array (Int × Value)} {ep : Nat} {t : SetTable} (hf : t.fits es.size = true) {ps : List Nat} (hps : ps.Perm (List.range es.size)) :
    Walks prog w A I [I, a, T] [I] es.size (fun i v => ∃ p e, ps[i]? = some p ∧ es[p]? = some e ∧ v = e.2)
      (fun i h => SIter h I a (.ref T) i es.size ep ∧ h.get? a = some (setObj es ep t) ∧ h.get? T = some { cls := .type "tuple", data := .seq (ps.map fun (p : Nat) => rawInt p).toArray }) where
  sub := fun b hb => by simp at hb; simp [hb]
  frame := fun _ _ _ st hk => ⟨st.1.at fun o e => hk I (by simp) o e, hk a (by simp) _ st.2.1, hk T (by simp) _ st.2.2⟩
  item := fun i s Q E hi st hQ => by
    have hz : ps.length = es.size := by rw [hps.length_eq, List.length_range]
    have hp : ps[i]? = some (ps[i]'(by omega)) := List.getElem?_eq_getElem (by omega)
    have hm : ps[i]'(by omega) < es.size := List.mem_range.mp (hps.mem_iff.mp (List.getElem_mem _))
    have he : es[ps[i]'(by omega)]? = some (es[ps[i]'(by omega)]'hm) := Array.getElem?_eq_getElem hm
    refine next_drawn st.2.1 hf st.1 st.2.2 hp he fun h' hit' hsb => ?_
    exact hQ _ h' s.toks ⟨_, _, hp, he, rfl⟩ ⟨hit', (hsb.2 a hne).trans st.2.1, (hsb.2 T hTI).trans st.2.2⟩ fun b o hb e => (hsb.2 b (fun z => hb (by simp [z]))).trans e
  done := fun s Q E st hQ => by
    have hz : ps.length = es.size := by rw [hps.length_eq, List.length_range]
    refine end_drawn hh st.2.1 hf st.1 st.2.2 (List.getElem?_eq_none (by omega)) fun h' hk => ?_
    exact hQ h' s.toks fun b o hb e => hk b o (fun z => hb (by simp [z])) e
  self := fun _ _ _ _ st hQ => iter_self st.1 hQ

theorem walks_one (hh : A.handled = none) (hb : byText w = false) {I a : Addr} (hne : a ≠ I) {es : Array (Int × Value)} {ep : Nat} {t : SetTable} (hf : t.fits es.size = true) (hl : t.led = true) (h1 : es.size ≤ 1) :
    Walks prog w A I [I, a] [I] es.size (fun i v => (es[i]?).map (·.2) = some v)
      (fun i h => SIter h I a (.int (if i = 0 then 0 else t.place.getD 0 0 + 1 : Nat) 0) i es.size ep ∧ h.get? a = some (setObj es ep t)) where
  sub := fun b hb => by simp at hb; simp [hb]
  frame := fun _ _ _ st hk => ⟨st.1.at fun o e => hk I (by simp) o e, hk a (by simp) _ st.2⟩
  item := fun i s Q E hi st hQ => by
    have hpz : t.place.size = es.size := by simp [SetTable.fits] at hf; exact hf.1
    have i0 : i = 0 := by omega
    subst i0
    have e1 : es.size = 1 := by omega
    have he : es[0]? = some (es[0]'(by omega)) := Array.getElem?_eq_getElem (by omega)
    have hp : t.place[0]? = some (t.place[0]'(by omega)) := Array.getElem?_eq_getElem (by omega)
    have hg : t.place.getD 0 0 = t.place[0]'(by omega) := by simp [Array.getD, hpz, e1]
    refine next_int (v := (es[0]'(by omega)).2) (nx := t.place[0]'(by omega) + 1) st.2 hf st.1 (fun E' Q' q => setNext_one hb st.2 hf hl h1 ?_) fun h' hit' hsb => ?_
    · rw [if_pos rfl, below_zero _ (by omega), he, hp]; exact q
    · refine hQ _ h' s.toks (by rw [he]; rfl) ⟨?_, (hsb.2 a hne).trans st.2⟩ fun b o hb e => (hsb.2 b (fun z => hb (by simp [z]))).trans e
      rw [if_neg (by omega), hg]; exact hit'
  done := fun s Q E st hQ => by
    have hpz : t.place.size = es.size := by simp [SetTable.fits] at hf; exact hf.1
    refine end_int hh st.2 hf st.1 (fun E' Q' q => setNext_one hb st.2 hf hl h1 ?_) fun h' hk => ?_
    · rcases Nat.le_one_iff_eq_zero_or_eq_one.mp h1 with e | e
      · rw [if_pos e, below_zero _ (by omega), Array.getElem?_eq_none (by omega)]; exact q
      · rw [if_neg (by omega), below_one _ (by omega), Array.getElem?_eq_none (by omega)]; exact q
    · exact hQ h' s.toks fun b o hb e => hk b o (fun z => hb (by simp [z])) e
  self := fun _ _ _ _ st hQ => iter_self st.1 hQ

theorem items_text {w : World} {a : Addr} {ep : Nat} {es : Array (Int × Value)} {acc : Array Value} (h : ItemsOf (fun i v => ((pickOrder (w.params.setOrder a ep) es)[i]?).map (·.2) = some v) acc es.size) :
    acc.toList.Perm (es.toList.map (·.2)) := by
  have e : acc.toList = (pickOrder (w.params.setOrder a ep) es).toList.map (·.2) := by
    apply List.ext_getElem?
    intro i
    rw [List.getElem?_map, Array.getElem?_toList, Array.getElem?_toList]
    by_cases hi : i < acc.size
    · have := h.2 i acc[i] (Array.getElem?_eq_getElem hi)
      rw [Array.getElem?_eq_getElem hi]; exact this.symm
    · rw [Array.getElem?_eq_none (by omega), Array.getElem?_eq_none (by rw [← Array.length_toList, (perm_pickOrder _ es).length_eq, Array.length_toList]; have := h.1; omega)]; rfl
  rw [e]
  exact (perm_pickOrder _ es).map _
theorem items_one {es : Array (Int × Value)} {acc : Array Value} (h : ItemsOf (fun i v => (es[i]?).map (·.2) = some v) acc es.size) :
    acc.toList.Perm (es.toList.map (·.2)) := by
  have e : acc.toList = es.toList.map (·.2) := by
    apply List.ext_getElem?
    intro i
    rw [List.getElem?_map, Array.getElem?_toList, Array.getElem?_toList]
    by_cases hi : i < acc.size
    · have := h.2 i acc[i] (Array.getElem?_eq_getElem hi)
      rw [Array.getElem?_eq_getElem hi]; exact this.symm
    · rw [Array.getElem?_eq_none (by omega), Array.getElem?_eq_none (by have := h.1; omega)]; rfl
  rw [e]
theorem items_drawn {es : Array (Int × Value)} {acc : Array Value} {ps : List Nat} (hps : ps.Perm (List.range es.size)) (h : ItemsOf (fun i v => ∃ p e, ps[i]? = some p ∧ es[p]? = some e ∧ v = e.2) acc es.size) :
    acc.toList.Perm (es.toList.map (·.2)) := by
  have hz : ps.length = es.size := by rw [hps.length_eq, List.length_range]
  have e : acc.toList = (ps.filterMap (fun i => es[i]?)).map (·.2) := by
    have e0 : ps.filterMap (fun i => es[i]?) = ps.map (fun i => (es[i]?).getD default) := by
      have hall : ∀ i ∈ ps, i < es.size := fun i hi => List.mem_range.mp (hps.mem_iff.mp hi)
      clear hz h hps
      induction ps with
      | nil => rfl
      | cons q qs ih =>
        have hq : q < es.size := hall q (by simp)
        rw [List.filterMap_cons_some (b := es[q]) (by simp [hq]), ih fun i hi => hall i (by simp [hi])]
        simp [hq]
    rw [e0, List.map_map]
    apply List.ext_getElem?
    intro i
    rw [List.getElem?_map, Array.getElem?_toList]
    by_cases hi : i < acc.size
    · obtain ⟨p, e, h1, h2, h3⟩ := h.2 i acc[i] (Array.getElem?_eq_getElem hi)
      rw [Array.getElem?_eq_getElem hi, h1, h3]
      simp [h2]
    · rw [Array.getElem?_eq_none (by omega), List.getElem?_eq_none (by have := h.1; omega)]; rfl
  rw [e]
  refine List.Perm.map _ ((hps.filterMap _).trans ?_)
  rw [filterMap_getElem?_range]
end
end NwS

set_option Elab.async false
set_option linter.all false
set_option maxRecDepth 100000
set_option maxHeartbeats 4000000
namespace NwS
open PySem
open Sem (wp)
section
variable {prog : Program} {w : World} {A : Around} {E : Value → Shared → Prop} {s : Shared}

theorem drawn_ok {a : Addr} {es : Array (Int × Value)} {ep : Nat} {t : SetTable} {Q : Bool → Shared → Prop} (hs : s.heap.get? a = some (setObj es ep t)) (hf : t.fits es.size = true)
    (h : Q (!byText w && (!t.plain && decide (es.size > 1))) s) : wpAny (model prog w) A (setDrawn a) Q E s := by
  unfold setDrawn
  refine wpAny_bind (wpAny_setState_of hs rfl hf ?_)
  refine wpAny_bind (sbt_ok ?_)
  exact wpAny_pure h

theorem iter_ok {a : Addr} {es : Array (Int × Value)} {ep : Nat} {t : SetTable} {ss : List Str} (hS : SetT prog w s.heap a ss es ep t) {Q : Value → Shared → Prop}
    (hQ : ∀ I fp P St h' d, (∀ A' : Around, A'.handled = none → Walks prog w A' I fp [I] es.size P St) → St 0 h' → (∀ b ∈ fp, b < h'.objs.size) → I ∈ fp → s.heap.objs.size ≤ I → (∀ b ∈ fp, b = a ∨ s.heap.objs.size ≤ b) →
      (∀ b o, s.heap.get? b = some o → h'.get? b = some o) → (∀ acc, ItemsOf P acc es.size → acc.toList.Perm (es.toList.map (·.2))) → Q (.ref I) { s with heap := h', drawn := d }) :
    wpAny (model prog w) A (pyIter (.ref a)) Q E s := by
  obtain ⟨ho, hel, hpm, hb, hf, hpl, hld⟩ := id hS
  have hT : s.TypeIs (.ref a) "set" := ⟨_, ho, rfl⟩
  have hlt : a < s.heap.objs.size := Heap.lt_size ho
  refine wpAny_pyIter_slot hT F.slot_set_iter (wpAny_call_entry F.slot_set_iter hT entry_set_iter ?_ (F.args_set_iter_1 _))
  unfold Builtin.«frozenset.__iter__» Builtin.Frozenset.slot0 Builtin.Frozenset.sizeOf
  refine wpAny_bind (wpAny_bind (wpAny_pure (wpAny_pure ?_)))
  refine wpAny_bind (wpAny_bind (wpAny_setEntries_of ho rfl hf (wpAny_pure ?_)))
  refine wpAny_bind (drawn_ok ho hf ?_)
  have plain : ∀ (P : Nat → Value → Prop) (St : Nat → Heap → Prop), (∀ A' : Around, A'.handled = none → Walks prog w A' s.heap.objs.size [s.heap.objs.size, a] [s.heap.objs.size] es.size P St) →
      (∀ h', SIter h' s.heap.objs.size a (.int (0 : Nat) 0) 0 es.size ep → h'.get? a = some (setObj es ep t) → St 0 h') → (∀ acc, ItemsOf P acc es.size → acc.toList.Perm (es.toList.map (·.2))) →
      Q (.ref s.heap.objs.size) { s with heap := s.heap.push { cls := .type "set_iterator", data := .fields #[.int (0 : Nat) 0, .int (0 : Nat) 0, .ref a, .int es.size 0, .int ep 0] } } := by
    intro P St W st it
    refine hQ _ _ P St _ s.drawn W (st _ ⟨_, Heap.get?_push_size _ rfl, rfl, rfl⟩ (Heap.get?_push_of_some _ ho)) (fun b hb' => ?_) (by simp) (Nat.le_refl _) (fun b hb' => ?_) (fun b o e => Heap.get?_push_of_some _ e) it
    · rw [Heap.size_push]
      rcases List.mem_cons.mp hb' with e | e
      · rw [e]; exact Nat.lt_succ_self _
      · rw [List.mem_singleton.mp e]; exact Nat.lt_succ_of_lt hlt
    · rcases List.mem_cons.mp hb' with e | e
      · exact .inr (by rw [e]; exact Nat.le_refl _)
      · exact .inl (List.mem_singleton.mp e)
  have hne : a ≠ s.heap.objs.size := Nat.ne_of_lt hlt
  have fin : ∀ {Q' : Value → Shared → Prop}, Q (.ref s.heap.objs.size) { s with heap := s.heap.push { cls := .type "set_iterator", data := .fields #[.int (0 : Nat) 0, .int (0 : Nat) 0, .ref a, .int es.size 0, .int ep 0] } } →
      wpAny (model prog w) A.in1 (setEpoch a >>= fun e => newFields "set_iterator" [rawInt 0, rawInt 0, .ref a, rawInt es.size, rawInt e] >>= fun v => ret v)
        (fun fin s' => ∃ r, fin = .done (.ret r) ∧ ∃ T m, s'.TypeIs r T ∧ typeLookup (.type T) "__next__" = pure (some m) ∧ Q r s') E s := by
    intro Q' q
    refine wpAny_bind (wpAny_setEpoch_of ho rfl hf ?_)
    refine wpAny_bind (wpAny_newObj_type (wpAny_pure ⟨_, rfl, "set_iterator", _, ⟨_, Heap.get?_push_size _ rfl, rfl⟩, slot_si_next.lookup, ?_⟩))
    exact q
  cases hbt : byText w with
  | true =>
    rw [if_neg (by simp)]
    refine wpAny_bind (wpAny_pure ?_)
    exact fin (Q' := Q) (plain _ _ (fun A' hh => walks_text hh hbt hne hf) (fun h' a1 a2 => ⟨a1, a2⟩) fun acc q => items_text q)
  | false =>
    by_cases h1 : es.size ≤ 1
    · rw [if_neg (by simp; omega)]
      refine wpAny_bind (wpAny_pure ?_)
      exact fin (Q' := Q) (plain _ _ (fun A' hh => walks_one hh hbt hne hf (hld hbt) h1) (fun h' a1 a2 => ⟨a1, a2⟩) fun acc q => items_one q)
    · have hp : t.plain = false := hpl.resolve_left (by omega)
      rw [if_pos (by simp [hp]; omega)]
      refine wpAny_bind (drawOrder_ok es.size (List.range es.size) (List.length_range).symm fun ps d hps => ?_)
      have hlen : ps.length = es.size := by rw [hps.length_eq, List.length_range]
      refine wpAny_bind (wpAny_newObj_type ?_ (by have := fits_of_scanBound hb; show (List.map (fun (i : Nat) => rawInt i) ps).toArray.size ≤ _; rw [List.size_toArray, List.length_map, hlen]; omega))
      refine wpAny_bind (wpAny_setEpoch_of (Heap.get?_push_of_some _ ho) rfl hf ?_)
      refine wpAny_bind (wpAny_newObj_type (wpAny_pure ⟨_, rfl, "set_iterator", _, ⟨_, Heap.get?_push_size _ rfl, rfl⟩, slot_si_next.lookup, ?_⟩))
      have hz : (s.heap.push { cls := .type "tuple", data := .seq (ps.map fun (i : Nat) => rawInt i).toArray }).objs.size = s.heap.objs.size + 1 := Heap.size_push _ _
      have hTI : s.heap.objs.size ≠ (s.heap.push { cls := .type "tuple", data := .seq (ps.map fun (i : Nat) => rawInt i).toArray }).objs.size := by rw [hz]; omega
      have hneI : a ≠ (s.heap.push { cls := .type "tuple", data := .seq (ps.map fun (i : Nat) => rawInt i).toArray }).objs.size := by rw [hz]; exact Nat.ne_of_lt (Nat.lt_succ_of_lt hlt)
      refine hQ _ _ _ _ _ d (fun A' hh => walks_drawn (T := s.heap.objs.size) hh hneI hTI hf hps) ⟨⟨_, Heap.get?_push_size _ rfl, rfl, rfl⟩, Heap.get?_push_of_some _ (Heap.get?_push_of_some _ ho), Heap.get?_push_of_some _ (Heap.get?_push_size _ rfl)⟩
        (fun b hb' => ?_) (by simp) (by rw [hz]; omega) (fun b hb' => ?_) (fun b o e => Heap.get?_push_of_some _ (Heap.get?_push_of_some _ e)) fun acc q => items_drawn hps q
      · rw [Heap.size_push, Heap.size_push]
        rw [hz] at hb'
        simp only [List.mem_cons, List.not_mem_nil, or_false] at hb'
        rcases hb' with e | e | e
        · rw [e]; exact Nat.lt_succ_self _
        · rw [e]; exact Nat.lt_succ_of_lt (Nat.lt_succ_of_lt hlt)
        · rw [e]; exact Nat.lt_succ_of_lt (Nat.lt_succ_self _)
      · rw [hz] at hb'
        simp only [List.mem_cons, List.not_mem_nil, or_false] at hb'
        rcases hb' with e | e | e
        · exact .inr (by rw [e]; exact Nat.le_succ _)
        · exact .inl e
        · exact .inr (by rw [e]; exact Nat.le_refl _)

theorem collect_set {a : Addr} {es : Array (Int × Value)} {ep : Nat} {t : SetTable} {ss : List Str} (hh : A.handled = none) (hS : SetT prog w s.heap a ss es ep t) {Q : List Value → Shared → Prop}
    (hQ : ∀ vs h' d tk, vs.Perm (es.toList.map (·.2)) → (∀ b o, s.heap.get? b = some o → h'.get? b = some o) → Q vs { s with heap := h', drawn := d, toks := tk }) :
    wpAny (model prog w) A (collect (.ref a)) Q E s := by
  have ho := hS.obj
  have hlt : a < s.heap.objs.size := Heap.lt_size ho
  have hSa : s.heap.objs.size ≠ a := Nat.ne_of_gt hlt
  have hn : es.size ≤ sizeLine := fits_of_scanBound hS.bd
  unfold collect
  refine wpAny_bind (wpAny_runValue (codeAny_builtin F.entry_proto_collect ?_))
  rw [Around.under_plainId F.plain_proto_collect _]
  show wpAny _ A.in1 (newList [] >>= fun l => again (.builtin "list.__iadd__" ⟨[l, .ref a], []⟩)) _ _ s
  refine wpAny_bind (wpAny_newObj_type ?_)
  refine wpAny_pure ⟨plainId_quiet F.plain_list_iadd _, codeAny_builtin F.entry_list_iadd ?_⟩
  rw [Around.under_plainId F.plain_list_iadd _]
  have hS1 : SetT prog w (s.heap.push { cls := .type "list", data := .seq ([] : List Value).toArray }) a ss es ep t := { hS with obj := Heap.get?_push_of_some _ ho }
  have hT1 : Shared.TypeIs { s with heap := s.heap.push { cls := .type "list", data := .seq ([] : List Value).toArray } } (.ref a) "set" := ⟨_, hS1.obj, rfl⟩
  show wpAny _ A.in1 (Builtin.List.listExtendWith (.ref s.heap.objs.size) (.ref a) (.ref s.heap.objs.size)) _ _ _
  unfold Builtin.List.listExtendWith
  refine wpAny_bind (wpAny_typeOf hT1 ?_)
  have h1 : Builtin.List.listSameRef (.ref s.heap.objs.size) (.ref a) = false := by simp [Builtin.List.listSameRef, hSa]
  have h2 : (Value.type "set" == Value.type "list") = false := by decide
  have h3 : (Value.type "set" == Value.type "tuple") = false := by decide
  simp only [h1, h2, h3, Bool.or_false, Bool.false_eq_true, if_false]
  refine wpAny_bind (iter_ok hS1 fun I fp P St h' d W st0 hfp hI hIf hfa hk items => ?_)
  have hS2 : SetT prog w h' a ss es ep t := { hS1 with obj := hk _ _ hS1.obj }
  have hT2 : Shared.TypeIs { s with heap := h', drawn := d } (.ref a) "set" := ⟨_, hS2.obj, rfl⟩
  refine wpAny_bind (wpAny_holding ?_)
  unfold Builtin.List.listLengthHint
  refine wpAny_bind (wpAny_specialOf hT2 F.slot_set_len.lookup ?_)
  (generalize hid : ("set.__len__" : String) = id0; (fail_if_success (clear hid id0)); dsimp only; rw [show splitId id0 = some ("set", "__len__") from by subst hid; decide +kernel]; subst hid)
  refine wpAny_bind (wpAny_isInstance (b := true) hT2 (by rw [isSubtype_type]; kernel_rfl) ?_)
  refine wpAny_bind (wpAny_typeOf hT2 ?_)
  refine wpAny_pure ?_
  show wpAny _ A.in1 (rule "list.extend.makes-room" >>= fun _ => Builtin.List.listTouch (.ref s.heap.objs.size) >>= fun _ =>
    again (.builtin "list.extend.loop" ⟨[.ref s.heap.objs.size, .ref I, .ref s.heap.objs.size], []⟩)) _ _ _
  refine wpAny_bind (wpAny_rule ?_)
  have hSf : s.heap.objs.size ∉ fp := fun hm => by
    rcases hfa _ hm with e | e
    · exact hSa e
    · rw [Heap.size_push] at e; omega
  have hS₁ : h'.get? s.heap.objs.size = some { cls := .type "list", data := .seq ([] : List Value).toArray } := hk _ _ (Heap.get?_push_size _ rfl)
  refine wpAny_bind ?_
  show wpAny _ A.in1 (updateSeq s.heap.objs.size (·.push .none) >>= fun _ => updateSeq s.heap.objs.size (·.pop)) _ _ _
  refine wpAny_bind (wpAny_updateSeq hS₁ rfl ?_)
  have hS₂ := Heap.get?_update_self (Obj.mapSeq (·.push Value.none)) hS₁ rfl
  refine wpAny_updateSeq hS₂ rfl ?_
  have hS₃ := Heap.get?_update_self (Obj.mapSeq (·.pop)) hS₂ rfl
  have oth : ∀ b o, b ≠ s.heap.objs.size → h'.get? b = some o →
      ((h'.update s.heap.objs.size (Obj.mapSeq (·.push Value.none))).update s.heap.objs.size (Obj.mapSeq (·.pop))).get? b = some o :=
    fun b o hb e => (Heap.get?_update_other _ _ (Ne.symm hb)).trans ((Heap.get?_update_other _ _ (Ne.symm hb)).trans e)
  have WS := (W A.in1.in1 hh).toS
  refine wpAny_pure ⟨plainId_quiet F.plain_extend_loop _, codeAny_extend_loopS (A := A) (W A.in1 hh).toS hn _ hSf _ es.size 0 _ _ _ rfl (Nat.zero_le _)
    (WS.frame 0 ({ s with heap := h', drawn := d } : Shared) _ s.toks st0 (Nat.le_refl _) fun b hb o e => oth b o (fun h => hSf (h ▸ hb)) e) hS₃ (ItemsOf.nil P) fun s' acc' c' hm hS' hacc => ?_⟩
  obtain ⟨h4, g4, d4, tk4, os4⟩ := s'
  have eg : g4 = s.gens := hm.gens
  have ed : d4 = d := hm.drawn
  have eo : os4 = s.os := hm.os
  subst eg; subst ed; subst eo
  show wpAny _ A (load s.heap.objs.size >>= _) _ _ _
  refine wpAny_bind (wpAny_load hS' ?_)
  refine wpAny_pure (hQ _ h4 d4 tk4 (items _ hacc) fun b o e => ?_)
  have hlb : b < s.heap.objs.size := Heap.lt_size e
  refine hm.heap b o (fun hm' => ?_) (oth b o (Nat.ne_of_lt hlb) (hk b o (Heap.get?_push_of_some _ e)))
  rcases List.mem_cons.mp hm' with z | z
  · exact absurd z (Nat.ne_of_lt hlb)
  · have z := List.mem_singleton.mp z
    have hIf' : s.heap.objs.size + 1 ≤ I := by rw [← Heap.size_push s.heap { cls := .type "list", data := .seq ([] : List Value).toArray }]; exact hIf
    exact absurd (Nat.lt_trans hlb hIf') (by rw [z]; exact Nat.lt_irrefl _)
end
end NwS

set_option Elab.async false
set_option linter.all false
set_option maxRecDepth 100000
set_option maxHeartbeats 4000000
namespace NwS
open PySem PySem.Spec PyProof.Rows
open Sem (wp)

def addT (ss : List Str) (x : Str) : List Str := if x ∈ ss then ss else ss ++ [x]
def metT (val : Nat → Str) : Nat → List Str
  | 0 => []
  | i + 1 => addT (metT val i) (val i)
theorem metT_length (val : Nat → Str) : ∀ i, (metT val i).length ≤ i
  | 0 => Nat.le_refl _
  | i + 1 => by
    have := metT_length val i
    show (addT _ _).length ≤ _
    unfold addT; split
    · omega
    · rw [List.length_append, List.length_singleton]; omega
theorem metT_nodup (val : Nat → Str) : ∀ i, (metT val i).Nodup
  | 0 => .nil
  | i + 1 => by
    have := metT_nodup val i
    show (addT _ _).Nodup
    unfold addT; split
    · exact this
    · rename_i h
      rw [List.nodup_append]
      refine ⟨this, by simp, fun a ha b hb => ?_⟩
      rw [List.mem_singleton.mp hb]
      exact fun e => h (e ▸ ha)
theorem metT_mem (val : Nat → Str) (x : Str) : ∀ i, x ∈ metT val i ↔ ∃ j, j < i ∧ val j = x
  | 0 => by simp [metT]
  | i + 1 => by
    have ih := metT_mem val x i
    have e : x ∈ metT val (i + 1) ↔ x ∈ metT val i ∨ x = val i := by
      show x ∈ addT _ _ ↔ _
      unfold addT; split
      · rename_i h
        exact ⟨.inl, fun z => z.elim id fun e => e ▸ h⟩
      · rw [List.mem_append, List.mem_singleton]
    rw [e, ih]
    constructor
    · rintro (⟨j, h1, h2⟩ | e)
      · exact ⟨j, by omega, h2⟩
      · exact ⟨i, by omega, e.symm⟩
    · rintro ⟨j, h1, h2⟩
      by_cases h : j = i
      · subst h; exact .inr h2.symm
      · exact .inl ⟨j, by omega, h2⟩

section
variable {prog : Program} {w : World} {A : Around} {R : Result → Shared → Prop} {I : Addr} {fp wr : List Addr} {G : Array GenState → Array GenState → Prop} {n : Nat} {P : Nat → Value → Prop} {St : Nat → Shared → Prop}

theorem loop_set (W : WalksS prog w A.in1 I fp wr G n P St) (S : Addr) (hSf : S ∉ fp)
    (val : Nat → Str) (hval : ∀ i v, P i v → ∃ t, v = .str (val i) t) (hb : n + 1 < scanBound) :
    ∀ (k i : Nat) (s : Shared), n - i = k → i ≤ n → St i s →
      (∃ es ep t, SetT prog w s.heap S (metT val i) es ep t) →
      (∀ s', Moved (S :: wr) G s s' → (∃ es ep t, SetT prog w s'.heap S (metT val n) es ep t) → R (.ok (.ret .none)) s') →
      codeAny (model prog w) A (.builtin "set.update.loop" ⟨[.ref S, .ref I], []⟩) R s := by
  have hSw : S ∉ wr := fun h => hSf (W.sub _ h)
  have hsub : ∀ b ∈ wr, b ∈ S :: wr := fun b hb => List.mem_cons_of_mem _ hb
  intro k
  induction k with
  | zero =>
    intro i s hk hi hst hS hR
    have hin : i = n := by omega
    subst hin
    refine codeAny_builtin F.entry_set_update_loop ?_
    rw [Around.under_plainId F.plain_set_update_loop _]
    show wpAny _ A.in1 (pyNext (.ref I) >>= _) _ _ s
    refine wpAny_bind (W.done s _ _ hst fun s' hm => ?_)
    show wpAny _ A.in1 (ret Value.none) _ _ s'
    obtain ⟨es, ep, t, hS⟩ := hS
    exact wpAny_pure (hR s' (hm.mono hsub) ⟨es, ep, t, { hS with obj := hm.heap S _ hSw hS.obj }⟩)
  | succ k ih =>
    intro i s hk hi hst hS hR
    have hlt : i < n := by omega
    refine codeAny_builtin F.entry_set_update_loop ?_
    rw [Around.under_plainId F.plain_set_update_loop _]
    show wpAny _ A.in1 (pyNext (.ref I) >>= _) _ _ s
    refine wpAny_bind (W.item i s _ _ hlt hst fun v s' hP hst' hm => ?_)
    obtain ⟨t, rfl⟩ := hval i v hP
    obtain ⟨es, ep, tb, hS⟩ := hS
    have hS' : SetT prog w s'.heap S (metT val i) es ep tb := { hS with obj := hm.heap S _ hSw hS.obj }
    show wpAny _ A.in1 (holding [Value.str (val i) t] (setAdd S (.str (val i) t)) >>= _) _ _ s'
    refine wpAny_bind (wpAny_holding ?_)
    unfold setAdd
    refine wpAny_holding ?_
    refine wpAny_bind ((strKind prog w).pyHash (k := val i) (strKind_is _ _ _ _) ?_)
    have hsz : es.size = (metT val i).length := by rw [← hS.pm.length_eq, List.length_map, Array.length_toList]
    have hroom : es.size + 1 < scanBound := by have := metT_length val i; omega
    refine add_ok (s := { s' with toks := s'.toks + 1 }) hS' hroom fun h' es' ep' t' b hsb hS2 _ => ?_
    have hSi : SetT prog w h' S (metT val (i + 1)) es' ep' t' := hS2
    refine wpAny_pure ⟨plainId_quiet F.plain_set_update_loop _, ih (i + 1) _ (by omega) hlt (W.frame _ s' _ _ hst' (Nat.le_succ _) fun b hb o e => ?_) ⟨_, _, _, hSi⟩ fun s'' hm'' hS'' => ?_⟩
    · rw [hsb.2 b (fun h : b = S => hSf (by rw [← h]; exact hb))]; exact e
    · refine hR s'' (Moved.trans W.gtrans ((hm.mono hsub).then_heap (Nat.le_succ _) fun b o hb e => ?_) hm'') hS''
      rw [hsb.2 b (fun h : b = S => hb (by rw [h]; exact List.mem_cons_self))]; exact e
end

section
variable {prog : Program} {w : World} {A : Around} {E : Value → Shared → Prop} {s : Shared}

theorem new_set (a : Value) {Q₁ : Value → Shared → Prop}
    (h : Q₁ (.ref s.heap.objs.size) { s with heap := s.heap.push { cls := .type "set", dict := none, data := .set #[] 0 (.fresh 0 0 (!byText w)) } }) :
    codeAny (model prog w) A (.call (.builtin "set.__new__") ⟨[.type "set", a], []⟩) (wants Q₁ E) s := by
  refine codeAny_of_tree ?_
  show wpAny _ A.in1 (do checkBuiltinCall "set.__new__" ⟨[.type "set", a], []⟩; again (.builtin "set.__new__" ⟨[.type "set", a], []⟩)) _ _ s
  refine wpAny_bind (wpAny_of_eq (F.newCall_set_1 a) (wpAny_pure ⟨plainId_quiet F.plain_set_new _, codeAny_builtin F.entry_set_new ?_⟩))
  rw [Around.under_plainId F.plain_set_new _]
  unfold Builtin.«set.__new__» Builtin.Frozenset.newClass
  have hsub := sub_set_self
  obtain ⟨hp, g, d, tk, os⟩ := s
  dsimp only
  wp_walk
  refine wpAny_askSetting (wpAny_pure ?_)
  dsimp only
  simp only [newObj]
  refine wpAny_bind (wpAny_alloc (wpAny_pure ?_))
  exact wpAny_pure h

set_option maxRecDepth 100000 in
set_option maxHeartbeats 3200000 in
theorem call_set_strs {l : Addr} {items : Array Value} {xs : List Str} {Q : Value → Shared → Prop}
    (hh : A.handled = none) (hl : s.heap.IsList l items) (hi : StrsAre items.toList xs) (hb : items.size + 1 < scanBound)
    (h : ∀ (h' : Heap) (tk : Nat), (∃ es ep t, SetT prog w h' s.heap.objs.size (metT (fun i => xs.getD i ⟨#[]⟩) items.size) es ep t) →
      (∀ b o, b < s.heap.objs.size → s.heap.get? b = some o → h'.get? b = some o) → Q (.ref s.heap.objs.size) { s with heap := h', toks := tk }) :
    wpAny (model prog w) A (call (.type "set") [.ref l]) Q E s := by
  obtain ⟨c, tl, hmro⟩ := F.called_set.mro
  have hmade := F.called_set.made
  have hsub := F.called_set.sub
  refine wpAny_call (codeAny_of_tree ?_)
  show wpAny _ _ (callAny (.type "set") _) _ _ _
  refine wpAny_pure ⟨Code.quiet_builtin _ (by decide +kernel), codeAny_builtin F.entry_type_call ?_⟩
  rw [Around.under_plain (weight_type_call_type "set" [.ref l] []) rfl]
  have h1 := F.called_set.notType
  have h2 := F.called_set.canCreate
  have hct := F.typeCall_set_1 (.ref l)
  repeat (any_goals (first | assumption | wp_step))
  refine codeAny_mono (new_set (.ref l) (E := E) (Q₁ := fun obj s₁ => obj = .ref s.heap.objs.size ∧ s₁ = { s with heap := s.heap.push { cls := .type "set", dict := none, data := .set #[] 0 (.fresh 0 0 (!byText w)) } }) ⟨rfl, rfl⟩) fun r s₁ hr => ?_
  cases r with
  | error e => exact hr
  | ok fl =>
    cases fl with
    | ret obj =>
      obtain ⟨rfl, rfl⟩ := hr
      have hS : (s.heap.push { cls := .type "set", dict := none, data := .set #[] 0 (.fresh 0 0 (!byText w)) }).get? s.heap.objs.size = some { cls := .type "set", dict := none, data := .set #[] 0 (.fresh 0 0 (!byText w)) } := Heap.get?_push_size _ rfl
      have hT : Shared.TypeIs { s with heap := s.heap.push { cls := .type "set", dict := none, data := .set #[] 0 (.fresh 0 0 (!byText w)) } } (.ref s.heap.objs.size) "set" := ⟨_, hS, rfl⟩
      have hli := F.called_set.init.lookup
      have hbi := F.called_set.init.bind (.ref s.heap.objs.size)
      repeat (any_goals (first | assumption | wp_step))
      refine codeAny_mono (codeAny_call_builtin (R := wants (fun r s₂ => r = .none ∧ ∃ h' tk, s₂ = { s with heap := h', toks := tk } ∧
          (∃ es ep t, SetT prog w h' s.heap.objs.size (metT (fun i => xs.getD i ⟨#[]⟩) items.size) es ep t) ∧
          (∀ b o, b < s.heap.objs.size → s.heap.get? b = some o → h'.get? b = some o)) E) F.called_set.init.plain F.entry_set_init (check_set_init_1 hT ?_)) fun r₂ s₂ hr₂ => ?_
      · obtain ⟨ol, hol, hcl, nl, hdl⟩ := hl
        obtain ⟨ocls, odict, odata, oslots⟩ := ol
        simp only at hcl hdl
        subst hcl; subst hdl
        have hol' : (s.heap.push { cls := .type "set", dict := none, data := .set #[] 0 (.fresh 0 0 (!byText w)) }).get? l = some { cls := .type "list", dict := odict, data := .seq items nl, slots := oslots } := Heap.get?_push_of_some _ hol
        have hsls := F.sub_list_set
        have hslf := F.sub_list_frozenset
        have hne : (Value.type "list" == Value.type "dict") = false := by decide
        have hl1 : (s.heap.push { cls := .type "set", dict := none, data := .set #[] 0 (.fresh 0 0 (!byText w)) }).IsList l items := ⟨_, hol', rfl, nl, rfl⟩
        unfold Builtin.«set.__init__» noKeywords Builtin.Frozenset.updateFrom
        generalize hPI : pyIter = PI
        wp_walk
        subst hPI
        refine wpAny_pyIter_list hl1 ?_
        refine wpAny_bind (wpAny_runValue ?_)
        have hlS : l < s.heap.objs.size := Heap.lt_size hol
        have hh3 : A.in1.in1.in1.handled = none := by simp [hh]
        have hneI : l ≠ (s.heap.push { cls := .type "set", dict := none, data := .set #[] 0 (.fresh 0 0 (!byText w)) }).objs.size := by
          rw [Heap.size_push]; exact Nat.ne_of_lt (Nat.lt_succ_of_lt hlS)
        have hSf : s.heap.objs.size ∉ [(s.heap.push { cls := .type "set", dict := none, data := .set #[] 0 (.fresh 0 0 (!byText w)) }).objs.size, l] := by
          rw [Heap.size_push]; simp only [List.mem_cons, List.mem_singleton, List.not_mem_nil, or_false, not_or]
          exact ⟨Nat.ne_of_lt (Nat.lt_succ_self _), Nat.ne_of_gt hlS⟩
        have hval : ∀ (i : Nat) (v : Value), items[i]? = some v → ∃ t, v = .str ((fun i => xs.getD i ⟨#[]⟩) i) t := fun i v hv => by
          have hv' : items.toList[i]? = some v := by rw [Array.getElem?_toList]; exact hv
          obtain ⟨x, t, e⟩ := hi.all v (List.mem_of_getElem? hv')
          have e2 : xs[i]? = some (strOf v) := by rw [← hi.strs, List.getElem?_map, hv']; rfl
          refine ⟨t, ?_⟩
          show v = .str (xs.getD i ⟨#[]⟩) t
          rw [List.getD_eq_getElem?_getD, e2, e]; rfl
        refine loop_set ((Walks.list hh3 _ l hneI items).toS) s.heap.objs.size
          hSf (fun i => xs.getD i ⟨#[]⟩) hval hb (items.size - 0) 0 _ (by omega) (Nat.zero_le _)
          ⟨⟨_, Heap.get?_push_size _ rfl, rfl, rfl⟩, (hl1.push _)⟩ ?hS0 ?hR
        case hS0 =>
          have hget : ((s.heap.push { cls := .type "set", dict := none, data := .set #[] 0 (.fresh 0 0 (!byText w)) }).push { cls := .type "list_iterator", data := .fields #[.ref l, .int 0 0] }).get? s.heap.objs.size
              = some { cls := .type "set", dict := none, data := .set #[] 0 (.fresh 0 0 (!byText w)) } := Heap.get?_push_of_some _ hS
          exact ⟨#[], 0, _, hget, fun e he => by simp at he, .nil, by decide, rfl, .inl rfl, fun z => by show (!byText w) = true; rw [z]; rfl⟩
        case hR =>
          intro s' hm hS'
          obtain ⟨h', g', d', tk', os'⟩ := s'
          have eg : g' = s.gens := hm.gens
          have ed : d' = s.drawn := hm.drawn
          have eo : os' = s.os := hm.os
          subst eg; subst ed; subst eo
          show wpAny _ _ _ _ _ _
          refine wpAny_pure ?_
          show wpAny _ _ (ret Value.none) _ _ _
          refine wpAny_pure ⟨rfl, h', tk', rfl, hS', fun b o hb e => ?_⟩
          have hb1 : b ≠ s.heap.objs.size := Nat.ne_of_lt hb
          have hb2 : b ≠ (s.heap.push { cls := .type "set", dict := none, data := .set #[] 0 (.fresh 0 0 (!byText w)) }).objs.size := by
            rw [Heap.size_push]; exact Nat.ne_of_lt (Nat.lt_succ_of_lt hb)
          exact hm.heap b o (by simp only [List.mem_cons, List.mem_singleton, List.not_mem_nil, or_false, not_or]; exact ⟨hb1, hb2⟩) (Heap.get?_push_of_some _ (Heap.get?_push_of_some _ e))
      · cases r₂ with
        | error e => exact hr₂
        | ok fl₂ =>
          cases fl₂ with
          | ret r =>
            obtain ⟨rfl, h', tk, rfl, hS', hk'⟩ := hr₂
            repeat (any_goals (first | assumption | wp_step))
            exact h _ _ hS' hk'
          | _ => exact hr₂.elim
    | _ => exact hr.elim

/-- sorted of a set of texts -/
theorem sorted_set {a : Addr} {ss : List Str} {es : Array (Int × Value)} {ep : Nat} {t : SetTable} {Q : Value → Shared → Prop} (hh : A.handled = none) (hS : SetT prog w s.heap a ss es ep t) (h64 : ss.length < 64)
    (h : ∀ (h1 h' : Heap) (d : Drawn) (tk n : Nat) (out : Array Value) (ss' : List Str), StrsAre out.toList ss' → ss'.Perm ss → ss'.Pairwise (fun a b => ltCps b.cps.toList a.cps.toList = false) →
      h'.get? h1.objs.size = some (seqObj "list" out n) → (∀ b o, s.heap.get? b = some o → h1.get? b = some o) → (∀ b o, h1.get? b = some o → h'.get? b = some o) → Q (.ref h1.objs.size) { s with heap := h', drawn := d, toks := tk }) :
    wpAny (model prog w) A (call (.builtin "sorted") [.ref a]) Q E s := by
  refine Calls.call_function_entry kind_sorted plain_sorted entry_sorted (args_sorted1 _) ?_
  unfold Builtin.«sorted»
  refine wpAny_bind (m := checkCount "sorted" 1 1 _) (wpAny_pure ?_)
  refine wpAny_bind (collect_set (A := A.in1) (show A.in1.handled = none from hh) hS fun vs h1 d tk hp hk => ?_)
  have hlen : vs.length = ss.length := by rw [hp.length_eq, List.length_map, ← hS.pm.length_eq, List.length_map]
  have hst : ∀ v, v ∈ vs → ∃ x t, v = .str x t := fun v hv => by
    obtain ⟨e, he, rfl⟩ := List.mem_map.mp (hp.mem_iff.mp hv)
    obtain ⟨⟨k, hk', _⟩, _⟩ := hS.el e he
    obtain ⟨t, e1⟩ := Value.isStrOf_shape (x := k) (v := e.2) hk'
    exact ⟨k, t, e1⟩
  have hA := strsAre_map vs hst
  have hps : (vs.map strOf).Perm ss := by
    refine (hp.map strOf).trans ?_
    rw [List.map_map]
    refine List.Perm.trans (List.Perm.of_eq ?_) hS.pm
    apply List.map_congr_left
    intro e he
    obtain ⟨⟨k, hk', _⟩, _⟩ := hS.el e he
    obtain ⟨t, e1⟩ := Value.isStrOf_shape (x := k) (v := e.2) hk'
    show strOf e.2 = txt e.2
    rw [e1]; rfl
  refine wpAny_bind (wpAny_newList ?_ (by have := fits_of_scanBound hS.bd; rw [sizeLine_eq]; omega))
  have hoL : (h1.push (seqObj "list" vs.toArray 0)).get? h1.objs.size = some (seqObj "list" vs.toArray 0) := Heap.get?_push_size _ rfl
  refine wpAny_bind (wpAny_holding (wpAny_call_entry slot_list_sort ⟨_, hoL, rfl⟩ entry_list_sort (list_sort_treeK strKind_oneLt hoL hA.keysOf (fun v₁ v₂ rest e => keyKind_strs (by rw [← e]; exact hA)) (by omega) fun st' a1 a2 => ⟨_, rfl, ?_⟩) (args_list_sort _)))
  refine wpAny_pure ⟨_, rfl, ?_⟩
  have hl : (arrOf st').toList.Perm (vs.zip vs) := by rw [← pairsOf_toList]; exact Array.perm_iff_toList_perm.mp a1
  have hmem : ∀ p, p ∈ (arrOf st').toList → p.1 = p.2 ∧ p.1 ∈ vs := fun p hp' => mem_zip_self (hl.mem_iff.mp hp')
  obtain ⟨n, hn⟩ := sortedHeap_at (h := h1.push (seqObj "list" vs.toArray 0)) (vs := vs) (out := (arrOf st').map (·.2)) (n := 0) hoL
  refine h h1 _ d tk n _ ((arrOf st').toList.map (fun p => strOf p.1)) ?_ ?_ ?_ hn hk fun b o e => ?_
  · have e : ((arrOf st').map (·.2)).toList = (arrOf st').toList.map (·.1) := by
      rw [Array.toList_map]; exact List.map_congr_left fun p hp' => (hmem p hp').1.symm
    rw [e]
    have h1 := strsAre_map ((arrOf st').toList.map (·.1)) (by
      intro v hv
      obtain ⟨p, hp', rfl⟩ := List.mem_map.mp hv
      exact hst _ (hmem p hp').2)
    rwa [List.map_map] at h1
  · have h2 := hl.map (fun p => strOf p.1)
    have e2 : (vs.zip vs).map (fun p => strOf p.1) = vs.map strOf := by
      have : (vs.zip vs).map (fun p => strOf p.1) = ((vs.zip vs).map Prod.fst).map strOf := by rw [List.map_map]; rfl
      rw [this, List.map_fst_zip (Nat.le_refl _)]
    rw [e2] at h2
    exact h2.trans hps
  · rw [List.pairwise_iff_getElem]
    intro i j hi hj hij
    have hi' : i < (arrOf st').size := by simpa using hi
    have hj' : j < (arrOf st').size := by simpa using hj
    have h1 := a2 i j (Nat.le_of_lt hij) (by rw [← a1.size_eq]; exact hj')
    obtain ⟨x, t, ex⟩ := hst _ (hmem (arrOf st')[i] (by simp)).2
    obtain ⟨y, u, ey⟩ := hst _ (hmem (arrOf st')[j] (by simp)).2
    rw [KK_str hi' (x := x) (t := t) (q := (arrOf st')[i].2) (Prod.ext ex rfl), KK_str hj' (x := y) (t := u) (q := (arrOf st')[j].2) (Prod.ext ey rfl)] at h1
    change decide (y.cps.toList < x.cps.toList) = false at h1
    simp only [List.getElem_map, Array.getElem_toList]
    rw [show strOf (arrOf st')[i].1 = x by rw [ex]; rfl, show strOf (arrOf st')[j].1 = y by rw [ey]; rfl, ltCps_eq]
    exact h1
  · have hlt : b < h1.objs.size := Heap.lt_size e
    rw [sortedHeap_old (Nat.ne_of_lt hlt) (by rw [Heap.size_push]; exact Nat.lt_succ_of_lt hlt), Heap.get?_push_ne _ _ _ (Nat.ne_of_lt hlt)]
    exact e
end
end NwS

set_option Elab.async false
set_option linter.all false
set_option maxRecDepth 100000
set_option maxHeartbeats 4000000
namespace L2
open PySem PySem.Spec PyProof.Rows
/-- a text stands not behind another -/
def leS (a b : Str) : Prop := ltCps b.cps.toList a.cps.toList = false
/-- the texts of a list, each once, rising -/
structure IsNorm (ts out : List Str) : Prop where
  nd : out.Nodup
  le : out.Pairwise leS
  mem : ∀ x, x ∈ out ↔ x ∈ ts
  len : out.length ≤ ts.length
theorem leS_anti {a b : Str} (h1 : leS a b) (h2 : leS b a) : a = b := by
  unfold leS at h1 h2
  have e : a.cps.toList = b.cps.toList := strKind.total _ _ (by rw [ltCps_eq] at h2; exact h2) (by rw [ltCps_eq] at h1; exact h1)
  cases a; cases b
  exact congrArg Str.mk (Array.toList_inj.mp e)
theorem IsNorm.uniq {ts ts' a b : List Str} (h : IsNorm ts a) (h' : IsNorm ts' b) (e : ∀ x, x ∈ ts ↔ x ∈ ts') : a = b :=
  List.Perm.eq_of_pairwise (fun _ _ _ _ h1 h2 => leS_anti h1 h2) h.le h'.le ((List.perm_ext_iff_of_nodup h.nd h'.nd).mpr fun x => ((h.mem x).trans (e x)).trans (h'.mem x).symm)
theorem IsNorm.nil : IsNorm [] [] := ⟨.nil, .nil, fun _ => Iff.rfl, Nat.le_refl _⟩
theorem IsNorm.one (x : Str) : IsNorm [x] [x] := ⟨by simp, by simp, fun _ => Iff.rfl, Nat.le_refl _⟩
theorem IsNorm.cat {a b oa ob out : List Str} (h1 : IsNorm a oa) (h2 : IsNorm b ob) (h : IsNorm (oa ++ ob) out) : IsNorm (a ++ b) out :=
  ⟨h.nd, h.le, fun x => (h.mem x).trans (by rw [List.mem_append, List.mem_append, h1.mem, h2.mem]), by have := h.len; have := h1.len; have := h2.len; rw [List.length_append] at *; omega⟩

section
variable {X : Cx}
def SetO (X : Cx) (a : Addr) (ss : List Str) : HO := HO.ext fun h => ∃ es ep t, NwS.SetT X.prog X.w h a ss es ep t
theorem strs_of_vals : ∀ {ts : List Str} {its : List Value}, Vals (ts.map V.str) its → StrsAre its ts
  | [], its, h => by
    rw [List.map_nil] at h
    rw [h.nil_iff.mpr rfl]; exact .nil
  | b :: bs, its, h => by
    rw [List.map_cons] at h
    cases h with
    | cons r1 r2 =>
      obtain ⟨t, e⟩ := r1
      rw [e]
      exact .cons _ _ (strs_of_vals r2)
theorem strs_vals : ∀ {ts : List Str} {its : List Value}, StrsAre its ts → Vals (ts.map V.str) its
  | _, _, .nil => .nil
  | _, _, .cons x t h => .cons ⟨t, rfl⟩ (strs_vals h)
def metS (ts : List Str) : List Str := NwS.metT (fun i => ts.getD i ⟨#[]⟩) ts.length
theorem metS_mem (ts : List Str) (x : Str) : x ∈ metS ts ↔ x ∈ ts := by
  unfold metS
  rw [NwS.metT_mem, List.mem_iff_getElem?]
  constructor
  · rintro ⟨j, h1, h2⟩
    refine ⟨j, ?_⟩
    rw [List.getD_eq_getElem?_getD, List.getElem?_eq_getElem h1] at h2
    rw [List.getElem?_eq_getElem h1, ← h2]; rfl
  · rintro ⟨j, h⟩
    have hj : j < ts.length := by
      rcases Nat.lt_or_ge j ts.length with h' | h'
      · exact h'
      · rw [List.getElem?_eq_none h'] at h; cases h
    exact ⟨j, hj, by rw [List.getD_eq_getElem?_getD, h]; rfl⟩
theorem metS_nodup (ts : List Str) : (metS ts).Nodup := NwS.metT_nodup _ _
theorem metS_length (ts : List Str) : (metS ts).length ≤ ts.length := NwS.metT_length _ _
theorem IsNorm.of_met {ts out : List Str} (h : IsNorm (metS ts) out) : IsNorm ts out := ⟨h.nd, h.le, fun x => (h.mem x).trans (metS_mem ts x), Nat.le_trans h.len (metS_length ts)⟩
/-- set(xs), xs a list of texts -/
theorem call_setS (hc : X.calm = true) : CallR X (.type "set") (fun xs H Q => ∃ (p : Addr) (ts : List Str), xs = [.ref p] ∧ SqL X.K H p (ts.map V.str) ∧ ts.length + 1 < scanBound ∧ ∀ l, H l = none → Q (.ref l) (upd H l (SetO X l (metS ts)))) := by
  intro pins s σ H xs us Q I r h
  obtain ⟨p, ts, rfl, hx, hb, q⟩ := h
  obtain ⟨u, rfl, ru⟩ := vals1 r
  cases ru
  obtain ⟨its, rv, ht, hz⟩ := I.list hx
  have hlen : its.length = ts.length := by have := rv.length; rw [List.length_map] at this; exact this.symm
  refine NwS.call_set_strs (I.ok.hd hc) ht.isList (xs := ts) (by simpa using strs_of_vals rv) (by simp only [List.size_toArray]; omega) fun h' tk hS hk => ?_
  have e : its.toArray.size = ts.length := by rw [List.size_toArray, hlen]
  rw [e] at hS
  refine ⟨.ref s.heap.objs.size, _, I.laid (fun b o e => hk b o (Heap.lt_size e) e) (Nat.le_refl _) (show ObjOk X.prog X.w _ h' _ (SetO X s.heap.objs.size (metS ts)) from ?_), rfl, q _ (I.hok.fresh (Nat.le_refl _))⟩
  refine ⟨hS, ?_, fun h1 h2 p k => ?_⟩
  · obtain ⟨es, ep, t, hS⟩ := hS; exact ⟨_, hS.obj⟩
  · obtain ⟨es, ep, t, p⟩ := p; exact ⟨es, ep, t, { p with obj := k _ p.obj }⟩
/-- sorted(a), a a set of texts -/
theorem call_sortedS (hc : X.calm = true) : CallR X (.builtin "sorted") (fun xs H Q => ∃ (p : Addr) (ss : List Str), xs = [.ref p] ∧ H p = some (SetO X p ss) ∧ ss.Nodup ∧ ss.length < 64 ∧ ∀ l out, H l = none → IsNorm ss out → Q (.ref l) (upd H l (.lst (out.map V.str)))) := by
  intro pins s σ H xs us Q I r h
  obtain ⟨p, ss, rfl, hx, hnd, hb, q⟩ := h
  obtain ⟨u, rfl, ru⟩ := vals1 r
  cases ru
  obtain ⟨⟨es, ep, t, hS⟩, _, _⟩ := I.hok p _ hx
  refine NwS.sorted_set (I.ok.hd hc) hS hb fun h1 h' d tk n out ss' a1 a2 a3 a4 a5 a6 => ?_
  have I1 : Inv X pins σ H { s with heap := h1, toks := tk } := I.kept a5
  have I2 : Inv X pins σ (upd H h1.objs.size (.lst (ss'.map V.str))) { s with heap := h', toks := tk } :=
    I1.laid (t' := tk) a6 (Nat.le_refl _) (show ObjOk X.prog X.w _ _ _ (.lst (ss'.map V.str)) from ⟨by rw [List.length_map, a2.length_eq]; rw [sizeLine_eq]; omega, out.toList, n, strs_vals a1, a4⟩)
  have I3 : Inv X pins σ (upd H h1.objs.size (.lst (ss'.map V.str))) { s with heap := h', drawn := d, toks := tk } :=
    ⟨I2.ok, I2.os, I2.bare, I2.base, I2.loc, I2.cell, I2.free, I2.freeC, I2.pin, I2.hok, I2.len⟩
  exact ⟨.ref h1.objs.size, _, I3, rfl, q _ _ (I1.hok.fresh (Nat.le_refl _)) ⟨a2.nodup_iff.mpr hnd, a3, fun x => a2.mem_iff, Nat.le_of_eq a2.length_eq⟩⟩
end
end L2

set_option Elab.async false
set_option linter.all false
set_option maxRecDepth 100000
set_option maxHeartbeats 4000000
namespace Nw
open PySem L2
def top (i : Nat) : Stmt := PySem.Challenge.pw_nearerwork_k11_changes_shown.main.body.getD i (.Pass ⟨0, 0, 0, 0⟩)
abbrev sAt : Stmt := top 16
abbrev sBegin : Stmt := top 17
abbrev sDraw : Stmt := top 18
abbrev sNames : Stmt := top 19
abbrev sNumI : Stmt := inClass (top 5) 0
abbrev sNumS : Stmt := inClass (top 5) 2
abbrev sNamI : Stmt := inClass (top 6) 0
abbrev sNamS : Stmt := inClass (top 6) 3
abbrev sNamN : Stmt := inClass (top 6) 2
abbrev sTwoI : Stmt := inClass (top 7) 0
abbrev sTwoN : Stmt := inClass (top 7) 1
abbrev sPluS : Stmt := inClass (top 8) 1
abbrev sMinS : Stmt := inClass (top 9) 1
abbrev sTimS : Stmt := inClass (top 10) 1
abbrev sSumN : Stmt := inClass (top 4) 1
abbrev sBra : Stmt := top 2
abbrev sTwoO : Stmt := top 3
abbrev sSum : Stmt := top 20
abbrev sText : Stmt := top 21
abbrev sHand : Stmt := top 22
abbrev sNms : Stmt := top 23
abbrev sChaI : Stmt := inClass (top 12) 0
abbrev sChaN : Stmt := inClass (top 12) 2
abbrev sChaS : Stmt := inClass (top 12) 3
abbrev sPutI : Stmt := inClass (top 13) 0
abbrev sPutN : Stmt := inClass (top 13) 2
abbrev sPutS : Stmt := inClass (top 13) 3
abbrev sAnyI : Stmt := inClass (top 14) 0
abbrev sAnyN : Stmt := inClass (top 14) 2
abbrev sAnyS : Stmt := inClass (top 14) 3
abbrev sRight : Stmt := top 24
abbrev sLaw : Stmt := top 25
structure Bl (mg : Str → Option Value) : Prop where
  len : mg "len" = none
  range : mg "range" = none
  isinstance : mg "isinstance" = none
  str : mg "str" = none
  list : mg "list" = none
  max : mg "max" = none
  min : mg "min" = none
  sorted : mg "sorted" = none
  set : mg "set" = none

/-! ### small facts -/
theorem hu60 {A : Around} {k : Nat} (hr : Room k A) : A.units + 60 < cLine := by have := hr.un; omega
theorem same_new {H : Hp} {p : Addr} (h : H p = none) (o : HO) : Same H (upd H p o) := fun b u q => by rw [upd_ne (ne_of_none q h)]; exact q
theorem same_put {H H' : Hp} {p : Addr} (s : Same H H') (h : H p = none) (o : HO) : Same H (upd H' p o) := fun b u q => by rw [upd_ne (ne_of_none q h)]; exact s b u q
def cps (l : List Nat) : Str := ⟨l.toArray⟩
theorem cps_length (l : List Nat) : (cps l).length = l.length := by show l.toArray.size = l.length; simp
theorem cps_append (a b : List Nat) : cps a ++ cps b = cps (a ++ b) := by
  show (⟨a.toArray ++ b.toArray⟩ : Str) = ⟨(a ++ b).toArray⟩
  simp
theorem cps_inj {a b : List Nat} (h : cps a = cps b) : a = b := by
  have h : a.toArray = b.toArray := Str.mk.inj h
  simpa using h
theorem str_len (x y : Str) : (x ++ y).length = x.length + y.length := by
  show (x.cps ++ y.cps).size = x.cps.size + y.cps.size
  simp
theorem alpha : ("abcdefghijklmnopqrstuvwxyz" : Str) = cps ((List.range 26).map (97 + ·)) := by decide +kernel
theorem letter_at {i : Int} (h0 : 0 ≤ i) (h1 : i < 26) : atI (("abcdefghijklmnopqrstuvwxyz" : Str).cps.toList) i = some (97 + i.toNat) := by
  rw [alpha]
  obtain ⟨k, rfl⟩ : ∃ k : Nat, i = k := ⟨i.toNat, by omega⟩
  refine atI_nat ?_
  show (((List.range 26).map (97 + ·)).toArray.toList)[k]? = _
  have hi : k < 26 := by omega
  simp [hi]
theorem join_signs : ∀ cs : List Nat, Str.join ⟨#[]⟩ (cs.map fun c => (⟨#[c]⟩ : Str)) = cps cs
  | [] => rfl
  | c :: cs => by
    rw [List.map_cons, PyProof.Rows.join_nil_cons, join_signs cs]
    show (⟨#[c] ++ cs.toArray⟩ : Str) = ⟨(c :: cs).toArray⟩
    simp
theorem join_eq (sep : Str) (l : List Str) : Txt.join sep l = Str.join sep l := eq_of_beq (PyProof.Rows.join_plain_closes sep l)
theorem flat_strs : ∀ l : List Str, (l.map V.str).all flatV = true
  | [] => rfl
  | y :: l => by rw [List.map_cons, List.all_cons, flat_strs l]; rfl
theorem sum_ones : ∀ cs : List Nat, ((cs.map fun c => (⟨#[c]⟩ : Str)).map (·.length)).sum = cs.length
  | [] => rfl
  | c :: cs => by
    rw [List.map_cons, List.map_cons, List.sum_cons, sum_ones cs, List.length_cons]
    show 1 + cs.length = cs.length + 1
    omega
theorem inV_strs (x : Str) : ∀ l : List Str, inV (.str x) (l.map V.str) = decide (x ∈ l)
  | [] => rfl
  | y :: l => by
    have q := inV_strs x l
    unfold inV at q ⊢
    rw [List.map_cons, List.any_cons, q]
    by_cases e : x = y
    · subst e
      simp [eqV]
    · have e' : ¬ y = x := fun z => e z.symm
      simp [eqV, e, e']
theorem deps_strs : ∀ ns : List Str, deps (ns.map Dt.str) = 0
  | [] => by simp [deps]
  | n :: ns => by simp [deps, dep, deps_strs ns]
theorem at_strs {l : List Str} {r : Int} (r0 : 0 ≤ r) (r1 : r < (l.length : Int)) : ∃ x ∈ l, atI (l.map V.str) r = some (.str x) := by
  obtain ⟨k, rfl⟩ : ∃ k : Nat, r = k := ⟨r.toNat, by omega⟩
  have hk : k < l.length := by omega
  exact ⟨l[k], List.getElem_mem hk, atI_nat (by rw [List.getElem?_map, List.getElem?_eq_getElem hk]; rfl)⟩
theorem em26 (x : Int) : 0 ≤ x % 26 ∧ x % 26 < 26 := ⟨Int.emod_nonneg _ (by decide), Int.emod_lt_of_pos _ (by decide)⟩
def ownW : List Str := ["name", "from", "to", "at", "keep", "deed", "when", "do", "any", "and", "or", "not", "yes", "tie", "step", "for", "none", "falls"]
section
variable {P : Program} {w : World} {K : PySem.W.Frag} {mg : Str → Option Value} {base : Heap}
/-! ### a cell: some int -/
def spAt (K : PySem.W.Frag) : Sp := fun vs H Q _ => ∃ (a : Addr) (ns : List Int) (k : Int), vs = [.ref a, .int k] ∧ SqL K H a (ns.map V.int) ∧ ns.length ≤ 63 ∧ 0 ≤ k ∧ k ≤ 1000 ∧ ∀ (r : Int) (H' : Hp), Same H H' → Q (.int r) H'
theorem scAt : FnScope ["_law_script", "_law_k"] ["_law_script", "_law_k"] (defScope sAt) := ⟨rfl, rfl, rfl, by decide +kernel, rfl, by decide +kernel, by decide +kernel⟩
theorem ok_at {f : Addr} {fd : FuncData} (B : Bl mg) (F : Fun K "_law_at" "_law_at" sAt f fd) : FnOk P w K mg base CX0 1 f fd ["_law_script", "_law_k"] (spAt K) := by
  refine F.ok scAt (fun vs H Q E h => ?_) (fun cdv A outer s H vs Q E hr h => ?_)
  · obtain ⟨a, ns, k, rfl, _⟩ := h
    rfl
  obtain ⟨a, ns, k, rfl, hS, hl, k0, k1, q⟩ := h
  refine ⟨_, (@pss_cons _ _ _ _ _ (@ps_if _ _ _ _ _ _ _ _ (@pt_cmpR _ _ _ _ _ _ _ _ op_lt (pv 1) (pe_callB call_len_seq (by rfl) B.len PySem.boot_len (@pa_cons _ _ _ _ _ (pv 0) pa_nil (by rfl))) (nomark _)) (@pss_one _ _ _ (@ps_ret _ _ _ _ (@pe_ix _ _ _ _ _ _ (rIxL K) ix_list (pv 0) (pv 1) (fun _ _ => rfl)))) pss_nil) (@pss_one _ _ _ (@ps_ret _ _ _ _ (@pe_op _ _ _ _ _ _ _ _ op_mod (@pe_op _ _ _ _ _ _ _ _ op_mul (@pe_op _ _ _ _ _ _ _ _ op_add (@pe_op _ _ _ _ _ _ _ _ op_mod (@pe_ix _ _ _ _ _ _ (rIxL K) ix_list (@pe_op _ _ _ _ _ _ _ _ op_catL (pv 0) (@pe_lst _ _ _ _ (@pa_cons _ _ _ _ _ pe_int pa_nil (by rfl)))) pe_int (fun _ _ => rfl)) pe_int) pe_int) (@pe_op _ _ _ _ _ _ _ _ op_add (@pe_op _ _ _ _ _ _ _ _ op_mul (pv 1) (pv 1)) pe_int)) pe_int)))), ?_⟩
  refine ⟨_, rfl, _, rfl, a, _, rfl, .inl hS, _, _, rfl, rfl, _, rfl, ?_⟩
  refine ite2 (fun c => ?_) (fun c => ?_)
  · have c' : k < (((ns.map V.int).length : Nat) : Int) := of_decide_eq_true c
    rw [List.length_map] at c'
    obtain ⟨j, rfl⟩ : ∃ j : Nat, k = j := ⟨k.toNat, by omega⟩
    have hj : j < ns.length := by omega
    exact ⟨_, rfl, _, rfl, a, _, _, _, rfl, rfl, hS, atI_nat (by rw [List.getElem?_map, List.getElem?_eq_getElem hj]; rfl), q _ H (Same.refl H)⟩
  · refine ⟨_, rfl, by decide, fun p hp => ⟨a, p, _, _, rfl, rfl, (same_new hp _).seq hS, SqL.of upd_same, ?_, fun z hz => ?_⟩⟩
    · rw [List.length_map]
      exact Nat.le_of_lt (small1000 (by show ns.length + 1 ≤ 1000; omega))
    have hat : ∃ x : Int, atI (ns.map V.int ++ [V.int 0]) 0 = some (.int x) := by
      cases ns with
      | nil => exact ⟨0, atI_nat (j := 0) rfl⟩
      | cons n r => exact ⟨n, atI_nat (j := 0) rfl⟩
    obtain ⟨x, hx⟩ := hat
    have b1 := Int.emod_nonneg x (b := 1000003) (by decide)
    have b2 := Int.emod_lt_of_pos x (b := 1000003) (by decide)
    refine ⟨z, _, _, _, rfl, rfl, SqL.of upd_same, hx, _, _, rfl, rfl, (by show (0 : Int) < 1000003; decide), _, _, rfl, rfl, _, rfl, _, rfl, _, _, rfl, rfl, .inl ⟨by omega, by omega⟩, _, _, rfl, rfl, _, _, rfl, rfl, .inl ⟨?_, ?_⟩, _, _, rfl, rfl, (by show (0 : Int) < 2147483647; decide), ?_⟩
    · show -(2 ^ 64) < x % 1000003 + 29; omega
    · show x % 1000003 + 29 < 2 ^ 64; omega
    exact q _ _ ((same_new hp _).trans (same_new hz _))
/-! ### a state of two ints, and drawing from it -/
def spBegin : Sp := fun vs H Q _ => ∃ c : Int, vs = [.int c] ∧ ∀ p, H p = none → Q (.ref p) (upd H p (.lst [.int (c / 2), .int (c % 2)]))
theorem scBegin : FnScope ["_law_cell"] ["_law_cell"] (defScope sBegin) := ⟨rfl, rfl, rfl, by decide +kernel, rfl, by decide +kernel, by decide +kernel⟩
theorem ok_begin {f : Addr} {fd : FuncData} (F : Fun K "_law_begin" "_law_begin" sBegin f fd) : FnOk P w K mg base CX0 1 f fd ["_law_cell"] spBegin := by
  refine F.ok scBegin (fun vs H Q E h => ?_) (fun cdv A outer s H vs Q E hr h => ?_)
  · obtain ⟨c, rfl, _⟩ := h
    rfl
  obtain ⟨c, rfl, q⟩ := h
  refine ⟨_, (@pss_one _ _ _ (@ps_ret _ _ _ _ (@pe_lst _ _ _ _ (@pa_cons _ _ _ _ _ (@pe_op _ _ _ _ _ _ _ _ op_fdiv (pv 0) pe_int) (@pa_cons _ _ _ _ _ (@pe_op _ _ _ _ _ _ _ _ op_mod (pv 0) pe_int) pa_nil (by rfl)) (by rfl))))), ?_⟩
  exact ⟨_, rfl, _, _, rfl, rfl, ⟨by decide, by decide⟩, _, rfl, _, _, rfl, rfl, (by show (0 : Int) < 2; decide), (by show 2 ≤ sizeLine; decide), fun p hp => q p hp⟩
def spDraw : Sp := fun vs H Q _ => ∃ (a : Addr) (s0 s1 m : Int), vs = [.ref a, .int m] ∧ H a = some (.lst [.int s0, .int s1]) ∧ 0 < m ∧ m < 100000000 ∧ ∀ r s0' : Int, 0 ≤ r → r < m → Q (.int r) (upd H a (.lst [.int s0', .int s1]))
theorem scDraw : FnScope ["_law_state", "_law_many", "_law_found", "_law_number"] ["_law_state", "_law_many"] (defScope sDraw) := ⟨rfl, rfl, rfl, by decide +kernel, rfl, by decide +kernel, by decide +kernel⟩
theorem ok_draw {f : Addr} {fd : FuncData} (F : Fun K "_law_draw" "_law_draw" sDraw f fd) : FnOk P w K mg base CX0 1 f fd ["_law_state", "_law_many"] spDraw := by
  refine F.ok scDraw (fun vs H Q E h => ?_) (fun cdv A outer s H vs Q E hr h => ?_)
  · obtain ⟨a, s0, s1, m, rfl, _⟩ := h
    rfl
  obtain ⟨a, s0, s1, m, rfl, hH, m0, m1, q⟩ := h
  refine ⟨_, (@pss_cons _ _ _ _ _ (@ps_if _ _ _ _ _ _ _ _ (@pt_cmpR _ _ _ _ _ _ _ _ op_eq (@pe_ix _ _ _ _ _ _ (rIxL K) ix_list (pv 0) pe_int (fun _ _ => rfl)) pe_int (nomark _)) (@pss_cons _ _ _ _ _ (@ps_set _ _ 2 _ _ _ _ scDraw.nd rfl (Or.inl rfl) (@pe_op _ _ _ _ _ _ _ _ op_mod (@pe_ix _ _ _ _ _ _ (rIxL K) ix_list (pv 0) pe_int (fun _ _ => rfl)) (pv 1)) rfl (Or.inl rfl)) (@pss_cons _ _ _ _ _ (ps_asg (@pe_op _ _ _ _ _ _ _ _ op_fdiv (@pe_ix _ _ _ _ _ _ (rIxL K) ix_list (pv 0) pe_int (fun _ _ => rfl)) (pv 1)) (pg_sub (pv 0) pe_int set_list)) (@pss_one _ _ _ (@ps_ret _ _ _ _ (pv 2))))) pss_nil) (@pss_cons _ _ _ _ _ (@ps_set _ _ 3 _ _ _ _ scDraw.nd rfl (Or.inl rfl) (@pe_op _ _ _ _ _ _ _ _ op_mod (@pe_op _ _ _ _ _ _ _ _ op_add (@pe_op _ _ _ _ _ _ _ _ op_mul (@pe_op _ _ _ _ _ _ _ _ op_mod (@pe_ix _ _ _ _ _ _ (rIxL K) ix_list (pv 0) pe_int (fun _ _ => rfl)) pe_int) pe_int) pe_int) pe_int) rfl (Or.inl rfl)) (@pss_cons _ _ _ _ _ (ps_asg (@pe_op _ _ _ _ _ _ _ _ op_mod (@pe_op _ _ _ _ _ _ _ _ op_add (@pe_op _ _ _ _ _ _ _ _ op_add (@pe_op _ _ _ _ _ _ _ _ op_mul (pv 3) pe_int) (@pe_op _ _ _ _ _ _ _ _ op_mod (@pe_op _ _ _ _ _ _ _ _ op_fdivB (@pe_ix _ _ _ _ _ _ (rIxL K) ix_list (pv 0) pe_int (fun _ _ => rfl)) pe_int) pe_int)) pe_int) pe_int) (pg_sub (pv 0) pe_int set_list)) (@pss_one _ _ _ (@ps_ret _ _ _ _ (@pe_op _ _ _ _ _ _ _ _ op_mod (@pe_op _ _ _ _ _ _ _ _ op_fdiv (@pe_op _ _ _ _ _ _ _ _ op_mod (@pe_op _ _ _ _ _ _ _ _ op_add (@pe_op _ _ _ _ _ _ _ _ op_mul (@pe_ix _ _ _ _ _ _ (rIxL K) ix_list (pv 0) pe_int (fun _ _ => rfl)) pe_int) pe_int) pe_int) pe_int) (pv 1))))))), ?_⟩
  have a0 : ∀ x y : Int, atI [V.int x, V.int y] 0 = some (.int x) := fun x y => atI_nat (j := 0) rfl
  have a1 : atI [V.int s0, V.int s1] 1 = some (.int s1) := atI_nat (j := 1) rfl
  have i0 : ∀ x y : Int, ixN [V.int x, V.int y].length 0 = some 0 := fun _ _ => by show ixN 2 0 = some 0; decide
  refine ⟨_, rfl, a, _, _, _, rfl, rfl, SqL.of hH, a1, rfl, _, rfl, ite2 (fun _ => ?_) (fun _ => ?_)⟩
  · refine ⟨_, rfl, a, _, _, _, rfl, rfl, SqL.of hH, a0 _ _, _, rfl, _, _, rfl, rfl, m0, ?_⟩
    refine ⟨_, rfl, a, _, _, _, rfl, rfl, SqL.of hH, a0 _ _, _, rfl, _, _, rfl, rfl, ⟨m0, by omega⟩, _, rfl, a, _, _, 0, rfl, rfl, hH, i0 _ _, ?_⟩
    exact ⟨_, rfl, q _ _ (Int.emod_nonneg _ (by omega)) (Int.emod_lt_of_pos _ m0)⟩
  · have b1 := Int.emod_nonneg s0 (b := 2147483647) (by decide)
    have b2 := Int.emod_lt_of_pos s0 (b := 2147483647) (by decide)
    have f1 : ∀ x : Int, 0 ≤ x % 2147483629 ∧ x % 2147483629 < 2147483629 := fun x => ⟨Int.emod_nonneg _ (by decide), Int.emod_lt_of_pos _ (by decide)⟩
    have f2 : ∀ x : Int, 0 ≤ x % 2147483587 ∧ x % 2147483587 < 2147483587 := fun x => ⟨Int.emod_nonneg _ (by decide), Int.emod_lt_of_pos _ (by decide)⟩
    refine ⟨_, rfl, a, _, _, _, rfl, rfl, SqL.of hH, a0 _ _, _, _, rfl, rfl, (by show (0 : Int) < 2147483647; decide), _, _, rfl, rfl, .inl ⟨?_, ?_⟩, _, _, rfl, rfl, _, _, rfl, rfl, (by show (0 : Int) < 2147483629; decide), ?_⟩
    · show -(2 ^ 64) < s0 % 2147483647; omega
    · show s0 % 2147483647 < 2 ^ 64; omega
    refine ⟨_, rfl, _, _, rfl, rfl, .inl ⟨Int.lt_of_lt_of_le (by decide) (f1 _).1, Int.lt_trans (f1 _).2 (by decide)⟩, _, rfl, a, _, _, _, rfl, rfl, SqL.of hH, a0 _ _, _, _, rfl, rfl, ⟨by decide, by decide⟩, _, _, rfl, rfl, (by show (0 : Int) < 1000003; decide), _, _, rfl, rfl, _, _, rfl, rfl, _, _, rfl, rfl, (by show (0 : Int) < 2147483587; decide), _, rfl, a, _, _, 0, rfl, rfl, hH, i0 _ _, ?_⟩
    refine ⟨_, rfl, a, _, _, _, rfl, rfl, SqL.of upd_same, a0 _ _, _, _, rfl, rfl, .inl ⟨Int.lt_of_lt_of_le (by decide) (f2 _).1, Int.lt_trans (f2 _).2 (by decide)⟩, _, _, rfl, rfl, _, _, rfl, rfl, (by show (0 : Int) < 2147483579; decide), _, _, rfl, rfl, ⟨by decide, by decide⟩, _, rfl, _, _, rfl, rfl, m0, ?_⟩
    exact q _ _ (Int.emod_nonneg _ (by omega)) (Int.emod_lt_of_pos _ m0)
end
end Nw

set_option Elab.async false
set_option linter.all false
set_option maxRecDepth 100000
set_option maxHeartbeats 4000000
namespace Nw
open PySem L2
/-! ### names: texts of one to nine letters that differ -/
structure Nam (x : Str) : Prop where
  signs : ∃ cs : List Nat, x = cps cs ∧ cs ≠ [] ∧ cs.length ≤ 8 ∧ ∀ c ∈ cs, 97 ≤ c ∧ c ≤ 122
  other : x ∉ ownW
/-- the letters cs with the letter d put in at place n -/
def nmk (cs : List Nat) (n : Nat) (d : Int) : List Nat := cs.take n ++ (97 + (d % 26).toNat) :: cs.drop n
theorem nmk_len (cs : List Nat) {n : Nat} (d : Int) : (nmk cs n d).length = cs.length + 1 := by
  unfold nmk
  rw [List.length_append, List.length_cons, List.length_take, List.length_drop]
  omega
theorem nmk_at {cs : List Nat} {n : Nat} (h : n ≤ cs.length) (d : Int) : (nmk cs n d)[n]? = some (97 + (d % 26).toNat) := by
  unfold nmk
  have e : (cs.take n).length = n := by rw [List.length_take]; omega
  rw [List.getElem?_append_right (by omega), e, Nat.sub_self]
  rfl
theorem nmk_ne {cs : List Nat} {n : Nat} (h : n ≤ cs.length) {d d' : Int} (hd : d % 26 ≠ d' % 26) : cps (nmk cs n d) ≠ cps (nmk cs n d') := by
  intro e
  have e := congrArg (fun l : List Nat => l[n]?) (cps_inj e)
  have e : (nmk cs n d)[n]? = (nmk cs n d')[n]? := e
  rw [nmk_at h, nmk_at h] at e
  have e := Option.some.inj e
  have b1 := em26 d
  have b2 := em26 d'
  omega
theorem nmk_ok {cs : List Nat} (n : Nat) (d : Int) (h : ∀ c ∈ cs, 97 ≤ c ∧ c ≤ 122) : ∀ c ∈ nmk cs n d, 97 ≤ c ∧ c ≤ 122 := by
  intro c hc
  unfold nmk at hc
  rcases List.mem_append.mp hc with z | z
  · exact h c (List.mem_of_mem_take z)
  · rcases List.mem_cons.mp z with z | z
    · have b := em26 d
      omega
    · exact h c (List.mem_of_mem_drop z)
/-- the first i names -/
def nms (cs : List Nat) (n : Nat) (a b : Int) (i : Nat) : List Str := (List.range i).map fun (k : Nat) => cps (nmk cs n (a + k * b))
theorem nms_succ (cs : List Nat) (n : Nat) (a b : Int) (i : Nat) : nms cs n a b (i + 1) = nms cs n a b i ++ [cps (nmk cs n (a + i * b))] := by
  unfold nms
  rw [List.range_succ, List.map_append]
  rfl
theorem nms_len (cs : List Nat) (n : Nat) (a b : Int) (i : Nat) : (nms cs n a b i).length = i := by unfold nms; simp
theorem nodup_map {f : Nat → Str} : ∀ {i : Nat}, (∀ j k, j < k → k < i → f j ≠ f k) → ((List.range i).map f).Nodup
  | 0, _ => by simp
  | i + 1, h => by
    rw [List.range_succ, List.map_append]
    refine List.nodup_append.mpr ⟨nodup_map fun j k a b => h j k a (by omega), by simp, fun x hx y hy e => ?_⟩
    obtain ⟨j, hj, rfl⟩ := List.mem_map.mp hx
    have hy : y = f i := by simpa using hy
    subst hy
    exact h j i (List.mem_range.mp hj) (by omega) e
theorem nms_nodup {cs : List Nat} {n : Nat} (h : n ≤ cs.length) {a b : Int} (b0 : 1 ≤ b) (b1 : b ≤ 3) {i : Nat} (hi : i ≤ 8) : (nms cs n a b i).Nodup := by
  refine nodup_map fun j k hjk hk => nmk_ne h ?_
  have hb : b = 1 ∨ b = 2 ∨ b = 3 := by omega
  rcases hb with rfl | rfl | rfl <;> omega
/-- zq and a letter -/
def zqs (a : Int) (i : Nat) : List Str := (List.range i).map fun (k : Nat) => cps [122, 113, 97 + ((a + k) % 26).toNat]
theorem zqE : ("zq" : Str) = cps [122, 113] := by decide +kernel
theorem zqs_succ (a : Int) (i : Nat) : zqs a (i + 1) = zqs a i ++ [cps [122, 113, 97 + ((a + i) % 26).toNat]] := by
  unfold zqs
  rw [List.range_succ, List.map_append]
  rfl
theorem zqs_len (a : Int) (i : Nat) : (zqs a i).length = i := by unfold zqs; simp
theorem zqs_nodup (a : Int) {i : Nat} (hi : i ≤ 8) : (zqs a i).Nodup := by
  refine nodup_map fun j k hjk hk e => ?_
  have e := cps_inj e
  simp only [List.cons.injEq, and_true, true_and] at e
  have b1 := em26 (a + j)
  have b2 := em26 (a + k)
  omega
theorem zq_own : ∀ d : _root_.Fin 26, cps [122, 113, 97 + d.val] ∉ ownW := by decide +kernel
theorem zqs_nam {a : Int} {i : Nat} {x : Str} (h : x ∈ zqs a i) : Nam x := by
  unfold zqs at h
  obtain ⟨k, hk, rfl⟩ := List.mem_map.mp h
  have b := em26 (a + (k : Nat))
  refine ⟨⟨_, rfl, by simp, by simp, fun c hc => ?_⟩, ?_⟩
  · simp only [List.mem_cons, List.not_mem_nil, or_false] at hc
    rcases hc with rfl | rfl | rfl
    · decide
    · decide
    · omega
  · exact zq_own ⟨((a + (k : Nat)) % 26).toNat, by omega⟩
theorem nms_nam {cs : List Nat} {n : Nat} {a b : Int} {i : Nat} (hl : cs.length ≤ 7) (hc : ∀ c ∈ cs, 97 ≤ c ∧ c ≤ 122) (ho : ∀ x ∈ nms cs n a b i, x ∉ ownW) {x : Str} (h : x ∈ nms cs n a b i) : Nam x := by
  refine ⟨?_, ho x h⟩
  unfold nms at h
  obtain ⟨k, hk, rfl⟩ := List.mem_map.mp h
  have ln := nmk_len cs (n := n) (a + (k : Nat) * b)
  exact ⟨_, rfl, (by intro z; rw [z] at ln; cases ln), (by omega), nmk_ok n _ hc⟩
theorem sl_to {cs : List Nat} {j : Int} (h0 : 0 ≤ j) (h1 : j ≤ cs.length) : Txt.slice (cps cs) none (some j) = cps (cs.take j.toNat) := by
  show StrLaws.sliceText (cps cs) none (some j) = _
  rw [StrLaws.sliceText_to ⟨h0, by show j ≤ (cs.toArray.toList.length : Int); simpa using h1⟩]
  show (⟨_⟩ : Str) = ⟨_⟩
  simp [cps]
theorem sl_from {cs : List Nat} {j : Int} (h0 : 0 ≤ j) (h1 : j ≤ cs.length) : Txt.slice (cps cs) (some j) none = cps (cs.drop j.toNat) := by
  show StrLaws.sliceText (cps cs) (some j) none = _
  rw [StrLaws.sliceText_from ⟨h0, by show j ≤ (cs.toArray.toList.length : Int); simpa using h1⟩]
  show (⟨((cs.toArray.toList.drop j.toNat).take ((cs.toArray.toList.length : Int) - j).toNat).toArray⟩ : Str) = ⟨(cs.drop j.toNat).toArray⟩
  rw [List.toList_toArray, List.take_of_length_le (by rw [List.length_drop]; omega)]
theorem own_split : Txt.split ("name from to at keep deed when do any and or not yes tie step for none falls" : Str) (" " : Str) = ownW := by decide +kernel
theorem own_parts : (Builtin.Str.partsBetween ("name from to at keep deed when do any and or not yes tie step for none falls" : Str) (Builtin.Str.occurrences ("name from to at keep deed when do any and or not yes tie step for none falls" : Str) (" " : Str) 0 ("name from to at keep deed when do any and or not yes tie step for none falls" : Str).length (("name from to at keep deed when do any and or not yes tie step for none falls" : Str).length + 1)) (" " : Str).length).length ≤ 1000 := by decide +kernel
theorem eq_nilS (ms : List Str) : dEq (.lst (ms.map Dt.str)) (.lst []) = decide (ms = []) := by
  cases ms with
  | nil => rw [List.map_nil, dEq, dEqs]; rfl
  | cons m r => rw [List.map_cons, dEq]; simp [dEqs]
section
variable {P : Program} {w : World} {K : PySem.W.Frag} {mg : Str → Option Value} {base : Heap}
def spNames : Sp := fun vs H Q _ => ∃ (c m : Int), vs = [.int c, .int m] ∧ 0 ≤ m ∧ m ≤ 8 ∧ ∀ (p : Addr) (H' : Hp) (l : List Str), Same H H' → H p = none → H' p = some (.lst (l.map V.str)) → (l.length : Int) = m → l.Nodup → (∀ x ∈ l, Nam x) → Q (.ref p) H'
theorem scNames : FnScope ["_law_cell", "_law_many", "_law_letters", "_law_state", "_law_size", "_law_at_here", "_law_first", "_law_step", "_law_base", "_law_some", "_law_k", "_law_letter", "_law_own"] ["_law_cell", "_law_many"] (defScope sNames) := ⟨rfl, rfl, rfl, by decide +kernel, rfl, by decide +kernel, by decide +kernel⟩
theorem nd_scNames1 : (["_law_cell", "_law_many", "_law_letters", "_law_state", "_law_size", "_law_at_here", "_law_first", "_law_step", "_law_base", "_law_some", "_law_k", "_law_letter", "_law_own"] : List Str).Nodup := by decide +kernel
theorem nd_scNames2 : (["_law_cell", "_law_many", "_law_letters", "_law_state", "_law_size", "_law_at_here", "_law_first", "_law_step", "_law_base", "_law_some", "_law_k", "_law_letter", "_law_own", "_law_name"] : List Str).Nodup := by decide +kernel
theorem nd_scNames3 : (["_law_cell", "_law_many", "_law_letters", "_law_state", "_law_size", "_law_at_here", "_law_first", "_law_step", "_law_base", "_law_some", "_law_k", "_law_letter", "_law_own"] : List Str).Nodup := by decide +kernel
theorem ok_names {f fB fD : Addr} {fd fdB fdD : FuncData} (B : Bl mg) (F : Fun K "_law_names" "_law_names" sNames f fd) (FB : Fun K "_law_begin" "_law_begin" sBegin fB fdB) (bB : Binds K fdB ["_law_cell"] []) (mB : mg "_law_begin" = some (.ref fB))
    (FD : Fun K "_law_draw" "_law_draw" sDraw fD fdD) (bD : Binds K fdD ["_law_state", "_law_many"] []) (mD : mg "_law_draw" = some (.ref fD)) : FnOk P w K mg base CX0 2 f fd ["_law_cell", "_law_many"] spNames := by
  have GB : FnOk P w K mg base CX0 1 fB fdB ["_law_cell"] spBegin := ok_begin FB
  have GD : FnOk P w K mg base CX0 1 fD fdD ["_law_state", "_law_many"] spDraw := ok_draw FD
  refine F.ok scNames (fun vs H Q E h => ?_) (fun cdv A outer s H vs Q E hr h => ?_)
  · obtain ⟨c, m, rfl, _⟩ := h
    rfl
  obtain ⟨c, m, rfl, m0, m1, q⟩ := h
  have hu := hu60 hr
  refine ⟨_, (@pss_cons _ _ _ _ _ (@ps_set _ _ 2 _ _ _ _ scNames.nd rfl (Or.inr rfl) pe_str rfl (Or.inl rfl)) (@pss_cons _ _ _ _ _ (@ps_set _ _ 3 _ _ _ _ scNames.nd rfl (Or.inr rfl) (pe_call GB hr (by rfl) mB FB.kp bB .nil pass0 (@pa_cons _ _ _ _ _ (pv 0) pa_nil (by rfl))) rfl (Or.inl rfl)) (@pss_cons _ _ _ _ _ (@ps_set _ _ 4 _ _ _ _ scNames.nd rfl (Or.inl rfl) (pe_call GD hr (by rfl) mD FD.kp bD .nil pass0 (@pa_cons _ _ _ _ _ (pv 3) (@pa_cons _ _ _ _ _ pe_int pa_nil (by rfl)) (by rfl))) rfl (Or.inl rfl)) (@pss_cons _ _ _ _ _ (@ps_set _ _ 5 _ _ _ _ scNames.nd rfl (Or.inl rfl) (pe_call GD hr (by rfl) mD FD.kp bD .nil pass0 (@pa_cons _ _ _ _ _ (pv 3) (@pa_cons _ _ _ _ _ (@pe_op _ _ _ _ _ _ _ _ op_add (pv 4) pe_int) pa_nil (by rfl)) (by rfl))) rfl (Or.inl rfl)) (@pss_cons _ _ _ _ _ (@ps_set _ _ 6 _ _ _ _ scNames.nd rfl (Or.inr rfl) (pe_call GD hr (by rfl) mD FD.kp bD .nil pass0 (@pa_cons _ _ _ _ _ (pv 3) (@pa_cons _ _ _ _ _ pe_int pa_nil (by rfl)) (by rfl))) rfl (Or.inl rfl)) (@pss_cons _ _ _ _ _ (@ps_set _ _ 7 _ _ _ _ scNames.nd rfl (Or.inl rfl) (@pe_op _ _ _ _ _ _ _ _ op_add pe_int (pe_call GD hr (by rfl) mD FD.kp bD .nil pass0 (@pa_cons _ _ _ _ _ (pv 3) (@pa_cons _ _ _ _ _ pe_int pa_nil (by rfl)) (by rfl)))) rfl (Or.inl rfl)) (@pss_cons _ _ _ _ _ (@ps_set _ _ 8 _ _ _ _ scNames.nd rfl (Or.inl rfl) (pe_bm (r := rJoin K) PySem.F.plainAttrs_str PySem.F.slot_str_join PySem.F.type_str_join mt_join pe_str (@pa_cons _ _ _ _ _ (pe_comp (NX := ["_law_cell", "_law_many", "_law_letters", "_law_state", "_law_size", "_law_at_here", "_law_first", "_law_step", "_law_base", "_law_some", "_law_k", "_law_letter", "_law_own"]) (N := ["_law_cell", "_law_many", "_law_letters", "_law_state", "_law_size", "_law_at_here", "_law_first", "_law_step", "_law_base", "_law_some", "_law_k", "_law_letter", "_law_own"]) (ms := [true, true, true, true, true, true, true, true, true, true, false, true, true]) (ks := [10]) (out := defScope sNames) (by exact ⟨rfl, by decide +kernel, by decide +kernel, by decide +kernel, by decide +kernel, by decide +kernel⟩) rfl rfl rfl (pi_range1 rfl B.range (@pa_cons _ _ _ _ _ (pv 4) pa_nil (by rfl))) (@sets_name 10) (by decide) (fun C ex s H => (pg_name (i := 10) nd_scNames1 rfl (Or.inl rfl))) (fun C ex s H => pts_nil) (fun C ex s H => (@pe_ix _ _ _ _ _ _ _ ix_str (pv 2) (pe_call GD hr (by rfl) mD FD.kp bD .nil pass0 (@pa_cons _ _ _ _ _ (pv 3) (@pa_cons _ _ _ _ _ pe_int pa_nil (by rfl)) (by rfl))) (fun _ _ => rfl)))) pa_nil (by rfl))) rfl (Or.inl rfl)) (@pss_cons _ _ _ _ _ (@ps_set _ _ 9 _ _ _ _ scNames.nd rfl (Or.inl rfl) (@pe_lst _ _ _ _ pa_nil) rfl (Or.inl rfl)) (@pss_cons _ _ _ _ _ (@ps_for _ _ _ _ _ _ _ _ PassesOwn.never rfl (pi_range1 rfl B.range (@pa_cons _ _ _ _ _ (pv 1) pa_nil (by rfl))) (pg_name (i := 10) scNames.nd rfl (Or.inl rfl)) (@pss_cons _ _ _ _ _ (@ps_set _ _ 11 _ _ _ _ scNames.nd rfl (Or.inl rfl) (@pe_ix _ _ _ _ _ _ _ ix_str (pv 2) (@pe_op _ _ _ _ _ _ _ _ op_mod (@pe_op _ _ _ _ _ _ _ _ op_add (pv 6) (@pe_op _ _ _ _ _ _ _ _ op_mul (pv 10) (pv 7))) pe_int) (fun _ _ => rfl)) rfl (Or.inl rfl)) (@pss_one _ _ _ (@ps_expr _ _ _ _ (pe_bm PySem.F.plainAttrs_list PySem.F.slot_list_append PySem.F.type_list_append mt_append (pv 9) (@pa_cons _ _ _ _ _ (@pe_op _ _ _ _ _ _ _ _ op_add_str (@pe_op _ _ _ _ _ _ _ _ op_add_str (@pe_slice _ _ _ _ _ _ _ _ _ _ sl_str (pv 8) po_none (@po_some _ _ _ (pv 5))) (pv 11)) (@pe_slice _ _ _ _ _ _ _ _ _ _ sl_str (pv 8) (@po_some _ _ _ (pv 5)) po_none)) pa_nil (by rfl))) (by rfl)))) (by intro _; rfl)) (@pss_cons _ _ _ _ _ (@ps_set _ _ 12 _ _ _ _ scNames.nd rfl (Or.inr rfl) (pe_bm PySem.F.plainAttrs_str PySem.F.slot_str_split PySem.F.type_str_split mt_split pe_str (@pa_cons _ _ _ _ _ pe_str pa_nil (by rfl))) rfl (Or.inl rfl)) (@pss_cons _ _ _ _ _ (@ps_if _ _ _ _ _ _ _ _ (@pt_cmpR _ _ _ _ _ _ _ _ (@op_neD _ hu) (pe_comp (NX := ["_law_cell", "_law_many", "_law_letters", "_law_state", "_law_size", "_law_at_here", "_law_first", "_law_step", "_law_base", "_law_some", "_law_k", "_law_letter", "_law_own"]) (N := ["_law_cell", "_law_many", "_law_letters", "_law_state", "_law_size", "_law_at_here", "_law_first", "_law_step", "_law_base", "_law_some", "_law_k", "_law_letter", "_law_own", "_law_name"]) (ms := [true, true, true, true, true, true, true, true, true, true, true, true, true, false]) (ks := [13]) (out := defScope sNames) (by exact ⟨rfl, by decide +kernel, by decide +kernel, by decide +kernel, by decide +kernel, by decide +kernel⟩) rfl rfl rfl (@pi_list _ _ _ _ (pv 9)) (@sets_name 13) (by decide) (fun C ex s H => (pg_name (i := 13) nd_scNames2 rfl (Or.inl rfl))) (fun C ex s H => (@pts_one _ _ _ (@pt_cmpR _ _ _ _ _ _ _ (rIn K false) op_in_seq (pv 13) (pv 12) (by with_unfolding_all rfl)))) (fun C ex s H => (pv 13))) (@pe_lst _ _ _ _ pa_nil) (nomark _)) (@pss_one _ _ _ (@ps_ret _ _ _ _ (pe_comp (NX := ["_law_cell", "_law_many", "_law_letters", "_law_state", "_law_size", "_law_at_here", "_law_first", "_law_step", "_law_base", "_law_some", "_law_k", "_law_letter", "_law_own"]) (N := ["_law_cell", "_law_many", "_law_letters", "_law_state", "_law_size", "_law_at_here", "_law_first", "_law_step", "_law_base", "_law_some", "_law_k", "_law_letter", "_law_own"]) (ms := [true, true, true, true, true, true, true, true, true, true, false, true, true]) (ks := [10]) (out := defScope sNames) (by exact ⟨rfl, by decide +kernel, by decide +kernel, by decide +kernel, by decide +kernel, by decide +kernel⟩) rfl rfl rfl (pi_range1 rfl B.range (@pa_cons _ _ _ _ _ (pv 1) pa_nil (by rfl))) (@sets_name 10) (by decide) (fun C ex s H => (pg_name (i := 10) nd_scNames3 rfl (Or.inl rfl))) (fun C ex s H => pts_nil) (fun C ex s H => (@pe_op _ _ _ _ _ _ _ _ op_add_str pe_str (@pe_ix _ _ _ _ _ _ _ ix_str (pv 2) (@pe_op _ _ _ _ _ _ _ _ op_mod (@pe_op _ _ _ _ _ _ _ _ op_add (pv 6) (pv 10)) pe_int) (fun _ _ => rfl))))))) pss_nil) (@pss_one _ _ _ (@ps_ret _ _ _ _ (pv 9)))))))))))))), ?_⟩
  refine ⟨_, rfl, c, rfl, fun a ha => ?_⟩
  refine ⟨_, rfl, a, _, _, 8, rfl, upd_same, by decide, by decide, fun z z0 z1 z2 => ?_⟩
  rw [upd_upd]
  refine ⟨_, rfl, _, rfl, _, _, rfl, rfl, a, _, _, z + 1, rfl, upd_same, by omega, by omega, fun at_ y0 y1 y2 => ?_⟩
  rw [upd_upd]
  refine ⟨_, rfl, a, _, _, 26, rfl, upd_same, by decide, by decide, fun fi x0 x1 x2 => ?_⟩
  rw [upd_upd]
  refine ⟨_, rfl, a, _, _, 3, rfl, upd_same, by decide, by decide, fun st w0 w1 w2 => ⟨_, _, rfl, rfl, ?_⟩⟩
  rw [upd_upd]
  -- the base
  refine ⟨rfl, _, rfl, z, rfl, by omega, by omega, comp_range (n := z.toNat) (fun i ys H' => ∃ (cs : List Nat) (u0 : Int), ys = (cs.map fun c => (⟨#[c]⟩ : Str)).map V.str ∧ cs.length = i ∧ (∀ c ∈ cs, 97 ≤ c ∧ c ≤ 122) ∧ H' = upd H a (.lst [.int u0, .int (c % 2)])) ⟨[], _, rfl, rfl, by simp, rfl⟩ (fun i ys H' hi ⟨cs, _, e1, e2, _⟩ => by rw [e1, List.length_map, List.length_map, e2]; exact small1000 (by omega)) ?_ ?_⟩
  · rintro i ys H' hi ⟨cs, u0, rfl, e2, e3, rfl⟩
    refine ⟨_, rfl, _, rfl, a, _, _, 26, rfl, upd_same, by decide, by decide, fun r r' r0 r1 => ?_⟩
    rw [upd_upd]
    refine ⟨_, _, _, rfl, rfl, by decide, letter_at r0 r1, ?_⟩
    refine ⟨cs ++ [97 + r.toNat], r', by rw [List.map_append, List.map_append]; rfl, by rw [List.length_append, e2]; rfl, fun x hx => ?_, rfl⟩
    rcases List.mem_append.mp hx with y | y
    · exact e3 x y
    · rw [List.mem_singleton.mp y]
      omega
  · rintro ys H' ⟨cs, u0, rfl, e2, e3, rfl⟩ D hD
    refine ⟨_, D, cs.map fun c => (⟨#[c]⟩ : Str), rfl, rfl, SqL.of upd_same, ?_, ?_⟩
    · rw [sum_ones, List.length_map]
      show cs.length + cs.length * 0 ≤ 16777216
      omega
    rw [join_eq, show ("" : Str) = ⟨#[]⟩ from rfl, join_signs]
    have s1 := same_put (same_new ha (.lst [.int u0, .int (c % 2)])) (by
      by_cases e : D = a
      · rw [e, upd_same] at hD; cases hD
      · rw [upd_ne e] at hD; exact hD) (.lst ((cs.map fun c => (⟨#[c]⟩ : Str)).map V.str))
    generalize upd (upd H a (.lst [.int u0, .int (c % 2)])) D (.lst ((cs.map fun c => (⟨#[c]⟩ : Str)).map V.str)) = H1 at s1 ⊢
    have la : at_ ≤ cs.length := by omega
    have lb : (cps cs).length ≤ sizeLine := by rw [cps_length]; exact Nat.le_of_lt (small1000 (by omega))
    refine ⟨by decide, fun pl hpl => ?_⟩
    have npl : H pl = none := s1.free hpl
    refine ⟨_, rfl, m, rfl, by omega, by omega, for_range (n := m.toNat) (fun i σ H2 => ∃ v1 v2 : Option V, σ = [some (.int c), some (.int m), some (.str "abcdefghijklmnopqrstuvwxyz"), some (.ref a), some (.int z), some (.int at_), some (.int fi), some (.int (1 + st)), some (.str (cps cs)), some (.ref pl), v1, v2, none] ∧ Same H H2 ∧ H2 pl = some (.lst ((nms cs at_.toNat fi (1 + st) i).map V.str))) ⟨none, none, rfl, s1.trans (same_new hpl _), upd_same⟩ ?_ ?_⟩
    · rintro i σ H2 hi ⟨v1, v2, rfl, f3, f4⟩
      have b := em26 (fi + (0 + (i : Int)) * (1 + st))
      refine ⟨_, rfl, _, rfl, _, rfl, _, rfl, _, _, rfl, rfl, .inl ⟨by omega, by omega⟩, _, _, rfl, rfl, _, _, rfl, rfl, (by show (0 : Int) < 26; decide), _, _, _, rfl, rfl, by decide, letter_at b.1 b.2, ?_⟩
      refine ⟨_, rfl, .inl ⟨rfl, _, SqL.of f4⟩, _, rfl, _, rfl, _, rfl, _, rfl, lb, _, rfl, _, _, rfl, rfl, ?_, _, rfl, _, rfl, _, rfl, _, rfl, lb, _, _, rfl, rfl, ?_, pl, _, _, rfl, rfl, f4, ?_, ?_⟩
      · rw [sl_to y1 la, cps_length, List.length_take]
        exact Nat.le_of_lt (small1000 (by show _ + 1 ≤ 1000; omega))
      · rw [sl_to y1 la, sl_from y1 la, str_len, cps_length, cps_length, List.length_take, List.length_drop]
        exact Nat.le_of_lt (small1000 (by show _ + 1 + _ ≤ 1000; omega))
      · rw [List.length_map, nms_len]
        exact small1000 (by omega)
      · refine ⟨_, _, rfl, same_put f3 npl _, ?_⟩
        rw [upd_same, nms_succ, List.map_append, sl_to y1 la, sl_from y1 la]
        have e : cps (cs.take at_.toNat) ++ (⟨#[97 + ((fi + (0 + (i : Int)) * (1 + st)) % 26).toNat]⟩ : Str) ++ cps (cs.drop at_.toNat) = cps (nmk cs at_.toNat (fi + i * (1 + st))) := by
          rw [show (⟨#[97 + ((fi + (0 + (i : Int)) * (1 + st)) % 26).toNat]⟩ : Str) = cps [97 + ((fi + (0 + (i : Int)) * (1 + st)) % 26).toNat] from rfl, cps_append, cps_append, Int.zero_add]
          unfold nmk
          rw [List.append_assoc]
          rfl
        rw [e]
        rfl
    · rintro σ H2 ⟨v1, v2, rfl, f3, f4⟩
      -- the own words
      refine ⟨rfl, _, _, rfl, rfl, by decide +kernel, by decide +kernel, Nat.le_of_lt (small1000 own_parts), fun po hpo => ?_⟩
      rw [own_split]
      have n1 := nms_len cs at_.toNat fi (1 + st) m.toNat
      have so := same_new hpo (.lst (ownW.map V.str))
      have eo : (upd H2 po (.lst (ownW.map V.str))) po = some (.lst (ownW.map V.str)) := upd_same
      have f5 := so _ _ f4
      have f6 := f3.trans so
      generalize upd H2 po (.lst (ownW.map V.str)) = H3 at so eo f5 f6 ⊢
      refine ⟨_, rfl, pl, rfl, ⟨_, SqL.of f5⟩, comp_list (xs := (nms cs at_.toNat fi (1 + st) m.toNat).map V.str) (fun i ys H' => ∃ l : List Str, ys = l.map V.str ∧ l.length ≤ i ∧ H' = H3 ∧ (l = [] → ∀ x ∈ (nms cs at_.toNat fi (1 + st) m.toNat).take i, x ∉ ownW)) ⟨[], rfl, Nat.le_refl _, rfl, fun _ x hx => by simp at hx⟩ (fun i ys H' _ ⟨_, _, _, e, _⟩ => by rw [e]; exact SqL.of f5) (fun i ys H' hi ⟨l, e1, e2, _⟩ => by rw [e1, List.length_map]; rw [List.length_map] at hi; exact small1000 (by omega)) ?_ ?_⟩
      · rintro i x ys H' hx ⟨l, rfl, e2', rfl, e4⟩
        have hi : i < (nms cs at_.toNat fi (1 + st) m.toNat).length := by have := (List.getElem?_eq_some_iff.mp hx).1; rw [List.length_map] at this; exact this
        rw [List.getElem?_map, List.getElem?_eq_getElem hi] at hx
        cases hx
        refine ⟨_, rfl, _, rfl, po, _, rfl, .inl (SqL.of eo), rfl, flat_strs _, _, rfl, ite2 (fun c1 => ?_) (fun c1 => ?_)⟩
        · exact ⟨_, rfl, l ++ [_], by rw [List.map_append]; rfl, by rw [List.length_append]; show l.length + 1 ≤ i + 1; omega, rfl, fun z => by simp at z⟩
        · refine ⟨l, rfl, by omega, rfl, fun z x hx => ?_⟩
          rw [List.take_add_one, List.getElem?_eq_getElem hi] at hx
          rcases List.mem_append.mp hx with y | y
          · exact e4 z x y
          · have y : x = (nms cs at_.toNat fi (1 + st) m.toNat)[i] := by simpa using y
            have c2 : ¬ inV (.str (nms cs at_.toNat fi (1 + st) m.toNat)[i]) (ownW.map V.str) = true := c1
            rw [inV_strs] at c2
            rw [y]
            exact fun z => c2 (decide_eq_true z)
      · rintro ys H' ⟨l, rfl, e2', rfl, e4⟩ D2 hD2
        rw [List.length_map, List.take_of_length_le (by omega)] at e4
        refine ⟨by decide, fun z9 hz9 => ⟨.lst (l.map Dt.str), .lst [], ?_, ?_, rfl, rfl, ?_, _, rfl, ?_⟩⟩
        · rw [Is]
          exact ⟨D2, _, rfl, SqL.of (by rw [upd_ne (ne_of_none upd_same hz9), upd_same]), Iss.strs l⟩
        · rw [Is]
          exact ⟨z9, _, rfl, SqL.of upd_same, Iss.nil⟩
        · rw [dep, deps_strs]; decide
        have s9 := f6.trans ((same_new hD2 (.lst (l.map V.str))).trans (same_new hz9 (.lst [])))
        have g9 := ((same_new hD2 (.lst (l.map V.str))).trans (same_new hz9 (.lst []))) _ _ f5
        generalize upd (upd H' D2 (.lst (l.map V.str))) z9 (.lst []) = H9 at s9 g9 ⊢
        rw [eq_nilS]
        by_cases hl0 : l = []
        · rw [decide_eq_true hl0]
          refine iteF ?_
          exact ⟨_, rfl, q pl H9 _ s9 npl g9 (by rw [n1]; omega) (nms_nodup (by omega) (by omega) (by omega) (by omega)) fun x hx => nms_nam (by omega) e3 (e4 hl0) hx⟩
        · rw [decide_eq_false hl0]
          refine iteT ?_
          refine ⟨_, rfl, m, rfl, by omega, by omega, comp_range (n := m.toNat) (fun i ys H' => ys = (zqs fi i).map V.str ∧ H' = H9) ⟨rfl, rfl⟩ (fun i ys H' hi ⟨e1, _⟩ => by rw [e1, List.length_map, zqs_len]; exact small1000 (by omega)) ?_ ?_⟩
          · rintro i ys H' hi ⟨rfl, rfl⟩
            have b := em26 (fi + (0 + (i : Int)))
            refine ⟨_, rfl, _, rfl, _, rfl, _, _, rfl, rfl, _, _, rfl, rfl, (by show (0 : Int) < 26; decide), _, _, _, rfl, rfl, by decide, letter_at b.1 b.2, _, _, rfl, rfl, ?_, ?_⟩
            · exact Nat.le_of_lt (small1000 (by show 2 + 1 ≤ 1000; decide))
            · refine ⟨?_, rfl⟩
              rw [zqs_succ, List.map_append, Int.zero_add, zqE]
              show _ ++ [V.str (cps [122, 113] ++ cps [97 + ((fi + (i : Int)) % 26).toNat])] = _
              rw [cps_append]
              rfl
          · rintro ys H' ⟨rfl, rfl⟩ D3 hD3
            exact q D3 _ _ (s9.trans (same_new hD3 _)) (s9.free hD3) upd_same (by rw [zqs_len]; omega) (zqs_nodup fi (by omega)) fun x hx => zqs_nam hx
end
end Nw

set_option Elab.async false
set_option linter.all false
set_option maxRecDepth 100000
set_option maxHeartbeats 4000000
namespace Nw
open PySem L2
/-! ### trees -/
inductive Sg where
  | plus | minus | times
inductive Tr where
  | num (n : Int) | nam (x : Str) | op (s : Sg) (l r : Tr)
def sgS : Sg → Str
  | .plus => "+"
  | .minus => "-"
  | .times => "*"
def trD : Tr → Dt
  | .num n => .tup [.str "number", .int n]
  | .nam x => .tup [.str "name", .str x]
  | .op s l r => .tup [.str (sgS s), trD l, trD r]
def lv : Tr → Nat
  | .num _ => 1
  | .nam _ => 1
  | .op _ l r => lv l + lv r
def dp : Tr → Nat
  | .num _ => 0
  | .nam _ => 0
  | .op _ l r => max (dp l) (dp r) + 1
theorem lv_pos : ∀ t : Tr, 0 < lv t
  | .num _ => Nat.one_pos
  | .nam _ => Nat.one_pos
  | .op _ l r => Nat.add_pos_left (lv_pos l) _
def Fits (l : List Str) : Tr → Prop
  | .num n => 0 ≤ n ∧ n ≤ 99
  | .nam x => x ∈ l
  | .op _ a b => Fits l a ∧ Fits l b
def Sb (d : Addr) (H H' : Hp) : Prop := ∀ b o, b ≠ d → H b = some o → H' b = some o
theorem Sb.trans {d : Addr} {H H1 H2 : Hp} (a : Sb d H H1) (b : Sb d H1 H2) : Sb d H H2 := fun c o hc e => b c o hc (a c o hc e)
theorem Sb.of {d : Addr} {H H' : Hp} (s : Same H H') : Sb d H H' := fun b o _ e => s b o e
theorem Sb.upd (d : Addr) (H : Hp) (o : HO) : Sb d H (upd H d o) := fun b u hb e => by rw [upd_ne hb]; exact e
theorem SqT.sb {K : PySem.W.Frag} {a r : Addr} {H H' : Hp} {xs ys : List V} (h : SqT K H r xs) (ha : H a = some (.lst ys)) (s : Sb a H H') : SqT K H' r xs := by
  rcases h with (h | ⟨o, h⟩) | h
  · exact .inl (.inl (s _ _ (ne_of h ha (by intro z; cases z)) h))
  · exact .inl (.inr ⟨o, s _ _ (ne_of h ha (by intro z; cases z)) h⟩)
  · exact .inr h
theorem tr_sb {K : PySem.W.Frag} {a : Addr} {H H' : Hp} {ys : List V} (ha : H a = some (.lst ys)) (s : Sb a H H') : ∀ {t : Tr} {v : V}, Is K H (trD t) v → Is K H' (trD t) v
  | .num n, v, h => by
    rw [trD, Is] at h ⊢
    obtain ⟨p, xs, e, h1, h2⟩ := h
    refine ⟨p, xs, e, SqT.sb h1 ha s, ?_⟩
    simp only [Iss, Is] at h2 ⊢
    exact h2
  | .nam n, v, h => by
    rw [trD, Is] at h ⊢
    obtain ⟨p, xs, e, h1, h2⟩ := h
    refine ⟨p, xs, e, SqT.sb h1 ha s, ?_⟩
    simp only [Iss, Is] at h2 ⊢
    exact h2
  | .op g l r, v, h => by
    rw [trD, Is] at h ⊢
    obtain ⟨p, xs, e, h1, h2⟩ := h
    refine ⟨p, xs, e, SqT.sb h1 ha s, ?_⟩
    simp only [Iss] at h2 ⊢
    obtain ⟨v1, r1, e1, i1, v2, r2, e2, i2, v3, r3, e3, i3, e4⟩ := h2
    refine ⟨v1, r1, e1, ?_, v2, r2, e2, tr_sb ha s i2, v3, r3, e3, tr_sb ha s i3, e4⟩
    rw [Is] at i1 ⊢
    exact i1
/-- a tree of data, opened -/
theorem is_num {K : PySem.W.Frag} {H : Hp} {n : Int} {v : V} (h : Is K H (trD (.num n)) v) : ∃ p, v = .ref p ∧ SqT K H p [.str "number", .int n] := by
  rw [trD, Is] at h
  obtain ⟨p, xs, e, h1, h2⟩ := h
  simp only [Iss, Is] at h2
  obtain ⟨v1, r1, rfl, rfl, v2, r2, rfl, rfl, rfl⟩ := h2
  exact ⟨p, e, h1⟩
theorem is_nam {K : PySem.W.Frag} {H : Hp} {n : Str} {v : V} (h : Is K H (trD (.nam n)) v) : ∃ p, v = .ref p ∧ SqT K H p [.str "name", .str n] := by
  rw [trD, Is] at h
  obtain ⟨p, xs, e, h1, h2⟩ := h
  simp only [Iss, Is] at h2
  obtain ⟨v1, r1, rfl, rfl, v2, r2, rfl, rfl, rfl⟩ := h2
  exact ⟨p, e, h1⟩
theorem is_op {K : PySem.W.Frag} {H : Hp} {g : Sg} {l r : Tr} {v : V} (h : Is K H (trD (.op g l r)) v) : ∃ p a b, v = .ref p ∧ SqT K H p [.str (sgS g), a, b] ∧ Is K H (trD l) a ∧ Is K H (trD r) b := by
  rw [trD, Is] at h
  obtain ⟨p, xs, e, h1, h2⟩ := h
  simp only [Iss] at h2
  obtain ⟨v1, r1, rfl, i1, v2, r2, rfl, i2, v3, r3, rfl, i3, rfl⟩ := h2
  rw [Is] at i1
  subst i1
  exact ⟨p, v2, v3, e, h1, i2, i3⟩
theorem sign_at {k : Int} (k0 : 0 ≤ k) (k1 : k < 3) : ∃ g : Sg, atI [V.str "+", V.str "-", V.str "*"] k = some (.str (sgS g)) := by
  have : k = 0 ∨ k = 1 ∨ k = 2 := by omega
  rcases this with rfl | rfl | rfl
  · exact ⟨.plus, atI_nat (j := 0) rfl⟩
  · exact ⟨.minus, atI_nat (j := 1) rfl⟩
  · exact ⟨.times, atI_nat (j := 2) rfl⟩
theorem tr_num {K : PySem.W.Frag} {H : Hp} {p : Addr} {n : Int} (h : SqT K H p [.str "number", .int n]) : Is K H (trD (.num n)) (.ref p) := by
  rw [trD, Is]
  exact ⟨p, _, rfl, h, .cons (by rw [Is]) (.cons (by rw [Is]) .nil)⟩
theorem tr_nam {K : PySem.W.Frag} {H : Hp} {p : Addr} {x : Str} (h : SqT K H p [.str "name", .str x]) : Is K H (trD (.nam x)) (.ref p) := by
  rw [trD, Is]
  exact ⟨p, _, rfl, h, .cons (by rw [Is]) (.cons (by rw [Is]) .nil)⟩
theorem tr_op {K : PySem.W.Frag} {H : Hp} {p : Addr} {g : Sg} {l r : Tr} {a b : V} (h : SqT K H p [.str (sgS g), a, b]) (h1 : Is K H (trD l) a) (h2 : Is K H (trD r) b) : Is K H (trD (.op g l r)) (.ref p) := by
  rw [trD, Is]
  exact ⟨p, _, rfl, h, .cons (by rw [Is]) (.cons h1 (.cons h2 .nil))⟩
theorem fn_none {P : Program} {w : World} {K : PySem.W.Frag} {mg : Str → Option Value} {base : Heap} {f : Addr} {fd : FuncData} {ps : List Str} {k : Nat} {sp : Sp} (h : ∀ vs H Q E, ¬ sp vs H Q E) : FnOk P w K mg base CX0 k f fd ps sp := ⟨fun vs H Q E q => absurd q (h _ _ _ _), fun _ _ _ _ _ _ _ _ _ _ _ _ _ q => absurd q (h _ _ _ _)⟩
/-! ### a state at a, names at b -/
theorem strs_ne {l : List Str} {x y : Int} : HO.lst (l.map V.str) ≠ HO.lst [.int x, .int y] := by
  intro e
  have e := HO.lst.inj e
  cases l with
  | nil => cases e
  | cons a r => cases (List.cons.inj e).1
structure StAt (H : Hp) (a b : Addr) (s1 : Int) (l : List Str) : Prop where
  st : ∃ s0 : Int, H a = some (.lst [.int s0, .int s1])
  nm : H b = some (.lst (l.map V.str))
theorem StAt.ne {H : Hp} {a b : Addr} {s1 : Int} {l : List Str} (S : StAt H a b s1 l) : b ≠ a := by
  obtain ⟨s0, h⟩ := S.st
  exact ne_of S.nm h strs_ne
theorem StAt.put {H : Hp} {a b : Addr} {s1 : Int} {l : List Str} (S : StAt H a b s1 l) (s0 : Int) : StAt (upd H a (.lst [.int s0, .int s1])) a b s1 l := ⟨⟨s0, upd_same⟩, by rw [upd_ne S.ne]; exact S.nm⟩
theorem StAt.same {H H' : Hp} {a b : Addr} {s1 : Int} {l : List Str} (S : StAt H a b s1 l) (s : Same H H') : StAt H' a b s1 l := by
  obtain ⟨s0, h⟩ := S.st
  exact ⟨⟨s0, s _ _ h⟩, s _ _ S.nm⟩
section
variable {P : Program} {w : World} {K : PySem.W.Frag} {mg : Str → Option Value} {base : Heap}
def spSum (K : PySem.W.Frag) (n : Nat) : Sp := fun vs H Q _ => ∃ (a b : Addr) (s1 near d : Int) (l : List Str), vs = [.ref a, .ref b, .int near, .int d] ∧ StAt H a b s1 l ∧ l.length ≤ 8 ∧ 0 ≤ d ∧ d.toNat < n ∧
  ∀ (p : Addr) (H' : Hp) (t : Tr), Sb a H H' → StAt H' a b s1 l → Is K H' (trD t) (.ref p) → Fits l t → lv t ≤ 2 ^ (d.toNat + 1) → dp t ≤ d.toNat + 1 → Q (.ref p) H'
theorem scSum : FnScope ["_law_state", "_law_names_here", "_law_near", "_law_depth", "_law_kind", "_law_sign", "_law_one"] ["_law_state", "_law_names_here", "_law_near", "_law_depth"] (defScope sSum) := ⟨rfl, rfl, rfl, by decide +kernel, rfl, by decide +kernel, by decide +kernel⟩
theorem ok_sum {f fD : Addr} {fd fdD : FuncData} (B : Bl mg) (F : Fun K "_law_sum" "_law_sum" sSum f fd) (bS : Binds K fd ["_law_state", "_law_names_here", "_law_near", "_law_depth"] []) (mS : mg "_law_sum" = some (.ref f))
    (FD : Fun K "_law_draw" "_law_draw" sDraw fD fdD) (bD : Binds K fdD ["_law_state", "_law_many"] []) (mD : mg "_law_draw" = some (.ref fD)) : ∀ n : Nat, FnOk P w K mg base CX0 (n + 2) f fd ["_law_state", "_law_names_here", "_law_near", "_law_depth"] (spSum K n)
  | 0 => fn_none fun vs H Q E h => by obtain ⟨a, b, s1, near, d, l, _, _, _, _, h1, _⟩ := h; omega
  | n + 1 => by
    have GD : FnOk P w K mg base CX0 1 fD fdD ["_law_state", "_law_many"] spDraw := ok_draw FD
    have GS := ok_sum B F bS mS FD bD mD n
    refine F.ok scSum (fun vs H Q E h => ?_) (fun cdv A outer s H vs Q E hr h => ?_)
    · obtain ⟨a, b, s1, near, d, l, rfl, _⟩ := h
      rfl
    obtain ⟨a, b, s1, near, d, l, rfl, S, l8, d0, hn, q⟩ := h
    have hrD := hr.mono (show 1 ≤ n + 2 by omega)
    have hu := hu60 hr
    have pw : 1 ≤ 2 ^ (d.toNat + 1) := Nat.one_le_two_pow
    have pw2 : 2 ≤ 2 ^ (d.toNat + 1) := by rw [Nat.pow_succ]; have := Nat.one_le_two_pow (n := d.toNat); omega
    refine ⟨_, (@pss_cons _ _ _ _ _ (@ps_set _ _ 4 _ _ _ _ scSum.nd rfl (Or.inl rfl) (pe_call GD hrD (by rfl) mD FD.kp bD .nil pass0 (@pa_cons _ _ _ _ _ (pv 0) (@pa_cons _ _ _ _ _ pe_int pa_nil (by rfl)) (by rfl))) rfl (Or.inl rfl)) (@pss_cons _ _ _ _ _ (@ps_if _ _ _ _ _ _ _ _ (@pt_cut _ _ _ ((@pw_or _ _ _ _ _ _ _ (@pt_cmpR _ _ _ _ _ _ _ _ op_eq (pv 4) pe_int (nomark _)) (pw_or1 (@pt_cmpR _ _ _ _ _ _ _ _ (@op_eqD _ hu) (pv 1) (@pe_lst _ _ _ _ pa_nil) (nomark _))))).pt) (@pss_one _ _ _ (@ps_ret _ _ _ _ (@pe_tup _ _ _ _ _ (@pa_cons _ _ _ _ _ pe_str (@pa_cons _ _ _ _ _ (@pe_op _ _ _ _ _ _ _ _ op_mod (@pe_op _ _ _ _ _ _ _ _ op_add (pv 2) (pe_call GD hrD (by rfl) mD FD.kp bD .nil pass0 (@pa_cons _ _ _ _ _ (pv 0) (@pa_cons _ _ _ _ _ pe_int pa_nil (by rfl)) (by rfl)))) pe_int) pa_nil (by rfl)) (by rfl))))) pss_nil) (@pss_cons _ _ _ _ _ (@ps_if _ _ _ _ _ _ _ _ (@pt_cmpR _ _ _ _ _ _ _ _ op_eq (pv 4) pe_int (nomark _)) (@pss_one _ _ _ (@ps_ret _ _ _ _ (@pe_tup _ _ _ _ _ (@pa_cons _ _ _ _ _ pe_str (@pa_cons _ _ _ _ _ (@pe_ix _ _ _ _ _ _ (rIxL K) ix_list (pv 1) (pe_call GD hrD (by rfl) mD FD.kp bD .nil pass0 (@pa_cons _ _ _ _ _ (pv 0) (@pa_cons _ _ _ _ _ (pe_callB call_len_seq (by rfl) B.len PySem.boot_len (@pa_cons _ _ _ _ _ (pv 1) pa_nil (by rfl))) pa_nil (by rfl)) (by rfl))) (fun _ _ => rfl)) pa_nil (by rfl)) (by rfl))))) pss_nil) (@pss_cons _ _ _ _ _ (@ps_if _ _ _ _ _ _ _ _ (@pt_cmpR _ _ _ _ _ _ _ _ op_eq (pv 4) pe_int (nomark _)) (@pss_one _ _ _ (@ps_ret _ _ _ _ (@pe_tup _ _ _ _ _ (@pa_cons _ _ _ _ _ pe_str (@pa_cons _ _ _ _ _ (pe_call GD hrD (by rfl) mD FD.kp bD .nil pass0 (@pa_cons _ _ _ _ _ (pv 0) (@pa_cons _ _ _ _ _ pe_int pa_nil (by rfl)) (by rfl))) pa_nil (by rfl)) (by rfl))))) pss_nil) (@pss_cons _ _ _ _ _ (@ps_set _ _ 5 _ _ _ _ scSum.nd rfl (Or.inl rfl) (@pe_ix _ _ _ _ _ _ (rIxL K) ix_list (@pe_lst _ _ _ _ (@pa_cons _ _ _ _ _ pe_str (@pa_cons _ _ _ _ _ pe_str (@pa_cons _ _ _ _ _ pe_str pa_nil (by rfl)) (by rfl)) (by rfl))) (pe_call GD hrD (by rfl) mD FD.kp bD .nil pass0 (@pa_cons _ _ _ _ _ (pv 0) (@pa_cons _ _ _ _ _ pe_int pa_nil (by rfl)) (by rfl))) (fun _ _ => rfl)) rfl (Or.inl rfl)) (@pss_cons _ _ _ _ _ (@ps_if _ _ _ _ _ _ _ _ (@pt_cut _ _ _ ((@pw_or _ _ _ _ _ _ _ (@pt_cmpR _ _ _ _ _ _ _ _ op_lt (pv 4) pe_int (nomark _)) (pw_or1 (@pt_cmpR _ _ _ _ _ _ _ _ op_eq (pv 3) pe_int (nomark _))))).pt) (@pss_one _ _ _ (@ps_ret _ _ _ _ (@pe_tup _ _ _ _ _ (@pa_cons _ _ _ _ _ (pv 5) (@pa_cons _ _ _ _ _ (@pe_tup _ _ _ _ _ (@pa_cons _ _ _ _ _ pe_str (@pa_cons _ _ _ _ _ (@pe_ix _ _ _ _ _ _ (rIxL K) ix_list (pv 1) (pe_call GD hrD (by rfl) mD FD.kp bD .nil pass0 (@pa_cons _ _ _ _ _ (pv 0) (@pa_cons _ _ _ _ _ (pe_callB call_len_seq (by rfl) B.len PySem.boot_len (@pa_cons _ _ _ _ _ (pv 1) pa_nil (by rfl))) pa_nil (by rfl)) (by rfl))) (fun _ _ => rfl)) pa_nil (by rfl)) (by rfl))) (@pa_cons _ _ _ _ _ (@pe_tup _ _ _ _ _ (@pa_cons _ _ _ _ _ pe_str (@pa_cons _ _ _ _ _ (pe_call GD hrD (by rfl) mD FD.kp bD .nil pass0 (@pa_cons _ _ _ _ _ (pv 0) (@pa_cons _ _ _ _ _ pe_int pa_nil (by rfl)) (by rfl))) pa_nil (by rfl)) (by rfl))) pa_nil (by rfl)) (by rfl)) (by rfl))))) pss_nil) (@pss_cons _ _ _ _ _ (@ps_set _ _ 6 _ _ _ _ scSum.nd rfl (Or.inl rfl) (pe_call GS hr (by rfl) mS F.kp bS .nil pass0 (@pa_cons _ _ _ _ _ (pv 0) (@pa_cons _ _ _ _ _ (pv 1) (@pa_cons _ _ _ _ _ (pv 2) (@pa_cons _ _ _ _ _ (@pe_op _ _ _ _ _ _ _ _ op_sub (pv 3) pe_int) pa_nil (by rfl)) (by rfl)) (by rfl)) (by rfl))) rfl (Or.inl rfl)) (@pss_one _ _ _ (@ps_ret _ _ _ _ (@pe_tup _ _ _ _ _ (@pa_cons _ _ _ _ _ (pv 5) (@pa_cons _ _ _ _ _ (pv 6) (@pa_cons _ _ _ _ _ (pe_call GS hr (by rfl) mS F.kp bS .nil pass0 (@pa_cons _ _ _ _ _ (pv 0) (@pa_cons _ _ _ _ _ (pv 1) (@pa_cons _ _ _ _ _ (pv 2) (@pa_cons _ _ _ _ _ (@pe_op _ _ _ _ _ _ _ _ op_sub (pv 3) pe_int) pa_nil (by rfl)) (by rfl)) (by rfl)) (by rfl))) pa_nil (by rfl)) (by rfl)) (by rfl)))))))))))), ?_⟩
    obtain ⟨s0, hs⟩ := S.st
    refine ⟨_, rfl, a, s0, s1, 6, rfl, hs, by decide, by decide, fun kd z0 k0 k1 => ?_⟩
    have S1 := S.put z0
    have b1 := Sb.upd a H (.lst [.int z0, .int s1])
    generalize upd H a (.lst [.int z0, .int s1]) = H1 at S1 b1 ⊢
    refine ⟨fun c H' => Same H1 H' ∧ (c = false → l ≠ []), ?_, ?_⟩
    · refine ⟨_, rfl, rfl, _, rfl, ite2 (fun _ => ⟨Same.refl _, fun z => by cases z⟩) (fun _ => ?_)⟩
      refine ⟨_, rfl, by decide, fun z hz => ⟨.lst (l.map Dt.str), .lst [], ?_, ?_, rfl, rfl, ?_, _, rfl, ?_⟩⟩
      · rw [Is]
        exact ⟨b, _, rfl, SqL.of ((same_new hz _) _ _ S1.nm), Iss.strs l⟩
      · rw [Is]
        exact ⟨z, _, rfl, SqL.of upd_same, Iss.nil⟩
      · rw [dep, deps_strs]; decide
      rw [eq_nilS]
      exact ⟨same_new hz _, fun e => of_decide_eq_false e⟩
    rintro c H2 ⟨s2, hc⟩
    have S2 := S1.same s2
    have b2 := b1.trans (.of s2)
    obtain ⟨y0, hy⟩ := S2.st
    cases c with
    | true =>
      refine iteT ⟨_, rfl, _, rfl, a, y0, s1, 7, rfl, hy, by decide, by decide, fun r y1 r0 r1 => ⟨_, _, rfl, rfl, _, _, rfl, rfl, (by show (0 : Int) < 100; decide), by show 2 ≤ sizeLine; decide, fun p hp => ?_⟩⟩
      have e1 := Int.emod_nonneg (near + r) (b := 100) (by decide)
      have e2 := Int.emod_lt_of_pos (near + r) (b := 100) (by decide)
      exact q p _ (.num ((near + r) % 100)) ((b2.trans (Sb.upd a H2 _)).trans (.of (same_new hp _))) ((S2.put y1).same (same_new hp _)) (tr_num (SqT.of upd_same)) ⟨e1, by omega⟩ pw (Nat.zero_le _)
    | false =>
      have hl0 := hc rfl
      have lp : 0 < l.length := List.length_pos_iff.mpr hl0
      refine iteF ⟨_, rfl, rfl, _, rfl, ite2 (fun _ => ?_) (fun _ => ?_)⟩
      · refine ⟨_, rfl, _, rfl, _, rfl, b, _, rfl, .inl (SqL.of S2.nm), a, y0, s1, _, rfl, hy, ?_, ?_, fun r y1 r0 r1 => ?_⟩
        · rw [List.length_map]; omega
        · rw [List.length_map]; omega
        rw [List.length_map] at r1
        obtain ⟨x, hx, ex⟩ := at_strs r0 r1
        refine ⟨b, _, _, _, rfl, rfl, SqL.of (S2.put y1).nm, ex, by show 2 ≤ sizeLine; decide, fun p hp => ?_⟩
        exact q p _ (.nam x) ((b2.trans (Sb.upd a H2 _)).trans (.of (same_new hp _))) ((S2.put y1).same (same_new hp _)) (tr_nam (SqT.of upd_same)) hx pw (Nat.zero_le _)
      refine ⟨_, rfl, rfl, _, rfl, ite2 (fun _ => ?_) (fun _ => ?_)⟩
      · refine ⟨_, rfl, a, y0, s1, 100, rfl, hy, by decide, by decide, fun r y1 r0 r1 => ⟨by show 2 ≤ sizeLine; decide, fun p hp => ?_⟩⟩
        exact q p _ (.num r) ((b2.trans (Sb.upd a H2 _)).trans (.of (same_new hp _))) ((S2.put y1).same (same_new hp _)) (tr_num (SqT.of upd_same)) ⟨r0, by omega⟩ pw (Nat.zero_le _)
      refine ⟨by show 3 ≤ sizeLine; decide, fun sl hsl => ?_⟩
      have t3 := same_new hsl (.lst [V.str "+", V.str "-", V.str "*"])
      have S3 := S2.same t3
      have b3 := b2.trans (.of t3)
      have esl : upd H2 sl (.lst [V.str "+", V.str "-", V.str "*"]) sl = some (.lst [V.str "+", V.str "-", V.str "*"]) := upd_same
      generalize upd H2 sl (.lst [V.str "+", V.str "-", V.str "*"]) = H3 at t3 S3 b3 esl ⊢
      obtain ⟨x0, hx3⟩ := S3.st
      refine ⟨_, rfl, a, x0, s1, 3, rfl, hx3, by decide, by decide, fun r y1 r0 r1 => ?_⟩
      obtain ⟨g, hg⟩ := sign_at r0 r1
      have sa : sl ≠ a := ne_of esl hx3 (by intro z; cases z)
      refine ⟨sl, _, _, _, rfl, rfl, SqL.of (by rw [upd_ne sa]; exact esl), hg, ?_⟩
      have S4 := S3.put y1
      have b4 := b3.trans (Sb.upd a H3 (.lst [.int y1, .int s1]))
      generalize upd H3 a (.lst [.int y1, .int s1]) = H4 at S4 b4 ⊢
      refine ⟨fun c H' => H' = H4 ∧ (c = false → 0 < d), ?_, ?_⟩
      · refine ⟨_, rfl, _, _, rfl, rfl, _, rfl, ite2 (fun _ => ⟨rfl, fun z => by cases z⟩) (fun _ => ?_)⟩
        refine ⟨_, rfl, rfl, _, rfl, rfl, fun e => ?_⟩
        have e : ¬ V.int d = V.int 0 := of_decide_eq_false e
        have e : d ≠ 0 := fun z => e (by rw [z])
        omega
      rintro c H5 ⟨rfl, hc⟩
      obtain ⟨w0, hw⟩ := S4.st
      cases c with
      | true =>
        refine iteT ⟨_, rfl, _, rfl, _, rfl, _, rfl, b, _, rfl, .inl (SqL.of S4.nm), a, w0, s1, _, rfl, hw, ?_, ?_, fun r y2 r0 r1 => ?_⟩
        · rw [List.length_map]; omega
        · rw [List.length_map]; omega
        rw [List.length_map] at r1
        obtain ⟨x, hx, ex⟩ := at_strs r0 r1
        have S5 := S4.put y2
        have b5 := b4.trans (Sb.upd a H5 (.lst [.int y2, .int s1]))
        generalize upd H5 a (.lst [.int y2, .int s1]) = H6 at S5 b5 ⊢
        refine ⟨b, _, _, _, rfl, rfl, SqL.of S5.nm, ex, by show 2 ≤ sizeLine; decide, fun p1 hp1 => ?_⟩
        have S6 := S5.same (same_new hp1 (.tup [V.str "name", V.str x]))
        have b6 := b5.trans (.of (same_new hp1 (.tup [V.str "name", V.str x])))
        have i6 : Is K (upd H6 p1 (.tup [V.str "name", V.str x])) (trD (.nam x)) (.ref p1) := tr_nam (SqT.of upd_same)
        generalize upd H6 p1 (.tup [V.str "name", V.str x]) = H7 at S6 b6 i6 ⊢
        obtain ⟨v0, hv⟩ := S6.st
        refine ⟨_, rfl, a, v0, s1, 4, rfl, hv, by decide, by decide, fun m y3 m0 m1 => ⟨by show 2 ≤ sizeLine; decide, fun p2 hp2 => ?_⟩⟩
        have S7 := (S6.put y3).same (same_new hp2 (.tup [V.str "number", V.int m]))
        have b7 := (b6.trans (Sb.upd a H7 (.lst [.int y3, .int s1]))).trans (.of (same_new hp2 (.tup [V.str "number", V.int m])))
        have i7 := (tr_sb hv (Sb.upd a H7 (.lst [.int y3, .int s1])) i6).same (same_new hp2 (.tup [V.str "number", V.int m]))
        have j7 : Is K (upd (upd H7 a (.lst [.int y3, .int s1])) p2 (.tup [V.str "number", V.int m])) (trD (.num m)) (.ref p2) := tr_num (SqT.of upd_same)
        refine ⟨by show 3 ≤ sizeLine; decide, fun p hp => ?_⟩
        exact q p _ (.op g (.nam x) (.num m)) (b7.trans (.of (same_new hp _))) (S7.same (same_new hp _)) (tr_op (SqT.of upd_same) (i7.same (same_new hp _)) (j7.same (same_new hp _))) ⟨hx, m0, by omega⟩ pw2 (Nat.le_add_left 1 _)
      | false =>
        have hd := hc rfl
        have ed : (d - 1).toNat = d.toNat - 1 := by omega
        refine iteF ⟨_, rfl, _, rfl, _, rfl, _, rfl, _, _, rfl, rfl, a, b, s1, near, d - 1, l, rfl, S4, l8, by omega, by omega, fun p1 H6 t1 c1 S5 i1 f1 l1 e1 => ?_⟩
        have b5 := b4.trans c1
        refine ⟨_, rfl, _, rfl, _, rfl, _, rfl, _, rfl, _, rfl, _, _, rfl, rfl, a, b, s1, near, d - 1, l, rfl, S5, l8, by omega, by omega, fun p2 H7 t2 c2 S6 i2 f2 l2 e2 => ?_⟩
        have b6 := b5.trans c2
        obtain ⟨v0, hv⟩ := S5.st
        have i1' := tr_sb hv c2 i1
        refine ⟨by show 3 ≤ sizeLine; decide, fun p hp => ?_⟩
        have pe : 2 ^ (d.toNat + 1) = 2 ^ ((d - 1).toNat + 1) + 2 ^ ((d - 1).toNat + 1) := by
          have : d.toNat + 1 = ((d - 1).toNat + 1) + 1 := by omega
          rw [this, Nat.pow_succ]
          omega
        exact q p _ (.op g t1 t2) (b6.trans (.of (same_new hp _))) (S6.same (same_new hp _)) (tr_op (SqT.of upd_same) (i1'.same (same_new hp _)) (i2.same (same_new hp _))) ⟨f1, f2⟩ (by show lv t1 + lv t2 ≤ _; omega) (by show max (dp t1) (dp t2) + 1 ≤ _; omega)
end
end Nw

set_option Elab.async false
set_option linter.all false
set_option maxRecDepth 100000
set_option maxHeartbeats 4000000
namespace Nw
open PySem L2
/-! ### the text of a tree, its names -/
def txt : Tr → Str
  | .num n => (toString n : String)
  | .nam x => x
  | .op g a b => "( " ++ txt a ++ " " ++ sgS g ++ " " ++ txt b ++ " )"
def nmT : Tr → List Str
  | .num _ => []
  | .nam x => [x]
  | .op _ a b => nmT a ++ nmT b
theorem nmT_len : ∀ t : Tr, (nmT t).length ≤ lv t
  | .num _ => Nat.zero_le _
  | .nam _ => Nat.le_refl _
  | .op _ a b => by
    have h1 := nmT_len a
    have h2 := nmT_len b
    show (nmT a ++ nmT b).length ≤ lv a + lv b
    rw [List.length_append]; omega
theorem num2 : ∀ k : Fin 100, ((toString ((k.val : Nat) : Int) : String) : Str).length ≤ 2 := by decide +kernel
theorem num_len {n : Int} (h : 0 ≤ n ∧ n ≤ 99) : ((toString n : String) : Str).length ≤ 2 := by
  have := num2 ⟨n.toNat, by omega⟩
  have e : ((n.toNat : Nat) : Int) = n := by omega
  simp only [e] at this
  exact this
theorem sg_len (g : Sg) : (sgS g).length = 1 := by cases g <;> decide +kernel
theorem sp_len : (" " : Str).length = 1 ∧ ("( " : Str).length = 2 ∧ (" )" : Str).length = 2 := by decide +kernel
theorem txt_len {l : List Str} (hl : ∀ x ∈ l, x.length ≤ 40) : ∀ {t : Tr}, Fits l t → (txt t).length + 7 ≤ 47 * lv t
  | .num n, h => by
    have := num_len h
    show ((toString n : String) : Str).length + 7 ≤ 47 * 1
    omega
  | .nam x, h => by
    have := hl x h
    show x.length + 7 ≤ 47 * 1
    omega
  | .op g a b, h => by
    obtain ⟨h1, h2⟩ : Fits l a ∧ Fits l b := h
    have i1 := txt_len hl h1
    have i2 := txt_len hl h2
    have s1 := sg_len g
    obtain ⟨s2, s3, s4⟩ := sp_len
    show ("( " ++ txt a ++ " " ++ sgS g ++ " " ++ txt b ++ " )" : Str).length + 7 ≤ 47 * (lv a + lv b)
    simp only [str_len, s1, s2, s3, s4]
    omega
theorem small9 {n : Nat} (h : n ≤ 9000) : n ≤ sizeLine := by rw [sizeLine_eq]; omega
section
variable {P : Program} {w : World} {K : PySem.W.Frag} {mg : Str → Option Value} {base : Heap}
theorem hu1_of {A : Around} {k : Nat} (hr : Room k A) : A.units + 1 < cLine := by have := hr.un; omega
def spText (K : PySem.W.Frag) (n : Nat) : Sp := fun vs H Q _ => ∃ (v : V) (t : Tr) (l : List Str), vs = [v] ∧ Is K H (trD t) v ∧ (∀ x ∈ l, x.length ≤ 40) ∧ Fits l t ∧ lv t ≤ 100 ∧ dp t < n ∧ Q (.str (txt t)) H
theorem scText : FnScope ["_law_one"] ["_law_one"] (defScope sText) := ⟨rfl, rfl, rfl, by decide +kernel, rfl, by decide +kernel, by decide +kernel⟩
theorem ok_text {f : Addr} {fd : FuncData} (B : Bl mg) (F : Fun K "_law_sum_text" "_law_sum_text" sText f fd) (bT : Binds K fd ["_law_one"] []) (mT : mg "_law_sum_text" = some (.ref f)) : ∀ n : Nat, FnOk P w K mg base CX0 (n + 1) f fd ["_law_one"] (spText K n)
  | 0 => fn_none fun vs H Q E h => by obtain ⟨v, t, l, _, _, _, _, _, h1, _⟩ := h; omega
  | n + 1 => by
    have GT := ok_text B F bT mT n
    refine F.ok scText (fun vs H Q E h => ?_) (fun cdv A outer s H vs Q E hr h => ?_)
    · obtain ⟨v, t, l, rfl, _⟩ := h
      rfl
    obtain ⟨v, t, l, rfl, it, hl, ft, l100, hn, q⟩ := h
    refine ⟨_, (@pss_cons _ _ _ _ _ (@ps_if _ _ _ _ _ _ _ _ (@pt_cmpR _ _ _ _ _ _ _ _ op_eq (@pe_ix _ _ _ _ _ _ (rIxT K) ix_tup (pv 0) pe_int (fun _ _ => rfl)) pe_str (nomark _)) (@pss_one _ _ _ (@ps_ret _ _ _ _ (pe_callTy call_str_int (by rfl) B.str PyProof.Rows.boot_str (@pa_cons _ _ _ _ _ (@pe_ix _ _ _ _ _ _ (rIxT K) ix_tup (pv 0) pe_int (fun _ _ => rfl)) pa_nil (by rfl))))) pss_nil) (@pss_cons _ _ _ _ _ (@ps_if _ _ _ _ _ _ _ _ (@pt_cmpR _ _ _ _ _ _ _ _ op_eq (@pe_ix _ _ _ _ _ _ (rIxT K) ix_tup (pv 0) pe_int (fun _ _ => rfl)) pe_str (nomark _)) (@pss_one _ _ _ (@ps_ret _ _ _ _ (@pe_ix _ _ _ _ _ _ (rIxT K) ix_tup (pv 0) pe_int (fun _ _ => rfl)))) pss_nil) (@pss_one _ _ _ (@ps_ret _ _ _ _ (@pe_op _ _ _ _ _ _ _ _ op_add_str (@pe_op _ _ _ _ _ _ _ _ op_add_str (@pe_op _ _ _ _ _ _ _ _ op_add_str (@pe_op _ _ _ _ _ _ _ _ op_add_str (@pe_op _ _ _ _ _ _ _ _ op_add_str (@pe_op _ _ _ _ _ _ _ _ op_add_str pe_str (pe_call GT hr (by rfl) mT F.kp bT .nil pass0 (@pa_cons _ _ _ _ _ (@pe_ix _ _ _ _ _ _ (rIxT K) ix_tup (pv 0) pe_int (fun _ _ => rfl)) pa_nil (by rfl)))) pe_str) (@pe_ix _ _ _ _ _ _ (rIxT K) ix_tup (pv 0) pe_int (fun _ _ => rfl))) pe_str) (pe_call GT hr (by rfl) mT F.kp bT .nil pass0 (@pa_cons _ _ _ _ _ (@pe_ix _ _ _ _ _ _ (rIxT K) ix_tup (pv 0) pe_int (fun _ _ => rfl)) pa_nil (by rfl)))) pe_str))))), ?_⟩
    cases t with
    | num m =>
      obtain ⟨p, rfl, ht⟩ := is_num it
      obtain ⟨m0, m1⟩ : 0 ≤ m ∧ m ≤ 99 := ft
      refine ⟨_, rfl, p, _, _, _, rfl, rfl, ht, atI_nat (j := 0) rfl, rfl, _, rfl, ite2 (fun _ => ?_) (fun c => absurd (decide_eq_true rfl) c)⟩
      exact ⟨_, rfl, p, _, _, _, rfl, rfl, ht, atI_nat (j := 1) rfl, m, rfl, Nat.lt_of_le_of_lt (Nat.log2_le_self _) (by omega), q⟩
    | nam x =>
      obtain ⟨p, rfl, ht⟩ := is_nam it
      refine ⟨_, rfl, p, _, _, _, rfl, rfl, ht, atI_nat (j := 0) rfl, rfl, _, rfl, ite2 (fun c => absurd (of_decide_eq_true c) (by decide +kernel)) (fun _ => ?_)⟩
      refine ⟨_, rfl, p, _, _, _, rfl, rfl, ht, atI_nat (j := 0) rfl, rfl, _, rfl, ite2 (fun _ => ?_) (fun c => absurd (decide_eq_true rfl) c)⟩
      exact ⟨_, rfl, p, _, _, _, rfl, rfl, ht, atI_nat (j := 1) rfl, q⟩
    | op g a b =>
      obtain ⟨p, va, vb, rfl, ht, ia, ib⟩ := is_op it
      obtain ⟨fa, fb⟩ : Fits l a ∧ Fits l b := ft
      have hn : max (dp a) (dp b) + 1 < n + 1 := hn
      have l100 : lv a + lv b ≤ 100 := l100
      have n1 : ¬ V.str (sgS g) = V.str "number" := by cases g <;> decide +kernel
      have n2 : ¬ V.str (sgS g) = V.str "name" := by cases g <;> decide +kernel
      have i1 := txt_len hl fa
      have i2 := txt_len hl fb
      have s1 := sg_len g
      obtain ⟨s2, s3, s4⟩ := sp_len
      refine ⟨_, rfl, p, _, _, _, rfl, rfl, ht, atI_nat (j := 0) rfl, rfl, _, rfl, ite2 (fun c => absurd (of_decide_eq_true c) n1) (fun _ => ?_)⟩
      refine ⟨_, rfl, p, _, _, _, rfl, rfl, ht, atI_nat (j := 0) rfl, rfl, _, rfl, ite2 (fun c => absurd (of_decide_eq_true c) n2) (fun _ => ?_)⟩
      refine ⟨_, rfl, p, _, _, _, rfl, rfl, ht, atI_nat (j := 1) rfl, va, a, l, rfl, ia, hl, fa, by omega, by omega, ?_⟩
      refine ⟨_, _, rfl, rfl, small9 (by rw [s3]; omega), _, _, rfl, rfl, small9 (by simp only [str_len, s2, s3]; omega), _, rfl, p, _, _, _, rfl, rfl, ht, atI_nat (j := 0) rfl, _, _, rfl, rfl, small9 (by simp only [str_len, s1, s2, s3]; omega), _, _, rfl, rfl, small9 (by simp only [str_len, s1, s2, s3]; omega), ?_⟩
      refine ⟨_, rfl, p, _, _, _, rfl, rfl, ht, atI_nat (j := 2) rfl, vb, b, l, rfl, ib, hl, fb, by omega, by omega, ?_⟩
      exact ⟨_, _, rfl, rfl, small9 (by simp only [str_len, s1, s2, s3]; omega), _, _, rfl, rfl, small9 (by simp only [str_len, s1, s2, s3, s4]; omega), q⟩
def spNms (K : PySem.W.Frag) (n : Nat) : Sp := fun vs H Q _ => ∃ (v : V) (t : Tr), vs = [v] ∧ Is K H (trD t) v ∧ lv t ≤ 100 ∧ dp t < n ∧ ∀ (p : Addr) (H' : Hp), Same H H' → H p = none → H' p = some (.lst ((nmT t).map V.str)) → Q (.ref p) H'
theorem scNms : FnScope ["_law_one"] ["_law_one"] (defScope sNms) := ⟨rfl, rfl, rfl, by decide +kernel, rfl, by decide +kernel, by decide +kernel⟩
theorem ok_nms {f : Addr} {fd : FuncData} (F : Fun K "_law_sum_names" "_law_sum_names" sNms f fd) (bT : Binds K fd ["_law_one"] []) (mT : mg "_law_sum_names" = some (.ref f)) : ∀ n : Nat, FnOk P w K mg base CX0 (n + 1) f fd ["_law_one"] (spNms K n)
  | 0 => fn_none fun vs H Q E h => by obtain ⟨v, t, _, _, _, h1, _⟩ := h; omega
  | n + 1 => by
    have GT := ok_nms F bT mT n
    refine F.ok scNms (fun vs H Q E h => ?_) (fun cdv A outer s H vs Q E hr h => ?_)
    · obtain ⟨v, t, rfl, _⟩ := h
      rfl
    obtain ⟨v, t, rfl, it, l100, hn, q⟩ := h
    refine ⟨_, (@pss_cons _ _ _ _ _ (@ps_if _ _ _ _ _ _ _ _ (@pt_cmpR _ _ _ _ _ _ _ _ op_eq (@pe_ix _ _ _ _ _ _ (rIxT K) ix_tup (pv 0) pe_int (fun _ _ => rfl)) pe_str (nomark _)) (@pss_one _ _ _ (@ps_ret _ _ _ _ (@pe_lst _ _ _ _ pa_nil))) pss_nil) (@pss_cons _ _ _ _ _ (@ps_if _ _ _ _ _ _ _ _ (@pt_cmpR _ _ _ _ _ _ _ _ op_eq (@pe_ix _ _ _ _ _ _ (rIxT K) ix_tup (pv 0) pe_int (fun _ _ => rfl)) pe_str (nomark _)) (@pss_one _ _ _ (@ps_ret _ _ _ _ (@pe_lst _ _ _ _ (@pa_cons _ _ _ _ _ (@pe_ix _ _ _ _ _ _ (rIxT K) ix_tup (pv 0) pe_int (fun _ _ => rfl)) pa_nil (by rfl))))) pss_nil) (@pss_one _ _ _ (@ps_ret _ _ _ _ (@pe_op _ _ _ _ _ _ _ _ op_catL (pe_call GT hr (by rfl) mT F.kp bT .nil pass0 (@pa_cons _ _ _ _ _ (@pe_ix _ _ _ _ _ _ (rIxT K) ix_tup (pv 0) pe_int (fun _ _ => rfl)) pa_nil (by rfl))) (pe_call GT hr (by rfl) mT F.kp bT .nil pass0 (@pa_cons _ _ _ _ _ (@pe_ix _ _ _ _ _ _ (rIxT K) ix_tup (pv 0) pe_int (fun _ _ => rfl)) pa_nil (by rfl)))))))), ?_⟩
    cases t with
    | num m =>
      obtain ⟨p, rfl, ht⟩ := is_num it
      refine ⟨_, rfl, p, _, _, _, rfl, rfl, ht, atI_nat (j := 0) rfl, rfl, _, rfl, ite2 (fun _ => ?_) (fun c => absurd (decide_eq_true rfl) c)⟩
      exact ⟨Nat.zero_le _, fun z hz => q z _ (same_new hz _) hz upd_same⟩
    | nam x =>
      obtain ⟨p, rfl, ht⟩ := is_nam it
      refine ⟨_, rfl, p, _, _, _, rfl, rfl, ht, atI_nat (j := 0) rfl, rfl, _, rfl, ite2 (fun c => absurd (of_decide_eq_true c) (by decide +kernel)) (fun _ => ?_)⟩
      refine ⟨_, rfl, p, _, _, _, rfl, rfl, ht, atI_nat (j := 0) rfl, rfl, _, rfl, ite2 (fun _ => ?_) (fun c => absurd (decide_eq_true rfl) c)⟩
      exact ⟨_, rfl, p, _, _, _, rfl, rfl, ht, atI_nat (j := 1) rfl, by show 1 ≤ sizeLine; decide, fun z hz => q z _ (same_new hz _) hz upd_same⟩
    | op g a b =>
      obtain ⟨p, va, vb, rfl, ht, ia, ib⟩ := is_op it
      have hn : max (dp a) (dp b) + 1 < n + 1 := hn
      have l100 : lv a + lv b ≤ 100 := l100
      have n1 : ¬ V.str (sgS g) = V.str "number" := by cases g <;> decide +kernel
      have n2 : ¬ V.str (sgS g) = V.str "name" := by cases g <;> decide +kernel
      refine ⟨_, rfl, p, _, _, _, rfl, rfl, ht, atI_nat (j := 0) rfl, rfl, _, rfl, ite2 (fun c => absurd (of_decide_eq_true c) n1) (fun _ => ?_)⟩
      refine ⟨_, rfl, p, _, _, _, rfl, rfl, ht, atI_nat (j := 0) rfl, rfl, _, rfl, ite2 (fun c => absurd (of_decide_eq_true c) n2) (fun _ => ?_)⟩
      refine ⟨_, rfl, p, _, _, _, rfl, rfl, ht, atI_nat (j := 1) rfl, va, a, rfl, ia, by omega, by omega, fun p1 H1 s1 f1 e1 => ?_⟩
      refine ⟨_, rfl, p, _, _, _, rfl, rfl, s1.tup ht, atI_nat (j := 2) rfl, vb, b, rfl, ib.same s1, by omega, by omega, fun p2 H2 s2 f2 e2 => ?_⟩
      have la := nmT_len a
      have lb := nmT_len b
      refine ⟨p1, p2, _, _, rfl, rfl, SqL.of (s2 _ _ e1), SqL.of e2, small9 (by rw [List.length_map, List.length_map]; omega), fun z hz => q z _ (s1.trans (s2.trans (same_new hz _))) (s1.free (s2.free hz)) ?_⟩
      rw [upd_same, ← List.map_append]
      rfl
end
end Nw

set_option Elab.async false
set_option linter.all false
set_option maxRecDepth 100000
set_option maxHeartbeats 4000000
namespace Nw
open PySem L2
/-! ### the classes -/
inductive Kd where
  | num | nam | op (g : Sg)
def kd : Tr → Kd
  | .num _ => .num
  | .nam _ => .nam
  | .op g _ _ => .op g
def ckOf (CN CM CP CI CX : Addr) : Kd → Addr
  | .num => CN
  | .nam => CM
  | .op .plus => CP
  | .op .minus => CI
  | .op .times => CX
def numF (v : V) : List (Str × V) := putF "number" v []
def namF (v : V) : List (Str × V) := putF "name" v []
def twoF (a b : V) : List (Str × V) := putF "other" b (putF "one" a [])
theorem num_at (v : V) : (numF v).lookup ("number" : Str) = some v := by unfold numF; rw [lookup_putF, if_pos rfl]
theorem nam_at (v : V) : (namF v).lookup ("name" : Str) = some v := by unfold namF; rw [lookup_putF, if_pos rfl]
theorem two_one (a b : V) : (twoF a b).lookup ("one" : Str) = some a := by unfold twoF; rw [lookup_putF, if_neg (by decide +kernel), lookup_putF, if_pos rfl]
theorem two_oth (a b : V) : (twoF a b).lookup ("other" : Str) = some b := by unfold twoF; rw [lookup_putF, if_pos rfl]
theorem num_s (v : V) : (numF v).lookup ("shown" : Str) = none := by unfold numF; rw [lookup_putF, if_neg (by decide +kernel)]; rfl
theorem nam_s (v : V) : (namF v).lookup ("shown" : Str) = none := by unfold namF; rw [lookup_putF, if_neg (by decide +kernel)]; rfl
theorem two_s (a b : V) : (twoF a b).lookup ("shown" : Str) = none := by unfold twoF; rw [lookup_putF, if_neg (by decide +kernel), lookup_putF, if_neg (by decide +kernel)]; rfl
theorem num_n (v : V) : (numF v).lookup ("named" : Str) = none := by unfold numF; rw [lookup_putF, if_neg (by decide +kernel)]; rfl
theorem nam_n (v : V) : (namF v).lookup ("named" : Str) = none := by unfold namF; rw [lookup_putF, if_neg (by decide +kernel)]; rfl
theorem two_n (a b : V) : (twoF a b).lookup ("named" : Str) = none := by unfold twoF; rw [lookup_putF, if_neg (by decide +kernel), lookup_putF, if_neg (by decide +kernel)]; rfl
structure ClsA (K : PySem.W.Frag) (CK : Kd → Addr) : Prop where
  cl : ∀ k, Cls K (CK k)
  num : NoAttr K (CK .num) "number"
  nam : NoAttr K (CK .nam) "name"
  one : ∀ g, NoAttr K (CK (.op g)) "one"
  oth : ∀ g, NoAttr K (CK (.op g)) "other"
/-- the object made of a tree -/
def Obj (CK : Kd → Addr) (H : Hp) : Tr → V → Prop
  | .num n, v => ∃ p dx, v = .ref p ∧ H p = some (.ins (CK .num) dx (numF (.int n)))
  | .nam x, v => ∃ p dx, v = .ref p ∧ H p = some (.ins (CK .nam) dx (namF (.str x)))
  | .op g l r, v => ∃ p dx a b, v = .ref p ∧ H p = some (.ins (CK (.op g)) dx (twoF a b)) ∧ Obj CK H l a ∧ Obj CK H r b
theorem Obj.same {CK : Kd → Addr} {H H' : Hp} (s : Same H H') : ∀ {t : Tr} {v : V}, Obj CK H t v → Obj CK H' t v
  | .num n, v, h => by
    obtain ⟨p, dx, e, h⟩ := h
    exact ⟨p, dx, e, s _ _ h⟩
  | .nam n, v, h => by
    obtain ⟨p, dx, e, h⟩ := h
    exact ⟨p, dx, e, s _ _ h⟩
  | .op g l r, v, h => by
    obtain ⟨p, dx, a, b, e, h, h1, h2⟩ := h
    exact ⟨p, dx, a, b, e, s _ _ h, h1.same s, h2.same s⟩
theorem Obj.at_ {CK : Kd → Addr} {H : Hp} : ∀ {t : Tr} {v : V}, Obj CK H t v → ∃ p dx fs, v = .ref p ∧ H p = some (.ins (CK (kd t)) dx fs) ∧ fs.lookup ("shown" : Str) = none ∧ fs.lookup ("named" : Str) = none
  | .num n, v, h => by
    obtain ⟨p, dx, e, h⟩ := h
    exact ⟨p, dx, _, e, h, num_s _, num_n _⟩
  | .nam n, v, h => by
    obtain ⟨p, dx, e, h⟩ := h
    exact ⟨p, dx, _, e, h, nam_s _, nam_n _⟩
  | .op g l r, v, h => by
    obtain ⟨p, dx, a, b, e, h, _⟩ := h
    exact ⟨p, dx, _, e, h, two_s _ _, two_n _ _⟩
/-! ### texts joined -/
theorem str_assoc (a b c : Str) : a ++ b ++ c = a ++ (b ++ c) := by
  cases a; cases b; cases c
  exact congrArg Str.mk (Array.append_assoc)
theorem join5 (a b c : Str) : Txt.join " " ["(", a, b, c, ")"] = "( " ++ a ++ " " ++ b ++ " " ++ c ++ " )" := by
  rw [join_eq]
  show "(" ++ " " ++ (a ++ " " ++ (b ++ " " ++ (c ++ " " ++ ")"))) = _
  have e1 : ("(" : Str) ++ " " = "( " := by decide +kernel
  have e2 : (" " : Str) ++ ")" = " )" := by decide +kernel
  rw [e1, str_assoc c, e2]
  simp only [str_assoc]
section
variable {P : Program} {w : World} {K : PySem.W.Frag} {mg : Str → Option Value} {base : Heap} {CK : Kd → Addr}
/-! ### shown -/
def spS (CK : Kd → Addr) (n : Nat) (k : Kd) : Sp := fun vs H Q _ => ∃ (v : V) (t : Tr) (l : List Str), vs = [v] ∧ kd t = k ∧ Obj CK H t v ∧ (∀ x ∈ l, x.length ≤ 40) ∧ Fits l t ∧ lv t ≤ 60 ∧ dp t < n ∧ ∀ H', Same H H' → Q (.str (txt t)) H'
theorem spS_none (k : Kd) : ∀ vs H Q E, ¬ spS CK 0 k vs H Q E := fun vs H Q E h => by
  obtain ⟨v, t, l, _, _, _, _, _, _, h1, _⟩ := h
  omega
theorem scNumS : FnScope ["self"] ["self"] (defScope sNumS) := ⟨rfl, rfl, rfl, by decide +kernel, rfl, by decide +kernel, by decide +kernel⟩
theorem ok_numS {f : Addr} {fd : FuncData} (B : Bl mg) (c : ClsA K CK) (F : Fun K "shown" "Number.shown" sNumS f fd) (n : Nat) : FnOk P w K mg base CX0 1 f fd ["self"] (spS CK n .num) := by
  refine F.ok scNumS (fun vs H Q E h => ?_) (fun cdv A outer s H vs Q E hr h => ?_)
  · obtain ⟨v, t, l, rfl, _⟩ := h
    rfl
  obtain ⟨v, t, l, rfl, kt, ob, hl, ft, l100, hn, q⟩ := h
  refine ⟨_, (@pss_one _ _ _ (@ps_ret _ _ _ _ (pe_callTy call_str_int (by rfl) B.str PyProof.Rows.boot_str (@pa_cons _ _ _ _ _ (@pe_fld _ _ _ _ _ (pv 0) rfl) pa_nil (by rfl))))), ?_⟩
  cases t with
  | num m =>
    obtain ⟨p, dx, rfl, hp⟩ := ob
    obtain ⟨m0, m1⟩ : 0 ≤ m ∧ m ≤ 99 := ft
    exact ⟨_, rfl, p, _, dx, _, _, rfl, hp, c.cl _, c.num, num_at _, m, rfl, Nat.lt_of_le_of_lt (Nat.log2_le_self _) (by omega), q _ (Same.refl _)⟩
  | _ => cases kt
theorem scNamS : FnScope ["self"] ["self"] (defScope sNamS) := ⟨rfl, rfl, rfl, by decide +kernel, rfl, by decide +kernel, by decide +kernel⟩
theorem ok_namS {f : Addr} {fd : FuncData} (c : ClsA K CK) (F : Fun K "shown" "Named.shown" sNamS f fd) (n : Nat) : FnOk P w K mg base CX0 1 f fd ["self"] (spS CK n .nam) := by
  refine F.ok scNamS (fun vs H Q E h => ?_) (fun cdv A outer s H vs Q E hr h => ?_)
  · obtain ⟨v, t, l, rfl, _⟩ := h
    rfl
  obtain ⟨v, t, l, rfl, kt, ob, hl, ft, l100, hn, q⟩ := h
  refine ⟨_, (@pss_one _ _ _ (@ps_ret _ _ _ _ (@pe_fld _ _ _ _ _ (pv 0) rfl))), ?_⟩
  cases t with
  | nam x =>
    obtain ⟨p, dx, rfl, hp⟩ := ob
    exact ⟨_, rfl, p, _, dx, _, _, rfl, hp, c.cl _, c.nam, nam_at _, q _ (Same.refl _)⟩
  | _ => cases kt
def spBra (CK : Kd → Addr) (n : Nat) : Sp := fun vs H Q _ => ∃ (va vb : V) (g : Sg) (a b : Tr) (l : List Str), vs = [va, .str (sgS g), vb] ∧ Obj CK H a va ∧ Obj CK H b vb ∧ (∀ x ∈ l, x.length ≤ 40) ∧ Fits l a ∧ Fits l b ∧ lv a + lv b ≤ 60 ∧ dp a < n ∧ dp b < n ∧ ∀ H', Same H H' → Q (.str (txt (.op g a b))) H'
theorem scBra : FnScope ["one", "sign", "other"] ["one", "sign", "other"] (defScope sBra) := ⟨rfl, rfl, rfl, by decide +kernel, rfl, by decide +kernel, by decide +kernel⟩
theorem ok_bra {f : Addr} {fd : FuncData} (F : Fun K "bracketed" "bracketed" sBra f fd) (n : Nat) (W : ∀ k, MOk P w K mg base (2 * n + 1) (CK k) "shown" (spS CK n k)) : FnOk P w K mg base CX0 (2 * n + 2) f fd ["one", "sign", "other"] (spBra CK n) := by
  refine F.ok scBra (fun vs H Q E h => ?_) (fun cdv A outer s H vs Q E hr h => ?_)
  · obtain ⟨va, vb, g, a, b, l, rfl, _⟩ := h
    rfl
  obtain ⟨va, vb, g, a, b, l, rfl, oa, ob, hl, fa, fb, l60, da, db, q⟩ := h
  have p1 := lv_pos a
  have p2 := lv_pos b
  have i1 := txt_len hl fa
  have i2 := txt_len hl fb
  have s1 := sg_len g
  obtain ⟨pa, dxa, fsa, rfl, ha, la, _⟩ := oa.at_
  obtain ⟨pb, dxb, fsb, rfl, hb, lb, _⟩ := ob.at_
  refine ⟨_, (@pss_one _ _ _ (@ps_ret _ _ _ _ (pe_bm (r := rJoin K) PySem.F.plainAttrs_str PySem.F.slot_str_join PySem.F.type_str_join mt_join pe_str (@pa_cons _ _ _ _ _ (@pe_lst _ _ _ _ (@pa_cons _ _ _ _ _ pe_str (@pa_cons _ _ _ _ _ (pe_methP0 (pv 0) hr) (@pa_cons _ _ _ _ _ (pv 1) (@pa_cons _ _ _ _ _ (pe_methP0 (pv 2) hr) (@pa_cons _ _ _ _ _ pe_str pa_nil (by rfl)) (by rfl)) (by rfl)) (by rfl)) (by rfl))) pa_nil (by rfl))))), ?_⟩
  refine ⟨rfl, _, rfl, pa, _, dxa, fsa, _, rfl, ha, la, W _, .ref pa, a, l, rfl, rfl, oa, hl, fa, by omega, da, fun H1 t1 => ?_⟩
  refine ⟨_, rfl, _, rfl, pb, _, dxb, fsb, _, rfl, t1 _ _ hb, lb, W _, .ref pb, b, l, rfl, rfl, ob.same t1, hl, fb, by omega, db, fun H2 t2 => ?_⟩
  refine ⟨by show 5 ≤ sizeLine; decide, fun z hz => ⟨_, z, ["(", txt a, sgS g, txt b, ")"], rfl, rfl, SqL.of upd_same, ?_, ?_⟩⟩
  · have e1 : ("(" : Str).length = 1 := by decide +kernel
    have e2 : (")" : Str).length = 1 := by decide +kernel
    have e3 := sp_len.1
    simp only [List.map_cons, List.map_nil, List.sum_cons, List.sum_nil, List.length_cons, List.length_nil, e1, e2, e3, s1]
    omega
  · rw [join5]
    exact q _ (t1.trans (t2.trans (same_new hz _)))
theorem scPluS : FnScope ["self"] ["self"] (defScope sPluS) := ⟨rfl, rfl, rfl, by decide +kernel, rfl, by decide +kernel, by decide +kernel⟩
theorem scMinS : FnScope ["self"] ["self"] (defScope sMinS) := ⟨rfl, rfl, rfl, by decide +kernel, rfl, by decide +kernel, by decide +kernel⟩
theorem scTimS : FnScope ["self"] ["self"] (defScope sTimS) := ⟨rfl, rfl, rfl, by decide +kernel, rfl, by decide +kernel, by decide +kernel⟩
theorem ok_pluS {f fB : Addr} {fd dB : FuncData} (c : ClsA K CK) (F : Fun K "shown" "Plus.shown" sPluS f fd) (FB : Fun K "bracketed" "bracketed" sBra fB dB) (bB : Binds K dB ["one", "sign", "other"] []) (mB : mg "bracketed" = some (.ref fB)) (n : Nat) (W : ∀ k, MOk P w K mg base (2 * n + 1) (CK k) "shown" (spS CK n k)) : FnOk P w K mg base CX0 (2 * (n + 1) + 1) f fd ["self"] (spS CK (n + 1) (.op .plus)) := by
  have GB := ok_bra FB n W
  refine F.ok scPluS (fun vs H Q E h => ?_) (fun cdv A outer s H vs Q E hr h => ?_)
  · obtain ⟨v, t, l, rfl, _⟩ := h
    rfl
  obtain ⟨v, t, l, rfl, kt, ob, hl, ft, l100, hn, q⟩ := h
  have hrB := hr.mono (show 2 * n + 2 ≤ 2 * (n + 1) by omega)
  refine ⟨_, (@pss_one _ _ _ (@ps_ret _ _ _ _ (pe_call GB hrB (by rfl) mB FB.kp bB .nil pass0 (@pa_cons _ _ _ _ _ (@pe_fld _ _ _ _ _ (pv 0) rfl) (@pa_cons _ _ _ _ _ pe_str (@pa_cons _ _ _ _ _ (@pe_fld _ _ _ _ _ (pv 0) rfl) pa_nil (by rfl)) (by rfl)) (by rfl))))), ?_⟩
  cases t with
  | op g a b =>
    cases kt
    obtain ⟨p, dx, va, vb, rfl, hp, oa, ob⟩ := ob
    obtain ⟨fa, fb⟩ : Fits l a ∧ Fits l b := ft
    have hn : max (dp a) (dp b) + 1 < n + 1 := hn
    have l100 : lv a + lv b ≤ 60 := l100
    refine ⟨_, rfl, p, _, dx, _, _, rfl, hp, c.cl _, c.one _, two_one _ _, _, rfl, p, _, dx, _, _, rfl, hp, c.cl _, c.oth _, two_oth _ _, ?_⟩
    exact ⟨va, vb, .plus, a, b, l, rfl, oa, ob, hl, fa, fb, l100, by omega, by omega, q⟩
  | _ => cases kt
theorem ok_minS {f fB : Addr} {fd dB : FuncData} (c : ClsA K CK) (F : Fun K "shown" "Minus.shown" sMinS f fd) (FB : Fun K "bracketed" "bracketed" sBra fB dB) (bB : Binds K dB ["one", "sign", "other"] []) (mB : mg "bracketed" = some (.ref fB)) (n : Nat) (W : ∀ k, MOk P w K mg base (2 * n + 1) (CK k) "shown" (spS CK n k)) : FnOk P w K mg base CX0 (2 * (n + 1) + 1) f fd ["self"] (spS CK (n + 1) (.op .minus)) := by
  have GB := ok_bra FB n W
  refine F.ok scMinS (fun vs H Q E h => ?_) (fun cdv A outer s H vs Q E hr h => ?_)
  · obtain ⟨v, t, l, rfl, _⟩ := h
    rfl
  obtain ⟨v, t, l, rfl, kt, ob, hl, ft, l100, hn, q⟩ := h
  have hrB := hr.mono (show 2 * n + 2 ≤ 2 * (n + 1) by omega)
  refine ⟨_, (@pss_one _ _ _ (@ps_ret _ _ _ _ (pe_call GB hrB (by rfl) mB FB.kp bB .nil pass0 (@pa_cons _ _ _ _ _ (@pe_fld _ _ _ _ _ (pv 0) rfl) (@pa_cons _ _ _ _ _ pe_str (@pa_cons _ _ _ _ _ (@pe_fld _ _ _ _ _ (pv 0) rfl) pa_nil (by rfl)) (by rfl)) (by rfl))))), ?_⟩
  cases t with
  | op g a b =>
    cases kt
    obtain ⟨p, dx, va, vb, rfl, hp, oa, ob⟩ := ob
    obtain ⟨fa, fb⟩ : Fits l a ∧ Fits l b := ft
    have hn : max (dp a) (dp b) + 1 < n + 1 := hn
    have l100 : lv a + lv b ≤ 60 := l100
    refine ⟨_, rfl, p, _, dx, _, _, rfl, hp, c.cl _, c.one _, two_one _ _, _, rfl, p, _, dx, _, _, rfl, hp, c.cl _, c.oth _, two_oth _ _, ?_⟩
    exact ⟨va, vb, .minus, a, b, l, rfl, oa, ob, hl, fa, fb, l100, by omega, by omega, q⟩
  | _ => cases kt
theorem ok_timS {f fB : Addr} {fd dB : FuncData} (c : ClsA K CK) (F : Fun K "shown" "Times.shown" sTimS f fd) (FB : Fun K "bracketed" "bracketed" sBra fB dB) (bB : Binds K dB ["one", "sign", "other"] []) (mB : mg "bracketed" = some (.ref fB)) (n : Nat) (W : ∀ k, MOk P w K mg base (2 * n + 1) (CK k) "shown" (spS CK n k)) : FnOk P w K mg base CX0 (2 * (n + 1) + 1) f fd ["self"] (spS CK (n + 1) (.op .times)) := by
  have GB := ok_bra FB n W
  refine F.ok scTimS (fun vs H Q E h => ?_) (fun cdv A outer s H vs Q E hr h => ?_)
  · obtain ⟨v, t, l, rfl, _⟩ := h
    rfl
  obtain ⟨v, t, l, rfl, kt, ob, hl, ft, l100, hn, q⟩ := h
  have hrB := hr.mono (show 2 * n + 2 ≤ 2 * (n + 1) by omega)
  refine ⟨_, (@pss_one _ _ _ (@ps_ret _ _ _ _ (pe_call GB hrB (by rfl) mB FB.kp bB .nil pass0 (@pa_cons _ _ _ _ _ (@pe_fld _ _ _ _ _ (pv 0) rfl) (@pa_cons _ _ _ _ _ pe_str (@pa_cons _ _ _ _ _ (@pe_fld _ _ _ _ _ (pv 0) rfl) pa_nil (by rfl)) (by rfl)) (by rfl))))), ?_⟩
  cases t with
  | op g a b =>
    cases kt
    obtain ⟨p, dx, va, vb, rfl, hp, oa, ob⟩ := ob
    obtain ⟨fa, fb⟩ : Fits l a ∧ Fits l b := ft
    have hn : max (dp a) (dp b) + 1 < n + 1 := hn
    have l100 : lv a + lv b ≤ 60 := l100
    refine ⟨_, rfl, p, _, dx, _, _, rfl, hp, c.cl _, c.one _, two_one _ _, _, rfl, p, _, dx, _, _, rfl, hp, c.cl _, c.oth _, two_oth _ _, ?_⟩
    exact ⟨va, vb, .times, a, b, l, rfl, oa, ob, hl, fa, fb, l100, by omega, by omega, q⟩
  | _ => cases kt
/-! ### named -/
def spN (CK : Kd → Addr) (n : Nat) (k : Kd) : Sp := fun vs H Q _ => ∃ (v : V) (t : Tr), vs = [v] ∧ kd t = k ∧ Obj CK H t v ∧ lv t ≤ 60 ∧ dp t < n ∧ ∀ (p : Addr) (H' : Hp) (out : List Str), Same H H' → H p = none → IsNorm (nmT t) out → H' p = some (.lst (out.map V.str)) → Q (.ref p) H'
theorem spN_none (k : Kd) : ∀ vs H Q E, ¬ spN CK 0 k vs H Q E := fun vs H Q E h => by
  obtain ⟨v, t, _, _, _, _, h1, _⟩ := h
  omega
theorem scSumN : FnScope ["self"] ["self"] (defScope sSumN) := ⟨rfl, rfl, rfl, by decide +kernel, rfl, by decide +kernel, by decide +kernel⟩
theorem ok_sumN {f : Addr} {fd : FuncData} (F : Fun K "named" "Sum.named" sSumN f fd) (n : Nat) : FnOk P w K mg base CX0 1 f fd ["self"] (spN CK n .num) := by
  refine F.ok scSumN (fun vs H Q E h => ?_) (fun cdv A outer s H vs Q E hr h => ?_)
  · obtain ⟨v, t, rfl, _⟩ := h
    rfl
  obtain ⟨v, t, rfl, kt, ob, l60, hn, q⟩ := h
  refine ⟨_, (@pss_one _ _ _ (@ps_ret _ _ _ _ (@pe_lst _ _ _ _ pa_nil))), ?_⟩
  cases t with
  | num m => exact ⟨Nat.zero_le _, fun z hz => q z _ [] (same_new hz _) hz IsNorm.nil upd_same⟩
  | _ => cases kt
theorem scNamN : FnScope ["self"] ["self"] (defScope sNamN) := ⟨rfl, rfl, rfl, by decide +kernel, rfl, by decide +kernel, by decide +kernel⟩
theorem ok_namN {f : Addr} {fd : FuncData} (c : ClsA K CK) (F : Fun K "named" "Named.named" sNamN f fd) (n : Nat) : FnOk P w K mg base CX0 1 f fd ["self"] (spN CK n .nam) := by
  refine F.ok scNamN (fun vs H Q E h => ?_) (fun cdv A outer s H vs Q E hr h => ?_)
  · obtain ⟨v, t, rfl, _⟩ := h
    rfl
  obtain ⟨v, t, rfl, kt, ob, l60, hn, q⟩ := h
  refine ⟨_, (@pss_one _ _ _ (@ps_ret _ _ _ _ (@pe_lst _ _ _ _ (@pa_cons _ _ _ _ _ (@pe_fld _ _ _ _ _ (pv 0) rfl) pa_nil (by rfl))))), ?_⟩
  cases t with
  | nam x =>
    obtain ⟨p, dx, rfl, hp⟩ := ob
    exact ⟨_, rfl, p, _, dx, _, _, rfl, hp, c.cl _, c.nam, nam_at _, by show 1 ≤ sizeLine; decide, fun z hz => q z _ [x] (same_new hz _) hz (IsNorm.one x) upd_same⟩
  | _ => cases kt
def spTwo (CK : Kd → Addr) (n : Nat) : Sp := fun vs H Q _ => ∃ (va vb : V) (a b : Tr), vs = [va, vb] ∧ Obj CK H a va ∧ Obj CK H b vb ∧ lv a + lv b ≤ 60 ∧ dp a < n ∧ dp b < n ∧ ∀ (p : Addr) (H' : Hp) (out : List Str), Same H H' → H p = none → IsNorm (nmT a ++ nmT b) out → H' p = some (.lst (out.map V.str)) → Q (.ref p) H'
theorem scTwoO : FnScope ["one", "other"] ["one", "other"] (defScope sTwoO) := ⟨rfl, rfl, rfl, by decide +kernel, rfl, by decide +kernel, by decide +kernel⟩
theorem ok_twoO {f : Addr} {fd : FuncData} (B : Bl mg) (F : Fun K "names_of_two" "names_of_two" sTwoO f fd) (n : Nat) (W : ∀ k, MOk P w K mg base (2 * n + 1) (CK k) "named" (spN CK n k)) : FnOk P w K mg base CX0 (2 * n + 2) f fd ["one", "other"] (spTwo CK n) := by
  refine F.ok scTwoO (fun vs H Q E h => ?_) (fun cdv A outer s H vs Q E hr h => ?_)
  · obtain ⟨va, vb, a, b, rfl, _⟩ := h
    rfl
  obtain ⟨va, vb, a, b, rfl, oa, ob, l60, da, db, q⟩ := h
  have p1 := lv_pos a
  have p2 := lv_pos b
  have m1 := nmT_len a
  have m2 := nmT_len b
  obtain ⟨pa, dxa, fsa, rfl, ha, _, la⟩ := oa.at_
  obtain ⟨pb, dxb, fsb, rfl, hb, _, lb⟩ := ob.at_
  refine ⟨_, (@pss_one _ _ _ (@ps_ret _ _ _ _ (pe_callB (call_sortedS rfl) (by rfl) B.sorted rfl (@pa_cons _ _ _ _ _ (pe_callTy (call_setS rfl) (by rfl) B.set rfl (@pa_cons _ _ _ _ _ (@pe_op _ _ _ _ _ _ _ _ op_catL (pe_methP0 (pv 0) hr) (pe_methP0 (pv 1) hr)) pa_nil (by rfl))) pa_nil (by rfl))))), ?_⟩
  refine ⟨_, rfl, pa, _, dxa, fsa, _, rfl, ha, la, W _, .ref pa, a, rfl, rfl, oa, by omega, da, fun q1 H1 o1 t1 f1 n1 e1 => ?_⟩
  refine ⟨_, rfl, pb, _, dxb, fsb, _, rfl, t1 _ _ hb, lb, W _, .ref pb, b, rfl, rfl, ob.same t1, by omega, db, fun q2 H2 o2 t2 f2 n2 e2 => ?_⟩
  have k1 := n1.len
  have k2 := n2.len
  refine ⟨q1, q2, _, _, rfl, rfl, SqL.of (t2 _ _ e1), SqL.of e2, small9 (by rw [List.length_map, List.length_map]; omega), fun q3 h3 => ?_⟩
  have t3 := same_new h3 (.lst (o1.map V.str ++ o2.map V.str))
  have e3 : upd H2 q3 (.lst (o1.map V.str ++ o2.map V.str)) q3 = some (.lst ((o1 ++ o2).map V.str)) := by rw [upd_same, List.map_append]
  generalize upd H2 q3 (.lst (o1.map V.str ++ o2.map V.str)) = H3 at t3 e3 ⊢
  refine ⟨q3, o1 ++ o2, rfl, SqL.of e3, by rw [List.length_append]; unfold scanBound; omega, fun q4 h4 => ?_⟩
  have k3 := metS_length (o1 ++ o2)
  rw [List.length_append] at k3
  refine ⟨q4, _, rfl, upd_same, metS_nodup _, by omega, fun q5 out h5 n5 => ?_⟩
  have f5 := (same_new h4 _).free h5
  refine q q5 _ out ?_ (t1.free (t2.free (t3.free f5))) (n1.cat n2 n5.of_met) upd_same
  exact t1.trans (t2.trans (t3.trans (same_put (same_new h4 _) f5 _)))
theorem scTwoN : FnScope ["self"] ["self"] (defScope sTwoN) := ⟨rfl, rfl, rfl, by decide +kernel, rfl, by decide +kernel, by decide +kernel⟩
theorem ok_twoN {f fB : Addr} {fd dB : FuncData} (B : Bl mg) (c : ClsA K CK) (F : Fun K "named" "Twofold.named" sTwoN f fd) (FB : Fun K "names_of_two" "names_of_two" sTwoO fB dB) (bB : Binds K dB ["one", "other"] []) (mB : mg "names_of_two" = some (.ref fB)) (n : Nat) (W : ∀ k, MOk P w K mg base (2 * n + 1) (CK k) "named" (spN CK n k)) (g : Sg) : FnOk P w K mg base CX0 (2 * (n + 1) + 1) f fd ["self"] (spN CK (n + 1) (.op g)) := by
  have GB := ok_twoO B FB n W
  refine F.ok scTwoN (fun vs H Q E h => ?_) (fun cdv A outer s H vs Q E hr h => ?_)
  · obtain ⟨v, t, rfl, _⟩ := h
    rfl
  obtain ⟨v, t, rfl, kt, ob, l60, hn, q⟩ := h
  have hrB := hr.mono (show 2 * n + 2 ≤ 2 * (n + 1) by omega)
  refine ⟨_, (@pss_one _ _ _ (@ps_ret _ _ _ _ (pe_call GB hrB (by rfl) mB FB.kp bB .nil pass0 (@pa_cons _ _ _ _ _ (@pe_fld _ _ _ _ _ (pv 0) rfl) (@pa_cons _ _ _ _ _ (@pe_fld _ _ _ _ _ (pv 0) rfl) pa_nil (by rfl)) (by rfl))))), ?_⟩
  cases t with
  | op g' a b =>
    cases kt
    obtain ⟨p, dx, va, vb, rfl, hp, oa, ob⟩ := ob
    have hn : max (dp a) (dp b) + 1 < n + 1 := hn
    have l60 : lv a + lv b ≤ 60 := l60
    refine ⟨_, rfl, p, _, dx, _, _, rfl, hp, c.cl _, c.one _, two_one _ _, _, rfl, p, _, dx, _, _, rfl, hp, c.cl _, c.oth _, two_oth _ _, ?_⟩
    exact ⟨va, vb, a, b, rfl, oa, ob, l60, by omega, by omega, q⟩
  | _ => cases kt
end
end Nw

set_option Elab.async false
set_option linter.all false
set_option maxRecDepth 100000
set_option maxHeartbeats 4000000
namespace Nw
open PySem L2
section
variable {P : Program} {w : World} {K : PySem.W.Frag} {mg : Str → Option Value} {base : Heap} {CK : Kd → Addr}
/-! ### making -/
def spNumI (C : Addr) : Sp := fun vs H Q _ => ∃ (x dx : Addr) (v : V), vs = [.ref x, v] ∧ H x = some (.ins C dx []) ∧ Q .non (upd H x (.ins C dx (numF v)))
theorem scNumI : FnScope ["self", "number"] ["self", "number"] (defScope sNumI) := ⟨rfl, rfl, rfl, by decide +kernel, rfl, by decide +kernel, by decide +kernel⟩
theorem ok_numI {f : Addr} {fd : FuncData} (c : ClsA K CK) (F : Fun K "__init__" "Number.__init__" sNumI f fd) : FnOk P w K mg base CX0 1 f fd ["self", "number"] (spNumI (CK .num)) := by
  refine F.ok scNumI (fun vs H Q E h => ?_) (fun cdv A outer s H vs Q E hr h => ?_)
  · obtain ⟨x, dx, v, rfl, _⟩ := h
    rfl
  obtain ⟨x, dx, v, rfl, hx, k⟩ := h
  refine ⟨_, (@pss_one _ _ _ (@ps_fld _ _ _ _ _ _ _ _ (pv 0) (pv 1) rfl)), ?_⟩
  exact ⟨_, rfl, _, rfl, x, _, dx, _, rfl, hx, c.cl _, c.num, (by show 0 < 1000; decide), k⟩
def spNamI (C : Addr) : Sp := fun vs H Q _ => ∃ (x dx : Addr) (v : V), vs = [.ref x, v] ∧ H x = some (.ins C dx []) ∧ Q .non (upd H x (.ins C dx (namF v)))
theorem scNamI : FnScope ["self", "name"] ["self", "name"] (defScope sNamI) := ⟨rfl, rfl, rfl, by decide +kernel, rfl, by decide +kernel, by decide +kernel⟩
theorem ok_namI {f : Addr} {fd : FuncData} (c : ClsA K CK) (F : Fun K "__init__" "Named.__init__" sNamI f fd) : FnOk P w K mg base CX0 1 f fd ["self", "name"] (spNamI (CK .nam)) := by
  refine F.ok scNamI (fun vs H Q E h => ?_) (fun cdv A outer s H vs Q E hr h => ?_)
  · obtain ⟨x, dx, v, rfl, _⟩ := h
    rfl
  obtain ⟨x, dx, v, rfl, hx, k⟩ := h
  refine ⟨_, (@pss_one _ _ _ (@ps_fld _ _ _ _ _ _ _ _ (pv 0) (pv 1) rfl)), ?_⟩
  exact ⟨_, rfl, _, rfl, x, _, dx, _, rfl, hx, c.cl _, c.nam, (by show 0 < 1000; decide), k⟩
def spTwoI (C : Addr) : Sp := fun vs H Q _ => ∃ (x dx : Addr) (a b : V), vs = [.ref x, a, b] ∧ H x = some (.ins C dx []) ∧ ∀ H', H' x = some (.ins C dx (twoF a b)) → (∀ b, b ≠ x → H' b = H b) → Q .non H'
theorem scTwoI : FnScope ["self", "one", "other"] ["self", "one", "other"] (defScope sTwoI) := ⟨rfl, rfl, rfl, by decide +kernel, rfl, by decide +kernel, by decide +kernel⟩
theorem ok_twoI {f : Addr} {fd : FuncData} (c : ClsA K CK) (F : Fun K "__init__" "Twofold.__init__" sTwoI f fd) (g : Sg) : FnOk P w K mg base CX0 1 f fd ["self", "one", "other"] (spTwoI (CK (.op g))) := by
  refine F.ok scTwoI (fun vs H Q E h => ?_) (fun cdv A outer s H vs Q E hr h => ?_)
  · obtain ⟨x, dx, a, b, rfl, _⟩ := h
    rfl
  obtain ⟨x, dx, a, b, rfl, hx, k⟩ := h
  refine ⟨_, (@pss_cons _ _ _ _ _ (@ps_fld _ _ _ _ _ _ _ _ (pv 0) (pv 1) rfl) (@pss_one _ _ _ (@ps_fld _ _ _ _ _ _ _ _ (pv 0) (pv 2) rfl))), ?_⟩
  refine ⟨_, rfl, _, rfl, x, _, dx, _, rfl, hx, c.cl _, c.one g, (by show 0 < 1000; decide), ?_⟩
  refine ⟨_, rfl, _, rfl, x, _, dx, _, rfl, upd_same, c.cl _, c.oth g, Nat.lt_of_le_of_lt (length_putF _ _ _) (by show 1 < 1000; decide), ?_⟩
  exact k _ upd_same fun b hb => by rw [upd_ne hb, upd_ne hb]
/-! ### a sum by hand -/
structure Maker (K : PySem.W.Frag) (mg : Str → Option Value) (CK : Kd → Addr) (fN fM fT : Addr) (dN dM dT : FuncData) : Prop where
  cls : ClsA K CK
  mkN : Mk K (CK .num) fN
  mkM : Mk K (CK .nam) fM
  mkT : ∀ g, Mk K (CK (.op g)) fT
  gN : mg "Number" = some (.ref (CK .num))
  gM : mg "Named" = some (.ref (CK .nam))
  gP : mg "Plus" = some (.ref (CK (.op .plus)))
  gI : mg "Minus" = some (.ref (CK (.op .minus)))
  gX : mg "Times" = some (.ref (CK (.op .times)))
  FN : Fun K "__init__" "Number.__init__" sNumI fN dN
  FM : Fun K "__init__" "Named.__init__" sNamI fM dM
  FT : Fun K "__init__" "Twofold.__init__" sTwoI fT dT
  bN : Binds K dN ["self", "number"] []
  bM : Binds K dM ["self", "name"] []
  bT : Binds K dT ["self", "one", "other"] []
def spHand (K : PySem.W.Frag) (CK : Kd → Addr) (n : Nat) : Sp := fun vs H Q _ => ∃ (v : V) (t : Tr), vs = [v] ∧ Is K H (trD t) v ∧ dp t < n ∧ ∀ (p : Addr) (H' : Hp), Same H H' → Obj CK H' t (.ref p) → Q (.ref p) H'
theorem scHand : FnScope ["_law_one", "_law_here", "_law_there"] ["_law_one"] (defScope sHand) := ⟨rfl, rfl, rfl, by decide +kernel, rfl, by decide +kernel, by decide +kernel⟩
theorem same_made {H : Hp} {x dx : Addr} (hx : H x = none) (hd : H dx = none) (n : dx ≠ x) (o o' : HO) : Same H (upd (upd H dx o) x o') := by
  intro b u e
  rw [upd_ne (ne_of_none e hx), upd_ne (ne_of_none e hd)]
  exact e
theorem ok_hand {f fN fM fT : Addr} {fd dN dM dT : FuncData} (T : Maker K mg CK fN fM fT dN dM dT) (F : Fun K "_law_sum_of" "_law_sum_of" sHand f fd) (bH : Binds K fd ["_law_one"] []) (mH : mg "_law_sum_of" = some (.ref f)) :
    ∀ n : Nat, FnOk P w K mg base CX0 (n + 3) f fd ["_law_one"] (spHand K CK n)
  | 0 => fn_none fun vs H Q E h => by obtain ⟨v, t, _, _, h1, _⟩ := h; omega
  | n + 1 => by
    have GH := ok_hand T F bH mH n
    have GN : FnOk P w K mg base CX0 1 fN dN ["self", "number"] (spNumI (CK .num)) := ok_numI T.cls T.FN
    have GM : FnOk P w K mg base CX0 1 fM dM ["self", "name"] (spNamI (CK .nam)) := ok_namI T.cls T.FM
    have GT : ∀ g, FnOk P w K mg base CX0 1 fT dT ["self", "one", "other"] (spTwoI (CK (.op g))) := ok_twoI T.cls T.FT
    refine F.ok scHand (fun vs H Q E h => ?_) (fun cdv A outer s H vs Q E hr h => ?_)
    · obtain ⟨v, t, rfl, _⟩ := h
      rfl
    obtain ⟨v, t, rfl, it, hn, q⟩ := h
    have hr2 := hr.mono (show 1 + 1 ≤ n + 3 by omega)
    refine ⟨_, (@pss_cons _ _ _ _ _ (@ps_if _ _ _ _ _ _ _ _ (@pt_cmpR _ _ _ _ _ _ _ _ op_eq (@pe_ix _ _ _ _ _ _ (rIxT K) ix_tup (pv 0) pe_int (fun _ _ => rfl)) pe_str (nomark _)) (@pss_one _ _ _ (@ps_ret _ _ _ _ (pe_make T.mkN GN hr2 rfl T.gN T.bN .nil pass0 (@pa_cons _ _ _ _ _ (@pe_ix _ _ _ _ _ _ (rIxT K) ix_tup (pv 0) pe_int (fun _ _ => rfl)) pa_nil (by rfl))))) pss_nil) (@pss_cons _ _ _ _ _ (@ps_if _ _ _ _ _ _ _ _ (@pt_cmpR _ _ _ _ _ _ _ _ op_eq (@pe_ix _ _ _ _ _ _ (rIxT K) ix_tup (pv 0) pe_int (fun _ _ => rfl)) pe_str (nomark _)) (@pss_one _ _ _ (@ps_ret _ _ _ _ (pe_make T.mkM GM hr2 rfl T.gM T.bM .nil pass0 (@pa_cons _ _ _ _ _ (@pe_ix _ _ _ _ _ _ (rIxT K) ix_tup (pv 0) pe_int (fun _ _ => rfl)) pa_nil (by rfl))))) pss_nil) (@pss_cons _ _ _ _ _ (@ps_set _ _ 1 _ _ _ _ scHand.nd rfl (Or.inl rfl) (pe_call GH hr (by rfl) mH F.kp bH .nil pass0 (@pa_cons _ _ _ _ _ (@pe_ix _ _ _ _ _ _ (rIxT K) ix_tup (pv 0) pe_int (fun _ _ => rfl)) pa_nil (by rfl))) rfl (Or.inl rfl)) (@pss_cons _ _ _ _ _ (@ps_set _ _ 2 _ _ _ _ scHand.nd rfl (Or.inl rfl) (pe_call GH hr (by rfl) mH F.kp bH .nil pass0 (@pa_cons _ _ _ _ _ (@pe_ix _ _ _ _ _ _ (rIxT K) ix_tup (pv 0) pe_int (fun _ _ => rfl)) pa_nil (by rfl))) rfl (Or.inl rfl)) (@pss_cons _ _ _ _ _ (@ps_if _ _ _ _ _ _ _ _ (@pt_cmpR _ _ _ _ _ _ _ _ op_eq (@pe_ix _ _ _ _ _ _ (rIxT K) ix_tup (pv 0) pe_int (fun _ _ => rfl)) pe_str (nomark _)) (@pss_one _ _ _ (@ps_ret _ _ _ _ (pe_make (T.mkT .plus) (GT .plus) hr2 rfl T.gP T.bT .nil pass0 (@pa_cons _ _ _ _ _ (pv 1) (@pa_cons _ _ _ _ _ (pv 2) pa_nil (by rfl)) (by rfl))))) pss_nil) (@pss_cons _ _ _ _ _ (@ps_if _ _ _ _ _ _ _ _ (@pt_cmpR _ _ _ _ _ _ _ _ op_eq (@pe_ix _ _ _ _ _ _ (rIxT K) ix_tup (pv 0) pe_int (fun _ _ => rfl)) pe_str (nomark _)) (@pss_one _ _ _ (@ps_ret _ _ _ _ (pe_make (T.mkT .minus) (GT .minus) hr2 rfl T.gI T.bT .nil pass0 (@pa_cons _ _ _ _ _ (pv 1) (@pa_cons _ _ _ _ _ (pv 2) pa_nil (by rfl)) (by rfl))))) pss_nil) (@pss_one _ _ _ (@ps_ret _ _ _ _ (pe_make (T.mkT .times) (GT .times) hr2 rfl T.gX T.bT .nil pass0 (@pa_cons _ _ _ _ _ (pv 1) (@pa_cons _ _ _ _ _ (pv 2) pa_nil (by rfl)) (by rfl))))))))))), ?_⟩
    cases t with
    | num m =>
      obtain ⟨p, rfl, ht⟩ := is_num it
      refine ⟨_, rfl, p, _, _, _, rfl, rfl, ht, atI_nat (j := 0) rfl, rfl, _, rfl, ite2 (fun _ => ?_) (fun c => absurd (decide_eq_true rfl) c)⟩
      refine ⟨_, rfl, p, _, _, _, rfl, rfl, ht, atI_nat (j := 1) rfl, fun x dx hx hd hxd => ?_⟩
      refine ⟨x, dx, _, rfl, upd_same, rfl, q x _ ?_ ⟨x, dx, rfl, upd_same⟩⟩
      intro b u e
      rw [upd_ne (ne_of_none e hx)]
      exact same_made hx hd hxd _ _ b u e
    | nam m =>
      obtain ⟨p, rfl, ht⟩ := is_nam it
      refine ⟨_, rfl, p, _, _, _, rfl, rfl, ht, atI_nat (j := 0) rfl, rfl, _, rfl, ite2 (fun c => absurd (of_decide_eq_true c) (by decide +kernel)) (fun _ => ?_)⟩
      refine ⟨_, rfl, p, _, _, _, rfl, rfl, ht, atI_nat (j := 0) rfl, rfl, _, rfl, ite2 (fun _ => ?_) (fun c => absurd (decide_eq_true rfl) c)⟩
      refine ⟨_, rfl, p, _, _, _, rfl, rfl, ht, atI_nat (j := 1) rfl, fun x dx hx hd hxd => ?_⟩
      refine ⟨x, dx, _, rfl, upd_same, rfl, q x _ ?_ ⟨x, dx, rfl, upd_same⟩⟩
      intro b u e
      rw [upd_ne (ne_of_none e hx)]
      exact same_made hx hd hxd _ _ b u e
    | op g a b =>
      obtain ⟨p, va, vb, rfl, ht, ia, ib⟩ := is_op it
      have hn : max (dp a) (dp b) + 1 < n + 1 := hn
      have n1 : ¬ V.str (sgS g) = V.str "number" := by cases g <;> decide +kernel
      have n2 : ¬ V.str (sgS g) = V.str "name" := by cases g <;> decide +kernel
      refine ⟨_, rfl, p, _, _, _, rfl, rfl, ht, atI_nat (j := 0) rfl, rfl, _, rfl, ite2 (fun c => absurd (of_decide_eq_true c) n1) (fun _ => ?_)⟩
      refine ⟨_, rfl, p, _, _, _, rfl, rfl, ht, atI_nat (j := 0) rfl, rfl, _, rfl, ite2 (fun c => absurd (of_decide_eq_true c) n2) (fun _ => ?_)⟩
      refine ⟨_, rfl, p, _, _, _, rfl, rfl, ht, atI_nat (j := 1) rfl, va, a, rfl, ia, by omega, fun p1 H1 s1 o1 => ?_⟩
      refine ⟨_, rfl, p, _, _, _, rfl, rfl, s1.tup ht, atI_nat (j := 2) rfl, vb, b, rfl, ib.same s1, by omega, fun p2 H2 s2 o2 => ?_⟩
      have ht2 := s2.tup (s1.tup ht)
      have fin : ∀ (x dx : Addr), H2 x = none → H2 dx = none → dx ≠ x → spTwoI (CK (.op g)) [.ref x, .ref p1, .ref p2] (upd (upd H2 dx (.own x)) x (.ins (CK (.op g)) dx [])) (fun v H3 => v = .non ∧ Q (.ref x) H3) E0 := by
        intro x dx hx hd hxd
        refine ⟨x, dx, _, _, rfl, upd_same, fun H3 h3 h4 => ⟨rfl, ?_⟩⟩
        have s3 : Same H2 H3 := by
          intro b' u e
          rw [h4 b' (ne_of_none e hx)]
          exact same_made hx hd hxd _ _ b' u e
        exact q x H3 (s1.trans (s2.trans s3)) ⟨x, dx, _, _, rfl, h3, o1.same (s2.trans s3), o2.same s3⟩
      cases g with
      | plus =>
        refine ⟨_, rfl, p, _, _, _, rfl, rfl, ht2, atI_nat (j := 0) rfl, rfl, _, rfl, ite2 (fun _ => ?_) (fun c => absurd (decide_eq_true rfl) c)⟩
        exact ⟨_, rfl, _, rfl, fin⟩
      | minus =>
        refine ⟨_, rfl, p, _, _, _, rfl, rfl, ht2, atI_nat (j := 0) rfl, rfl, _, rfl, ite2 (fun c => absurd (of_decide_eq_true c) (by decide +kernel)) (fun _ => ?_)⟩
        refine ⟨_, rfl, p, _, _, _, rfl, rfl, ht2, atI_nat (j := 0) rfl, rfl, _, rfl, ite2 (fun _ => ?_) (fun c => absurd (decide_eq_true rfl) c)⟩
        exact ⟨_, rfl, _, rfl, fin⟩
      | times =>
        refine ⟨_, rfl, p, _, _, _, rfl, rfl, ht2, atI_nat (j := 0) rfl, rfl, _, rfl, ite2 (fun c => absurd (of_decide_eq_true c) (by decide +kernel)) (fun _ => ?_)⟩
        refine ⟨_, rfl, p, _, _, _, rfl, rfl, ht2, atI_nat (j := 0) rfl, rfl, _, rfl, ite2 (fun c => absurd (of_decide_eq_true c) (by decide +kernel)) (fun _ => ?_)⟩
        exact ⟨_, rfl, _, rfl, fin⟩
end
end Nw

set_option Elab.async false
set_option linter.all false
set_option maxRecDepth 100000
set_option maxHeartbeats 4000000
namespace Nw
open PySem L2
/-! ### changes -/
inductive Kc where
  | cha | put | any
inductive Ch where
  | cha (n : Str) | put (n : Str) (t : Tr) | any (n : Str) (t u : Tr)
def kc : Ch → Kc
  | .cha _ => .cha
  | .put _ _ => .put
  | .any _ _ _ => .any
def ccOf (CC CU CA : Addr) : Kc → Addr
  | .cha => CC
  | .put => CU
  | .any => CA
def chT : Ch → Str
  | .cha n => n
  | .put n t => n ++ " = " ++ txt t
  | .any n t u => n ++ " any " ++ txt t ++ " to " ++ txt u
def chL : Ch → List Str
  | .cha _ => []
  | .put _ t => nmT t
  | .any _ t u => nmT t ++ nmT u
def putFd (n o : V) : List (Str × V) := putF "one" o (namF n)
def anyFd (n a b : V) : List (Str × V) := putF "other" b (putF "one" a (namF n))
theorem putd_one (n o : V) : (putFd n o).lookup ("one" : Str) = some o := by unfold putFd; rw [lookup_putF, if_pos rfl]
theorem putd_nam (n o : V) : (putFd n o).lookup ("name" : Str) = some n := by unfold putFd; rw [lookup_putF, if_neg (by decide +kernel)]; exact nam_at n
theorem putd_s (n o : V) : (putFd n o).lookup ("shown" : Str) = none := by unfold putFd; rw [lookup_putF, if_neg (by decide +kernel)]; exact nam_s n
theorem putd_n (n o : V) : (putFd n o).lookup ("named" : Str) = none := by unfold putFd; rw [lookup_putF, if_neg (by decide +kernel)]; exact nam_n n
theorem anyd_one (n a b : V) : (anyFd n a b).lookup ("one" : Str) = some a := by unfold anyFd; rw [lookup_putF, if_neg (by decide +kernel), lookup_putF, if_pos rfl]
theorem anyd_oth (n a b : V) : (anyFd n a b).lookup ("other" : Str) = some b := by unfold anyFd; rw [lookup_putF, if_pos rfl]
theorem anyd_nam (n a b : V) : (anyFd n a b).lookup ("name" : Str) = some n := by unfold anyFd; rw [lookup_putF, if_neg (by decide +kernel), lookup_putF, if_neg (by decide +kernel)]; exact nam_at n
theorem anyd_s (n a b : V) : (anyFd n a b).lookup ("shown" : Str) = none := by unfold anyFd; rw [lookup_putF, if_neg (by decide +kernel), lookup_putF, if_neg (by decide +kernel)]; exact nam_s n
theorem anyd_n (n a b : V) : (anyFd n a b).lookup ("named" : Str) = none := by unfold anyFd; rw [lookup_putF, if_neg (by decide +kernel), lookup_putF, if_neg (by decide +kernel)]; exact nam_n n
structure ClsC (K : PySem.W.Frag) (CC : Kc → Addr) : Prop where
  cl : ∀ k, Cls K (CC k)
  nm : ∀ k, NoAttr K (CC k) "name"
  p1 : NoAttr K (CC .put) "one"
  a1 : NoAttr K (CC .any) "one"
  a2 : NoAttr K (CC .any) "other"
def ObjC (CK : Kd → Addr) (CC : Kc → Addr) (H : Hp) : Ch → V → Prop
  | .cha n, v => ∃ p dx, v = .ref p ∧ H p = some (.ins (CC .cha) dx (namF (.str n)))
  | .put n t, v => ∃ p dx o, v = .ref p ∧ H p = some (.ins (CC .put) dx (putFd (.str n) o)) ∧ Obj CK H t o
  | .any n t u, v => ∃ p dx a b, v = .ref p ∧ H p = some (.ins (CC .any) dx (anyFd (.str n) a b)) ∧ Obj CK H t a ∧ Obj CK H u b
theorem ObjC.same {CK : Kd → Addr} {CC : Kc → Addr} {H H' : Hp} (s : Same H H') : ∀ {c : Ch} {v : V}, ObjC CK CC H c v → ObjC CK CC H' c v
  | .cha n, v, h => by obtain ⟨p, dx, e, h⟩ := h; exact ⟨p, dx, e, s _ _ h⟩
  | .put n t, v, h => by obtain ⟨p, dx, o, e, h, h1⟩ := h; exact ⟨p, dx, o, e, s _ _ h, h1.same s⟩
  | .any n t u, v, h => by obtain ⟨p, dx, a, b, e, h, h1, h2⟩ := h; exact ⟨p, dx, a, b, e, s _ _ h, h1.same s, h2.same s⟩
theorem ObjC.at_ {CK : Kd → Addr} {CC : Kc → Addr} {H : Hp} : ∀ {c : Ch} {v : V}, ObjC CK CC H c v → ∃ p dx fs, v = .ref p ∧ H p = some (.ins (CC (kc c)) dx fs) ∧ fs.lookup ("shown" : Str) = none ∧ fs.lookup ("named" : Str) = none
  | .cha n, v, h => by obtain ⟨p, dx, e, h⟩ := h; exact ⟨p, dx, _, e, h, nam_s _, nam_n _⟩
  | .put n t, v, h => by obtain ⟨p, dx, o, e, h, h1⟩ := h; exact ⟨p, dx, _, e, h, putd_s _ _, putd_n _ _⟩
  | .any n t u, v, h => by obtain ⟨p, dx, a, b, e, h, h1, h2⟩ := h; exact ⟨p, dx, _, e, h, anyd_s _ _ _, anyd_n _ _ _⟩
def FitsC (l : List Str) (n : Nat) : Ch → Prop
  | .cha x => x.length ≤ 40
  | .put x t => x.length ≤ 40 ∧ Fits l t ∧ lv t ≤ 60 ∧ dp t < n
  | .any x t u => x.length ≤ 40 ∧ Fits l t ∧ Fits l u ∧ lv t + lv u ≤ 60 ∧ dp t < n ∧ dp u < n
theorem chL_len {l : List Str} {n : Nat} : ∀ {c : Ch}, FitsC l n c → (chL c).length ≤ 60
  | .cha _, _ => Nat.zero_le _
  | .put x t, h => by
    obtain ⟨_, _, h, _⟩ : x.length ≤ 40 ∧ Fits l t ∧ lv t ≤ 60 ∧ dp t < n := h
    exact Nat.le_trans (nmT_len t) h
  | .any x t u, h => by
    obtain ⟨_, _, _, h, _⟩ : x.length ≤ 40 ∧ Fits l t ∧ Fits l u ∧ lv t + lv u ≤ 60 ∧ dp t < n ∧ dp u < n := h
    have h1 := nmT_len t
    have h2 := nmT_len u
    show (nmT t ++ nmT u).length ≤ 60
    rw [List.length_append]; omega
theorem join3 (a b : Str) : Txt.join " " [a, "=", b] = a ++ " = " ++ b := by
  rw [join_eq]
  show a ++ " " ++ ("=" ++ " " ++ b) = _
  have e1 : (" " : Str) ++ "=" ++ " " = " = " := by decide +kernel
  rw [← e1]
  simp only [str_assoc]
theorem join5a (a b c : Str) : Txt.join " " [a, "any", b, "to", c] = a ++ " any " ++ b ++ " to " ++ c := by
  rw [join_eq]
  show a ++ " " ++ ("any" ++ " " ++ (b ++ " " ++ ("to" ++ " " ++ c))) = _
  have e1 : (" " : Str) ++ "any" ++ " " = " any " := by decide +kernel
  have e2 : (" " : Str) ++ "to" ++ " " = " to " := by decide +kernel
  rw [← e1, ← e2]
  simp only [str_assoc]
section
variable {P : Program} {w : World} {K : PySem.W.Frag} {mg : Str → Option Value} {base : Heap} {CK : Kd → Addr} {CC : Kc → Addr}
/-! ### making -/
def spChaI (C : Addr) : Sp := fun vs H Q _ => ∃ (x dx : Addr) (v : V), vs = [.ref x, v] ∧ H x = some (.ins C dx []) ∧ Q .non (upd H x (.ins C dx (namF v)))
theorem scChaI : FnScope ["self", "name"] ["self", "name"] (defScope sChaI) := ⟨rfl, rfl, rfl, by decide +kernel, rfl, by decide +kernel, by decide +kernel⟩
theorem ok_chaI {f : Addr} {fd : FuncData} (c : ClsC K CC) (F : Fun K "__init__" "Change.__init__" sChaI f fd) (k : Kc) : FnOk P w K mg base CX0 1 f fd ["self", "name"] (spChaI (CC k)) := by
  refine F.ok scChaI (fun vs H Q E h => ?_) (fun cdv A outer s H vs Q E hr h => ?_)
  · obtain ⟨x, dx, v, rfl, _⟩ := h
    rfl
  obtain ⟨x, dx, v, rfl, hx, q⟩ := h
  refine ⟨_, (@pss_one _ _ _ (@ps_fld _ _ _ _ _ _ _ _ (pv 0) (pv 1) rfl)), ?_⟩
  exact ⟨_, rfl, _, rfl, x, _, dx, _, rfl, hx, c.cl _, c.nm _, (by show 0 < 1000; decide), q⟩
def spPutI (C : Addr) : Sp := fun vs H Q _ => ∃ (x dx : Addr) (n o : V), vs = [.ref x, n, o] ∧ H x = some (.ins C dx []) ∧ ∀ H', H' x = some (.ins C dx (putFd n o)) → (∀ b, b ≠ x → H' b = H b) → Q .non H'
theorem scPutI : FnScope ["self", "name", "one"] ["self", "name", "one"] (defScope sPutI) := ⟨rfl, rfl, rfl, by decide +kernel, rfl, by decide +kernel, by decide +kernel⟩
theorem ok_putI {f fC : Addr} {fd fdC : FuncData} (c : ClsC K CC) (F : Fun K "__init__" "Put.__init__" sPutI f fd) (FC : Fun K "__init__" "Change.__init__" sChaI fC fdC) (bC : Binds K fdC ["self", "name"] []) (gC : mg "Change" = some (.ref (CC .cha))) (M : CMeth K (CC .cha) "__init__" fC) : FnOk P w K mg base CX0 2 f fd ["self", "name", "one"] (spPutI (CC .put)) := by
  have GC : FnOk P w K mg base CX0 1 fC fdC ["self", "name"] (spChaI (CC .put)) := ok_chaI c FC .put
  refine F.ok scPutI (fun vs H Q E h => ?_) (fun cdv A outer s H vs Q E hr h => ?_)
  · obtain ⟨x, dx, n, o, rfl, _⟩ := h
    rfl
  obtain ⟨x, dx, n, o, rfl, hx, q⟩ := h
  refine ⟨_, (@pss_cons _ _ _ _ _ (@ps_expr _ _ _ _ (pe_callC rfl gC M GC hr bC .nil pass0 (@pa_cons _ _ _ _ _ (pv 0) (@pa_cons _ _ _ _ _ (pv 1) pa_nil (by rfl)) (by rfl))) (by rfl)) (@pss_one _ _ _ (@ps_fld _ _ _ _ _ _ _ _ (pv 0) (pv 2) rfl))), ?_⟩
  refine ⟨_, rfl, _, rfl, x, dx, n, rfl, hx, ?_⟩
  refine ⟨_, rfl, _, rfl, x, _, dx, _, rfl, upd_same, c.cl _, c.p1, Nat.lt_of_le_of_lt (length_putF _ _ _) (by show 1 < 1000; decide), ?_⟩
  exact q _ upd_same fun b hb => by rw [upd_ne hb, upd_ne hb]
def spAnyI (C : Addr) : Sp := fun vs H Q _ => ∃ (x dx : Addr) (n o u : V), vs = [.ref x, n, o, u] ∧ H x = some (.ins C dx []) ∧ ∀ H', H' x = some (.ins C dx (anyFd n o u)) → (∀ b, b ≠ x → H' b = H b) → Q .non H'
theorem scAnyI : FnScope ["self", "name", "one", "other"] ["self", "name", "one", "other"] (defScope sAnyI) := ⟨rfl, rfl, rfl, by decide +kernel, rfl, by decide +kernel, by decide +kernel⟩
theorem ok_anyI {f fC : Addr} {fd fdC : FuncData} (c : ClsC K CC) (F : Fun K "__init__" "Any.__init__" sAnyI f fd) (FC : Fun K "__init__" "Change.__init__" sChaI fC fdC) (bC : Binds K fdC ["self", "name"] []) (gC : mg "Change" = some (.ref (CC .cha))) (M : CMeth K (CC .cha) "__init__" fC) : FnOk P w K mg base CX0 2 f fd ["self", "name", "one", "other"] (spAnyI (CC .any)) := by
  have GC : FnOk P w K mg base CX0 1 fC fdC ["self", "name"] (spChaI (CC .any)) := ok_chaI c FC .any
  refine F.ok scAnyI (fun vs H Q E h => ?_) (fun cdv A outer s H vs Q E hr h => ?_)
  · obtain ⟨x, dx, n, o, u, rfl, _⟩ := h
    rfl
  obtain ⟨x, dx, n, o, u, rfl, hx, q⟩ := h
  refine ⟨_, (@pss_cons _ _ _ _ _ (@ps_expr _ _ _ _ (pe_callC rfl gC M GC hr bC .nil pass0 (@pa_cons _ _ _ _ _ (pv 0) (@pa_cons _ _ _ _ _ (pv 1) pa_nil (by rfl)) (by rfl))) (by rfl)) (@pss_cons _ _ _ _ _ (@ps_fld _ _ _ _ _ _ _ _ (pv 0) (pv 2) rfl) (@pss_one _ _ _ (@ps_fld _ _ _ _ _ _ _ _ (pv 0) (pv 3) rfl)))), ?_⟩
  refine ⟨_, rfl, _, rfl, x, dx, n, rfl, hx, ?_⟩
  refine ⟨_, rfl, _, rfl, x, _, dx, _, rfl, upd_same, c.cl _, c.a1, Nat.lt_of_le_of_lt (length_putF _ _ _) (by show 1 < 1000; decide), ?_⟩
  refine ⟨_, rfl, _, rfl, x, _, dx, _, rfl, upd_same, c.cl _, c.a2, Nat.lt_of_le_of_lt (length_putF _ _ _) (Nat.lt_of_le_of_lt (Nat.succ_le_succ (length_putF _ _ _)) (by show 2 < 1000; decide)), ?_⟩
  exact q _ upd_same fun b hb => by rw [upd_ne hb, upd_ne hb, upd_ne hb]
/-! ### named -/
def spCN (CK : Kd → Addr) (CC : Kc → Addr) (n : Nat) (k : Kc) : Sp := fun vs H Q _ => ∃ (v : V) (c : Ch) (l : List Str), vs = [v] ∧ kc c = k ∧ ObjC CK CC H c v ∧ FitsC l n c ∧ ∀ (p : Addr) (H' : Hp) (out : List Str), Same H H' → H p = none → IsNorm (chL c) out → H' p = some (.lst (out.map V.str)) → Q (.ref p) H'
theorem scChaN : FnScope ["self"] ["self"] (defScope sChaN) := ⟨rfl, rfl, rfl, by decide +kernel, rfl, by decide +kernel, by decide +kernel⟩
theorem ok_chaN {f : Addr} {fd : FuncData} (F : Fun K "named" "Change.named" sChaN f fd) (n : Nat) : FnOk P w K mg base CX0 1 f fd ["self"] (spCN CK CC n .cha) := by
  refine F.ok scChaN (fun vs H Q E h => ?_) (fun cdv A outer s H vs Q E hr h => ?_)
  · obtain ⟨v, c, l, rfl, _⟩ := h
    rfl
  obtain ⟨v, c, l, rfl, kt, ob, ft, q⟩ := h
  refine ⟨_, (@pss_one _ _ _ (@ps_ret _ _ _ _ (@pe_lst _ _ _ _ pa_nil))), ?_⟩
  cases c with
  | cha m => exact ⟨Nat.zero_le _, fun z hz => q z _ [] (same_new hz _) hz IsNorm.nil upd_same⟩
  | _ => cases kt
theorem scPutN : FnScope ["self"] ["self"] (defScope sPutN) := ⟨rfl, rfl, rfl, by decide +kernel, rfl, by decide +kernel, by decide +kernel⟩
theorem ok_putN {f : Addr} {fd : FuncData} (c : ClsC K CC) (F : Fun K "named" "Put.named" sPutN f fd) (n : Nat) (W : ∀ k, MOk P w K mg base (2 * n + 1) (CK k) "named" (spN CK n k)) : FnOk P w K mg base CX0 (2 * n + 2) f fd ["self"] (spCN CK CC n .put) := by
  refine F.ok scPutN (fun vs H Q E h => ?_) (fun cdv A outer s H vs Q E hr h => ?_)
  · obtain ⟨v, c, l, rfl, _⟩ := h
    rfl
  obtain ⟨v, cg, l, rfl, kt, ob, ft, q⟩ := h
  refine ⟨_, (@pss_one _ _ _ (@ps_ret _ _ _ _ (pe_methP0 (@pe_fld _ _ _ _ _ (pv 0) rfl) hr))), ?_⟩
  cases cg with
  | put m t =>
    obtain ⟨p, dx, o, rfl, hp, oo⟩ := ob
    obtain ⟨_, f1, f2, f3⟩ : m.length ≤ 40 ∧ Fits l t ∧ lv t ≤ 60 ∧ dp t < n := ft
    obtain ⟨pa, dxa, fsa, rfl, ha, _, la⟩ := oo.at_
    exact ⟨_, rfl, p, _, dx, _, _, rfl, hp, c.cl _, c.p1, putd_one _ _, pa, _, dxa, fsa, _, rfl, ha, la, W _, .ref pa, t, rfl, rfl, oo, f2, f3, q⟩
  | _ => cases kt
theorem scAnyN : FnScope ["self"] ["self"] (defScope sAnyN) := ⟨rfl, rfl, rfl, by decide +kernel, rfl, by decide +kernel, by decide +kernel⟩
theorem ok_anyN {f fB : Addr} {fd dB : FuncData} (B : Bl mg) (c : ClsC K CC) (F : Fun K "named" "Any.named" sAnyN f fd) (FB : Fun K "names_of_two" "names_of_two" sTwoO fB dB) (bB : Binds K dB ["one", "other"] []) (mB : mg "names_of_two" = some (.ref fB)) (n : Nat) (W : ∀ k, MOk P w K mg base (2 * n + 1) (CK k) "named" (spN CK n k)) : FnOk P w K mg base CX0 (2 * n + 3) f fd ["self"] (spCN CK CC n .any) := by
  have GB := ok_twoO B FB n W
  refine F.ok scAnyN (fun vs H Q E h => ?_) (fun cdv A outer s H vs Q E hr h => ?_)
  · obtain ⟨v, c, l, rfl, _⟩ := h
    rfl
  obtain ⟨v, cg, l, rfl, kt, ob, ft, q⟩ := h
  refine ⟨_, (@pss_one _ _ _ (@ps_ret _ _ _ _ (pe_call GB hr (by rfl) mB FB.kp bB .nil pass0 (@pa_cons _ _ _ _ _ (@pe_fld _ _ _ _ _ (pv 0) rfl) (@pa_cons _ _ _ _ _ (@pe_fld _ _ _ _ _ (pv 0) rfl) pa_nil (by rfl)) (by rfl))))), ?_⟩
  cases cg with
  | any m t u =>
    obtain ⟨p, dx, o, o', rfl, hp, oo, ou⟩ := ob
    obtain ⟨_, f1, f2, f3, f4, f5⟩ : m.length ≤ 40 ∧ Fits l t ∧ Fits l u ∧ lv t + lv u ≤ 60 ∧ dp t < n ∧ dp u < n := ft
    refine ⟨_, rfl, p, _, dx, _, _, rfl, hp, c.cl _, c.a1, anyd_one _ _ _, _, rfl, p, _, dx, _, _, rfl, hp, c.cl _, c.a2, anyd_oth _ _ _, ?_⟩
    exact ⟨o, o', t, u, rfl, oo, ou, f3, f4, f5, q⟩
  | _ => cases kt
/-! ### shown -/
def spCS (CK : Kd → Addr) (CC : Kc → Addr) (n : Nat) (k : Kc) : Sp := fun vs H Q _ => ∃ (v : V) (c : Ch) (l : List Str), vs = [v] ∧ kc c = k ∧ ObjC CK CC H c v ∧ (∀ x ∈ l, x.length ≤ 40) ∧ FitsC l n c ∧ ∀ H', Same H H' → Q (.str (chT c)) H'
theorem scChaS : FnScope ["self"] ["self"] (defScope sChaS) := ⟨rfl, rfl, rfl, by decide +kernel, rfl, by decide +kernel, by decide +kernel⟩
theorem ok_chaS {f : Addr} {fd : FuncData} (c : ClsC K CC) (F : Fun K "shown" "Change.shown" sChaS f fd) (n : Nat) : FnOk P w K mg base CX0 1 f fd ["self"] (spCS CK CC n .cha) := by
  refine F.ok scChaS (fun vs H Q E h => ?_) (fun cdv A outer s H vs Q E hr h => ?_)
  · obtain ⟨v, c, l, rfl, _⟩ := h
    rfl
  obtain ⟨v, cg, l, rfl, kt, ob, hl, ft, q⟩ := h
  refine ⟨_, (@pss_one _ _ _ (@ps_ret _ _ _ _ (@pe_fld _ _ _ _ _ (pv 0) rfl))), ?_⟩
  cases cg with
  | cha m =>
    obtain ⟨p, dx, rfl, hp⟩ := ob
    exact ⟨_, rfl, p, _, dx, _, _, rfl, hp, c.cl _, c.nm _, nam_at _, q _ (Same.refl _)⟩
  | _ => cases kt
theorem scPutS : FnScope ["self"] ["self"] (defScope sPutS) := ⟨rfl, rfl, rfl, by decide +kernel, rfl, by decide +kernel, by decide +kernel⟩
theorem ok_putS {f : Addr} {fd : FuncData} (c : ClsC K CC) (F : Fun K "shown" "Put.shown" sPutS f fd) (n : Nat) (W : ∀ k, MOk P w K mg base (2 * n + 1) (CK k) "shown" (spS CK n k)) : FnOk P w K mg base CX0 (2 * n + 2) f fd ["self"] (spCS CK CC n .put) := by
  refine F.ok scPutS (fun vs H Q E h => ?_) (fun cdv A outer s H vs Q E hr h => ?_)
  · obtain ⟨v, c, l, rfl, _⟩ := h
    rfl
  obtain ⟨v, cg, l, rfl, kt, ob, hl, ft, q⟩ := h
  refine ⟨_, (@pss_one _ _ _ (@ps_ret _ _ _ _ (pe_bm (r := rJoin K) PySem.F.plainAttrs_str PySem.F.slot_str_join PySem.F.type_str_join mt_join pe_str (@pa_cons _ _ _ _ _ (@pe_lst _ _ _ _ (@pa_cons _ _ _ _ _ (@pe_fld _ _ _ _ _ (pv 0) rfl) (@pa_cons _ _ _ _ _ pe_str (@pa_cons _ _ _ _ _ (pe_methP0 (@pe_fld _ _ _ _ _ (pv 0) rfl) hr) pa_nil (by rfl)) (by rfl)) (by rfl))) pa_nil (by rfl))))), ?_⟩
  cases cg with
  | put m t =>
    obtain ⟨p, dx, o, rfl, hp, oo⟩ := ob
    obtain ⟨f0, f1, f2, f3⟩ : m.length ≤ 40 ∧ Fits l t ∧ lv t ≤ 60 ∧ dp t < n := ft
    have i1 := txt_len hl f1
    obtain ⟨pa, dxa, fsa, rfl, ha, la, _⟩ := oo.at_
    refine ⟨rfl, _, rfl, p, _, dx, _, _, rfl, hp, c.cl _, c.nm _, putd_nam _ _, _, rfl, p, _, dx, _, _, rfl, hp, c.cl _, c.p1, putd_one _ _, pa, _, dxa, fsa, _, rfl, ha, la, W _, .ref pa, t, l, rfl, rfl, oo, hl, f1, f2, f3, fun H1 t1 => ?_⟩
    refine ⟨by show 3 ≤ sizeLine; decide, fun z hz => ⟨_, z, [m, "=", txt t], rfl, rfl, SqL.of upd_same, ?_, ?_⟩⟩
    · have e1 : ("=" : Str).length = 1 := by decide +kernel
      have e3 := sp_len.1
      simp only [List.map_cons, List.map_nil, List.sum_cons, List.sum_nil, List.length_cons, List.length_nil, e1, e3]
      omega
    · rw [join3]
      exact q _ (t1.trans (same_new hz _))
  | _ => cases kt
theorem scAnyS : FnScope ["self"] ["self"] (defScope sAnyS) := ⟨rfl, rfl, rfl, by decide +kernel, rfl, by decide +kernel, by decide +kernel⟩
theorem ok_anyS {f : Addr} {fd : FuncData} (c : ClsC K CC) (F : Fun K "shown" "Any.shown" sAnyS f fd) (n : Nat) (W : ∀ k, MOk P w K mg base (2 * n + 1) (CK k) "shown" (spS CK n k)) : FnOk P w K mg base CX0 (2 * n + 2) f fd ["self"] (spCS CK CC n .any) := by
  refine F.ok scAnyS (fun vs H Q E h => ?_) (fun cdv A outer s H vs Q E hr h => ?_)
  · obtain ⟨v, c, l, rfl, _⟩ := h
    rfl
  obtain ⟨v, cg, l, rfl, kt, ob, hl, ft, q⟩ := h
  refine ⟨_, (@pss_one _ _ _ (@ps_ret _ _ _ _ (pe_bm (r := rJoin K) PySem.F.plainAttrs_str PySem.F.slot_str_join PySem.F.type_str_join mt_join pe_str (@pa_cons _ _ _ _ _ (@pe_lst _ _ _ _ (@pa_cons _ _ _ _ _ (@pe_fld _ _ _ _ _ (pv 0) rfl) (@pa_cons _ _ _ _ _ pe_str (@pa_cons _ _ _ _ _ (pe_methP0 (@pe_fld _ _ _ _ _ (pv 0) rfl) hr) (@pa_cons _ _ _ _ _ pe_str (@pa_cons _ _ _ _ _ (pe_methP0 (@pe_fld _ _ _ _ _ (pv 0) rfl) hr) pa_nil (by rfl)) (by rfl)) (by rfl)) (by rfl)) (by rfl))) pa_nil (by rfl))))), ?_⟩
  cases cg with
  | any m t u =>
    obtain ⟨p, dx, o, o', rfl, hp, oo, ou⟩ := ob
    obtain ⟨f0, f1, f2, f3, f4, f5⟩ : m.length ≤ 40 ∧ Fits l t ∧ Fits l u ∧ lv t + lv u ≤ 60 ∧ dp t < n ∧ dp u < n := ft
    have i1 := txt_len hl f1
    have i2 := txt_len hl f2
    have v1 := lv_pos t
    have v2 := lv_pos u
    obtain ⟨pa, dxa, fsa, rfl, ha, la, _⟩ := oo.at_
    obtain ⟨pb, dxb, fsb, rfl, hb, lb, _⟩ := ou.at_
    refine ⟨rfl, _, rfl, p, _, dx, _, _, rfl, hp, c.cl _, c.nm _, anyd_nam _ _ _, _, rfl, p, _, dx, _, _, rfl, hp, c.cl _, c.a1, anyd_one _ _ _, pa, _, dxa, fsa, _, rfl, ha, la, W _, .ref pa, t, l, rfl, rfl, oo, hl, f1, by omega, f4, fun H1 t1 => ?_⟩
    refine ⟨_, rfl, p, _, dx, _, _, rfl, t1 _ _ hp, c.cl _, c.a2, anyd_oth _ _ _, pb, _, dxb, fsb, _, rfl, t1 _ _ hb, lb, W _, .ref pb, u, l, rfl, rfl, ou.same t1, hl, f2, by omega, f5, fun H2 t2 => ?_⟩
    refine ⟨by show 5 ≤ sizeLine; decide, fun z hz => ⟨_, z, [m, "any", txt t, "to", txt u], rfl, rfl, SqL.of upd_same, ?_, ?_⟩⟩
    · have e1 : ("any" : Str).length = 3 := by decide +kernel
      have e2 : ("to" : Str).length = 2 := by decide +kernel
      have e3 := sp_len.1
      simp only [List.map_cons, List.map_nil, List.sum_cons, List.sum_nil, List.length_cons, List.length_nil, e1, e2, e3]
      omega
    · rw [join5a]
      exact q _ (t1.trans (t2.trans (same_new hz _)))
  | _ => cases kt
end
end Nw

set_option Elab.async false
set_option linter.all false
set_option maxRecDepth 100000
set_option maxHeartbeats 4000000
namespace Nw
open PySem L2
section
variable {P : Program} {w : World} {K : PySem.W.Frag} {mg : Str → Option Value} {base : Heap} {CK : Kd → Addr} {CC : Kc → Addr}
theorem gen2 {Pr : Hp → Prop} {H : Hp} {q p : Addr} {o o' : HO} (h1 : H q = none) (h2 : upd H q o p = none) (k : ∀ H2, Same H H2 → H2 p = some o' → Pr H2) : Pr (upd (upd H q o) p o') :=
  k _ (same_put (same_new h1 _) ((same_new h1 _).free h2) _) upd_same
theorem is_strs {H : Hp} {p : Addr} {l : List Str} (h : H p = some (.lst (l.map V.str))) : Is K H (.lst (l.map Dt.str)) (.ref p) := by
  rw [Is]
  exact ⟨p, _, rfl, SqL.of h, Iss.strs l⟩
theorem dep_strs (l : List Str) : dep (.lst (l.map Dt.str)) ≤ 50 := by rw [dep, deps_strs]; decide
def spRight (CK : Kd → Addr) (CC : Kc → Addr) : Sp := fun vs H Q _ => ∃ (v : V) (b : Addr) (c : Ch) (l : List Str), vs = [v, .str (chT c), .ref b] ∧ ObjC CK CC H c v ∧ (∀ x ∈ l, x.length ≤ 40) ∧ FitsC l 8 c ∧ H b = some (.lst ((chL c).map V.str)) ∧ ∀ H', Same H H' → Q (.bl true) H'
theorem scRight : FnScope ["_law_change", "_law_text", "_law_names_here", "_law_due", "_law_found", "_law_shown"] ["_law_change", "_law_text", "_law_names_here"] (defScope sRight) := ⟨rfl, rfl, rfl, by decide +kernel, rfl, by decide +kernel, by decide +kernel⟩
theorem ok_right {f : Addr} {fd : FuncData} (B : Bl mg) (F : Fun K "_law_right" "_law_right" sRight f fd) (MN : ∀ k, MOk P w K mg base 19 (CC k) "named" (spCN CK CC 8 k)) (MS : ∀ k, MOk P w K mg base 19 (CC k) "shown" (spCS CK CC 8 k)) : FnOk P w K mg base CX0 20 f fd ["_law_change", "_law_text", "_law_names_here"] (spRight CK CC) := by
  refine F.ok scRight (fun vs H Q E h => ?_) (fun cdv A outer s H vs Q E hr h => ?_)
  · obtain ⟨v, b, c, l, rfl, _⟩ := h
    rfl
  obtain ⟨v, b, c, l, rfl, ob, hl, ft, hb, q⟩ := h
  have hu := hu60 hr
  have lc := chL_len ft
  have lm := metS_length (chL c)
  refine ⟨_, (@pss_cons _ _ _ _ _ (@ps_set _ _ 3 _ _ _ _ scRight.nd rfl (Or.inl rfl) (pe_callB (call_sortedS rfl) (by rfl) B.sorted rfl (@pa_cons _ _ _ _ _ (pe_callTy (call_setS rfl) (by rfl) B.set rfl (@pa_cons _ _ _ _ _ (pv 2) pa_nil (by rfl))) pa_nil (by rfl))) rfl (Or.inl rfl)) (@pss_cons _ _ _ _ _ (@ps_set _ _ 4 _ _ _ _ scRight.nd rfl (Or.inl rfl) (pe_methP0 (pv 0) hr) rfl (Or.inl rfl)) (@pss_cons _ _ _ _ _ (@ps_set _ _ 5 _ _ _ _ scRight.nd rfl (Or.inl rfl) (pe_methP0 (pv 0) hr) rfl (Or.inl rfl)) (@pss_cons _ _ _ _ _ (@ps_if _ _ _ _ _ _ _ _ ((@pw_or _ _ _ _ _ _ _ (@pt_not _ _ _ _ (pt_val (pe_callB call_isinst (by rfl) B.isinstance PyProof.Rows.boot_isinstance (@pa_cons _ _ _ _ _ (pv 5) (@pa_cons _ _ _ _ _ (pe_bltn (v := V.ty "str") (by rfl) B.str PyProof.Rows.boot_str (by rfl)) pa_nil (by rfl)) (by rfl))))) (@pw_or _ _ _ _ _ _ _ (@pt_cmpR _ _ _ _ _ _ _ _ op_ne (pv 5) (pv 1) (nomark _)) (@pw_or _ _ _ _ _ _ _ (@pt_not _ _ _ _ (pt_val (pe_callB call_isinst (by rfl) B.isinstance PyProof.Rows.boot_isinstance (@pa_cons _ _ _ _ _ (pv 4) (@pa_cons _ _ _ _ _ (pe_bltn (v := V.ty "list") (by rfl) B.list PyProof.Rows.boot_list (by rfl)) pa_nil (by rfl)) (by rfl))))) (pw_or1 (@pt_cmpR _ _ _ _ _ _ _ _ (@op_neD _ hu) (pv 4) (pv 3) (nomark _))))))).pt (@pss_one _ _ _ (@ps_ret _ _ _ _ pe_bl)) pss_nil) (@pss_cons _ _ _ _ _ (@ps_expr _ _ _ _ (pe_bm PySem.F.plainAttrs_list PySem.F.slot_list_append PySem.F.type_list_append mt_append (pv 4) (@pa_cons _ _ _ _ _ pe_str pa_nil (by rfl))) (by rfl)) (@pss_one _ _ _ (@ps_ret _ _ _ _ (@pe_and _ _ _ _ _ _ _ (@pe_cmpR _ _ _ _ _ _ _ _ (@op_eqD _ hu) (pe_methP0 (pv 0) hr) (pv 3) (nomark _)) (@pe_one _ _ _ _ _ (@pe_cmpR _ _ _ _ _ _ _ _ op_eq (pe_methP0 (pv 0) hr) (pv 1) (nomark _))))))))))), ?_⟩
  refine ⟨_, rfl, b, chL c, rfl, SqL.of hb, by unfold scanBound; omega, fun q1 h1 => ?_⟩
  refine ⟨q1, _, rfl, upd_same, metS_nodup _, by omega, fun pd out h2 n2 => gen2 h1 h2 fun H2 s2 e2 => ?_⟩
  have n2 := n2.of_met
  obtain ⟨p, dx, fs, rfl, at2, ls, ln⟩ := (ob.same s2).at_
  refine ⟨_, rfl, p, _, dx, fs, _, rfl, at2, ln, MN _, .ref p, c, l, rfl, rfl, ob.same s2, ft, fun pf H3 out3 s3 f3 n3 e3 => ?_⟩
  have eo : out3 = out := n3.uniq n2 fun _ => Iff.rfl
  subst eo
  have t3 := s2.trans s3
  refine ⟨_, rfl, p, _, dx, fs, _, rfl, s3 _ _ at2, ls, MS _, .ref p, c, l, rfl, rfl, ob.same t3, hl, ft, fun H4 s4 => ?_⟩
  have t4 := t3.trans s4
  have e4 := s4 _ _ e3
  have d4 := s4 _ _ (s3 _ _ e2)
  refine ⟨_, rfl, _, _, _, _, rfl, TyOf.str _, rfl, _, rfl, iteF ?_⟩
  refine ⟨_, rfl, _, rfl, rfl, _, rfl, iteNS rfl ?_⟩
  refine ⟨_, rfl, _, _, _, _, rfl, TyOf.lst e4, rfl, _, rfl, iteF ?_⟩
  refine ⟨_, rfl, _, rfl, _, _, is_strs e4, is_strs d4, rfl, rfl, dep_strs _, _, rfl, ?_⟩
  rw [dEq_refl]
  refine iteF ?_
  refine ⟨_, rfl, .inl ⟨rfl, _, SqL.of e4⟩, pf, _, _, rfl, rfl, e4, small1000 (by rw [List.length_map]; have := n3.len; omega), ?_⟩
  have nf : H pf = none := s2.free f3
  have s5 : Same H (upd H4 pf (.lst (out3.map V.str ++ [.str "a"]))) := same_put t4 nf _
  have pdf : pd ≠ pf := fun z => by rw [← z, e2] at f3; cases f3
  have d5 : upd H4 pf (.lst (out3.map V.str ++ [.str "a"])) pd = some (.lst (out3.map V.str)) := by rw [upd_ne pdf]; exact d4
  have at5 : upd H4 pf (.lst (out3.map V.str ++ [.str "a"])) p = some (.ins (CC (kc c)) dx fs) := by
    rw [upd_ne (fun z => by rw [← z, at2] at f3; cases f3)]; exact s4 _ _ (s3 _ _ at2)
  have o5 := ob.same s5
  generalize upd H4 pf (.lst (out3.map V.str ++ [.str "a"])) = H5 at s5 d5 at5 o5 ⊢
  refine ⟨_, rfl, p, _, dx, fs, _, rfl, at5, ln, MN _, .ref p, c, l, rfl, rfl, o5, ft, fun pg H6 out6 s6 f6 n6 e6 => ?_⟩
  have eo : out6 = out3 := n6.uniq n2 fun _ => Iff.rfl
  subst eo
  refine ⟨_, rfl, _, _, is_strs e6, is_strs (s6 _ _ d5), rfl, rfl, dep_strs _, _, rfl, ?_⟩
  rw [dEq_refl]
  refine iteT ?_
  refine ⟨_, rfl, p, _, dx, fs, _, rfl, s6 _ _ at5, ls, MS _, .ref p, c, l, rfl, rfl, o5.same s6, hl, ft, fun H7 s7 => ?_⟩
  refine ⟨_, rfl, rfl, ?_⟩
  rw [decide_eq_true rfl]
  exact q _ (s5.trans (s6.trans s7))
end
end Nw

set_option Elab.async false
set_option linter.all false
set_option maxRecDepth 100000
set_option maxHeartbeats 4000000
namespace Nw
open PySem L2
theorem same_sb {H H' : Hp} {p : Addr} (hp : H p = none) (o : HO) (sb : Sb p (upd H p o) H') : Same H H' := fun b u e => sb b u (ne_of_none e hp) (by rw [upd_ne (ne_of_none e hp)]; exact e)
theorem same_made2 {H H3 : Hp} {x dx : Addr} {o o' : HO} (hx : H x = none) (hd : H dx = none) (n : dx ≠ x) (h4 : ∀ b, b ≠ x → H3 b = upd (upd H dx o) x o' b) : Same H H3 := by
  intro b u e
  rw [h4 b (ne_of_none e hx)]
  exact same_made hx hd n _ _ b u e
section
variable {P : Program} {w : World} {K : PySem.W.Frag} {mg : Str → Option Value} {base : Heap}
def spLaw (K : PySem.W.Frag) : Sp := fun vs H Q _ => ∃ (a : Addr) (ns : List Int), vs = [.ref a] ∧ SqL K H a (ns.map V.int) ∧ ns.length ≤ 63 ∧ ∀ H', Q (.bl true) H'
theorem scLaw : FnScope ["_law_script", "_law_names_here", "_law_near", "_law_k", "_law_one", "_law_other", "_law_name", "_law_text", "_law_change"] ["_law_script"] (defScope sLaw) := ⟨rfl, rfl, rfl, by decide +kernel, rfl, by decide +kernel, by decide +kernel⟩
structure Txt (K : PySem.W.Frag) (mg : Str → Option Value) (CK : Kd → Addr) (CC : Kc → Addr) (fNI fMI fTI fTN fCI fUI fAI fNS fMS fPS fIS fXS fNN fMN fCN fUN fAN fCS fUS fAS fAt fBe fDr fNa fSu fTe fHa fNm fRi fBr fTw : Addr) (dNI dMI dTI dTN dCI dUI dAI dNS dMS dPS dIS dXS dNN dMN dCN dUN dAN dCS dUS dAS dAt dBe dDr dNa dSu dTe dHa dNm dRi dBr dTw : FuncData) : Prop where
  bl : Bl mg
  mkr : Maker K mg CK fNI fMI fTI dNI dMI dTI
  cc : ClsC K CC
  mkC : Mk K (CC .cha) fCI
  mkU : Mk K (CC .put) fUI
  mkA : Mk K (CC .any) fAI
  gC : mg "Change" = some (.ref (CC .cha))
  gU : mg "Put" = some (.ref (CC .put))
  gA : mg "Any" = some (.ref (CC .any))
  cm : CMeth K (CC .cha) "__init__" fCI
  FTN : Fun K "named" "Twofold.named" sTwoN fTN dTN
  bTN : Binds K dTN ["self"] []
  mTN : ∀ g, Meth K (CK (.op g)) "named" fTN
  FCI : Fun K "__init__" "Change.__init__" sChaI fCI dCI
  bCI : Binds K dCI ["self", "name"] []
  FUI : Fun K "__init__" "Put.__init__" sPutI fUI dUI
  bUI : Binds K dUI ["self", "name", "one"] []
  FAI : Fun K "__init__" "Any.__init__" sAnyI fAI dAI
  bAI : Binds K dAI ["self", "name", "one", "other"] []
  FNS : Fun K "shown" "Number.shown" sNumS fNS dNS
  bNS : Binds K dNS ["self"] []
  mNS : Meth K (CK .num) "shown" fNS
  FMS : Fun K "shown" "Named.shown" sNamS fMS dMS
  bMS : Binds K dMS ["self"] []
  mMS : Meth K (CK .nam) "shown" fMS
  FPS : Fun K "shown" "Plus.shown" sPluS fPS dPS
  bPS : Binds K dPS ["self"] []
  mPS : Meth K (CK (.op .plus)) "shown" fPS
  FIS : Fun K "shown" "Minus.shown" sMinS fIS dIS
  bIS : Binds K dIS ["self"] []
  mIS : Meth K (CK (.op .minus)) "shown" fIS
  FXS : Fun K "shown" "Times.shown" sTimS fXS dXS
  bXS : Binds K dXS ["self"] []
  mXS : Meth K (CK (.op .times)) "shown" fXS
  FNN : Fun K "named" "Sum.named" sSumN fNN dNN
  bNN : Binds K dNN ["self"] []
  mNN : Meth K (CK .num) "named" fNN
  FMN : Fun K "named" "Named.named" sNamN fMN dMN
  bMN : Binds K dMN ["self"] []
  mMN : Meth K (CK .nam) "named" fMN
  FCN : Fun K "named" "Change.named" sChaN fCN dCN
  bCN : Binds K dCN ["self"] []
  mCN : Meth K (CC .cha) "named" fCN
  FUN : Fun K "named" "Put.named" sPutN fUN dUN
  bUN : Binds K dUN ["self"] []
  mUN : Meth K (CC .put) "named" fUN
  FAN : Fun K "named" "Any.named" sAnyN fAN dAN
  bAN : Binds K dAN ["self"] []
  mAN : Meth K (CC .any) "named" fAN
  FCS : Fun K "shown" "Change.shown" sChaS fCS dCS
  bCS : Binds K dCS ["self"] []
  mCS : Meth K (CC .cha) "shown" fCS
  FUS : Fun K "shown" "Put.shown" sPutS fUS dUS
  bUS : Binds K dUS ["self"] []
  mUS : Meth K (CC .put) "shown" fUS
  FAS : Fun K "shown" "Any.shown" sAnyS fAS dAS
  bAS : Binds K dAS ["self"] []
  mAS : Meth K (CC .any) "shown" fAS
  gAt : mg "_law_at" = some (.ref fAt)
  FAt : Fun K "_law_at" "_law_at" sAt fAt dAt
  bAt : Binds K dAt ["_law_script", "_law_k"] []
  gBe : mg "_law_begin" = some (.ref fBe)
  FBe : Fun K "_law_begin" "_law_begin" sBegin fBe dBe
  bBe : Binds K dBe ["_law_cell"] []
  gDr : mg "_law_draw" = some (.ref fDr)
  FDr : Fun K "_law_draw" "_law_draw" sDraw fDr dDr
  bDr : Binds K dDr ["_law_state", "_law_many"] []
  gNa : mg "_law_names" = some (.ref fNa)
  FNa : Fun K "_law_names" "_law_names" sNames fNa dNa
  bNa : Binds K dNa ["_law_cell", "_law_many"] []
  gSu : mg "_law_sum" = some (.ref fSu)
  FSu : Fun K "_law_sum" "_law_sum" sSum fSu dSu
  bSu : Binds K dSu ["_law_state", "_law_names_here", "_law_near", "_law_depth"] []
  gTe : mg "_law_sum_text" = some (.ref fTe)
  FTe : Fun K "_law_sum_text" "_law_sum_text" sText fTe dTe
  bTe : Binds K dTe ["_law_one"] []
  gHa : mg "_law_sum_of" = some (.ref fHa)
  FHa : Fun K "_law_sum_of" "_law_sum_of" sHand fHa dHa
  bHa : Binds K dHa ["_law_one"] []
  gNm : mg "_law_sum_names" = some (.ref fNm)
  FNm : Fun K "_law_sum_names" "_law_sum_names" sNms fNm dNm
  bNm : Binds K dNm ["_law_one"] []
  gRi : mg "_law_right" = some (.ref fRi)
  FRi : Fun K "_law_right" "_law_right" sRight fRi dRi
  bRi : Binds K dRi ["_law_change", "_law_text", "_law_names_here"] []
  gBr : mg "bracketed" = some (.ref fBr)
  FBr : Fun K "bracketed" "bracketed" sBra fBr dBr
  bBr : Binds K dBr ["one", "sign", "other"] []
  gTw : mg "names_of_two" = some (.ref fTw)
  FTw : Fun K "names_of_two" "names_of_two" sTwoO fTw dTw
  bTw : Binds K dTw ["one", "other"] []

variable {CK : Kd → Addr} {CC : Kc → Addr} {fNI fMI fTI fTN fCI fUI fAI fNS fMS fPS fIS fXS fNN fMN fCN fUN fAN fCS fUS fAS fAt fBe fDr fNa fSu fTe fHa fNm fRi fBr fTw : Addr} {dNI dMI dTI dTN dCI dUI dAI dNS dMS dPS dIS dXS dNN dMN dCN dUN dAN dCS dUS dAS dAt dBe dDr dNa dSu dTe dHa dNm dRi dBr dTw : FuncData}
theorem showns (T : Txt K mg CK CC fNI fMI fTI fTN fCI fUI fAI fNS fMS fPS fIS fXS fNN fMN fCN fUN fAN fCS fUS fAS fAt fBe fDr fNa fSu fTe fHa fNm fRi fBr fTw dNI dMI dTI dTN dCI dUI dAI dNS dMS dPS dIS dXS dNN dMN dCN dUN dAN dCS dUS dAS dAt dBe dDr dNa dSu dTe dHa dNm dRi dBr dTw) : ∀ (n : Nat) (k : Kd), MOk P w K mg base (2 * n + 1) (CK k) "shown" (spS CK n k)
  | n, .num => ⟨T.mkr.cls.cl _, _, _, _, T.mNS, (ok_numS T.bl T.mkr.cls T.FNS n).mono (by omega), T.bNS⟩
  | n, .nam => ⟨T.mkr.cls.cl _, _, _, _, T.mMS, (ok_namS T.mkr.cls T.FMS n).mono (by omega), T.bMS⟩
  | 0, .op .plus => ⟨T.mkr.cls.cl _, _, _, _, T.mPS, fn_none (spS_none _), T.bPS⟩
  | 0, .op .minus => ⟨T.mkr.cls.cl _, _, _, _, T.mIS, fn_none (spS_none _), T.bIS⟩
  | 0, .op .times => ⟨T.mkr.cls.cl _, _, _, _, T.mXS, fn_none (spS_none _), T.bXS⟩
  | n + 1, .op .plus => ⟨T.mkr.cls.cl _, _, _, _, T.mPS, ok_pluS T.mkr.cls T.FPS T.FBr T.bBr T.gBr n (showns T n), T.bPS⟩
  | n + 1, .op .minus => ⟨T.mkr.cls.cl _, _, _, _, T.mIS, ok_minS T.mkr.cls T.FIS T.FBr T.bBr T.gBr n (showns T n), T.bIS⟩
  | n + 1, .op .times => ⟨T.mkr.cls.cl _, _, _, _, T.mXS, ok_timS T.mkr.cls T.FXS T.FBr T.bBr T.gBr n (showns T n), T.bXS⟩
theorem nameds (T : Txt K mg CK CC fNI fMI fTI fTN fCI fUI fAI fNS fMS fPS fIS fXS fNN fMN fCN fUN fAN fCS fUS fAS fAt fBe fDr fNa fSu fTe fHa fNm fRi fBr fTw dNI dMI dTI dTN dCI dUI dAI dNS dMS dPS dIS dXS dNN dMN dCN dUN dAN dCS dUS dAS dAt dBe dDr dNa dSu dTe dHa dNm dRi dBr dTw) : ∀ (n : Nat) (k : Kd), MOk P w K mg base (2 * n + 1) (CK k) "named" (spN CK n k)
  | n, .num => ⟨T.mkr.cls.cl _, _, _, _, T.mNN, (ok_sumN T.FNN n).mono (by omega), T.bNN⟩
  | n, .nam => ⟨T.mkr.cls.cl _, _, _, _, T.mMN, (ok_namN T.mkr.cls T.FMN n).mono (by omega), T.bMN⟩
  | 0, .op g => ⟨T.mkr.cls.cl _, _, _, _, T.mTN g, fn_none (spN_none _), T.bTN⟩
  | n + 1, .op g => ⟨T.mkr.cls.cl _, _, _, _, T.mTN g, ok_twoN T.bl T.mkr.cls T.FTN T.FTw T.bTw T.gTw n (nameds T n) g, T.bTN⟩
theorem chNs (T : Txt K mg CK CC fNI fMI fTI fTN fCI fUI fAI fNS fMS fPS fIS fXS fNN fMN fCN fUN fAN fCS fUS fAS fAt fBe fDr fNa fSu fTe fHa fNm fRi fBr fTw dNI dMI dTI dTN dCI dUI dAI dNS dMS dPS dIS dXS dNN dMN dCN dUN dAN dCS dUS dAS dAt dBe dDr dNa dSu dTe dHa dNm dRi dBr dTw) : ∀ k : Kc, MOk P w K mg base 19 (CC k) "named" (spCN CK CC 8 k)
  | .cha => ⟨T.cc.cl _, _, _, _, T.mCN, (ok_chaN T.FCN 8).mono (by decide), T.bCN⟩
  | .put => ⟨T.cc.cl _, _, _, _, T.mUN, (ok_putN T.cc T.FUN 8 (nameds T 8)).mono (by decide), T.bUN⟩
  | .any => ⟨T.cc.cl _, _, _, _, T.mAN, (ok_anyN T.bl T.cc T.FAN T.FTw T.bTw T.gTw 8 (nameds T 8)).mono (by decide), T.bAN⟩
theorem chSs (T : Txt K mg CK CC fNI fMI fTI fTN fCI fUI fAI fNS fMS fPS fIS fXS fNN fMN fCN fUN fAN fCS fUS fAS fAt fBe fDr fNa fSu fTe fHa fNm fRi fBr fTw dNI dMI dTI dTN dCI dUI dAI dNS dMS dPS dIS dXS dNN dMN dCN dUN dAN dCS dUS dAS dAt dBe dDr dNa dSu dTe dHa dNm dRi dBr dTw) : ∀ k : Kc, MOk P w K mg base 19 (CC k) "shown" (spCS CK CC 8 k)
  | .cha => ⟨T.cc.cl _, _, _, _, T.mCS, (ok_chaS T.cc T.FCS 8).mono (by decide), T.bCS⟩
  | .put => ⟨T.cc.cl _, _, _, _, T.mUS, (ok_putS T.cc T.FUS 8 (showns T 8)).mono (by decide), T.bUS⟩
  | .any => ⟨T.cc.cl _, _, _, _, T.mAS, (ok_anyS T.cc T.FAS 8 (showns T 8)).mono (by decide), T.bAS⟩
theorem ok_law {f : Addr} {fd : FuncData} (T : Txt K mg CK CC fNI fMI fTI fTN fCI fUI fAI fNS fMS fPS fIS fXS fNN fMN fCN fUN fAN fCS fUS fAS fAt fBe fDr fNa fSu fTe fHa fNm fRi fBr fTw dNI dMI dTI dTN dCI dUI dAI dNS dMS dPS dIS dXS dNN dMN dCN dUN dAN dCS dUS dAS dAt dBe dDr dNa dSu dTe dHa dNm dRi dBr dTw) (F : Fun K "law" "law" sLaw f fd) : FnOk P w K mg base CX0 21 f fd ["_law_script"] (spLaw K) := by
  have B := T.bl
  have GAt : FnOk P w K mg base CX0 1 fAt dAt ["_law_script", "_law_k"] (spAt K) := ok_at B T.FAt
  have GBe : FnOk P w K mg base CX0 1 fBe dBe ["_law_cell"] spBegin := ok_begin T.FBe
  have GDr : FnOk P w K mg base CX0 1 fDr dDr ["_law_state", "_law_many"] spDraw := ok_draw T.FDr
  have GNa : FnOk P w K mg base CX0 2 fNa dNa ["_law_cell", "_law_many"] spNames := ok_names B T.FNa T.FBe T.bBe T.gBe T.FDr T.bDr T.gDr
  have GSu : FnOk P w K mg base CX0 6 fSu dSu ["_law_state", "_law_names_here", "_law_near", "_law_depth"] (spSum K 4) := ok_sum B T.FSu T.bSu T.gSu T.FDr T.bDr T.gDr 4
  have GTe : FnOk P w K mg base CX0 9 fTe dTe ["_law_one"] (spText K 8) := ok_text B T.FTe T.bTe T.gTe 8
  have GNm : FnOk P w K mg base CX0 9 fNm dNm ["_law_one"] (spNms K 8) := ok_nms T.FNm T.bNm T.gNm 8
  have GHa : FnOk P w K mg base CX0 11 fHa dHa ["_law_one"] (spHand K CK 8) := ok_hand T.mkr T.FHa T.bHa T.gHa 8
  have GRi : FnOk P w K mg base CX0 20 fRi dRi ["_law_change", "_law_text", "_law_names_here"] (spRight CK CC) := ok_right B T.FRi (chNs T) (chSs T)
  have GCI : FnOk P w K mg base CX0 1 fCI dCI ["self", "name"] (spChaI (CC .cha)) := ok_chaI T.cc T.FCI .cha
  have GUI : FnOk P w K mg base CX0 2 fUI dUI ["self", "name", "one"] (spPutI (CC .put)) := ok_putI T.cc T.FUI T.FCI T.bCI T.gC T.cm
  have GAI : FnOk P w K mg base CX0 2 fAI dAI ["self", "name", "one", "other"] (spAnyI (CC .any)) := ok_anyI T.cc T.FAI T.FCI T.bCI T.gC T.cm
  refine F.ok scLaw (fun vs H Q E h => ?_) (fun cdv A outer s H vs Q E hr h => ?_)
  · obtain ⟨a, ns, rfl, _⟩ := h
    rfl
  obtain ⟨a, ns, rfl, hS, h63, q⟩ := h
  have hr1 : Room 1 _ := hr.mono (by decide)
  have hr2 : Room 2 _ := hr.mono (by decide)
  have hr3 : Room 3 _ := hr.mono (by decide)
  have hr6 : Room 6 _ := hr.mono (by decide)
  have hr9 : Room 9 _ := hr.mono (by decide)
  have hr11 : Room 11 _ := hr.mono (by decide)
  have hu := hu60 hr
  have hu1 := hu1_of hr
  refine ⟨_, (@pss_cons _ _ _ _ _ (@ps_set _ _ 1 _ _ _ _ scLaw.nd rfl (Or.inl rfl) (pe_call GNa hr2 (by rfl) T.gNa T.FNa.kp T.bNa .nil pass0 (@pa_cons _ _ _ _ _ (pe_call GAt hr1 (by rfl) T.gAt T.FAt.kp T.bAt .nil pass0 (@pa_cons _ _ _ _ _ (pv 0) (@pa_cons _ _ _ _ _ pe_int pa_nil (by rfl)) (by rfl))) (@pa_cons _ _ _ _ _ (@pe_op _ _ _ _ _ _ _ _ op_add pe_int (@pe_op _ _ _ _ _ _ _ _ op_mod (pe_call GAt hr1 (by rfl) T.gAt T.FAt.kp T.bAt .nil pass0 (@pa_cons _ _ _ _ _ (pv 0) (@pa_cons _ _ _ _ _ pe_int pa_nil (by rfl)) (by rfl))) pe_int)) pa_nil (by rfl)) (by rfl))) rfl (Or.inl rfl)) (@pss_cons _ _ _ _ _ (@ps_set _ _ 2 _ _ _ _ scLaw.nd rfl (Or.inl rfl) (@pe_op _ _ _ _ _ _ _ _ op_mod (@pe_op _ _ _ _ _ _ _ _ op_fdiv (pe_call GAt hr1 (by rfl) T.gAt T.FAt.kp T.bAt .nil pass0 (@pa_cons _ _ _ _ _ (pv 0) (@pa_cons _ _ _ _ _ pe_int pa_nil (by rfl)) (by rfl))) pe_int) pe_int) rfl (Or.inl rfl)) (@pss_cons _ _ _ _ _ (@ps_for _ _ _ _ _ _ _ _ PassesOwn.never rfl (pi_range3 rfl B.range (@pa_cons _ _ _ _ _ pe_int (@pa_cons _ _ _ _ _ (pe_callB (call_max2 rfl) (by rfl) B.max PyProof.Rows.boot_max (@pa_cons _ _ _ _ _ pe_int (@pa_cons _ _ _ _ _ (pe_callB (call_min2 rfl) (by rfl) B.min PyProof.Rows.boot_min (@pa_cons _ _ _ _ _ (pe_callB call_len_seq (by rfl) B.len PySem.boot_len (@pa_cons _ _ _ _ _ (pv 0) pa_nil (by rfl))) (@pa_cons _ _ _ _ _ pe_int pa_nil (by rfl)) (by rfl))) pa_nil (by rfl)) (by rfl))) (@pa_cons _ _ _ _ _ pe_int pa_nil (by rfl)) (by rfl)) (by rfl))) (pg_name (i := 3) scLaw.nd rfl (Or.inl rfl)) (@pss_cons _ _ _ _ _ (@ps_set _ _ 4 _ _ _ _ scLaw.nd rfl (Or.inl rfl) (pe_call GSu hr6 (by rfl) T.gSu T.FSu.kp T.bSu .nil pass0 (@pa_cons _ _ _ _ _ (pe_call GBe hr1 (by rfl) T.gBe T.FBe.kp T.bBe .nil pass0 (@pa_cons _ _ _ _ _ (pe_call GAt hr1 (by rfl) T.gAt T.FAt.kp T.bAt .nil pass0 (@pa_cons _ _ _ _ _ (pv 0) (@pa_cons _ _ _ _ _ (pv 3) pa_nil (by rfl)) (by rfl))) pa_nil (by rfl))) (@pa_cons _ _ _ _ _ (pv 1) (@pa_cons _ _ _ _ _ (pv 2) (@pa_cons _ _ _ _ _ pe_int pa_nil (by rfl)) (by rfl)) (by rfl)) (by rfl))) rfl (Or.inl rfl)) (@pss_cons _ _ _ _ _ (@ps_set _ _ 5 _ _ _ _ scLaw.nd rfl (Or.inl rfl) (pe_call GSu hr6 (by rfl) T.gSu T.FSu.kp T.bSu .nil pass0 (@pa_cons _ _ _ _ _ (pe_call GBe hr1 (by rfl) T.gBe T.FBe.kp T.bBe .nil pass0 (@pa_cons _ _ _ _ _ (pe_call GAt hr1 (by rfl) T.gAt T.FAt.kp T.bAt .nil pass0 (@pa_cons _ _ _ _ _ (pv 0) (@pa_cons _ _ _ _ _ (@pe_op _ _ _ _ _ _ _ _ op_add (pv 3) pe_int) pa_nil (by rfl)) (by rfl))) pa_nil (by rfl))) (@pa_cons _ _ _ _ _ (pv 1) (@pa_cons _ _ _ _ _ (pv 2) (@pa_cons _ _ _ _ _ pe_int pa_nil (by rfl)) (by rfl)) (by rfl)) (by rfl))) rfl (Or.inl rfl)) (@pss_cons _ _ _ _ _ (@ps_set _ _ 6 _ _ _ _ scLaw.nd rfl (Or.inl rfl) (@pe_ix _ _ _ _ _ _ (rIxL K) ix_list (pv 1) (pe_call GDr hr1 (by rfl) T.gDr T.FDr.kp T.bDr .nil pass0 (@pa_cons _ _ _ _ _ (pe_call GBe hr1 (by rfl) T.gBe T.FBe.kp T.bBe .nil pass0 (@pa_cons _ _ _ _ _ (pe_call GAt hr1 (by rfl) T.gAt T.FAt.kp T.bAt .nil pass0 (@pa_cons _ _ _ _ _ (pv 0) (@pa_cons _ _ _ _ _ (@pe_op _ _ _ _ _ _ _ _ op_add (pv 3) pe_int) pa_nil (by rfl)) (by rfl))) pa_nil (by rfl))) (@pa_cons _ _ _ _ _ (pe_callB call_len_seq (by rfl) B.len PySem.boot_len (@pa_cons _ _ _ _ _ (pv 1) pa_nil (by rfl))) pa_nil (by rfl)) (by rfl))) (fun _ _ => rfl)) rfl (Or.inl rfl)) (@pss_cons _ _ _ _ _ (@ps_set _ _ 7 _ _ _ _ scLaw.nd rfl (Or.inl rfl) (@pe_op _ _ _ _ _ _ _ _ op_add_str (@pe_op _ _ _ _ _ _ _ _ op_add_str (pv 6) pe_str) (pe_call GTe hr9 (by rfl) T.gTe T.FTe.kp T.bTe .nil pass0 (@pa_cons _ _ _ _ _ (pv 4) pa_nil (by rfl)))) rfl (Or.inl rfl)) (@pss_cons _ _ _ _ _ (@ps_if _ _ _ _ _ _ _ _ (@pt_not _ _ _ _ (pt_val (pe_call GRi hr (by rfl) T.gRi T.FRi.kp T.bRi .nil pass0 (@pa_cons _ _ _ _ _ (pe_make T.mkU GUI hr3 rfl T.gU T.bUI .nil pass0 (@pa_cons _ _ _ _ _ (pv 6) (@pa_cons _ _ _ _ _ (pe_call GHa hr11 (by rfl) T.gHa T.FHa.kp T.bHa .nil pass0 (@pa_cons _ _ _ _ _ (pv 4) pa_nil (by rfl))) pa_nil (by rfl)) (by rfl))) (@pa_cons _ _ _ _ _ (pv 7) (@pa_cons _ _ _ _ _ (pe_call GNm hr9 (by rfl) T.gNm T.FNm.kp T.bNm .nil pass0 (@pa_cons _ _ _ _ _ (pv 4) pa_nil (by rfl))) pa_nil (by rfl)) (by rfl)) (by rfl))))) (@pss_one _ _ _ (@ps_ret _ _ _ _ pe_bl)) pss_nil) (@pss_cons _ _ _ _ _ (@ps_set _ _ 7 _ _ _ _ scLaw.nd rfl (Or.inl rfl) (@pe_op _ _ _ _ _ _ _ _ op_add_str (@pe_op _ _ _ _ _ _ _ _ op_add_str (@pe_op _ _ _ _ _ _ _ _ op_add_str (@pe_op _ _ _ _ _ _ _ _ op_add_str (pv 6) pe_str) (pe_call GTe hr9 (by rfl) T.gTe T.FTe.kp T.bTe .nil pass0 (@pa_cons _ _ _ _ _ (pv 4) pa_nil (by rfl)))) pe_str) (pe_call GTe hr9 (by rfl) T.gTe T.FTe.kp T.bTe .nil pass0 (@pa_cons _ _ _ _ _ (pv 5) pa_nil (by rfl)))) rfl (Or.inl rfl)) (@pss_cons _ _ _ _ _ (@ps_set _ _ 8 _ _ _ _ scLaw.nd rfl (Or.inl rfl) (pe_make T.mkA GAI hr3 rfl T.gA T.bAI .nil pass0 (@pa_cons _ _ _ _ _ (pv 6) (@pa_cons _ _ _ _ _ (pe_call GHa hr11 (by rfl) T.gHa T.FHa.kp T.bHa .nil pass0 (@pa_cons _ _ _ _ _ (pv 4) pa_nil (by rfl))) (@pa_cons _ _ _ _ _ (pe_call GHa hr11 (by rfl) T.gHa T.FHa.kp T.bHa .nil pass0 (@pa_cons _ _ _ _ _ (pv 5) pa_nil (by rfl))) pa_nil (by rfl)) (by rfl)) (by rfl))) rfl (Or.inl rfl)) (@pss_cons _ _ _ _ _ (@ps_if _ _ _ _ _ _ _ _ (@pt_not _ _ _ _ (pt_val (pe_call GRi hr (by rfl) T.gRi T.FRi.kp T.bRi .nil pass0 (@pa_cons _ _ _ _ _ (pv 8) (@pa_cons _ _ _ _ _ (pv 7) (@pa_cons _ _ _ _ _ (@pe_op _ _ _ _ _ _ _ _ op_catL (pe_call GNm hr9 (by rfl) T.gNm T.FNm.kp T.bNm .nil pass0 (@pa_cons _ _ _ _ _ (pv 4) pa_nil (by rfl))) (pe_call GNm hr9 (by rfl) T.gNm T.FNm.kp T.bNm .nil pass0 (@pa_cons _ _ _ _ _ (pv 5) pa_nil (by rfl)))) pa_nil (by rfl)) (by rfl)) (by rfl))))) (@pss_one _ _ _ (@ps_ret _ _ _ _ pe_bl)) pss_nil) (@pss_one _ _ _ (@ps_if _ _ _ _ _ _ _ _ (@pt_not _ _ _ _ (pt_val (pe_call GRi hr (by rfl) T.gRi T.FRi.kp T.bRi .nil pass0 (@pa_cons _ _ _ _ _ (pe_make T.mkC GCI hr2 rfl T.gC T.bCI .nil pass0 (@pa_cons _ _ _ _ _ (pv 6) pa_nil (by rfl))) (@pa_cons _ _ _ _ _ (pv 6) (@pa_cons _ _ _ _ _ (@pe_lst _ _ _ _ pa_nil) pa_nil (by rfl)) (by rfl)) (by rfl))))) (@pss_one _ _ _ (@ps_ret _ _ _ _ pe_bl)) pss_nil)))))))))) (by intro _; rfl)) (@pss_one _ _ _ (@ps_ret _ _ _ _ pe_bl))))), ?_⟩
  refine ⟨_, rfl, a, ns, 0, rfl, hS, h63, by decide, by decide, fun c0 H1 s1 => ?_⟩
  refine ⟨_, rfl, a, ns, 1, rfl, s1.seq hS, h63, by decide, by decide, fun c1 H2 s2 => ?_⟩
  have m1 := Int.emod_nonneg c1 (b := 3) (by decide)
  have m2 := Int.emod_lt_of_pos c1 (b := 3) (by decide)
  refine ⟨_, _, rfl, rfl, (by show (0 : Int) < 3; decide), _, _, rfl, rfl, c0, 1 + c1 % 3, rfl, by omega, by omega, fun pn H3 l s3 _ e3 l3 nd nam => ?_⟩
  have t3 := s1.trans (s2.trans s3)
  refine ⟨_, rfl, a, ns, 1, rfl, t3.seq hS, h63, by decide, by decide, fun c2 H4 s4 => ⟨_, _, rfl, rfl, ⟨by decide, by decide⟩, _, _, rfl, rfl, (by show (0 : Int) < 90; decide), ?_⟩⟩
  have t4 := t3.trans s4
  have e4 := s4 _ _ e3
  have n1 := Int.emod_nonneg (c2 / 3) (b := 90) (by decide)
  have n2 := Int.emod_lt_of_pos (c2 / 3) (b := 90) (by decide)
  obtain ⟨near, hnear⟩ : ∃ near : Int, c2 / 3 % 90 = near := ⟨_, rfl⟩
  rw [hnear] at n1 n2
  have lne : 0 < l.length := by omega
  have l8 : l.length ≤ 8 := by omega
  have hl : ∀ x ∈ l, x.length ≤ 40 := fun x hx => by
    obtain ⟨cs, e, _, h8, _⟩ := (nam x hx).signs
    rw [e, cps_length]; omega
  have hb : ∀ x : Int, 0 ≤ (if (if (42 : Int) < x then 42 else x) > 4 then (if (42 : Int) < x then 42 else x) else 4) ∧ (if (if (42 : Int) < x then 42 else x) > 4 then (if (42 : Int) < x then 42 else x) else 4) ≤ 42 := fun x => by split <;> split <;> omega
  refine ⟨_, rfl, a, _, rfl, .inl (t4.seq hS), _, _, rfl, _, _, rfl, _, _, _, rfl, ⟨by decide, by decide, (hb _).1, Int.lt_of_le_of_lt (hb _).2 (by decide), by decide, by decide⟩, ?_⟩
  refine for_steps (fun i σ H6 => ∃ v3 v4 v5 v6 v7 v8 : Option V, σ = [some (.ref a), some (.ref pn), some (.int near), v3, v4, v5, v6, v7, v8] ∧ Same H4 H6) ⟨none, none, none, none, none, none, by rw [← hnear]; rfl, Same.refl _⟩ ?_ ?_
  · rintro i σ H6 hi ⟨v3, v4, v5, v6, v7, v8, rfl, s6⟩
    have hi4 : i ≤ 20 := by
      have q := (hb (((ns.map V.int).length : Nat) : Int)).2
      generalize (if (if (42 : Int) < (((ns.map V.int).length : Nat) : Int) then 42 else (((ns.map V.int).length : Nat) : Int)) > 4 then (if (42 : Int) < (((ns.map V.int).length : Nat) : Int) then 42 else (((ns.map V.int).length : Nat) : Int)) else 4) = bb at hi q
      unfold Builtin.Range.rangeSize at hi
      rw [if_pos (by decide)] at hi
      split at hi <;> omega
    have t6 := t4.trans s6
    have e6 := s6 _ _ e4
    -- the two sums
    refine ⟨_, rfl, _, rfl, a, ns, _, rfl, t6.seq hS, h63, by omega, by omega, fun cA HA sA => ⟨cA, rfl, fun p1 hp1 => ?_⟩⟩
    have eA := sA _ _ e6
    refine ⟨_, rfl, _, rfl, p1, pn, cA % 2, near, 3, l, rfl, ⟨⟨_, upd_same⟩, (same_new hp1 _) _ _ eA⟩, l8, by decide, by decide, fun pt HB t sbB _ itB ftB lvB dpB => ?_⟩
    have sB := same_sb hp1 _ sbB
    have tB := sA.trans sB
    refine ⟨_, rfl, _, rfl, _, _, rfl, rfl, a, ns, _, rfl, (t6.trans tB).seq hS, h63, by omega, by omega, fun cC HC sC => ⟨cC, rfl, fun p2 hp2 => ?_⟩⟩
    have eC := (tB.trans sC) _ _ e6
    refine ⟨_, rfl, _, rfl, p2, pn, cC % 2, near, 3, l, rfl, ⟨⟨_, upd_same⟩, (same_new hp2 _) _ _ eC⟩, l8, by decide, by decide, fun pu HD u sbD _ itD ftD lvD dpD => ?_⟩
    have sD := same_sb hp2 _ sbD
    have tD := tB.trans (sC.trans sD)
    have itt := itB.same (sC.trans sD)
    have lv1 : lv t ≤ 16 := lvB
    have lv2 : lv u ≤ 16 := lvD
    have dp1 : dp t < 8 := Nat.lt_of_le_of_lt dpB (by decide)
    have dp2 : dp u < 8 := Nat.lt_of_le_of_lt dpD (by decide)
    have eD := tD _ _ e6
    -- the name
    refine ⟨_, rfl, _, rfl, _, rfl, _, _, rfl, rfl, a, ns, _, rfl, (t6.trans tD).seq hS, h63, by omega, by omega, fun cE HE sE => ⟨cE, rfl, fun p3 hp3 => ?_⟩⟩
    have s3' := same_new hp3 (.lst [.int (cE / 2), .int (cE % 2)])
    have eE := sE _ _ eD
    refine ⟨_, rfl, pn, _, rfl, .inl (SqL.of (s3' _ _ eE)), p3, _, _, _, rfl, upd_same, by rw [List.length_map]; omega, by rw [List.length_map]; omega, fun r z r0 r1 => ?_⟩
    rw [upd_upd]
    rw [List.length_map] at r1
    obtain ⟨nm, hnm, enm⟩ := at_strs (l := l) r0 r1
    have sF := same_new hp3 (.lst [.int z, .int (cE % 2)])
    refine ⟨pn, _, _, _, rfl, rfl, SqL.of (sF _ _ eE), enm, ?_⟩
    generalize upd HE p3 (.lst [.int z, .int (cE % 2)]) = HF at sF ⊢
    have tF := sE.trans sF
    have nm40 := hl nm hnm
    have it1 := itt.same tF
    have it2 := itD.same tF
    have i1 := txt_len hl ftB
    have i2 := txt_len hl ftD
    have x1 : (" = " : Str).length = 3 := by decide +kernel
    have x2 : (" any " : Str).length = 5 := by decide +kernel
    have x3 : (" to " : Str).length = 4 := by decide +kernel
    -- a Put
    refine ⟨_, rfl, _, _, rfl, rfl, small9 (by rw [x1]; omega), _, rfl, .ref pt, t, l, rfl, it1, hl, ftB, by omega, dp1, _, _, rfl, rfl, small9 (by simp only [str_len, x1]; omega), ?_⟩
    refine ⟨_, rfl, _, rfl, .ref pt, t, rfl, it1, dp1, fun po HI sI oI => ?_⟩
    refine fun x dx hx hdx hxd => ⟨x, dx, _, _, rfl, upd_same, fun HJ h3 h4 => ⟨rfl, ?_⟩⟩
    have sJ := same_made2 hx hdx hxd h4
    have tJ := sI.trans sJ
    refine ⟨_, rfl, _, rfl, .ref pt, t, rfl, it1.same tJ, by omega, dp1, fun pz HK sK fK eK => ?_⟩
    refine ⟨.ref x, pz, .put nm t, l, rfl, ⟨x, dx, _, rfl, sK _ _ h3, (oI.same sJ).same sK⟩, hl, ⟨nm40, ftB, by omega, dp1⟩, eK, fun HL sL => ⟨_, rfl, iteF ?_⟩⟩
    have tL := tJ.trans (sK.trans sL)
    clear h3 h4 sJ tJ oI eK fK
    -- an Any
    have it1 := it1.same tL
    have it2 := it2.same tL
    refine ⟨_, rfl, _, _, rfl, rfl, small9 (by rw [x2]; omega), _, rfl, .ref pt, t, l, rfl, it1, hl, ftB, by omega, dp1, _, _, rfl, rfl, small9 (by simp only [str_len, x2]; omega), _, _, rfl, rfl, small9 (by simp only [str_len, x2, x3]; omega), _, rfl, .ref pu, u, l, rfl, it2, hl, ftD, by omega, dp2, _, _, rfl, rfl, small9 (by simp only [str_len, x2, x3]; omega), ?_⟩
    refine ⟨_, rfl, _, rfl, .ref pt, t, rfl, it1, dp1, fun po HM sM oM => ?_⟩
    refine ⟨_, rfl, .ref pu, u, rfl, it2.same sM, dp2, fun pr HN sN oN => ?_⟩
    refine fun x dx hx hdx hxd => ⟨x, dx, _, _, _, rfl, upd_same, fun HO h3 h4 => ⟨rfl, ?_⟩⟩
    have sO := same_made2 hx hdx hxd h4
    have tO := sM.trans (sN.trans sO)
    refine ⟨_, rfl, _, rfl, _, rfl, .ref pt, t, rfl, it1.same tO, by omega, dp1, fun py HP sP fP eP => ?_⟩
    refine ⟨_, rfl, .ref pu, u, rfl, it2.same (tO.trans sP), by omega, dp2, fun pw HQ sQ fQ eQ => ?_⟩
    have k1 := nmT_len t
    have k2 := nmT_len u
    refine ⟨py, pw, _, _, rfl, rfl, SqL.of (sQ _ _ eP), SqL.of eQ, small9 (by rw [List.length_map, List.length_map]; omega), fun pz hz => ?_⟩
    have sR := same_new hz (.lst ((nmT t).map V.str ++ (nmT u).map V.str))
    have eR : upd HQ pz (.lst ((nmT t).map V.str ++ (nmT u).map V.str)) pz = some (.lst ((nmT t ++ nmT u).map V.str)) := by rw [upd_same, List.map_append]
    generalize upd HQ pz (.lst ((nmT t).map V.str ++ (nmT u).map V.str)) = HR at sR eR ⊢
    have tR := sP.trans (sQ.trans sR)
    refine ⟨.ref x, pz, .any nm t u, l, rfl, ⟨x, dx, _, _, rfl, tR _ _ h3, (oM.same (sN.trans sO)).same tR, (oN.same sO).same tR⟩, hl, ⟨nm40, ftB, ftD, by omega, dp1, dp2⟩, eR, fun HS sS => ⟨_, rfl, iteF ?_⟩⟩
    have tS := tO.trans (tR.trans sS)
    clear h3 h4 sO tO oM oN eR eP eQ
    -- a Change itself
    refine ⟨_, rfl, fun x dx hx hdx hxd => ⟨x, dx, _, rfl, upd_same, rfl, ?_⟩⟩
    have sT : Same HS (upd (upd (upd HS dx (.own x)) x (.ins (CC .cha) dx [])) x (.ins (CC .cha) dx (namF (.str nm)))) := fun b u e => by
      rw [upd_ne (ne_of_none e hx)]
      exact same_made hx hdx hxd _ _ b u e
    have eT : upd (upd (upd HS dx (.own x)) x (.ins (CC .cha) dx [])) x (.ins (CC .cha) dx (namF (.str nm))) x = some (.ins (CC .cha) dx (namF (.str nm))) := upd_same
    generalize upd (upd (upd HS dx (.own x)) x (.ins (CC .cha) dx [])) x (.ins (CC .cha) dx (namF (.str nm))) = HT at sT eT ⊢
    refine ⟨_, rfl, Nat.zero_le _, fun pz hpz => ?_⟩
    have sU := same_new hpz (.lst [])
    refine ⟨.ref x, pz, .cha nm, l, rfl, ⟨x, dx, rfl, sU _ _ eT⟩, hl, nm40, upd_same, fun HV sV => ⟨_, rfl, iteF ?_⟩⟩
    exact ⟨_, _, _, _, _, _, rfl, s6.trans (tD.trans (tF.trans (tL.trans (tS.trans (sT.trans (sU.trans sV))))))⟩
  · rintro σ H6 ⟨v3, v4, v5, v6, v7, v8, rfl, s6⟩
    exact q _
end
end Nw

set_option Elab.async false
set_option linter.all false
set_option maxRecDepth 100000
set_option maxHeartbeats 4000000
namespace Nw
open PySem L2
theorem all_mk {l : PySem.W.OpenLaw} {w : World} {K : PySem.W.Frag} {h : Heap} {mg : Str → Option Value} {fa CN CM CP CI CX CC CU CA fNI fMI fTI fTN fCI fUI fAI fNS fMS fPS fIS fXS fNN fMN fCN fUN fAN fCS fUS fAS fAt fBe fDr fNa fSu fTe fHa fNm fRi fBr fTw fL : Addr} {odNI anNI odMI anMI odTI anTI odTN anTN odCI anCI odUI anUI odAI anAI odNS anNS odMS anMS odPS anPS odIS anIS odXS anXS odNN anNN odMN anMN odCN anCN odUN anUN odAN anAN odCS anCS odUS anUS odAS anAS odAt anAt odBe anBe odDr anDr odNa anNa odSu anSu odTe anTe odHa anHa odNm anNm odRi anRi odBr anBr odTw anTw odL anL : Option Addr} {slNI slMI slTI slTN slCI slUI slAI slNS slMS slPS slIS slXS slNN slMN slCN slUN slAN slCS slUS slAS slAt slBe slDr slNa slSu slTe slHa slNm slRi slBr slTw slL : Array (Option Value)} {ocNI kVNI dcNI pmNI cdNI ctNI ocMI kVMI dcMI pmMI cdMI ctMI ocTI kVTI dcTI pmTI cdTI ctTI ocTN kVTN dcTN pmTN cdTN ctTN ocCI kVCI dcCI pmCI cdCI ctCI ocUI kVUI dcUI pmUI cdUI ctUI ocAI kVAI dcAI pmAI cdAI ctAI ocNS kVNS dcNS pmNS cdNS ctNS ocMS kVMS dcMS pmMS cdMS ctMS ocPS kVPS dcPS pmPS cdPS ctPS ocIS kVIS dcIS pmIS cdIS ctIS ocXS kVXS dcXS pmXS cdXS ctXS ocNN kVNN dcNN pmNN cdNN ctNN ocMN kVMN dcMN pmMN cdMN ctMN ocCN kVCN dcCN pmCN cdCN ctCN ocUN kVUN dcUN pmUN cdUN ctUN ocAN kVAN dcAN pmAN cdAN ctAN ocCS kVCS dcCS pmCS cdCS ctCS ocUS kVUS dcUS pmUS cdUS ctUS ocAS kVAS dcAS pmAS cdAS ctAS ocAt kVAt dcAt pmAt cdAt ctAt ocBe kVBe dcBe pmBe cdBe ctBe ocDr kVDr dcDr pmDr cdDr ctDr ocNa kVNa dcNa pmNa cdNa ctNa ocSu kVSu dcSu pmSu cdSu ctSu ocTe kVTe dcTe pmTe cdTe ctTe ocHa kVHa dcHa pmHa cdHa ctHa ocNm kVNm dcNm pmNm cdNm ctNm ocRi kVRi dcRi pmRi cdRi ctRi ocBr kVBr dcBr pmBr cdBr ctBr ocTw kVTw dcTw pmTw cdTw ctTw ocL kVL dcL pmL cdL ctL : Value} (X : K.In h) (G : h.Ns mainGlobals mg) (hfa : mg "law" = some (.ref fa))
    (aN : PySem.W.nsIn K mainGlobals "Number" = some (some (.ref CN)))
    (pgN : PySem.W.plainGet K CN Str.empty = true)
    (hdN : PySem.W.hasDictIn K CN = true)
    (poN : PySem.W.plainOver K CN = true)
    (saN : PySem.W.findIn K (.ref CN) "__setattr__" = some (some (.builtin "object.__setattr__")))
    (mkN : PySem.W.makesIn K CN = true)
    (kcN : PySem.W.keepIn K (.ref CN) = true)
    (nN_number : PySem.W.findIn K (.ref CN) "number" = some none)
    (aM : PySem.W.nsIn K mainGlobals "Named" = some (some (.ref CM)))
    (pgM : PySem.W.plainGet K CM Str.empty = true)
    (hdM : PySem.W.hasDictIn K CM = true)
    (poM : PySem.W.plainOver K CM = true)
    (saM : PySem.W.findIn K (.ref CM) "__setattr__" = some (some (.builtin "object.__setattr__")))
    (mkM : PySem.W.makesIn K CM = true)
    (kcM : PySem.W.keepIn K (.ref CM) = true)
    (nM_name : PySem.W.findIn K (.ref CM) "name" = some none)
    (aP : PySem.W.nsIn K mainGlobals "Plus" = some (some (.ref CP)))
    (pgP : PySem.W.plainGet K CP Str.empty = true)
    (hdP : PySem.W.hasDictIn K CP = true)
    (poP : PySem.W.plainOver K CP = true)
    (saP : PySem.W.findIn K (.ref CP) "__setattr__" = some (some (.builtin "object.__setattr__")))
    (mkP : PySem.W.makesIn K CP = true)
    (kcP : PySem.W.keepIn K (.ref CP) = true)
    (nP_one : PySem.W.findIn K (.ref CP) "one" = some none)
    (nP_other : PySem.W.findIn K (.ref CP) "other" = some none)
    (aI : PySem.W.nsIn K mainGlobals "Minus" = some (some (.ref CI)))
    (pgI : PySem.W.plainGet K CI Str.empty = true)
    (hdI : PySem.W.hasDictIn K CI = true)
    (poI : PySem.W.plainOver K CI = true)
    (saI : PySem.W.findIn K (.ref CI) "__setattr__" = some (some (.builtin "object.__setattr__")))
    (mkI : PySem.W.makesIn K CI = true)
    (kcI : PySem.W.keepIn K (.ref CI) = true)
    (nI_one : PySem.W.findIn K (.ref CI) "one" = some none)
    (nI_other : PySem.W.findIn K (.ref CI) "other" = some none)
    (aX : PySem.W.nsIn K mainGlobals "Times" = some (some (.ref CX)))
    (pgX : PySem.W.plainGet K CX Str.empty = true)
    (hdX : PySem.W.hasDictIn K CX = true)
    (poX : PySem.W.plainOver K CX = true)
    (saX : PySem.W.findIn K (.ref CX) "__setattr__" = some (some (.builtin "object.__setattr__")))
    (mkX : PySem.W.makesIn K CX = true)
    (kcX : PySem.W.keepIn K (.ref CX) = true)
    (nX_one : PySem.W.findIn K (.ref CX) "one" = some none)
    (nX_other : PySem.W.findIn K (.ref CX) "other" = some none)
    (aC : PySem.W.nsIn K mainGlobals "Change" = some (some (.ref CC)))
    (pgC : PySem.W.plainGet K CC Str.empty = true)
    (hdC : PySem.W.hasDictIn K CC = true)
    (poC : PySem.W.plainOver K CC = true)
    (saC : PySem.W.findIn K (.ref CC) "__setattr__" = some (some (.builtin "object.__setattr__")))
    (mkC : PySem.W.makesIn K CC = true)
    (kcC : PySem.W.keepIn K (.ref CC) = true)
    (nC_name : PySem.W.findIn K (.ref CC) "name" = some none)
    (aU : PySem.W.nsIn K mainGlobals "Put" = some (some (.ref CU)))
    (pgU : PySem.W.plainGet K CU Str.empty = true)
    (hdU : PySem.W.hasDictIn K CU = true)
    (poU : PySem.W.plainOver K CU = true)
    (saU : PySem.W.findIn K (.ref CU) "__setattr__" = some (some (.builtin "object.__setattr__")))
    (mkU : PySem.W.makesIn K CU = true)
    (kcU : PySem.W.keepIn K (.ref CU) = true)
    (nU_name : PySem.W.findIn K (.ref CU) "name" = some none)
    (nU_one : PySem.W.findIn K (.ref CU) "one" = some none)
    (aA : PySem.W.nsIn K mainGlobals "Any" = some (some (.ref CA)))
    (pgA : PySem.W.plainGet K CA Str.empty = true)
    (hdA : PySem.W.hasDictIn K CA = true)
    (poA : PySem.W.plainOver K CA = true)
    (saA : PySem.W.findIn K (.ref CA) "__setattr__" = some (some (.builtin "object.__setattr__")))
    (mkA : PySem.W.makesIn K CA = true)
    (kcA : PySem.W.keepIn K (.ref CA) = true)
    (nA_name : PySem.W.findIn K (.ref CA) "name" = some none)
    (nA_one : PySem.W.findIn K (.ref CA) "one" = some none)
    (nA_other : PySem.W.findIn K (.ref CA) "other" = some none)
    (aNI : PySem.W.findIn K (.ref CN) "__init__" = some (some (.ref fNI)))
    (iNI : PySem.W.isFn K (.ref fNI) = true)
    (lNI : K.lookup fNI = some ⟨ocNI, odNI, .func (PySem.W.fnOf "__init__" "Number.__init__" (defArgs sNumI) (defBody sNumI) (defScope sNumI) .none kVNI dcNI pmNI anNI cdNI ctNI), slNI⟩)
    (cNI : PySem.W.codeIn K cdNI "Number.__init__" = true)
    (kNI : PySem.W.keepIn K (.ref fNI) = true)
    (aMI : PySem.W.findIn K (.ref CM) "__init__" = some (some (.ref fMI)))
    (iMI : PySem.W.isFn K (.ref fMI) = true)
    (lMI : K.lookup fMI = some ⟨ocMI, odMI, .func (PySem.W.fnOf "__init__" "Named.__init__" (defArgs sNamI) (defBody sNamI) (defScope sNamI) .none kVMI dcMI pmMI anMI cdMI ctMI), slMI⟩)
    (cMI : PySem.W.codeIn K cdMI "Named.__init__" = true)
    (kMI : PySem.W.keepIn K (.ref fMI) = true)
    (aTI : PySem.W.findIn K (.ref CP) "__init__" = some (some (.ref fTI)))
    (aTII : PySem.W.findIn K (.ref CI) "__init__" = some (some (.ref fTI)))
    (aTIX : PySem.W.findIn K (.ref CX) "__init__" = some (some (.ref fTI)))
    (iTI : PySem.W.isFn K (.ref fTI) = true)
    (lTI : K.lookup fTI = some ⟨ocTI, odTI, .func (PySem.W.fnOf "__init__" "Twofold.__init__" (defArgs sTwoI) (defBody sTwoI) (defScope sTwoI) .none kVTI dcTI pmTI anTI cdTI ctTI), slTI⟩)
    (cTI : PySem.W.codeIn K cdTI "Twofold.__init__" = true)
    (kTI : PySem.W.keepIn K (.ref fTI) = true)
    (aTN : PySem.W.findIn K (.ref CP) "named" = some (some (.ref fTN)))
    (aTNI : PySem.W.findIn K (.ref CI) "named" = some (some (.ref fTN)))
    (aTNX : PySem.W.findIn K (.ref CX) "named" = some (some (.ref fTN)))
    (iTN : PySem.W.isFn K (.ref fTN) = true)
    (lTN : K.lookup fTN = some ⟨ocTN, odTN, .func (PySem.W.fnOf "named" "Twofold.named" (defArgs sTwoN) (defBody sTwoN) (defScope sTwoN) .none kVTN dcTN pmTN anTN cdTN ctTN), slTN⟩)
    (cTN : PySem.W.codeIn K cdTN "Twofold.named" = true)
    (kTN : PySem.W.keepIn K (.ref fTN) = true)
    (aCI : PySem.W.findIn K (.ref CC) "__init__" = some (some (.ref fCI)))
    (iCI : PySem.W.isFn K (.ref fCI) = true)
    (lCI : K.lookup fCI = some ⟨ocCI, odCI, .func (PySem.W.fnOf "__init__" "Change.__init__" (defArgs sChaI) (defBody sChaI) (defScope sChaI) .none kVCI dcCI pmCI anCI cdCI ctCI), slCI⟩)
    (cCI : PySem.W.codeIn K cdCI "Change.__init__" = true)
    (kCI : PySem.W.keepIn K (.ref fCI) = true)
    (aUI : PySem.W.findIn K (.ref CU) "__init__" = some (some (.ref fUI)))
    (iUI : PySem.W.isFn K (.ref fUI) = true)
    (lUI : K.lookup fUI = some ⟨ocUI, odUI, .func (PySem.W.fnOf "__init__" "Put.__init__" (defArgs sPutI) (defBody sPutI) (defScope sPutI) .none kVUI dcUI pmUI anUI cdUI ctUI), slUI⟩)
    (cUI : PySem.W.codeIn K cdUI "Put.__init__" = true)
    (kUI : PySem.W.keepIn K (.ref fUI) = true)
    (aAI : PySem.W.findIn K (.ref CA) "__init__" = some (some (.ref fAI)))
    (iAI : PySem.W.isFn K (.ref fAI) = true)
    (lAI : K.lookup fAI = some ⟨ocAI, odAI, .func (PySem.W.fnOf "__init__" "Any.__init__" (defArgs sAnyI) (defBody sAnyI) (defScope sAnyI) .none kVAI dcAI pmAI anAI cdAI ctAI), slAI⟩)
    (cAI : PySem.W.codeIn K cdAI "Any.__init__" = true)
    (kAI : PySem.W.keepIn K (.ref fAI) = true)
    (aNS : PySem.W.findIn K (.ref CN) "shown" = some (some (.ref fNS)))
    (iNS : PySem.W.isFn K (.ref fNS) = true)
    (lNS : K.lookup fNS = some ⟨ocNS, odNS, .func (PySem.W.fnOf "shown" "Number.shown" (defArgs sNumS) (defBody sNumS) (defScope sNumS) .none kVNS dcNS pmNS anNS cdNS ctNS), slNS⟩)
    (cNS : PySem.W.codeIn K cdNS "Number.shown" = true)
    (kNS : PySem.W.keepIn K (.ref fNS) = true)
    (aMS : PySem.W.findIn K (.ref CM) "shown" = some (some (.ref fMS)))
    (iMS : PySem.W.isFn K (.ref fMS) = true)
    (lMS : K.lookup fMS = some ⟨ocMS, odMS, .func (PySem.W.fnOf "shown" "Named.shown" (defArgs sNamS) (defBody sNamS) (defScope sNamS) .none kVMS dcMS pmMS anMS cdMS ctMS), slMS⟩)
    (cMS : PySem.W.codeIn K cdMS "Named.shown" = true)
    (kMS : PySem.W.keepIn K (.ref fMS) = true)
    (aPS : PySem.W.findIn K (.ref CP) "shown" = some (some (.ref fPS)))
    (iPS : PySem.W.isFn K (.ref fPS) = true)
    (lPS : K.lookup fPS = some ⟨ocPS, odPS, .func (PySem.W.fnOf "shown" "Plus.shown" (defArgs sPluS) (defBody sPluS) (defScope sPluS) .none kVPS dcPS pmPS anPS cdPS ctPS), slPS⟩)
    (cPS : PySem.W.codeIn K cdPS "Plus.shown" = true)
    (kPS : PySem.W.keepIn K (.ref fPS) = true)
    (aIS : PySem.W.findIn K (.ref CI) "shown" = some (some (.ref fIS)))
    (iIS : PySem.W.isFn K (.ref fIS) = true)
    (lIS : K.lookup fIS = some ⟨ocIS, odIS, .func (PySem.W.fnOf "shown" "Minus.shown" (defArgs sMinS) (defBody sMinS) (defScope sMinS) .none kVIS dcIS pmIS anIS cdIS ctIS), slIS⟩)
    (cIS : PySem.W.codeIn K cdIS "Minus.shown" = true)
    (kIS : PySem.W.keepIn K (.ref fIS) = true)
    (aXS : PySem.W.findIn K (.ref CX) "shown" = some (some (.ref fXS)))
    (iXS : PySem.W.isFn K (.ref fXS) = true)
    (lXS : K.lookup fXS = some ⟨ocXS, odXS, .func (PySem.W.fnOf "shown" "Times.shown" (defArgs sTimS) (defBody sTimS) (defScope sTimS) .none kVXS dcXS pmXS anXS cdXS ctXS), slXS⟩)
    (cXS : PySem.W.codeIn K cdXS "Times.shown" = true)
    (kXS : PySem.W.keepIn K (.ref fXS) = true)
    (aNN : PySem.W.findIn K (.ref CN) "named" = some (some (.ref fNN)))
    (iNN : PySem.W.isFn K (.ref fNN) = true)
    (lNN : K.lookup fNN = some ⟨ocNN, odNN, .func (PySem.W.fnOf "named" "Sum.named" (defArgs sSumN) (defBody sSumN) (defScope sSumN) .none kVNN dcNN pmNN anNN cdNN ctNN), slNN⟩)
    (cNN : PySem.W.codeIn K cdNN "Sum.named" = true)
    (kNN : PySem.W.keepIn K (.ref fNN) = true)
    (aMN : PySem.W.findIn K (.ref CM) "named" = some (some (.ref fMN)))
    (iMN : PySem.W.isFn K (.ref fMN) = true)
    (lMN : K.lookup fMN = some ⟨ocMN, odMN, .func (PySem.W.fnOf "named" "Named.named" (defArgs sNamN) (defBody sNamN) (defScope sNamN) .none kVMN dcMN pmMN anMN cdMN ctMN), slMN⟩)
    (cMN : PySem.W.codeIn K cdMN "Named.named" = true)
    (kMN : PySem.W.keepIn K (.ref fMN) = true)
    (aCN : PySem.W.findIn K (.ref CC) "named" = some (some (.ref fCN)))
    (iCN : PySem.W.isFn K (.ref fCN) = true)
    (lCN : K.lookup fCN = some ⟨ocCN, odCN, .func (PySem.W.fnOf "named" "Change.named" (defArgs sChaN) (defBody sChaN) (defScope sChaN) .none kVCN dcCN pmCN anCN cdCN ctCN), slCN⟩)
    (cCN : PySem.W.codeIn K cdCN "Change.named" = true)
    (kCN : PySem.W.keepIn K (.ref fCN) = true)
    (aUN : PySem.W.findIn K (.ref CU) "named" = some (some (.ref fUN)))
    (iUN : PySem.W.isFn K (.ref fUN) = true)
    (lUN : K.lookup fUN = some ⟨ocUN, odUN, .func (PySem.W.fnOf "named" "Put.named" (defArgs sPutN) (defBody sPutN) (defScope sPutN) .none kVUN dcUN pmUN anUN cdUN ctUN), slUN⟩)
    (cUN : PySem.W.codeIn K cdUN "Put.named" = true)
    (kUN : PySem.W.keepIn K (.ref fUN) = true)
    (aAN : PySem.W.findIn K (.ref CA) "named" = some (some (.ref fAN)))
    (iAN : PySem.W.isFn K (.ref fAN) = true)
    (lAN : K.lookup fAN = some ⟨ocAN, odAN, .func (PySem.W.fnOf "named" "Any.named" (defArgs sAnyN) (defBody sAnyN) (defScope sAnyN) .none kVAN dcAN pmAN anAN cdAN ctAN), slAN⟩)
    (cAN : PySem.W.codeIn K cdAN "Any.named" = true)
    (kAN : PySem.W.keepIn K (.ref fAN) = true)
    (aCS : PySem.W.findIn K (.ref CC) "shown" = some (some (.ref fCS)))
    (iCS : PySem.W.isFn K (.ref fCS) = true)
    (lCS : K.lookup fCS = some ⟨ocCS, odCS, .func (PySem.W.fnOf "shown" "Change.shown" (defArgs sChaS) (defBody sChaS) (defScope sChaS) .none kVCS dcCS pmCS anCS cdCS ctCS), slCS⟩)
    (cCS : PySem.W.codeIn K cdCS "Change.shown" = true)
    (kCS : PySem.W.keepIn K (.ref fCS) = true)
    (aUS : PySem.W.findIn K (.ref CU) "shown" = some (some (.ref fUS)))
    (iUS : PySem.W.isFn K (.ref fUS) = true)
    (lUS : K.lookup fUS = some ⟨ocUS, odUS, .func (PySem.W.fnOf "shown" "Put.shown" (defArgs sPutS) (defBody sPutS) (defScope sPutS) .none kVUS dcUS pmUS anUS cdUS ctUS), slUS⟩)
    (cUS : PySem.W.codeIn K cdUS "Put.shown" = true)
    (kUS : PySem.W.keepIn K (.ref fUS) = true)
    (aAS : PySem.W.findIn K (.ref CA) "shown" = some (some (.ref fAS)))
    (iAS : PySem.W.isFn K (.ref fAS) = true)
    (lAS : K.lookup fAS = some ⟨ocAS, odAS, .func (PySem.W.fnOf "shown" "Any.shown" (defArgs sAnyS) (defBody sAnyS) (defScope sAnyS) .none kVAS dcAS pmAS anAS cdAS ctAS), slAS⟩)
    (cAS : PySem.W.codeIn K cdAS "Any.shown" = true)
    (kAS : PySem.W.keepIn K (.ref fAS) = true)
    (aAt : PySem.W.nsIn K mainGlobals "_law_at" = some (some (.ref fAt)))
    (lAt : K.lookup fAt = some ⟨ocAt, odAt, .func (PySem.W.fnOf "_law_at" "_law_at" (defArgs sAt) (defBody sAt) (defScope sAt) .none kVAt dcAt pmAt anAt cdAt ctAt), slAt⟩)
    (cAt : PySem.W.codeIn K cdAt "_law_at" = true)
    (kAt : PySem.W.keepIn K (.ref fAt) = true)
    (aBe : PySem.W.nsIn K mainGlobals "_law_begin" = some (some (.ref fBe)))
    (lBe : K.lookup fBe = some ⟨ocBe, odBe, .func (PySem.W.fnOf "_law_begin" "_law_begin" (defArgs sBegin) (defBody sBegin) (defScope sBegin) .none kVBe dcBe pmBe anBe cdBe ctBe), slBe⟩)
    (cBe : PySem.W.codeIn K cdBe "_law_begin" = true)
    (kBe : PySem.W.keepIn K (.ref fBe) = true)
    (aDr : PySem.W.nsIn K mainGlobals "_law_draw" = some (some (.ref fDr)))
    (lDr : K.lookup fDr = some ⟨ocDr, odDr, .func (PySem.W.fnOf "_law_draw" "_law_draw" (defArgs sDraw) (defBody sDraw) (defScope sDraw) .none kVDr dcDr pmDr anDr cdDr ctDr), slDr⟩)
    (cDr : PySem.W.codeIn K cdDr "_law_draw" = true)
    (kDr : PySem.W.keepIn K (.ref fDr) = true)
    (aNa : PySem.W.nsIn K mainGlobals "_law_names" = some (some (.ref fNa)))
    (lNa : K.lookup fNa = some ⟨ocNa, odNa, .func (PySem.W.fnOf "_law_names" "_law_names" (defArgs sNames) (defBody sNames) (defScope sNames) .none kVNa dcNa pmNa anNa cdNa ctNa), slNa⟩)
    (cNa : PySem.W.codeIn K cdNa "_law_names" = true)
    (kNa : PySem.W.keepIn K (.ref fNa) = true)
    (aSu : PySem.W.nsIn K mainGlobals "_law_sum" = some (some (.ref fSu)))
    (lSu : K.lookup fSu = some ⟨ocSu, odSu, .func (PySem.W.fnOf "_law_sum" "_law_sum" (defArgs sSum) (defBody sSum) (defScope sSum) .none kVSu dcSu pmSu anSu cdSu ctSu), slSu⟩)
    (cSu : PySem.W.codeIn K cdSu "_law_sum" = true)
    (kSu : PySem.W.keepIn K (.ref fSu) = true)
    (aTe : PySem.W.nsIn K mainGlobals "_law_sum_text" = some (some (.ref fTe)))
    (lTe : K.lookup fTe = some ⟨ocTe, odTe, .func (PySem.W.fnOf "_law_sum_text" "_law_sum_text" (defArgs sText) (defBody sText) (defScope sText) .none kVTe dcTe pmTe anTe cdTe ctTe), slTe⟩)
    (cTe : PySem.W.codeIn K cdTe "_law_sum_text" = true)
    (kTe : PySem.W.keepIn K (.ref fTe) = true)
    (aHa : PySem.W.nsIn K mainGlobals "_law_sum_of" = some (some (.ref fHa)))
    (lHa : K.lookup fHa = some ⟨ocHa, odHa, .func (PySem.W.fnOf "_law_sum_of" "_law_sum_of" (defArgs sHand) (defBody sHand) (defScope sHand) .none kVHa dcHa pmHa anHa cdHa ctHa), slHa⟩)
    (cHa : PySem.W.codeIn K cdHa "_law_sum_of" = true)
    (kHa : PySem.W.keepIn K (.ref fHa) = true)
    (aNm : PySem.W.nsIn K mainGlobals "_law_sum_names" = some (some (.ref fNm)))
    (lNm : K.lookup fNm = some ⟨ocNm, odNm, .func (PySem.W.fnOf "_law_sum_names" "_law_sum_names" (defArgs sNms) (defBody sNms) (defScope sNms) .none kVNm dcNm pmNm anNm cdNm ctNm), slNm⟩)
    (cNm : PySem.W.codeIn K cdNm "_law_sum_names" = true)
    (kNm : PySem.W.keepIn K (.ref fNm) = true)
    (aRi : PySem.W.nsIn K mainGlobals "_law_right" = some (some (.ref fRi)))
    (lRi : K.lookup fRi = some ⟨ocRi, odRi, .func (PySem.W.fnOf "_law_right" "_law_right" (defArgs sRight) (defBody sRight) (defScope sRight) .none kVRi dcRi pmRi anRi cdRi ctRi), slRi⟩)
    (cRi : PySem.W.codeIn K cdRi "_law_right" = true)
    (kRi : PySem.W.keepIn K (.ref fRi) = true)
    (aBr : PySem.W.nsIn K mainGlobals "bracketed" = some (some (.ref fBr)))
    (lBr : K.lookup fBr = some ⟨ocBr, odBr, .func (PySem.W.fnOf "bracketed" "bracketed" (defArgs sBra) (defBody sBra) (defScope sBra) .none kVBr dcBr pmBr anBr cdBr ctBr), slBr⟩)
    (cBr : PySem.W.codeIn K cdBr "bracketed" = true)
    (kBr : PySem.W.keepIn K (.ref fBr) = true)
    (aTw : PySem.W.nsIn K mainGlobals "names_of_two" = some (some (.ref fTw)))
    (lTw : K.lookup fTw = some ⟨ocTw, odTw, .func (PySem.W.fnOf "names_of_two" "names_of_two" (defArgs sTwoO) (defBody sTwoO) (defScope sTwoO) .none kVTw dcTw pmTw anTw cdTw ctTw), slTw⟩)
    (cTw : PySem.W.codeIn K cdTw "names_of_two" = true)
    (kTw : PySem.W.keepIn K (.ref fTw) = true)
    (aL : PySem.W.nsIn K mainGlobals "law" = some (some (.ref fL)))
    (lL : K.lookup fL = some ⟨ocL, odL, .func (PySem.W.fnOf "law" "law" (defArgs sLaw) (defBody sLaw) (defScope sLaw) .none kVL dcL pmL anL cdL ctL), slL⟩)
    (cL : PySem.W.codeIn K cdL "law" = true)
    (kL : PySem.W.keepIn K (.ref fL) = true)
    (z_len : PySem.W.nsIn K mainGlobals "len" = some none)
    (z_range : PySem.W.nsIn K mainGlobals "range" = some none)
    (z_isinstance : PySem.W.nsIn K mainGlobals "isinstance" = some none)
    (z_str : PySem.W.nsIn K mainGlobals "str" = some none)
    (z_list : PySem.W.nsIn K mainGlobals "list" = some none)
    (z_max : PySem.W.nsIn K mainGlobals "max" = some none)
    (z_min : PySem.W.nsIn K mainGlobals "min" = some none)
    (z_sorted : PySem.W.nsIn K mainGlobals "sorted" = some none)
    (z_set : PySem.W.nsIn K mainGlobals "set" = some none)
    (cmg : PySem.W.specialIn K (.ref CC) "__getattribute__" = some (some (.builtin "type.__getattribute__")))
    (cmr : PySem.W.readsIn K CC (.type "type") = true)
    (cmf : PySem.W.findCls K (.ref CC) (.type "type") "__init__" = some (.val (.ref fCI)))
    : ∃ fd : FuncData, (∀ (s : Shared) (v : Value), BindsTo s fd ⟨[v], []⟩ [("_law_script", v)]) ∧ ∀ base : Heap, K.In base → base.Ns mainGlobals mg → FnOk l.prog w K mg base CX0 21 fa fd ["_law_script"] (spLaw K) := by
  have e := hfa.symm.trans (PySem.W.mg_of X G aL)
  cases e
  have FNI := fun_mk (st := sNumI) lNI cNI kNI
  have bNI := FNI.binds (ps := ["self", "number"]) fun _ _ _ _ _ _ us hl => match us, hl with | [_, _], _ => rfl
  have FMI := fun_mk (st := sNamI) lMI cMI kMI
  have bMI := FMI.binds (ps := ["self", "name"]) fun _ _ _ _ _ _ us hl => match us, hl with | [_, _], _ => rfl
  have FTI := fun_mk (st := sTwoI) lTI cTI kTI
  have bTI := FTI.binds (ps := ["self", "one", "other"]) fun _ _ _ _ _ _ us hl => match us, hl with | [_, _, _], _ => rfl
  have FTN := fun_mk (st := sTwoN) lTN cTN kTN
  have bTN := FTN.binds (ps := ["self"]) fun _ _ _ _ _ _ us hl => match us, hl with | [_], _ => rfl
  have FCI := fun_mk (st := sChaI) lCI cCI kCI
  have bCI := FCI.binds (ps := ["self", "name"]) fun _ _ _ _ _ _ us hl => match us, hl with | [_, _], _ => rfl
  have FUI := fun_mk (st := sPutI) lUI cUI kUI
  have bUI := FUI.binds (ps := ["self", "name", "one"]) fun _ _ _ _ _ _ us hl => match us, hl with | [_, _, _], _ => rfl
  have FAI := fun_mk (st := sAnyI) lAI cAI kAI
  have bAI := FAI.binds (ps := ["self", "name", "one", "other"]) fun _ _ _ _ _ _ us hl => match us, hl with | [_, _, _, _], _ => rfl
  have FNS := fun_mk (st := sNumS) lNS cNS kNS
  have bNS := FNS.binds (ps := ["self"]) fun _ _ _ _ _ _ us hl => match us, hl with | [_], _ => rfl
  have FMS := fun_mk (st := sNamS) lMS cMS kMS
  have bMS := FMS.binds (ps := ["self"]) fun _ _ _ _ _ _ us hl => match us, hl with | [_], _ => rfl
  have FPS := fun_mk (st := sPluS) lPS cPS kPS
  have bPS := FPS.binds (ps := ["self"]) fun _ _ _ _ _ _ us hl => match us, hl with | [_], _ => rfl
  have FIS := fun_mk (st := sMinS) lIS cIS kIS
  have bIS := FIS.binds (ps := ["self"]) fun _ _ _ _ _ _ us hl => match us, hl with | [_], _ => rfl
  have FXS := fun_mk (st := sTimS) lXS cXS kXS
  have bXS := FXS.binds (ps := ["self"]) fun _ _ _ _ _ _ us hl => match us, hl with | [_], _ => rfl
  have FNN := fun_mk (st := sSumN) lNN cNN kNN
  have bNN := FNN.binds (ps := ["self"]) fun _ _ _ _ _ _ us hl => match us, hl with | [_], _ => rfl
  have FMN := fun_mk (st := sNamN) lMN cMN kMN
  have bMN := FMN.binds (ps := ["self"]) fun _ _ _ _ _ _ us hl => match us, hl with | [_], _ => rfl
  have FCN := fun_mk (st := sChaN) lCN cCN kCN
  have bCN := FCN.binds (ps := ["self"]) fun _ _ _ _ _ _ us hl => match us, hl with | [_], _ => rfl
  have FUN := fun_mk (st := sPutN) lUN cUN kUN
  have bUN := FUN.binds (ps := ["self"]) fun _ _ _ _ _ _ us hl => match us, hl with | [_], _ => rfl
  have FAN := fun_mk (st := sAnyN) lAN cAN kAN
  have bAN := FAN.binds (ps := ["self"]) fun _ _ _ _ _ _ us hl => match us, hl with | [_], _ => rfl
  have FCS := fun_mk (st := sChaS) lCS cCS kCS
  have bCS := FCS.binds (ps := ["self"]) fun _ _ _ _ _ _ us hl => match us, hl with | [_], _ => rfl
  have FUS := fun_mk (st := sPutS) lUS cUS kUS
  have bUS := FUS.binds (ps := ["self"]) fun _ _ _ _ _ _ us hl => match us, hl with | [_], _ => rfl
  have FAS := fun_mk (st := sAnyS) lAS cAS kAS
  have bAS := FAS.binds (ps := ["self"]) fun _ _ _ _ _ _ us hl => match us, hl with | [_], _ => rfl
  have FAt := fun_mk (st := sAt) lAt cAt kAt
  have bAt := FAt.binds (ps := ["_law_script", "_law_k"]) fun _ _ _ _ _ _ us hl => match us, hl with | [_, _], _ => rfl
  have FBe := fun_mk (st := sBegin) lBe cBe kBe
  have bBe := FBe.binds (ps := ["_law_cell"]) fun _ _ _ _ _ _ us hl => match us, hl with | [_], _ => rfl
  have FDr := fun_mk (st := sDraw) lDr cDr kDr
  have bDr := FDr.binds (ps := ["_law_state", "_law_many"]) fun _ _ _ _ _ _ us hl => match us, hl with | [_, _], _ => rfl
  have FNa := fun_mk (st := sNames) lNa cNa kNa
  have bNa := FNa.binds (ps := ["_law_cell", "_law_many"]) fun _ _ _ _ _ _ us hl => match us, hl with | [_, _], _ => rfl
  have FSu := fun_mk (st := sSum) lSu cSu kSu
  have bSu := FSu.binds (ps := ["_law_state", "_law_names_here", "_law_near", "_law_depth"]) fun _ _ _ _ _ _ us hl => match us, hl with | [_, _, _, _], _ => rfl
  have FTe := fun_mk (st := sText) lTe cTe kTe
  have bTe := FTe.binds (ps := ["_law_one"]) fun _ _ _ _ _ _ us hl => match us, hl with | [_], _ => rfl
  have FHa := fun_mk (st := sHand) lHa cHa kHa
  have bHa := FHa.binds (ps := ["_law_one"]) fun _ _ _ _ _ _ us hl => match us, hl with | [_], _ => rfl
  have FNm := fun_mk (st := sNms) lNm cNm kNm
  have bNm := FNm.binds (ps := ["_law_one"]) fun _ _ _ _ _ _ us hl => match us, hl with | [_], _ => rfl
  have FRi := fun_mk (st := sRight) lRi cRi kRi
  have bRi := FRi.binds (ps := ["_law_change", "_law_text", "_law_names_here"]) fun _ _ _ _ _ _ us hl => match us, hl with | [_, _, _], _ => rfl
  have FBr := fun_mk (st := sBra) lBr cBr kBr
  have bBr := FBr.binds (ps := ["one", "sign", "other"]) fun _ _ _ _ _ _ us hl => match us, hl with | [_, _, _], _ => rfl
  have FTw := fun_mk (st := sTwoO) lTw cTw kTw
  have bTw := FTw.binds (ps := ["one", "other"]) fun _ _ _ _ _ _ us hl => match us, hl with | [_, _], _ => rfl
  have FL := fun_mk (st := sLaw) lL cL kL
  have T : Txt K mg (ckOf CN CM CP CI CX) (ccOf CC CU CA) fNI fMI fTI fTN fCI fUI fAI fNS fMS fPS fIS fXS fNN fMN fCN fUN fAN fCS fUS fAS fAt fBe fDr fNa fSu fTe fHa fNm fRi fBr fTw _ _ _ _ _ _ _ _ _ _ _ _ _ _ _ _ _ _ _ _ _ _ _ _ _ _ _ _ _ _ _ :=
    { bl := ⟨PySem.W.mg_none_of X G z_len, PySem.W.mg_none_of X G z_range, PySem.W.mg_none_of X G z_isinstance, PySem.W.mg_none_of X G z_str, PySem.W.mg_none_of X G z_list, PySem.W.mg_none_of X G z_max, PySem.W.mg_none_of X G z_min, PySem.W.mg_none_of X G z_sorted, PySem.W.mg_none_of X G z_set⟩
      mkr :=
        { cls := ⟨fun k => match k with | .num => ⟨pgN, hdN, poN, saN⟩ | .nam => ⟨pgM, hdM, poM, saM⟩ | .op .plus => ⟨pgP, hdP, poP, saP⟩ | .op .minus => ⟨pgI, hdI, poI, saI⟩ | .op .times => ⟨pgX, hdX, poX, saX⟩, nN_number, nM_name, fun g => match g with | .plus => nP_one | .minus => nI_one | .times => nX_one, fun g => match g with | .plus => nP_other | .minus => nI_other | .times => nX_other⟩
          mkN := ⟨mkN, aNI, iNI, kcN⟩, mkM := ⟨mkM, aMI, iMI, kcM⟩
          mkT := fun g => match g with | .plus => ⟨mkP, aTI, iTI, kcP⟩ | .minus => ⟨mkI, aTII, iTI, kcI⟩ | .times => ⟨mkX, aTIX, iTI, kcX⟩
          gN := PySem.W.mg_of X G aN, gM := PySem.W.mg_of X G aM, gP := PySem.W.mg_of X G aP, gI := PySem.W.mg_of X G aI, gX := PySem.W.mg_of X G aX
          FN := FNI, FM := FMI, FT := FTI, bN := bNI, bM := bMI, bT := bTI }
      cc := ⟨fun k => match k with | .cha => ⟨pgC, hdC, poC, saC⟩ | .put => ⟨pgU, hdU, poU, saU⟩ | .any => ⟨pgA, hdA, poA, saA⟩, fun k => match k with | .cha => nC_name | .put => nU_name | .any => nA_name, nU_one, nA_one, nA_other⟩
      mkC := ⟨mkC, aCI, iCI, kcC⟩, mkU := ⟨mkU, aUI, iUI, kcU⟩, mkA := ⟨mkA, aAI, iAI, kcA⟩
      gC := PySem.W.mg_of X G aC, gU := PySem.W.mg_of X G aU, gA := PySem.W.mg_of X G aA
      cm := ⟨cmg, cmr, cmf, kCI⟩
      FTN := FTN, bTN := bTN, mTN := fun g => match g with | .plus => ⟨aTN, iTN, kTN⟩ | .minus => ⟨aTNI, iTN, kTN⟩ | .times => ⟨aTNX, iTN, kTN⟩
      FCI := FCI, bCI := bCI, FUI := FUI, bUI := bUI, FAI := FAI, bAI := bAI, FNS := FNS, bNS := bNS, FMS := FMS, bMS := bMS, FPS := FPS, bPS := bPS, FIS := FIS, bIS := bIS, FXS := FXS, bXS := bXS, FNN := FNN, bNN := bNN, FMN := FMN, bMN := bMN, FCN := FCN, bCN := bCN, FUN := FUN, bUN := bUN, FAN := FAN, bAN := bAN, FCS := FCS, bCS := bCS, FUS := FUS, bUS := bUS, FAS := FAS, bAS := bAS, FAt := FAt, bAt := bAt, FBe := FBe, bBe := bBe, FDr := FDr, bDr := bDr, FNa := FNa, bNa := bNa, FSu := FSu, bSu := bSu, FTe := FTe, bTe := bTe, FHa := FHa, bHa := bHa, FNm := FNm, bNm := bNm, FRi := FRi, bRi := bRi, FBr := FBr, bBr := bBr, FTw := FTw, bTw := bTw
      gAt := PySem.W.mg_of X G aAt, gBe := PySem.W.mg_of X G aBe, gDr := PySem.W.mg_of X G aDr, gNa := PySem.W.mg_of X G aNa, gSu := PySem.W.mg_of X G aSu, gTe := PySem.W.mg_of X G aTe, gHa := PySem.W.mg_of X G aHa, gNm := PySem.W.mg_of X G aNm, gRi := PySem.W.mg_of X G aRi, gBr := PySem.W.mg_of X G aBr, gTw := PySem.W.mg_of X G aTw
      mNS := ⟨aNS, iNS, kNS⟩, mMS := ⟨aMS, iMS, kMS⟩, mPS := ⟨aPS, iPS, kPS⟩, mIS := ⟨aIS, iIS, kIS⟩, mXS := ⟨aXS, iXS, kXS⟩, mNN := ⟨aNN, iNN, kNN⟩, mMN := ⟨aMN, iMN, kMN⟩, mCN := ⟨aCN, iCN, kCN⟩, mUN := ⟨aUN, iUN, kUN⟩, mAN := ⟨aAN, iAN, kAN⟩, mCS := ⟨aCS, iCS, kCS⟩, mUS := ⟨aUS, iUS, kUS⟩, mAS := ⟨aAS, iAS, kAS⟩ }
  exact ⟨PySem.W.fnOf "law" "law" (defArgs sLaw) (defBody sLaw) (defScope sLaw) .none kVL dcL pmL anL cdL ctL, fun s v => .of_eq rfl, fun base _ _ => ok_law T FL⟩
theorem walk {l : PySem.W.OpenLaw} {q : Program} {loose : List Str} {XP : (Str → Option Value) → Heap → Prop} {YP : World → Heap → Prop} {d : DefRec} {K : Params → PySem.W.Frag} (hn : l.most = some 63) (hdf : d.params.defaults = [])
    (hY : ∀ (w : World) (h : Heap), YP w h → (K w.params).In h)
    (F : ∀ (w : World) (mg : Str → Option Value) (fa : Addr) (h : Heap), (K w.params).In h → h.Ns mainGlobals mg → mg d.name = some (.ref fa) →
      ∃ fd : FuncData, (∀ (s : Shared) (u : Value), BindsTo s fd ⟨[u], []⟩ [("_law_script", u)]) ∧ ∀ base : Heap, (K w.params).In base → base.Ns mainGlobals mg → FnOk l.prog w (K w.params) mg base CX0 21 fa fd ["_law_script"] (spLaw (K w.params))) :
    PySem.W.WalkO q loose XP YP l.row.toRowW d [] (fun f vs => PySem.call f vs) :=
  L2.walk_of (n := 63) (k := 21) (x := "_law_script") (CX := fun _ => CX0) (sp := fun w => spLaw (K w.params)) hn (by decide) hdf ⟨rfl, by decide, by decide⟩ hY F (fun _ _ a ns hl _ hS => ⟨a, ns, rfl, hS, hl, fun _ => rfl⟩) fun _ _ _ _ _ z => z
end Nw
open PySem PySem.W PyProof.Rows
namespace PySem.W.Fast
def tw12232463954521563529 := ()
def tw4672082448806876024 := ()
def tw3081699793667336944 := ()
def tw10214134323971928183 := ()
def tw9875510182115573080 := ()
def tw12023048426749420337 := ()
def tw3993551243034801999 := ()
def tw14298583940910075445 := ()
def tw9673535131912112977 := ()
def tw13715082331763994969 := ()
def tw9175297211737709249 := ()
def tw15393254234116825688 := ()
def tw13336532938276463127 := ()
def tw12566706510171408326 := ()
def tw6909208449569033005 := ()
def tw2194634198738825726 := ()
def tw5909761601415560737 := ()
def tw2598625865218956338 := ()
def tw15516833166905021874 := ()
def tw1692654292832952580 := ()
def tw18012631698002862702 := ()
def tw13701210226876737007 := ()
def tw305917029677695375 := ()
def tw1495285472821786469 := ()
def tw3674175140347392231 := ()
def tw5549968786520059233 := ()
def tw17043120749075924437 := ()
def tw879633650894765493 := ()
def tw4893955623086638917 := ()
def tw773362850707963223 := ()
def tw6364288660912740686 := ()
def tw11392797544910901767 := ()
def tw6436413711559382417 := ()
def tw10587151329718894944 := ()
def tw6855795558635561720 := ()
def tw12130790155091443009 := ()
def tw13588170320613322153 := ()
def tw13229784690571202674 := ()
def tw14352184171477331813 := ()
def tw4250431785544601298 := ()
def tw10137665704432693511 := ()
def tw13540950901720185965 := ()
def tw17683166650896762625 := ()
def tw10482734719624317889 := ()
def tw10969487004481291598 := ()
def tw15049399836604489407 := ()
def tw5815759682204618258 := ()
def tw17661602902317269705 := ()
def tw14519712297160627312 := ()
def tw9104742097629917039 := ()
def tw9674290908736302498 := ()
def tw4957219451321432518 := ()
def tw12578475574095296415 := ()
def tw7264599443485796618 := ()
def tw16372368099409604075 := ()
def tw9622612762934501566 := ()
def tw93486799880339865 := ()
def tw5649716879027350666 := ()
def tw13701147541581019445 := ()
def tw3064383252154281016 := ()
def tw17383996497361285326 := ()
def tw11264154111842535775 := ()
def tw4924285284195881831 := ()
def tw16784854234065430705 := ()
def tw10974882872984086196 := ()
def tw10380285943375733109 := ()
def tw3406894785924578387 := ()
def tw10384172908175575770 := ()
def tw7333316975332442350 := ()
def tw4118778147150223860 := ()
def tw18391109804499982433 := ()
def tw2001419968430312521 := ()
def tw3206576031924005690 := ()
def tw15370653644338215821 := ()
def tw15663980602284596982 := ()
def tw6328093867999951625 := ()
def tw16257230465716699654 := ()
def tw18278023054229939816 := ()
def tw7908677594093467127 := ()
def tw10955692411803811115 := ()
def tw4168399449507294814 := ()
def tw17514111438189387479 := ()
def tw12062757083370570228 := ()
def tw14120923728567677942 := ()
def tw16342300122756008404 := ()
def tw6920265859558667632 := ()
def tw8565377579793910526 := ()
def tw5441573574451663828 := ()
def tw1695184283731029406 := ()
def tw9946276360274588076 := ()
def tw10446032544909945637 := ()
def tw16158782236639892974 := ()
def tw10598389175306354181 := ()
def tw14567407928828915457 := ()
def tw5316172439740859632 := ()
def tw16784137350533888134 := ()
def tw4700947573536430744 := ()
def tw16239113390235154619 := ()
def tw12328995798025067347 := ()
def tw3312121627795852477 := ()
def tw3173616600190031922 := ()
def tw11747075843835259308 := ()
def tw1136952995148811981 := ()
def tw1245510452250292684 := ()
def tw2923271796126958106 := ()
def tw14973778535506195712 := ()
def tw3597240634775026934 := ()
def tw17229812263676585742 := ()
def tw10316192593856663371 := ()
def tw3915434734347807007 := ()
def tw1265781991512853440 := ()
def tw1265157392368837239 := ()
def tw5983456210452281217 := ()
def tw16052144990700832315 := ()
def tw12660096977548175453 := ()
def tw9300189205047991319 := ()
def tw11267122869337115485 := ()
def tw17751695730343459986 := ()
def tw11211237229454168118 := ()
def tw10173214406058731160 := ()
def tw5567782129208070781 := ()
def tw17366236827738028338 := ()
def tw16935871431868488064 := ()
def tw3992107305806120766 := ()
def tw2612018998178730106 := ()
def tw3605064755821957321 := ()
def tw10954304423187612655 := ()
def tw17724865390528927599 := ()
def tw2228826580145334123 := ()
def tw9839441665736203737 := ()
def tw2271036710727658351 := ()
def tw3741584231713411352 := ()
def tw9587855527331751854 := ()
def tw17492802920811760533 := ()
def tw9095974078330800366 := ()
def tw4952852565002202808 := ()
def tw9994472853633977729 := ()
def tw8062635994094270725 := ()
def tw2193375303805650275 := ()
def tw8582753627130861770 := ()
def tw9764901202137462539 := ()
def tw17348963469482262818 := ()
def tw8283311551895469357 := ()
def tw7461611913887934385 := ()
def tw3596952038311063419 := ()
def tw4200972203618658446 := ()
def tw10073314873881494148 := ()
def tw12935778377745639225 := ()
def tw1604709980494150779 := ()
def tw7231153117564365768 := ()
def tw877170818130622880 := ()
def tw10241596502394622664 := ()
def tw8277142806939477301 := ()
def tw1721416926596207340 := ()
def tw3072171139340757756 := ()
def tw17012527818798985124 := ()
def tw16188174946535494650 := ()
def tw10195167972746294226 := ()
def tw14464544638544802027 := ()
def tw13261449282321402230 := ()
def tw8348860925150712539 := ()
def tw8860452198658946340 := ()
def tw15041884451424804277 := ()
def tw11508545122595058995 := ()
def tw9686056014500020917 := ()
def tw14632442777740084858 := ()
def tw10139301964942483210 := ()
def tw10156972120771526601 := ()
def tw14293170275793224732 := ()
def tw16917311248567542849 := ()
def tw3472378083076001683 := ()
def tw6218961877194926622 := ()
def tw1734316141643331342 := ()
def tw3668220520728418894 := ()
def tw11369518723750095594 := ()
def tw4363440690418404408 := ()
def tw1564203853060428954 := ()
def tw5439719810121071141 := ()
def tw1390133928819761611 := ()
def tw8934007890701328835 := ()
def tw6027985836968786603 := ()
def tw16008442131953442458 := ()
def tw12201923020532308761 := ()
def tw3809062437975587408 := ()
def tw6952321052544076246 := ()
def tw5351897956729666493 := ()
def tw14706956167018360076 := ()
def tw10283767141243302750 := ()
def tw18191651494505299371 := ()
def tw16385209471048286932 := ()
def tw1003622209597986579 := ()
def tw4422408714055123840 := ()
def tw4061032833293266050 := ()
def tw8518242570821420509 := ()
def tw5888859649471889167 := ()
def tw10249290725109191147 := ()
def tw13382633844784489650 := ()
def tw9409997370663639492 := ()
def tw11597323302852530453 := ()
def tw2431616224602574729 := ()
def tw15367384723592815509 := ()
def tw13498269621939001022 := ()
def tw5771927970388466252 := ()
def tw12123653891335031115 := ()
def tw13480138700699864181 := ()
def tw15529209009573962805 := ()
def tw6882883483244279843 := ()
def tw12760886579315013502 := ()
def tw14765042284357757327 := ()
def tw5117588362451999704 := ()
def tw3998186069248690329 := ()
def tw8566656153671540936 := ()
def tw7642612035715568348 := ()
def tw7336720897760826863 := ()
def tw11328604875514691550 := ()
def tw14362796350641687102 := ()
def tw9616220056116514027 := ()
def tw10583183975027751562 := ()
def tw10515877472999522278 := ()
def tw8176507868500496426 := ()
def tw5953752567408166642 := ()
def tw7878314706744904175 := ()
def tw13089803131443828642 := ()
def tw4163935541853353018 := ()
def tw10799936140685169380 := ()
def tw4853984871465359952 := ()
def tw507285226609946980 := ()
def tw17617997853168731325 := ()
def tw18210283771294689609 := ()
def tw9507867283932987496 := ()
def tw5122726742377889023 := ()
def tw7672720219082009063 := ()
def tw7421689983358600238 := ()
def tw763611482505338984 := ()
def tw4112443019853795270 := ()
def tw10217481193051814776 := ()
def tw1206050434598933409 := ()
def tw6260703791388380452 := ()
def tw8416186298815470684 := ()
def tw9315332664807375135 := ()
def tw4722840363235557058 := ()
def tw2299083257805515091 := ()
def tw1799462140363090987 := ()
def tw14930991169844937936 := ()
def tw17010579477385334145 := ()
def tw1926944440082812445 := ()
def tw11696865277897110436 := ()
def tw1743769192401227016 := ()
def tw10436698043334474607 := ()
def tw6502208941486421626 := ()
def tw7943993501691103180 := ()
def tw11516213716663194668 := ()
def tw11670248846216674618 := ()
def tw10392687141755680611 := ()
def tw2292311807069847623 := ()
def tw1760867958799836573 := ()
def tw17047880916810325269 := ()
def tw2737433816440967904 := ()
def tw14791123452852287301 := ()
def tw13774152698638607772 := ()
def tw11192314201526643798 := ()
def tw12226035062546594461 := ()
def tw7461183879370000189 := ()
def tw14121986698158192375 := ()
def tw17004331150523045375 := ()
def tw11941216647272958500 := ()
def tw15182050628876878456 := ()
def tw2132760992160441633 := ()
def tw642757685280985297 := ()
def tw17701087578937125754 := ()
def tw534510794088256485 := ()
def tw742841172023792451 := ()
def tw18003998302234196597 := ()
def tw11996410570456186415 := ()
def tw1142569849725512576 := ()
def tw6169135780816791114 := ()
def tw1991997589008111330 := ()
def tw804929944296189782 := ()
def tw2929548638867089267 := ()
def tw1584848666175199446 := ()
def tw4313044621792941237 := ()
def tw16860973820020833555 := ()
def tw2798437977607875757 := ()
def tw14827782713748850910 := ()
def tw5060090177352715980 := ()
def tw11316074691984263435 := ()
def tw15788872159394854532 := ()
def tw10972996221473895161 := ()
def tw459387678030597208 := ()
def tw14644321178251861157 := ()
def tw17662544412902615592 := ()
def tw11186396117755804221 := ()
def tw10728998551205999253 := ()
def tw694312040691270256 := ()
def tw11066745175078754821 := ()
def tw327763130843142378 := ()
def tw12131553478354334928 := ()
def tw11697978288424573548 := ()
def tw3705660704145432576 := ()
def tw2849435618048442655 := ()
def tw10688042440336861899 := ()
def tw11228813253042198810 := ()
def tw11603456280920675027 := ()
def tw487379398032878934 := ()
def tw13803888494440173988 := ()
def tw4513189410703559741 := ()
def tw4237168947563674172 := ()
def tw8003971231191868346 := ()
def tw1831032211435622461 := ()
def tw7110388455677342787 := ()
def tw7485955276276508332 := ()
def tw4573661953304657613 := ()
def tw15240993627198531941 := ()
def tw15508518623326506866 := ()
def tw10185404711609745355 := ()
def tw218734279765700589 := ()
def tw17966329934562985535 := ()
def tw7548959542117254064 := ()
def tw13686676826052260612 := ()
def tw12084740906653516323 := ()
def tw7424017365609996257 := ()
def tw11022792741385394548 := ()
def tw12473722028969293098 := ()
def tw5332533988867628487 := ()
def tw531842366446534702 := ()
def tw7499726884121726828 := ()
def tw5079684741637238652 := ()
def tw16287936478893422986 := ()
def tw7762964820521643476 := ()
def tw7445378381466166724 := ()
def tw8480418117064978300 := ()
def tw7180619309212668692 := ()
def tw6205768538195292136 := ()
def tw14118314870338725148 := ()
def tw7568737861279134609 := ()
def tw16946585060305500550 := ()
def tw5315420985534911147 := ()
def tw12196934764865374978 := ()
def tw17597502045972623613 := ()
def tw8253187009982627847 := ()
def tw1017503362409103834 := ()
def tw5655664227823209174 := ()
def tw4486352006317561423 := ()
def tw13537033827560339785 := ()
def tw12679067329276711713 := ()
def tw3543003932071445430 := ()
def tw12126846272173870846 := ()
def tw17505417209932586334 := ()
def tw17945758601410449178 := ()
def tw17577087109487450250 := ()
def tw3448722091193320669 := ()
def tw17961829871407055902 := ()
def tw16039782310534925164 := ()
def tw17745494903482023432 := ()
def tw14140754569792801312 := ()
def tw10972367205651739512 := ()
def tw6160111998559222126 := ()
def tw10940516428291274487 := ()
def tw521505387298073416 := ()
def tw3498149180410184999 := ()
def tw12718864326260253774 := ()
def tw12153653142558322708 := ()
def tw11579140761718964111 := ()
def tw9416357949491345060 := ()
def tw5302212048642010333 := ()
def tw17295543142971833175 := ()
def tw4913717140915868771 := ()
def tw18021476865382441119 := ()
def tw12296301272170332696 := ()
def tw17271950227632150753 := ()
def tw8332273679983149364 := ()
def tw13482596567181065510 := ()
def tw8471021798583870549 := ()
def tw15251050091707040585 := ()
def tw8387863143606984267 := ()
def tw1087009149899789959 := ()
def tw15025867874797703447 := ()
def tw13646781495502209031 := ()
def tw11697006488077030534 := ()
def tw2766219119934755337 := ()
def tw6198496299595823190 := ()
def tw17826930061747624380 := ()
def tw621236471850057787 := ()
def tw823908718844718464 := ()
def tw16694020648345785375 := ()
def tw1118709366032924591 := ()
def tw6885937090338774112 := ()
def tw5241992687345107193 := ()
def tw18047300920924330869 := ()
def tw10247619831130188652 := ()
def tw17350764334718346722 := ()
def tw10621384745959630819 := ()
def tw6840817075826117688 := ()
def tw16465038751001219638 := ()
def tw11914259597782858888 := ()
def tw18305983592535415549 := ()
def tw2200214624780756082 := ()
def tw11837931589678134597 := ()
def tw544734006196419780 := ()
def tw17847948978455161376 := ()
def tw6638935666888373271 := ()
def tw14717794903540555200 := ()
def tw10086904439082662737 := ()
def tw11575359717982563270 := ()
def tw5995266705113134192 := ()
def tw4606985636249171574 := ()
def tw10187616878979379017 := ()
def tw14052379362093516738 := ()
def tw13981638080229129842 := ()
def tw8794890745631391272 := ()
def tw13478643288245866201 := ()
def tw15090284303712145805 := ()
def tw2140852578611779224 := ()
def tw14763532743192693063 := ()
def tw5323513736572462644 := ()
def tw15334384201345191523 := ()
def tw4089981202715642967 := ()
def tw6139685387221810798 := ()
def tw13753367614682013642 := ()
def tw14979875058291194694 := ()
def tw15583235857351298679 := ()
def tw1799297034188286844 := ()
def tw3756818735495857030 := ()
def tw1813690389097720563 := ()
def tw6602353401012037099 := ()
def tw14666004680645578820 := ()
def tw633130177997636250 := ()
def tw17526845137188174022 := ()
def tw2894585874952344459 := ()
def tw9993108847356738557 := ()
def tw17125434534100058349 := ()
def tw6648708219227795395 := ()
def tw15264964164017943658 := ()
def tw6850143459375857802 := ()
def tw16754186869451352985 := ()
def tw6923036916620934839 := ()
def tw14242324895979776806 := ()
def tw4666725663928739126 := ()
def tw18120086339092148252 := ()
def tw10027425032165560412 := ()
def tw17455174952057720429 := ()
def tw14220288395105731364 := ()
def tw11023736786265033693 := ()
def tw6590407074550463200 := ()
def tw5399585983022276105 := ()
def tw1853307677809554648 := ()
def tw15148572794884746974 := ()
def tw15416252350580055401 := ()
def tw7393597655590357208 := ()
def tw10053393404936443088 := ()
def tw14097287142891198863 := ()
def tw5924025522539324611 := ()
def tw722307136474723507 := ()
def tw12370172606196785675 := ()
def tw7524809671196528438 := ()
def tw8245367045993429893 := ()
def tw7951194851440559091 := ()
def tw9081018768625500847 := ()
def tw2070144461209257175 := ()
def tw1453177619264842206 := ()
def tw17590981059264677573 := ()
def tw5957451829171724092 := ()
def tw13211340774563573609 := ()
def tw399601114976931222 := ()
def tw17754853140002255234 := ()
def tw15038341726755735753 := ()
def tw7268587873714121051 := ()
def tw12774594678951680358 := ()
def tw11314428716995412232 := ()
def tw18122560630861033957 := ()
def tw17246074537408268157 := ()
def tw18108060503815857323 := ()
def tw9253388057462323137 := ()
def tw18234330739204117260 := ()
def tw2319319413876816643 := ()
def tw15534832690027791751 := ()
def tw16701337809849201520 := ()
def tw3027589561050299866 := ()
def tw11797583943032013615 := ()
def tw4291983428997659046 := ()
def tw12374683495094300909 := ()
def tw15378267928307699691 := ()
def tw18336009609023231366 := ()
def tw9771006920126877122 := ()
def tw10592637441455937338 := ()
def tw4064663364525114752 := ()
def tw2100612693539493323 := ()
def tw10812911039385544044 := ()
def tw16984999320899149573 := ()
def tw16732777132289384030 := ()
def tw15866817012660005409 := ()
def tw1404387602178571965 := ()
def tw12323926786786429886 := ()
def tw14794169160516604095 := ()
def tw5747746717343139938 := ()
def tw17260356161541202303 := ()
def tw8674765947710431418 := ()
def tw4719975943022439834 := ()
def tw8589229407805436126 := ()
def tw18422915865830631329 := ()
def tw14853986083362933644 := ()
def tw501467539595217591 := ()
def tw822679371274063587 := ()
def tw11062812574666787751 := ()
def tw1401328504200151447 := ()
def tw368206464418083810 := ()
def tw12340438435265100196 := ()
def tw5953872972299684972 := ()
def tw15158497501114455555 := ()
def tw4398060702664225316 := ()
def tw16667141292815871264 := ()
def tw819452879488021254 := ()
def tw3806895712718801478 := ()
def tw11230523316931760902 := ()
def tw10808446158337331509 := ()
def tw9586553380599118794 := ()
def tw17119065056800020656 := ()
def tw5555142738326406671 := ()
def tw3796447215698291134 := ()
def tw10652850583287749376 := ()
def tw6526490476490765549 := ()
def tw32568042016428496 := ()
def tw9535809584148155352 := ()
def tw4567744518743880700 := ()
def tw4704421840467913347 := ()
def tw2059805900095965464 := ()
def tw14439235172811789214 := ()
def tw7113253051279973552 := ()
def tw3072548454060157596 := ()
def tw17040010960880140419 := ()
def tw717703361290252947 := ()
def tw2345838529348830998 := ()
def tw13671318338536033722 := ()
def tw2551143880597897217 := ()
def tw14438155323855530428 := ()
def tw7646299721539613696 := ()
def tw16244287855017057652 := ()
def tw17676061417157945411 := ()
def tw13070239912887794721 := ()
def tw3624841744299857187 := ()
def tw1546944934640043707 := ()
def tw93918728966909140 := ()
def tw6175866977291714859 := ()
def tw18005896716410743612 := ()
def tw3097875357743217319 := ()
def tw10586290596756425013 := ()
def tw17482944561442038391 := ()
def tw17396804956691924606 := ()
def tw7630123616040020313 := ()
def tw4496117526115684528 := ()
def tw10800423552466306802 := ()
def tw3193256523221929094 := ()
def tw948867644401480738 := ()
def tw13416273432449775760 := ()
def tw622140659311679406 := ()
def tw16919470666815380112 := ()
def tw11107519682458901436 := ()
def tw758057478931699225 := ()
def tw3456658108814734636 := ()
def tw4026694658048962709 := ()
def tw12904681825342175375 := ()
def tw6089979751081136190 := ()
def tw4954277429475051524 := ()
def tw15153110118529996329 := ()
def tw18026990380984808964 := ()
def tw1467411128007987709 := ()
def tw5870325891866338417 := ()
def tw16998436793063080043 := ()
def tw6542979393451129849 := ()
def tw1994917962378229510 := ()
def tw14912071467378215020 := ()
def tw1314649437152411964 := ()
def tw11571192070531661790 := ()
def tw11857138774656891086 := ()
def tw11058982680563199550 := ()
def tw13429053405995263086 := ()
def tw6657082971203085547 := ()
def tw3264561497429262109 := ()
def tw4432171537571540937 := ()
def tw4190126419731133570 := ()
def tw3119446981081905279 := ()
def tw157215763474304121 := ()
def tw11206453288228763974 := ()
def tw9909938996363510488 := ()
def tw14675394604136728002 := ()
def tw11032270783606414318 := ()
def tw5746505581377608116 := ()
def tw15150925104303386027 := ()
def tw5495394858495150554 := ()
def tw14749957927862679885 := ()
def tw6610622221035001553 := ()
def tw14601365561711665482 := ()
def tw5001573319809214138 := ()
def tw8716245002943203613 := ()
def tw17337987807665457803 := ()
def tw9364660272255105499 := ()
def tw7270740060162477663 := ()
def tw10308675820195867567 := ()
def tw14022585022417822050 := ()
def tw7241146466267120127 := ()
def tw13926204107506794658 := ()
def tw3551433723081465414 := ()
def tw3964872683093796477 := ()
def tw25933639058950260 := ()
def tw16605932189736003948 := ()
def tw15540896179030433797 := ()
def tw3914619488824574756 := ()
def tw178755349690822779 := ()
def tw11726193990832874482 := ()
def tw5046332473297443182 := ()
def tw13230291665043475424 := ()
def tw493608381997980616 := ()
def tw1930731166696608779 := ()
def tw16580133040238123583 := ()
def tw16350670729380896789 := ()
def tw15886631251379367932 := ()
def tw16476783254424960672 := ()
def tw532412189193924854 := ()
def tw9858032234102893524 := ()
def tw591371410557184547 := ()
def tw2861987185132572935 := ()
def tw11848239183319492388 := ()
def tw366961815873984220 := ()
def tw5574584909683069652 := ()
def tw11325722590526760949 := ()
def tw12031387923866520616 := ()
def tw14302610727721046365 := ()
def tw4670750519874424235 := ()
def tw17077218926845867660 := ()
def tw8935696602471812609 := ()
def tw8344478790498683125 := ()
def tw8717888446685140812 := ()
def tw16867807199126763273 := ()
def tw694129374174856104 := ()
def tw11859639163182221925 := ()
def tw388956591549934359 := ()
def tw1626744077463293122 := ()
def tw10414320352381924683 := ()
def tw14469561077739400291 := ()
def tw14236987457522447827 := ()
def tw9152757330599742169 := ()
def tw8962963558660260749 := ()
def tw17979433401719080536 := ()
def tw2233366367401134621 := ()
def tw1673672029219410499 := ()
def tw12750039141279309938 := ()
def tw3724949494690546444 := ()
def tw5469010818645678106 := ()
def tw13322207846014722716 := ()
def tw3836370062656269867 := ()
def tw6554124141237582987 := ()
def tw3278529353524819040 := ()
def tw10585001396821267877 := ()
def tw2161056770351201331 := ()
def tw12713873398691495293 := ()
def tw12090635009274968798 := ()
def tw1519124617924184755 := ()
def tw3929881447734028554 := ()
def tw876502919841228462 := ()
def tw7050187915281592961 := ()
def tw2307212973105119983 := ()
def tw7934163760091982393 := ()
def tw2033109955111518101 := ()
def tw6656329287482448675 := ()
def tw5026608739153595550 := ()
def tw944438754734248670 := ()
def tw3237244439662734895 := ()
def tw14139533329269958054 := ()
def tw7112284129701405063 := ()
def tw5446906573420618767 := ()
def tw10526130217293797600 := ()
def tw12531045607206595989 := ()
def tw8416116058177634320 := ()
def tw9835610775815671236 := ()
def tw3965996376474145070 := ()
def tw11675942066523353025 := ()
def tw6259249134509924395 := ()
def tw4590275779524019168 := ()
def tw18429999594181831233 := ()
def tw9438421536227465624 := ()
def tw5058757926831028013 := ()
def tw16086316853538487706 := ()
def tw10494655342569570365 := ()
def tw9306323366816938097 := ()
def tw3358351093794274555 := ()
def tw14133528279795134970 := ()
def tw1111073266354427064 := ()
def tw3928698958007784329 := ()
def tw17383996113604251293 := ()
def tw10663054793357275822 := ()
def tw14178430222579628379 := ()
def tw5230215574527681005 := ()
def tw16578735257998474563 := ()
def tw1915520411495397524 := ()
def tw13431715835831470006 := ()
def tw11010311027458142165 := ()
def tw1521430342514071723 := ()
def tw5098015664919334213 := ()
def tw18229558851116260747 := ()
def tw5899733289915237878 := ()
def tw4593152120474580993 := ()
def tw16109605399857546256 := ()
def tw6782915483389280007 := ()
def tw11656732191150425591 := ()
def tw11779294474081579471 := ()
def tw16066146761237994078 := ()
def tw12528859620943330144 := ()
def tw4415753250511752536 := ()
def tw18410066715878908675 := ()
def tw2393235738094062951 := ()
def tw14166154351561378333 := ()
def tw15813298291407877439 := ()
def tw7281619318937993049 := ()
def tw8169559262675933784 := ()
def tw323201763681020604 := ()
def tw5944121786526650893 := ()
def tw2772805917092112286 := ()
def tw5903345097551499575 := ()
def tw2340659435375376795 := ()
def tw9685633483917997854 := ()
def tw5905859902844694499 := ()
def tw268359256798861930 := ()
def tw10611757258338025753 := ()
def tw4009230373729340768 := ()
def tw3448475270411185441 := ()
def tw11347696478096982024 := ()
def tw14793619846825127428 := ()
def tw13890400522187749304 := ()
def tw11786803106125099496 := ()
def tw174604124012399209 := ()
def tw18103584589144993615 := ()
def tw7548054503774348122 := ()
def tw4689706228022758333 := ()
def tw17267374260784596701 := ()
def tw17924874768140844283 := ()
def tw16017002012994593699 := ()
def tw7985672100997653346 := ()
def tw11955263009024281396 := ()
def tw3551205481138903797 := ()
def tw8181880035884859642 := ()
def tw17590889534106665246 := ()
def tw7862356421116989151 := ()
def tw17915080804934380937 := ()
def tw4877745949138696822 := ()
def tw16914899309192909948 := ()
def tw4568586712035865343 := ()
def tw3133840739399911634 := ()
def tw17563061373067179705 := ()
def tw4560104373361098924 := ()
def tw8764826996211544935 := ()
def tw3483113864692483197 := ()
def tw12572894200227390257 := ()
def tw3512184081665864432 := ()
def tw4687541010862179544 := ()
def tw697198501709205280 := ()
def tw15586347923319435270 := ()
def tw10772952136093457634 := ()
def tw9551661028439206487 := ()
def tw15638756889556579089 := ()
def tw3481111632725383099 := ()
def tw10454620445147379763 := ()
def tw16378369247601054758 := ()
def tw6116343480242078449 := ()
def tw7987354246533546030 := ()
def tw5192051509522079678 := ()
def tw18108288102008827104 := ()
def tw1875308811151559215 := ()
def tw7429018339319147047 := ()
def tw9779362413303104502 := ()
def tw9677815079784318061 := ()
def tw16853638774954360602 := ()
def tw164382527788583420 := ()
def tw3082949094450260295 := ()
def tw5545095645185173491 := ()
def tw5650556652006559220 := ()
def tw1554788252950291538 := ()
def tw16342115467677171086 := ()
def tw8243266569088727981 := ()
def tw3854014258644556470 := ()
def tw17135597780998688925 := ()
def tw9740965512029656323 := ()
def tw8881375363141898354 := ()
def tw5327810037398132269 := ()
def tw851453645456877668 := ()
def tw13636033817821963751 := ()
def tw12424470162150224591 := ()
def tw3628484983771697755 := ()
def tw17975976170764259510 := ()
def tw14856407213510584665 := ()
def tw16080963278898482613 := ()
def tw17212733278067352323 := ()
def tw17900654137053725695 := ()
def tw12892413488629660651 := ()
def tw1200170880434924891 := ()
def tw3526549378364846519 := ()
def tw5586605599046105040 := ()
def tw4131783349876050636 := ()
def tw277625577805361093 := ()
def tw16664836288359019822 := ()
def tw5542329516191433047 := ()
def tw14081209539939365491 := ()
def tw4203086934673510066 := ()
def tw5852431007012028357 := ()
def tw1092361843388253206 := ()
def tw16832887004429474047 := ()
def tw2771511717613910937 := ()
def tw3956349097500193306 := ()
def tw8158660006443889731 := ()
def tw15411782733761824023 := ()
def tw16310313747078638926 := ()
def tw16341108436247274804 := ()
def tw9416655028545040635 := ()
def tw8857240850513719113 := ()
def tw4458733113437322721 := ()
def tw11121768851107125929 := ()
def tw12871510014949120841 := ()
def tw8798274012903731842 := ()
def tw10065999985542388192 := ()
def tw6272288727309371398 := ()
def tw5716289027728519217 := ()
def tw2718936100304619547 := ()
def tw6158158123387938488 := ()
def tw209469995650609626 := ()
def tw11053030915066742546 := ()
def tw15185374484799839579 := ()
def tw3890799348507626632 := ()
def tw3570603274029834688 := ()
def tw2070637507018141456 := ()
def tw5233061150190400743 := ()
def tw11317671598922487002 := ()
def tw8462178856864553746 := ()
def tw11715155664577394272 := ()
def tw12562031740979024244 := ()
def tw12250478186463140078 := ()
def tw3469104748013690377 := ()
def tw4695087692469784638 := ()
def tw4744033061947295229 := ()
def tw6007530616062837885 := ()
def tw4490200014076032553 := ()
def tw17499315546044259134 := ()
def tw17763855459191766568 := ()
def tw6424232348957193700 := ()
def tw17383697765601511714 := ()
def tw12255351981287184630 := ()
def tw12551336860641229153 := ()
def tw13449347685117409067 := ()
def tw880739877133329419 := ()
def tw4222193261952066197 := ()
def tw5701158516263727155 := ()
def tw10721595130237938383 := ()
def tw17205336338825056828 := ()
def tw9153797290828802259 := ()
def tw10055540900042768258 := ()
def tw5297797520805202170 := ()
def tw5044763694224543542 := ()
def tw2144804874641793363 := ()
def tw16461289241532213346 := ()
def tw8619425340676697634 := ()
def tw11524346407531922054 := ()
def tw9895992782839039754 := ()
def tw10953850823899494804 := ()
def tw8814995869927688434 := ()
def tw10104593714129426704 := ()
def tw14123652815419618879 := ()
def tw11718757162680828637 := ()
def tw15259678078921321329 := ()
def tw9214979984041339074 := ()
def tw3944954201742633278 := ()
def tw6184704554261041302 := ()
def tw4804630356865548783 := ()
def tw16234715872454776724 := ()
def tw15212878936582478850 := ()
def tw1305049024494420378 := ()
def tw1162621853793844811 := ()
def tw5070560534745495768 := ()
def tw15192799881951751976 := ()
def tw17033238325647912251 := ()
def tw12445325471395087146 := ()
def tw11954137780838195816 := ()
def tw16944455388184766203 := ()
def tw4817386994116878044 := ()
def tw8032945704864452368 := ()
def tw7329335840753294263 := ()
def tw1757716199432140689 := ()
def tw18069154450435475427 := ()
def tw10130276810225286539 := ()
def tw15285386289703116366 := ()
def tw7582360215573079948 := ()
def tw12731067218913305022 := ()
def tw7440439738901297245 := ()
def tw15729299717844879277 := ()
def tw10276596955231057283 := ()
def tw4697842776710073197 := ()
def tw10394551107713881004 := ()
def tw7999903200981089096 := ()
def tw6137589031796830678 := ()
def tw10755160275350899477 := ()
def tw606300595725088973 := ()
def tw3990522873137954788 := ()
def tw4323592977226592379 := ()
def tw4968606899873646335 := ()
def tw2143330689559602865 := ()
def tw2006777118899187741 := ()
def tw4187111839685101010 := ()
def tw1761204159362673226 := ()
def tw3916446521082328991 := ()
def tw1170605427588161018 := ()
def tw370720907946706872 := ()
def tw5065757030674344589 := ()
def tw5987716715312395657 := ()
def tw15863845833457357824 := ()
def tw12302075525641799096 := ()
def tw2641923851814947221 := ()
def tw5155128640818782908 := ()
def tw10652030868738979019 := ()
def tw311494976381750913 := ()
def tw8111871503973304064 := ()
def tw5302032555136948302 := ()
def tw4794106862590222781 := ()
def tw5606665892633616241 := ()
def tw5466090383282308070 := ()
def tw10893864461145607128 := ()
def tw7656511492197045027 := ()
def tw4806315726512048195 := ()
def tw15661779574118775757 := ()
def tw10203572736526137150 := ()
def tw16334431879659533563 := ()
def tw8762110838540418423 := ()
def tw10033357304543558557 := ()
def tw10035195429830992443 := ()
def tw17629681411122952040 := ()
def tw7847944201895523690 := ()
def tw14086159584002915466 := ()
def tw5330104920093847621 := ()
def tw2678725509447346184 := ()
def tw3530341638428796916 := ()
def tw7442369691975630685 := ()
def tw9392811628417941619 := ()
def tw6468868782133279827 := ()
def tw81735404978051425 := ()
def tw9300340082418626531 := ()
def tw2386658826854400470 := ()
def tw7547337393883599217 := ()
def tw11653559169870498812 := ()
def tw2875670949146253800 := ()
def tw3134626128761816676 := ()
def tw1128452156033413502 := ()
def tw6092129891930439997 := ()
def tw5826785571495674242 := ()
def tw4873887889398242730 := ()
def tw17701118961116880215 := ()
def tw10277353110646469009 := ()
def tw17664990318349288793 := ()
def tw17908684468221565806 := ()
def tw11808800418925002924 := ()
def tw5436490681294386533 := ()
def tw7708159243537794886 := ()
def tw16995088009531232966 := ()
def tw11743172097639080129 := ()
def tw3309944675313496502 := ()
def tw16969443758247588060 := ()
def tw18103079964547898733 := ()
def tw9254487797887481714 := ()
def tw18175344694357872305 := ()
def tw17096342121282547193 := ()
def tw18379563904285839961 := ()
def tw8549684070985695973 := ()
def tw4189823403250005066 := ()
def tw16307285753849076052 := ()
def tw6034754480690173472 := ()
def tw17593521502013268845 := ()
def tw14314442131692171641 := ()
def tw8643933195281999493 := ()
def tw7788343053879642149 := ()
def tw15627109217055282372 := ()
def tw12946822311796201216 := ()
def tw2101353717684128692 := ()
def tw7817811233323397382 := ()
def tw10130174886053949864 := ()
def tw5391549359352048853 := ()
def tw13102443696247548882 := ()
def tw11304952619640579527 := ()
def tw5609715516042094930 := ()
def tw17641757369282586211 := ()
def tw1973596205553711252 := ()
def tw16718100778888288664 := ()
def tw5183397928498729902 := ()
def tw4605833262023425469 := ()
def tw14221919173638164552 := ()
def tw2892937562533896053 := ()
def tw6161831227565114054 := ()
def tw7411349092719256197 := ()
def tw13035499531389638364 := ()
def tw3636034429039862949 := ()
def tw6122926928011119062 := ()
def tw12826461028179782639 := ()
def tw8776542226705572416 := ()
def tw9246951592864845389 := ()
def tw1437188563668157850 := ()
def tw5322351628078736452 := ()
def tw8103788850045343680 := ()
def tw17772357637654529844 := ()
def tw3245825121493024020 := ()
def tw1262519568658010997 := ()
def tw16619959961297266551 := ()
def tw15134678228624496666 := ()
def tw3937199686915056085 := ()
def tw13557763359743763286 := ()
def tw13525351432663033215 := ()
def tw4532382623180334898 := ()
def tw12775862348424217092 := ()
def tw13225166531705937468 := ()
def tw17426795314757075122 := ()
def tw14862131714446660244 := ()
def tw8099967459122266429 := ()
def tw5851467311967472205 := ()
def tw13997645607832898544 := ()
def tw17611181286043052799 := ()
def tw9940350955649889630 := ()
def tw9803501649847876133 := ()
def tw11945754602281844424 := ()
def tw14594046548452656954 := ()
def tw6531533811017767581 := ()
def tw17236672926982903295 := ()
def tw3452017119716144707 := ()
def tw14732501432825336875 := ()
def tw12013690303791334078 := ()
def tw564639556085560494 := ()
def tw13126349026528442273 := ()
def tw16216235562331303839 := ()
def tw1130082948644007085 := ()
def tw6169488470694086471 := ()
def tw1673467311817693367 := ()
def tw1855480439193732518 := ()
def tw15032262708202305555 := ()
def tw17415069648653687676 := ()
def tw16834467876371005882 := ()
def tw13515794661723420203 := ()
def tw12665287505912227657 := ()
def tw6934392558053873824 := ()
def tw11415788892265271370 := ()
def tw8431396983280782285 := ()
def tw13792241550045665891 := ()
def tw5782068063506852000 := ()
def tw3266759232117984823 := ()
def tw15983641068365455860 := ()
def tw1977370522034743896 := ()
def tw7371892630316771550 := ()
def tw7084548032267683043 := ()
def tw11959946709997956996 := ()
def tw15537539276614598997 := ()
def tw3211905771438870469 := ()
def tw5763643940392728479 := ()
def tw13423363975387381109 := ()
def tw17291725657740745935 := ()
def tw7577670944547123615 := ()
def tw6229761715325896416 := ()
def tw682578588792884909 := ()
def tw9595769412769708133 := ()
def tw12545086232202275131 := ()
def tw7201410728964835738 := ()
def tw7988539115889288942 := ()
def tw17933764265272311911 := ()
def tw8924813588786891918 := ()
def tw15355181056493517678 := ()
def tw6326778132136922996 := ()
def tw6503687279117135790 := ()
def tw18128738044483347576 := ()
def tw9527869232482778056 := ()
def tw14233292746393083713 := ()
def tw10476572794224086467 := ()
def tw12362366796687220508 := ()
def tw13343661114592616586 := ()
def tw706176083951651951 := ()
def tw15666138205687447733 := ()
def tw2211442304753568251 := ()
def tw13454122173675812364 := ()
def tw7698088337355871399 := ()
def tw14151938398266817577 := ()
def tw9938317539371430624 := ()
def tw2250681492578535024 := ()
def tw14289303773297922772 := ()
def tw5172797528951667149 := ()
def tw13076909694677224204 := ()
def tw16686773343890106305 := ()
def tw5615802389730085889 := ()
def tw4605385170168791603 := ()
def tw15199492019254096152 := ()
def tw8340170506198259262 := ()
def tw732930972678831950 := ()
def tw4460396693032446153 := ()
def tw3358034505703695279 := ()
def tw1303311234659527601 := ()
def tw4518909720229591518 := ()
def tw10265210905405828755 := ()
def tw14382797428637646378 := ()
def tw14851959961231004433 := ()
def tw5672084347202381469 := ()
def tw195155976185810639 := ()
def tw2624360011017905648 := ()
def tw1286558982111280121 := ()
def tw7644587821490150463 := ()
def tw5425044660700370900 := ()
def tw4875035072077636485 := ()
def tw2502494706167953521 := ()
def tw9757960583792446461 := ()
def tw95441989807245612 := ()
def tw18148099734777419284 := ()
def tw4230810945796733167 := ()
def tw18034178659948864522 := ()
def tw12228054989749223580 := ()
def tw7973141373627448453 := ()
def tw7905702512916058483 := ()
def tw7082193900456336813 := ()
def tw2652418267682643337 := ()
def tw2124547012097599456 := ()
def tw139659570325585665 := ()
def tw2476513265722514840 := ()
def tw5940730781639274750 := ()
def tw13991730665693227287 := ()
def tw5273184197945660004 := ()
def tw2750453160507924629 := ()
def tw2813288937153767854 := ()
def tw4857118626877724655 := ()
def tw16205625131185739560 := ()
def tw17724113487326100895 := ()
def tw18398060720568932736 := ()
def tw18042782153350874808 := ()
def tw5159205040624136440 := ()
def tw13917694001018692074 := ()
def tw2881873087164031068 := ()
def tw6702213161660969023 := ()
def tw16977860969622450388 := ()
def tw1780860470664330495 := ()
def tw3270079369543615052 := ()
def tw16712106539017212098 := ()
def tw4645018840711520751 := ()
def tw18257217857918370829 := ()
def tw12090601249142595447 := ()
def tw17919394436753759317 := ()
def tw13423879113490434702 := ()
def tw9303186970003904221 := ()
def tw721875196967713475 := ()
def tw18033749577402694980 := ()
def tw7415763181966792258 := ()
def tw15966612386382071565 := ()
def tw17303016404590934914 := ()
def tw6126815134965658327 := ()
def tw12500842507126763068 := ()
def tw5193521562213612518 := ()
def tw7577919437733919455 := ()
def tw12418454413531616328 := ()
def tw6872606566241530982 := ()
def tw8856922643279126733 := ()
def tw13604550318717536333 := ()
def tw1885375695959663787 := ()
def tw5346101534168551144 := ()
def tw1304736255052323020 := ()
def tw14086569697477729388 := ()
def tw2110149819945577461 := ()
def tw6159261107636994484 := ()
def tw9661810153946244668 := ()
def tw2820898347731085733 := ()
def tw10255794906237096249 := ()
def tw11103484403243913458 := ()
def tw570830412169224062 := ()
def tw13995705809284539847 := ()
def tw17309654961119433597 := ()
def tw15705407085855787134 := ()
def tw4559045689404248489 := ()
def tw10341434037933229202 := ()
def tw16376399831534562218 := ()
def tw17024510180958245668 := ()
def tw15544288332325724219 := ()
def tw6564186502525601685 := ()
def tw15100864026112438938 := ()
def tw7976216038785517278 := ()
def tw3039660100736013519 := ()
def tw13388841173958141937 := ()
def tw16182581420584688516 := ()
def tw3500256780658065210 := ()
def tw7726625941912095062 := ()
def tw9774090757328252735 := ()
def tw17776160105026616951 := ()
def tw5704133139519928838 := ()
def tw15900136213091642128 := ()
def tw11007381347338707159 := ()
def tw14697757505615298945 := ()
def tw15851727877320897202 := ()
def tw16833461579060200107 := ()
def tw6800163398999741586 := ()
def tw2699708465662695119 := ()
def tw93575076336667366 := ()
def tw10154847853470532094 := ()
def tw3889834754435844283 := ()
def tw14470636990731756394 := ()
def tw5225784572859644989 := ()
def tw379005656824139638 := ()
def tw12112812156851417018 := ()
def tw296770717981844635 := ()
def tw14758939693246657013 := ()
def tw16735127127002002245 := ()
def tw5322434838152333187 := ()
def tw8421220691859241414 := ()
def tw15113344382377890058 := ()
def tw14202596019078814393 := ()
def tw16080138894129636389 := ()
def tw1104255459660063063 := ()
def tw17836758934739290500 := ()
def tw5054104994162244960 := ()
def tw8293591626863923848 := ()
def tw6489435902131800370 := ()
def tw6188552518471429115 := ()
def tw14366882247301288691 := ()
def tw2140058142271682005 := ()
def tw9442581770523633587 := ()
def tw13740736866935072367 := ()
def tw9451112210500716233 := ()
def tw5873428953659484208 := ()
def tw12043371242782405575 := ()
def tw9386762180386765373 := ()
def tw8177052332630267726 := ()
def tw805019785226194501 := ()
def tw16063786793674966928 := ()
def tw14778773642591828274 := ()
def tw12838848905134191116 := ()
def tw13277309765265390120 := ()
def tw7157632899408048529 := ()
def tw3393695925050248128 := ()
def tw7259098407519793846 := ()
def tw3567233528892317899 := ()
def tw15562818343937163394 := ()
def tw5407995613810472086 := ()
def tw9555916816534600233 := ()
def tw14453140036769201311 := ()
def tw9148338162936539092 := ()
def tw6107190829116081876 := ()
def tw3868248248801503794 := ()
def tw838898956203368563 := ()
def tw9786050110091304290 := ()
def tw2108891920223340022 := ()
def tw15580642381093934247 := ()
def tw16682346693213033693 := ()
def tw6085416917518646058 := ()
def tw12689721415475727330 := ()
def tw5466771044246404048 := ()
def tw1809789897211114960 := ()
def tw9899630029761000626 := ()
def tw12213353261753331616 := ()
def tw11906021542407040761 := ()
def tw14293337081999817214 := ()
def tw17456527081835204693 := ()
def tw1788073826246865729 := ()
def tw10568500737958005877 := ()
def tw17056659337281269422 := ()
def tw17869899435323440881 := ()
def tw17378175397782961994 := ()
def tw1346738800709673289 := ()
def tw9375548154903386303 := ()
def tw14496803082174200734 := ()
def tw12718387059644700820 := ()
def tw14451736329293478191 := ()
def tw5583120372720811106 := ()
def tw15437648048875874126 := ()
def tw3756395383552169234 := ()
def tw874233276677618433 := ()
def tw5241935222500912091 := ()
def tw9703775071380836750 := ()
def tw6354572546678268375 := ()
def tw11781866472951683597 := ()
def tw2844951826882241731 := ()
def tw7080865668851387858 := ()
def tw15094055521281357498 := ()
def tw14042355460019103052 := ()
def tw1842749386946213327 := ()
def tw9659099540633310910 := ()
def tw6425209088816535161 := ()
def tw16706574385680243122 := ()
def tw14438571460377806361 := ()
def tw73554826431808966 := ()
def tw10673629016734539047 := ()
def tw14367840001415076393 := ()
def tw8824846989862382468 := ()
def tw2828937937760456449 := ()
def tw7074697423932887156 := ()
def tw10353158362934716984 := ()
def tw1865653037802162348 := ()
def tw13921173316470110413 := ()
def tw16680375499362500714 := ()
def tw17628540929820918296 := ()
def tw6008320826391589705 := ()
def tw12783770830882890012 := ()
def tw13453009794740364730 := ()
def tw2770132425089481945 := ()
def tw3650924401400596115 := ()
def tw9349547476711013908 := ()
def tw9455701589714207345 := ()
def tw9811325452656797927 := ()
def tw14460155144853371974 := ()
def tw9471164039234343818 := ()
def tw12474046996711663051 := ()
def tw17615220187765823322 := ()
def tw8566718438938084952 := ()
def tw10893928862519808453 := ()
def tw17683115762787795830 := ()
def tw5183117082697753499 := ()
def tw7670245966738400229 := ()
def tw4049497608619246006 := ()
def tw14225917188359585020 := ()
def tw7639368212979649900 := ()
def tw15473197948708225858 := ()
def tw7874041441254596185 := ()
def tw3602885406189716813 := ()
def tw7227268379651703600 := ()
def tw3524990021065047721 := ()
def tw6785514318582177033 := ()
def tw7368927074002160021 := ()
def tw1729000408300542159 := ()
def tw12543513758326347541 := ()
def tw16612748648317720975 := ()
def tw6770469956729344421 := ()
def tw13067830473876612000 := ()
def tw12766941129870616133 := ()
def tw15383321570841818846 := ()
def tw964137178708196221 := ()
def tw12479936369979559980 := ()
def tw3412150688332666955 := ()
def tw10421528906217968042 := ()
def tw13091269068176442173 := ()
def tw6248152413775663013 := ()
def tw14946498134367959064 := ()
def tw14916677082746361651 := ()
def tw5121679690020612562 := ()
def tw18008678055740326618 := ()
def tw15096415335044304181 := ()
def tw13845348029262102036 := ()
def tw2635429089468042314 := ()
def tw15859578955743005339 := ()
def tw16799580622056827897 := ()
def tw12990114632361595333 := ()
def tw17640019680428654527 := ()
def tw10667183418744329204 := ()
def tw3624010526479915011 := ()
def tw12683843743646173849 := ()
def tw2599621625606571830 := ()
def tw309876593211774187 := ()
def tw12013258016410324329 := ()
def tw2338422407572782268 := ()
def tw653066907253114922 := ()
def tw6675565847543310948 := ()
def tw4667184552762371417 := ()
def tw2301232105307776098 := ()
def tw15312682306399328126 := ()
def tw6399909291142858070 := ()
def tw17672631920677929026 := ()
def tw2512852981769091215 := ()
def tw6359355338194999123 := ()
def tw523116288614741247 := ()
def tw11525238827992666591 := ()
def tw6156331460139067792 := ()
def tw6859202504294075753 := ()
def tw909387254110471534 := ()
def tw1857907058724181466 := ()
def tw5037621549956939310 := ()
def tw8573039288325122516 := ()
def tw9634382518939336230 := ()
def tw16237639695416788127 := ()
def tw10181356897874648679 := ()
def tw6909286501492942224 := ()
def tw5724390673842911797 := ()
def tw6825190356792047819 := ()
def tw10859479337518346270 := ()
def tw15984719626752102623 := ()
def tw501219797401158520 := ()
def tw4863098687617659861 := ()
def tw12161088850407755009 := ()
def tw1004376338639104179 := ()
def tw9490178233448933755 := ()
def tw17676823358960617551 := ()
def tw4263280330725320361 := ()
def tw15618787727396952653 := ()
def tw16980985916684055535 := ()
def tw16602790855919801244 := ()
def tw586310655925888012 := ()
def tw12133498507964350582 := ()
def tw1546353436465410384 := ()
def tw10554980662060175249 := ()
def tw15123799793436829698 := ()
def tw11683459421495754571 := ()
def tw12876534002637736430 := ()
def tw2087659610611864137 := ()
def tw5816189740139080649 := ()
def tw4504860497153314637 := ()
def tw12938665455045857524 := ()
def tw14188504308557281277 := ()
def tw6318482944562062190 := ()
def tw13261572472153691490 := ()
def tw11834978763031140624 := ()
def tw8290545086415847649 := ()
def tw15274263148314480801 := ()
def tw14133934294174921931 := ()
def tw8530492118773889712 := ()
def tw7312249356345491402 := ()
def tw9327180792918067742 := ()
def tw6965130404899086748 := ()
def tw595187148128686833 := ()
def tw10649137525061032017 := ()
def tw6120579560378461931 := ()
def tw9598313960569246472 := ()
def tw8240817120395479985 := ()
def tw3031676460693586767 := ()
def tw14263174452847296701 := ()
def tw4606264692214166924 := ()
def tw10859284963699387555 := ()
def tw14540948112714435045 := ()
def tw13358412909293615307 := ()
def tw6128360418517773517 := ()
def tw4156348558775852282 := ()
def tw4952758289107018088 := ()
def tw15826372841796483258 := ()
def tw8967761841685289105 := ()
def tw13703102147004054023 := ()
def tw14735694668338458058 := ()
def tw1193445124467357928 := ()
def tw18111736582868121661 := ()
def tw11814866368954137621 := ()
def tw543691701321251972 := ()
def tw14320106105587575562 := ()
def tw9384401604266710445 := ()
def tw2919761942069223357 := ()
def tw10482506632869711474 := ()
def tw18376057252227688496 := ()
def tw6656820408190946274 := ()
def tw16004253836938322474 := ()
def tw1425652417681197704 := ()
def tw14376404586307237017 := ()
def tw14174433141663713709 := ()
def tw986606883644930570 := ()
def tw15150083889102175529 := ()
def tw5532049644121500049 := ()
def tw17233815569997063110 := ()
def tw4360626691884242144 := ()
def tw11495115286832495152 := ()
def tw3226536889195706784 := ()
def tw11838219369774064034 := ()
def tw2323766921295690517 := ()
def tw14811085760804235968 := ()
def tw18380346089718794742 := ()
def tw2321764043407075842 := ()
def tw8831242899407998769 := ()
def tw1632805679908358576 := ()
def tw7574632418603418990 := ()
def tw11220676971465561139 := ()
def tw5086612215358602001 := ()
def tw11201931298245210952 := ()
def tw11878890375117013449 := ()
def tw15647336935032305234 := ()
def tw15252084292257395097 := ()
def tw2875802821885664450 := ()
def tw8427997420646632037 := ()
def tw2716314095647281832 := ()
def tw7704455924389517843 := ()
def tw8839538440480957889 := ()
def tw8724324583528134121 := ()
def tw6144517901023910580 := ()
def tw1308030086651334288 := ()
def tw15282151751285707126 := ()
def tw16023422374155954858 := ()
def tw16812852131453530330 := ()
def tw3119300308954888515 := ()
def tw7480299129959091829 := ()
def tw1008250106893175816 := ()
def tw11959033457445533026 := ()
def tw12556487704231161426 := ()
def tw17888373186553666669 := ()
def tw14897919849726926528 := ()
def tw14667587113060325098 := ()
def tw9411581290548616070 := ()
def tw2567222763010617770 := ()
def tw10206248615873445500 := ()
def tw8749182407115182091 := ()
def tw5856834669095801380 := ()
def tw17117809841540191022 := ()
def tw17773537298922574335 := ()
def tw12810661412906132812 := ()
def tw895565643108493282 := ()
def tw9783975311336599896 := ()
def tw8290950509154558898 := ()
def tw14658825466265610684 := ()
def tw17462543250750670227 := ()
def tw10369400038297962396 := ()
def tw10582921545504746739 := ()
def tw14233122828069286366 := ()
def tw3499282854834526627 := ()
def tw16366579774475588684 := ()
def tw12496531172250058895 := ()
def tw12132233004086495541 := ()
def tw9924394079370159123 := ()
def tw10178157305331735467 := ()
def tw5414082362311397267 := ()
def tw3949294274341088832 := ()
def tw11674881378749729010 := ()
def tw5360145631118695112 := ()
def tw12967122216038575721 := ()
def tw5113227656767164970 := ()
def tw371002939958072543 := ()
def tw18187804991854079303 := ()
def tw7081676881155641001 := ()
def tw12935086023149822998 := ()
def tw4161428605669412237 := ()
def tw10046164404479576286 := ()
def tw7243986755233618421 := ()
def tw8085008979831976359 := ()
def tw8545831332639517906 := ()
def tw6846907300008099490 := ()
def tw945919233044294817 := ()
def tw7909947216160416436 := ()
def tw10802992255243029402 := ()
def tw16297440285804099734 := ()
def tw11546222757800322813 := ()
def tw13218349506930486606 := ()
def tw14230378051243995439 := ()
def tw13106244706300295064 := ()
def tw14433431037794834251 := ()
def tw12171877199383320076 := ()
def tw16325645846667606443 := ()
def tw1712553144436915811 := ()
def tw9923021246399739603 := ()
def tw1576963586061615224 := ()
def tw12242258895249192050 := ()
def tw15459386990939881532 := ()
def tw2343256016550827175 := ()
def tw14694900342925382793 := ()
def tw14621270169040318764 := ()
def tw2497057531644270897 := ()
def tw11984746028188994960 := ()
def tw5191064378041940923 := ()
def tw2165421567296901487 := ()
def tw5184507266128235634 := ()
def tw2707034797554729214 := ()
def tw17818535684784484097 := ()
def tw13515669992948193908 := ()
def tw17489372925181019862 := ()
def tw5963272338503655767 := ()
def tw12627451982054616153 := ()
def tw11469222208910508084 := ()
def tw1280964994492893369 := ()
def tw10469114502775227060 := ()
def tw4270092416811821167 := ()
def tw14206429510351400548 := ()
def tw18292022328038226551 := ()
def tw6191536048721093196 := ()
def tw4462953590044830394 := ()
def tw2609375624141790787 := ()
def tw14927793610396966410 := ()
def tw15031234327578731849 := ()
def tw1256022187012439246 := ()
def tw3579825378092391397 := ()
def tw1609795571805648120 := ()
def tw9538259968309697361 := ()
def tw384271823644844867 := ()
def tw8426164379615283676 := ()
def tw4924924748175586656 := ()
def tw5222397046057383667 := ()
def tw434431607337179220 := ()
def tw15893311066064349702 := ()
def tw13401125883434846988 := ()
def tw10331300845186159803 := ()
def tw7390682107174701263 := ()
def tw13559625454516708332 := ()
def tw13450905315799098407 := ()
def tw8775714983325664489 := ()
def tw1982699384045845595 := ()
def tw61493670119887464 := ()
def tw16829289653478256054 := ()
def tw8445891397379928694 := ()
def tw10869806723668689736 := ()
def tw4715561516240870447 := ()
def tw18386238949464677222 := ()
def tw6421493223371320954 := ()
def tw341332875667533013 := ()
def tw12980076502644038871 := ()
def tw3763513644039519429 := ()
def tw13449242557096432439 := ()
def tw6432943163651298300 := ()
def tw8326185874153452575 := ()
def tw12052380698567344944 := ()
def tw15946480079232318519 := ()
def tw12252062003986238691 := ()
def tw12697248014799949586 := ()
def tw8014600047372731803 := ()
def tw8171789527571131160 := ()
def tw9800678522047691672 := ()
def tw2983971040325190436 := ()
def tw2358291828831011232 := ()
def tw16671699927866181176 := ()
def tw11712290893428277244 := ()
def tw17957491651086093029 := ()
def tw8690434353335665442 := ()
def tw14226783075083488733 := ()
def tw2401707413724873974 := ()
def tw1495506344433537929 := ()
def tw169463585637963296 := ()
def tw17416693722205445227 := ()
def tw12271025137692618245 := ()
def tw17959801901607819631 := ()
def tw6421168464726942097 := ()
def tw11612644118790421444 := ()
def tw2595825312457945781 := ()
def tw11053505714871485146 := ()
def tw13369735519105926769 := ()
def tw10865068865424902390 := ()
def tw9863095520479937964 := ()
def tw16800581410332744457 := ()
def tw12992007702548730204 := ()
def tw12572877229318135562 := ()
def tw13626089056112746569 := ()
def tw14497559510104880123 := ()
def tw7858498970074740675 := ()
def tw612257672996507866 := ()
def tw9427450921824645976 := ()
def tw13270708172242198852 := ()
def tw12130479592368100181 := ()
def tw5801512722142179719 := ()
def tw7007531679040211095 := ()
def tw13308963587840292525 := ()
def tw14796954475504875252 := ()
def tw6161097326076145382 := ()
def tw11038678454340901275 := ()
def tw1251228819087770508 := ()
def tw2933328676250743386 := ()
def tw15967724351770456048 := ()
def tw13041046999316105935 := ()
def tw16339679000644424201 := ()
def tw1561433583276433754 := ()
def tw3608160931387144349 := ()
def tw916659657653280216 := ()
def tw8865483082221980458 := ()
def tw13304961339027633615 := ()
def tw1646760464337981681 := ()
def tw11531513797183864048 := ()
def tw9834171935339461877 := ()
def tw14056516771082452684 := ()
def tw5396826432549842484 := ()
def tw18253469471819033754 := ()
def tw7815241127720721501 := ()
def tw10198297233320113565 := ()
def tw13553510092065025151 := ()
def tw14342122260976298965 := ()
def tw14623424957904238108 := ()
def tw15743094772592840218 := ()
def tw17452394189091456200 := ()
def tw6360334407516768556 := ()
def tw4742211977976238805 := ()
def tw16670398500779270265 := ()
def tw5916988193326871488 := ()
def tw15438284830126958151 := ()
def tw2799073615317344189 := ()
def tw6319072746270470338 := ()
def tw13775660279265066251 := ()
def tw2238660468545951130 := ()
def tw2933351500700197977 := ()
def tw2640604914892922637 := ()
def tw3983525104723609044 := ()
def tw10033591599275288086 := ()
def tw18276141705178598253 := ()
def tw4585592002767164479 := ()
def tw8969803798427380274 := ()
def tw3922524511860182325 := ()
def tw16647914019185116133 := ()
def tw7670795662180992697 := ()
def tw15967788768559827766 := ()
def tw13114836362726664999 := ()
def tw4485834300657681521 := ()
def tw9924686954362116348 := ()
def tw13723345376331901853 := ()
def tw11925185388524247892 := ()
def tw4811430055241036300 := ()
def tw12830387426188338282 := ()
def tw262704637677447916 := ()
def tw9403747570754554465 := ()
def tw11916740350546440026 := ()
def tw4922442973729226972 := ()
def tw14529583216016118523 := ()
def tw3277098306717726239 := ()
def tw1742870499150942484 := ()
def tw13271374378626261862 := ()
def tw18311581798106854361 := ()
def tw2420526833135413255 := ()
def tw17686269095173736988 := ()
def tw11055246732491268921 := ()
def tw9530844528552747924 := ()
def tw5214306141568245663 := ()
def tw1798544117377633163 := ()
def tw13387237012356559867 := ()
def tw11364683272841920444 := ()
def tw14464920067987949934 := ()
def tw8600481871491084081 := ()
def tw13086909193661393294 := ()
def tw17020764311356305846 := ()
def tw13715009735790302905 := ()
def tw9959758189721917329 := ()
def tw12108022808914584929 := ()
def tw17146798953096173357 := ()
def tw16254380620361609793 := ()
def tw13498210273581876372 := ()
def tw8814919330742472612 := ()
def tw8327148641961970753 := ()
def tw9933141702003097948 := ()
def tw2602423361196305307 := ()
def tw10841570357470223327 := ()
def tw13011343339988464460 := ()
def tw7481291054890484040 := ()
def tw14166568306940261167 := ()
def tw15201618803754856972 := ()
def tw8952055369536061457 := ()
def tw10709605282803711645 := ()
def tw17549136813830762282 := ()
def tw12649030131388153967 := ()
def tw11350562761175744520 := ()
def tw812466939992980835 := ()
def tw11101691027286730340 := ()
def tw13268025779173660594 := ()
def tw2259231387061838744 := ()
def tw11126712449951401366 := ()
def tw11142024359897422347 := ()
def tw2264106940764154698 := ()
def tw2228309330774663687 := ()
def tw14768547312969270978 := ()
def tw15404516777463757614 := ()
def tw2033279971915891770 := ()
def tw16117322410233010480 := ()
def tw3113122919187566777 := ()
def tw1342470700402922658 := ()
def tw1805291102857115136 := ()
def tw3879051009125267915 := ()
def tw7674326518325896007 := ()
def tw16621320810556631531 := ()
def tw12086553762232232528 := ()
def tw13285640892141464096 := ()
def tw8007131686703254669 := ()
def tw11030884094214664051 := ()
def tw16326396955528437728 := ()
def tw17490261453043435325 := ()
def tw15707075829864622250 := ()
def tw1149319451923571486 := ()
def tw13265785510094211743 := ()
def tw16717117852769148959 := ()
def tw10033033261452959922 := ()
def tw901945938920429545 := ()
def tw7439028468650018638 := ()
def tw13873252905036346410 := ()
def tw17130633510226029825 := ()
def tw17829996979450508994 := ()
def tw15461605419045551569 := ()
def tw18400020367595491776 := ()
def tw69811616548907500 := ()
def tw43878515278571712 := ()
def tw16812995819654984894 := ()
def tw17410323215810752454 := ()
def tw6339175436004378111 := ()
def tw777139463228604359 := ()
def tw961656130061865279 := ()
def tw79270737607208850 := ()
def tw15099366365607232773 := ()
def tw8596970523008586556 := ()
def tw3942094102825521897 := ()
def tw688835579642166808 := ()
def tw2118937956695650854 := ()
def tw15424501925403267434 := ()
def tw13830147396152741419 := ()
def tw10004850359596299891 := ()
def tw9220656882096955250 := ()
def tw11727890511623742820 := ()
def tw2689625482146199626 := ()
def tw15622467601722807638 := ()
def tw10877209942507829987 := ()
def tw9845779118474674876 := ()
def tw13821283719009740803 := ()
def tw10478202222875936341 := ()
def tw14451674841695094931 := ()
def tw3758347817478558688 := ()
def tw16737838668692532526 := ()
def tw17871559501875365206 := ()
def tw18186319453653439001 := ()
def tw10581981131424787129 := ()
def tw1182870214756551679 := ()
def tw1718899456616736773 := ()
def tw9352492121413208878 := ()
def tw12029805209826804391 := ()
def tw10648347070248878734 := ()
def tw15221720681391385695 := ()
def tw7447072941830735088 := ()
def tw7486440503362694772 := ()
def tw11054659176655094420 := ()
def tw3968763137994132235 := ()
def tw3339840261832605965 := ()
def tw15078760052727956694 := ()
def tw7502369072052694342 := ()
def tw14635420272105691925 := ()
def tw14596821491307855725 := ()
def tw4789342863187901437 := ()
def tw747812968631095243 := ()
def tw8605212403059216116 := ()
def tw4629061777666480931 := ()
def tw17926344852099658935 := ()
def tw4488854448944629005 := ()
def tw16806557750789409879 := ()
def tw3681753964693461023 := ()
def tw16733580001258766737 := ()
def tw10017047552935148372 := ()
def tw12872999418216566074 := ()
def tw3294329209810046976 := ()
def tw11516068049507677684 := ()
def tw6601985001342872955 := ()
def tw9438894169030244767 := ()
def tw10656386559190669268 := ()
def tw956151295938802679 := ()
def tw9187845203715989395 := ()
def tw17267589579958582595 := ()
def tw15888746888764037748 := ()
def tw3824883500097704775 := ()
def tw10971837484533859254 := ()
def tw6062459086344498819 := ()
def tw2189929588612037613 := ()
def tw18199668356220842261 := ()
def tw909885071649325417 := ()
def tw11152414539987754227 := ()
def tw7809100205817619709 := ()
def tw8636667468766203350 := ()
def tw12278223608098668221 := ()
def tw3171077011075860838 := ()
def tw4173924640441396820 := ()
def tw349943502072711358 := ()
def tw15567977451138805178 := ()
def tw13340076206499604317 := ()
def tw13691959057873221977 := ()
def tw8392664097113685600 := ()
def tw13589888389515423514 := ()
def tw5477192350735691973 := ()
def tw15480698557784970938 := ()
def tw1928983448684359366 := ()
def tw11133272459955269792 := ()
def tw3598558188323692341 := ()
def tw4266346459632495273 := ()
def tw7455000827829378191 := ()
def tw5087797255742245720 := ()
def tw17582424991919686978 := ()
def tw12385174102076783069 := ()
def tw3579029805560659092 := ()
def tw17975583554828130462 := ()
def tw1535489842705247650 := ()
def tw4014329590008051147 := ()
def tw15874336459158297587 := ()
def tw4588348584081138277 := ()
def tw11801166697129527843 := ()
def tw12025073550279144206 := ()
def tw7870678980760110841 := ()
def tw15212245044388255456 := ()
def tw4498361218028916455 := ()
def tw14961442496196897391 := ()
def tw16085304275808174593 := ()
def tw6345930039427147533 := ()
def tw12484476314468401884 := ()
def tw225773945496833268 := ()
def tw12592962170842212852 := ()
def tw15160769854996256430 := ()
def tw12453189827265058306 := ()
def tw10073454154088428354 := ()
def tw15158389717427611796 := ()
def tw6598788466764518296 := ()
def tw6476043755353123602 := ()
def tw10403168233968161097 := ()
def tw11064336430821248191 := ()
def tw10530085956465501581 := ()
def tw11655245974695872533 := ()
def tw17394012988758556085 := ()
def tw6322111879979602266 := ()
def tw1457326994909994085 := ()
def tw608414925879393946 := ()
def tw17802446756350836734 := ()
def tw8992537366714160165 := ()
def tw14377935065314631947 := ()
def tw14594073033106007372 := ()
def tw618104264443654615 := ()
def tw8134866692520192793 := ()
def tw7163957343597583328 := ()
def tw4880454439259351750 := ()
def tw8273515810380844373 := ()
def tw2558250433704682079 := ()
def tw6818802744365863392 := ()
def tw6047878339362226918 := ()
def tw10581989322682302456 := ()
def tw11551072578123902921 := ()
def tw10421461365642428425 := ()
def tw1046288751410771524 := ()
def tw16676976268354519949 := ()
def tw12120794595847728438 := ()
def tw16500467768952796655 := ()
def tw2808158608414134554 := ()
def tw13176926894379116765 := ()
def tw14630578181761865157 := ()
def tw2514389026734731872 := ()
def tw9510385971750007894 := ()
def tw1899930555701763141 := ()
def tw10756649211333753093 := ()
def tw15304803597638203354 := ()
def tw1247657351840957159 := ()
def tw18351522917580473422 := ()
def tw7015341470204878534 := ()
def tw16060496801011414940 := ()
def tw13060572101346170276 := ()
def tw13506909650235212829 := ()
def tw8203037989818790356 := ()
def tw8547949175647234711 := ()
def tw229990685587421573 := ()
def tw16152797683975184752 := ()
def tw909914352764340226 := ()
def tw6193777023082423125 := ()
def tw12955918997067349585 := ()
def tw14725072920890721911 := ()
def tw15340541520035055818 := ()
def tw10340685836729722628 := ()
def tw13190659422225415807 := ()
def tw17554436245475272716 := ()
def tw14023306542595487394 := ()
def tw18273425380285691725 := ()
def tw11542279525390108173 := ()
def tw7311601796386070076 := ()
def tw7502732582576490933 := ()
def tw8479495974896228867 := ()
def tw1871039221346987008 := ()
def tw10638707786747138358 := ()
def tw11669180535638076131 := ()
def tw1711741246899000749 := ()
def tw11191495776864352888 := ()
def tw15346852569579236446 := ()
def tw15731604251853128706 := ()
def tw2300610598290652401 := ()
def tw12999788503888324129 := ()
def tw3802211094221070500 := ()
def tw3693794746774031376 := ()
def tw6421110973451174008 := ()
def tw335140268575573962 := ()
def tw1587150398726021087 := ()
def tw8933513189017035226 := ()
def tw8600587260780712545 := ()
def tw5474542299890329640 := ()
def tw15722545148893381411 := ()
def tw9601465100449921109 := ()
def tw1975806578920473184 := ()
def tw3436920606411700818 := ()
def tw8134292302406632730 := ()
def tw2208104044162185032 := ()
def tw7584852878729220005 := ()
def tw11149315022282108105 := ()
def tw4229793097804191083 := ()
def tw14664229982405309243 := ()
def tw18414460345314306678 := ()
def tw17651639909010479212 := ()
def tw17480563627759116554 := ()
def tw6797132726565357632 := ()
def tw16268466490493515817 := ()
def tw5394109006234153260 := ()
def tw14630558320708228788 := ()
def tw14023063026430291843 := ()
def tw2690484107795952863 := ()
def tw9891738770225668046 := ()
def tw14304890388738575867 := ()
def tw14561237574146908908 := ()
def tw1889335350712016738 := ()
def tw3126051682144658100 := ()
def tw10753554146751553900 := ()
def tw1265728221631642665 := ()
def tw2617723525454305469 := ()
def tw426087906948223985 := ()
def tw16286606390975385716 := ()
def tw8683108013038681068 := ()
def tw757758538910375420 := ()
def tw16106390032522151172 := ()
def tw5312913656175335819 := ()
def tw6479915444994305911 := ()
def tw18250419839752635060 := ()
def tw16697071038771979025 := ()
def tw3151186776254847750 := ()
def tw4433676121672277257 := ()
def tw10877419033576393537 := ()
def tw12327276319217432955 := ()
def tw36952130113893787 := ()
def tw639251862568361115 := ()
def tw12442583926987633178 := ()
def tw8195765623437533684 := ()
def tw8677705148744891120 := ()
def tw10819025504925123720 := ()
def tw8674454598010870388 := ()
def tw6161770997894960616 := ()
def tw2768545571571757942 := ()
def tw10669000223792059305 := ()
def tw8309620703722091447 := ()
def tw5517972933511215927 := ()
def tw8987531336777288427 := ()
def tw12524691269227628453 := ()
def tw17019523408741634693 := ()
def tw3236338001622814459 := ()
def tw2125180903643076234 := ()
def tw6745424807075422724 := ()
def tw11931060575083053051 := ()
def tw5509065425260749263 := ()
def tw6745977333068870627 := ()
def tw2580193525528878975 := ()
def tw9448603205541261792 := ()
def tw17398989075526307049 := ()
def tw7716548177439905659 := ()
def tw8235490777845208068 := ()
def tw14624772408916243005 := ()
def tw15286998578947442216 := ()
def tw2610003339322602370 := ()
def tw15188975069862702081 := ()
def tw800219996754449668 := ()
def tw6776070123292403583 := ()
def tw3862216666370718186 := ()
def tw14343062235704571239 := ()
def tw1422891568904398674 := ()
def tw7162230278048458974 := ()
def tw12293980501284765785 := ()
def tw13183539236005801177 := ()
def tw11588344469525218745 := ()
def tw2436796477751375169 := ()
def tw7282092960735924513 := ()
def tw16724823573399924900 := ()
def tw9283073509202152333 := ()
def tw15923035596036239902 := ()
def tw7928876431743601524 := ()
def tw1707501082118738300 := ()
def tw8924097112410664591 := ()
def tw5361824671750210664 := ()
def tw17542710813077922898 := ()
def tw185490836077556739 := ()
def tw7324056730416731705 := ()
def tw16830320059310766499 := ()
def tw17127347974810351188 := ()
def tw5730715109845739666 := ()
def tw6418424630778490607 := ()
def tw4562956346620623597 := ()
def tw4136220605273335580 := ()
def tw8771719394274642502 := ()
def tw14658009142923361705 := ()
def tw13853002035388148133 := ()
def tw15251578917414075945 := ()
def tw14957015873444377689 := ()
def tw11371744587444613771 := ()
def tw1461206877200455607 := ()
def tw6323480370690737437 := ()
def tw13583752872499546635 := ()
def tw9018711559405415961 := ()
def tw2596542299197666748 := ()
def tw15269850898429562409 := ()
def tw7315943943303606653 := ()
def tw7472757202486570430 := ()
def tw3805475758738103439 := ()
def tw6523949211376979876 := ()
def tw1941558413290356617 := ()
def tw7487483492732426348 := ()
def tw6487614605015359269 := ()
def tw4573285934128584789 := ()
def tw5355221662317854871 := ()
def tw7695986518734495727 := ()
def tw9344050180726660632 := ()
def tw13642239062932218889 := ()
def tw3364755840257625685 := ()
def tw8975515910222711986 := ()
def tw6277852013878926410 := ()
def tw12948381485123259968 := ()
def tw14574992958787324460 := ()
def tw12465097728506339217 := ()
def tw4945120748762876764 := ()
def tw15823995890265048559 := ()
def tw11069667783438901907 := ()
def tw382905674742299339 := ()
def tw9290458560397613538 := ()
def tw14651124366995383365 := ()
def tw16227635012085600579 := ()
def tw8294292081655003704 := ()
def tw12214373753269439474 := ()
def tw7320748275327868683 := ()
def tw12320903114617235018 := ()
def tw7091955629470895176 := ()
def tw10470278946645872954 := ()
def tw10393152004107162172 := ()
def tw6820380303028759521 := ()
def tw7420920846524040224 := ()
def tw3946572421784930828 := ()
def tw10961152693329564374 := ()
def tw1889408071488210101 := ()
def tw10318214025028597738 := ()
def tw5099031802095034299 := ()
def tw13214695570552449866 := ()
def tw11942880278699911422 := ()
def tw13116760728620073888 := ()
def tw11464358094017919127 := ()
def tw10555416554004778051 := ()
def tw4650626000614128118 := ()
def tw4218658354077312752 := ()
def tw9650828025197071420 := ()
def tw9436563654370276220 := ()
def tw2355681255302349775 := ()
def tw16433565652341935893 := ()
def tw3681005561116008401 := ()
def tw7000826767346796631 := ()
def tw4457306358160490889 := ()
def tw13141146360899998679 := ()
def tw1782254856978902163 := ()
def tw12516323668962021772 := ()
def tw8282843997752026797 := ()
def tw17639174597232083632 := ()
def tw5448077716840495749 := ()
def tw943387188447925123 := ()
def tw240073650428919350 := ()
def tw16926642557845524850 := ()
def tw15973889058300375087 := ()
def tw12817428937656158477 := ()
def tw4286596193999514664 := ()
def tw15570154520108467582 := ()
def tw4351500427887553132 := ()
def tw10841311277688315608 := ()
def tw13808629425422637467 := ()
def tw3209454383519018257 := ()
def tw3885545904248639031 := ()
def tw17790089165045218331 := ()
def tw12838064629343617056 := ()
def tw6808947365322704530 := ()
def tw1216119920282029591 := ()
def tw15168599109847955806 := ()
def tw15884005645138175481 := ()
def tw18385371895429887158 := ()
def tw18175870233955506826 := ()
def tw18060172642203383559 := ()
def tw14451639096106910667 := ()
def tw11349005918042230419 := ()
def tw9294561291303641233 := ()
def tw16550260424059143592 := ()
def tw9335291896726604774 := ()
def tw955915567793187140 := ()
def tw4232492631625285910 := ()
def tw2249189382642714063 := ()
def tw17217621611690500625 := ()
def tw7311210936014352745 := ()
def tw3168460991721632117 := ()
def tw667885509835411651 := ()
def tw15366977334755111259 := ()
def tw11578652199520896467 := ()
def tw6567292383198762290 := ()
def tw10691656024619170430 := ()
def tw11461422241864986803 := ()
def tw8970242244914219362 := ()
def tw5765534363140518708 := ()
def tw7560029160517090114 := ()
def tw7232402635349063504 := ()
def tw13344764409951224456 := ()
def tw18388473299179629052 := ()
def tw850064939712938287 := ()
def tw4585181388666939151 := ()
def tw16250228180899534552 := ()
def tw10850998595174883272 := ()
def tw7314102770700196934 := ()
def tw11098578894625441230 := ()
def tw7272781845519560419 := ()
def tw15503553388872702709 := ()
def tw9800799137053333210 := ()
def tw17557201087547211461 := ()
def tw18352466185902350974 := ()
def tw10703135587102087082 := ()
def tw3656213956285458175 := ()
def tw7323658134570021243 := ()
def tw7701982836713181815 := ()
def tw16174008567448110089 := ()
def tw3182209769754812582 := ()
def tw10277899428994916473 := ()
def tw14418597415645959356 := ()
def tw3483527655515664336 := ()
def tw9844789236598447851 := ()
def tw16267360124664675203 := ()
def tw13285689040581222761 := ()
def tw1586746850906957569 := ()
def tw4327055612281217228 := ()
def tw9998260965970208801 := ()
def tw3629649394473523289 := ()
def tw17713305464055106632 := ()
def tw11065997974869062895 := ()
def tw636533004466679675 := ()
def tw5829653637263177813 := ()
def tw4997343948625667497 := ()
def tw3363688136218182218 := ()
def tw8730035329631795040 := ()
def tw7915109726251021999 := ()
def tw7481828893469066388 := ()
def tw8556089558975650065 := ()
def tw11539007973532948502 := ()
def tw6943483670984466138 := ()
def tw14025815267117840599 := ()
def tw17271444487657430338 := ()
def tw5701645214555839338 := ()
def tw3713313131268681528 := ()
def tw7929628824196096233 := ()
def tw11599893776831400043 := ()
def tw1283311651148124530 := ()
def tw15106558618970289134 := ()
def tw3878987242100871320 := ()
def tw2637030667465948253 := ()
def tw8128755976229979540 := ()
def tw5871280829585813945 := ()
def tw1941633842480812729 := ()
def tw11793403501375196016 := ()
def tw6108413447446355171 := ()
def tw9328696873240012039 := ()
def tw12136319558772623107 := ()
def tw9793206372269501191 := ()
def tw8357957983108802459 := ()
def tw12269713189512741627 := ()
def tw9745390331360597110 := ()
def tw8104701869297207150 := ()
def tw4757351506770332652 := ()
def tw1604015138896195415 := ()
def tw2238856919285086387 := ()
def tw7202606188835260725 := ()
def tw15540668881563811342 := ()
def tw13207913232473760315 := ()
def tw9124128401944078575 := ()
def tw563798502923695048 := ()
def tw3896885986076816462 := ()
def tw8909716138735732408 := ()
def tw7866134229197586861 := ()
def tw10069778381793000816 := ()
def tw4668006615855360432 := ()
def tw12049825430015740856 := ()
def tw18185653593886355722 := ()
def tw5795315059659536975 := ()
def tw1809933914695498075 := ()
def tw895553824981867712 := ()
def tw18159815634876801274 := ()
def tw3330324935495064697 := ()
def tw5266410706043992024 := ()
def tw15016425804472783364 := ()
def tw12936522969793894873 := ()
def tw7157507276236908418 := ()
def tw17137049357194799457 := ()
def tw9123392862536635764 := ()
def tw10018166629774659787 := ()
def tw15680124144379924572 := ()
def tw11285173065640143775 := ()
def tw2108513663409265154 := ()
def tw8202516874352098584 := ()
def tw17116809676157038007 := ()
def tw12878823745592542744 := ()
def tw10092919096269988040 := ()
def tw16399216139136916292 := ()
def tw15241838607688137021 := ()
def tw9013866626562087737 := ()
def tw13351031595945897317 := ()
def tw8236704938649460943 := ()
def tw10194275521908857941 := ()
def tw6862135463630218788 := ()
def tw9977515264801211997 := ()
def tw14659335660310002814 := ()
def tw17360626661764307265 := ()
def tw8794058324241650443 := ()
def tw16138751718568910667 := ()
def tw15360642971904577945 := ()
def tw1757060555585905649 := ()
def tw3443816386046302103 := ()
def tw14729246164800458475 := ()
def tw13297630156135937382 := ()
def tw11200077870365536917 := ()
def tw1812988518493882924 := ()
def tw17832378807888355692 := ()
def tw12930312556413151165 := ()
def tw3671626265188513738 := ()
def tw1343082839673518541 := ()
def tw7811922959609310579 := ()
def tw6777646114212780774 := ()
def tw1225267373824556094 := ()
def tw5113257564896830275 := ()
def tw12725515424521037490 := ()
def tw2929215262150395486 := ()
def tw10647880426509257103 := ()
def tw1601464865587056308 := ()
def tw13042163281339873828 := ()
def tw6552249446039318900 := ()
def tw12198580555365016891 := ()
def tw8621609613025873728 := ()
def tw9521588108022211729 := ()
def tw1339221490471870277 := ()
def tw2384409210689549398 := ()
def tw8833676708741092236 := ()
def tw6102222436020767774 := ()
def tw9687815602479094687 := ()
def tw4290886752041876061 := ()
def tw16685927314390374011 := ()
def tw2384323293435268024 := ()
def tw13388072861284736254 := ()
def tw1885303230209272889 := ()
def tw16178555029922972404 := ()
def tw8138977318090251926 := ()
def tw18132310769355943268 := ()
def tw11795610096732357126 := ()
def tw10484994710492193283 := ()
def tw6945385845758641513 := ()
def tw11457196751666523123 := ()
def tw4739486914775823518 := ()
def tw6797118861419364478 := ()
def tw4869395388293773566 := ()
def tw656534449252642219 := ()
def tw11307409976599062108 := ()
def tw15060697325866808687 := ()
def tw3362897029350074103 := ()
def tw14948781802092513461 := ()
def tw2518058144367843263 := ()
def tw8111848783786803641 := ()
def tw2016628851663592954 := ()
def tw12112100244633074206 := ()
def tw12045272515288717442 := ()
def tw6946996535946721703 := ()
def tw16718957931409148188 := ()
def tw2501515378862928778 := ()
def tw12155369890336144619 := ()
def tw10069418327312133226 := ()
def tw14207046963567819509 := ()
def tw8233664781987578147 := ()
def tw17752951012984373286 := ()
def tw1711966576638619045 := ()
def tw15227167298926189741 := ()
def tw9134330929308008503 := ()
def tw13920721208497608242 := ()
def tw14513305341479286454 := ()
def tw5878754726799740786 := ()
def tw13108878597837583682 := ()
def tw11740199919253728087 := ()
def tw11052602179363212916 := ()
def tw511133871048767414 := ()
def tw18101601313238362170 := ()
def tw15339216432514325389 := ()
def tw11749544600540340901 := ()
def tw15291417730144262730 := ()
def tw5001543763560799096 := ()
def tw2737283114608293069 := ()
def tw2662973774107042139 := ()
def tw13563874435124390144 := ()
def tw2711518551524234249 := ()
def tw17284479466958731265 := ()
def tw13541315863449119876 := ()
def tw5070680401812658377 := ()
def tw10795173174099930290 := ()
def tw8276453337561374747 := ()
def tw14570607702977378583 := ()
def tw6545195836722492936 := ()
def tw10710332957995332550 := ()
def tw461381121332702120 := ()
def tw17350521941029925114 := ()
def tw18400687106268112963 := ()
def tw7619788467271368952 := ()
def tw1524159625591646275 := ()
def tw9036227136868552948 := ()
def tw14270684410037273794 := ()
def tw3107426568929305551 := ()
def tw12434659007496753038 := ()
def tw13687981026513985925 := ()
def tw3404509055716922568 := ()
def tw9590477402896857302 := ()
def tw17794499165559046883 := ()
def tw1011405139231692509 := ()
def tw1302225366875876174 := ()
def tw5612615654533703156 := ()
def tw1943897168036262985 := ()
def tw1972109596948092554 := ()
def tw15722529893310842551 := ()
def tw11527129344902811758 := ()
def tw7697820811684604202 := ()
def tw13994931167653219234 := ()
def tw12783347326852798299 := ()
def tw787010759539313195 := ()
def tw15434958527451530038 := ()
def tw7825352003528752222 := ()
def tw17861240996306977464 := ()
def tw14844243804566955998 := ()
def tw6624750646230828817 := ()
def tw15486389089385365956 := ()
def tw16714380437548727614 := ()
def tw16193071299801053576 := ()
def tw17827692469757148971 := ()
def tw11436430348931515604 := ()
def tw4243186969926280089 := ()
def tw8673515648953059216 := ()
def tw14433978907330547005 := ()
def tw16447396788461320468 := ()
def tw6566517096515762546 := ()
def tw8172335315227146066 := ()
def tw16425105107715479492 := ()
def tw17472583855006742623 := ()
def tw2731775856615738496 := ()
def tw16388246915396793534 := ()
def tw16084380470990415954 := ()
def tw11566084606163419992 := ()
def tw2002698599761921456 := ()
def tw2983902620208450535 := ()
def tw17335289725936818467 := ()
def tw4367556499740241769 := ()
def tw1709456257226527625 := ()
def tw6573126133997890409 := ()
def tw1924852288983699586 := ()
def tw4355213391828550251 := ()
def tw9089120966532084778 := ()
def tw17074947290130612751 := ()
def tw11812663814026908234 := ()
def tw12705957009857010162 := ()
def tw2856073741040893588 := ()
def tw17729099433930653058 := ()
def tw10621811924461638624 := ()
def tw1330278921531898629 := ()
def tw14362703891039371500 := ()
def tw10476513131490031836 := ()
def tw9181291648420848614 := ()
def tw8220214437457797301 := ()
def tw16502805915552553066 := ()
def tw9651212821510234644 := ()
def tw7560463465145095601 := ()
def tw889338841747683795 := ()
def tw16985653537603996166 := ()
def tw8113079915248088856 := ()
def tw9243942359346568069 := ()
def tw18123460588252181365 := ()
def tw4108911643021055886 := ()
def tw6642922397349729968 := ()
def tw1285931146707637684 := ()
def tw3998475170172335273 := ()
def tw2565167118115842234 := ()
def tw8398255808540491163 := ()
def tw3603983944961430036 := ()
def tw15295020676488595463 := ()
def tw11427560866642188898 := ()
def tw15026090804763619520 := ()
def tw18187022596484986572 := ()
def tw21569703844557909 := ()
def tw14633065650923760655 := ()
def tw17558947152505293057 := ()
def tw4634081358052468260 := ()
def tw13345917290752860209 := ()
def tw10187718840225389167 := ()
def tw1650770946377170091 := ()
def tw6090062842300032345 := ()
def tw14420447482150667155 := ()
def tw6675789686536192355 := ()
def tw368350004789025089 := ()
def tw7829750106900521878 := ()
def tw15136950243966320628 := ()
def tw8325343928482488407 := ()
def tw16672041831485818354 := ()
def tw1470643357252048507 := ()
def tw2716321715316620015 := ()
def tw13935928054227370083 := ()
def tw7424074094547298838 := ()
def tw11186957900855384858 := ()
def tw14377534031853817862 := ()
def tw14176598841297856484 := ()
def tw3630770396272241022 := ()
def tw9582829953426626221 := ()
def tw6122345546041405916 := ()
def tw5850443081480881075 := ()
def tw13225315471513723481 := ()
def tw3667325507095969634 := ()
def tw15582550210018828902 := ()
def tw16339363517255330110 := ()
def tw17421157574283560798 := ()
def tw2862304650938654006 := ()
def tw16332015143822206036 := ()
def tw12534018587923342345 := ()
def tw4743675400088913707 := ()
def tw18305642346828705938 := ()
def tw5316290242352677253 := ()
def tw10626180638444356404 := ()
def tw5428307618373985579 := ()
def tw3663731010824698239 := ()
def tw252413242398846474 := ()
def tw8911545269284033389 := ()
def tw16229861115682593427 := ()
def tw4720612445881183296 := ()
def tw13420104372962298772 := ()
def tw4708177515707242397 := ()
def tw3625615718036672125 := ()
def tw12236324954588386121 := ()
def tw14703177144726723237 := ()
def tw7176891394480425756 := ()
def tw14617592194224798208 := ()
def tw3366079194787429087 := ()
def tw17688227875867783114 := ()
def tw5417364338326710010 := ()
def tw13374410086501200205 := ()
def tw9443331922234721491 := ()
def tw5392073152589428431 := ()
def tw12533734218074837093 := ()
def tw13234443298427297304 := ()
def tw4912914459319723115 := ()
def tw14999278830374216433 := ()
def tw1210382420862169115 := ()
def tw12201423292260998841 := ()
def tw2852068106573365061 := ()
def tw137109458799772815 := ()
def tw6752872892250860690 := ()
def tw13404484628199575559 := ()
def tw2230618000210659740 := ()
def tw16605068130587807578 := ()
def tw7040017506976248083 := ()
def tw13827131459845610538 := ()
def tw1302564247007368651 := ()
def tw12875566099394900297 := ()
def tw16168832037421476465 := ()
def tw14888773263664235265 := ()
def tw16886901222025723902 := ()
def tw7072630337130307712 := ()
def tw825986402850596819 := ()
def tw9027746912385965957 := ()
def tw18105020893267476662 := ()
def tw3372542027861689628 := ()
def tw13103710358064732696 := ()
def tw17123306181664592964 := ()
def tw7031835400659013019 := ()
def tw9038135784185002367 := ()
def tw16492289790263620390 := ()
def tw9892418765614860834 := ()
def tw15155025881929240894 := ()
def tw15066090947864844277 := ()
def tw3936534748442287168 := ()
def tw11340223933956089247 := ()
def tw13927018155269318830 := ()
def tw14229178469422067145 := ()
def tw6255391555783892140 := ()
def tw3177029845188388823 := ()
def tw3851717976413010921 := ()
def tw11202684917548503899 := ()
def tw7028126099514585280 := ()
def tw8826816579964742222 := ()
def tw6907552877082416010 := ()
def tw417192482096997071 := ()
def tw10248152395806091407 := ()
def tw13965844251380220651 := ()
def tw11648197269699541666 := ()
def tw13507442212284093271 := ()
def tw12346850034092609622 := ()
def tw6096551236231780692 := ()
def tw5822837369320613026 := ()
def tw3695799547893529075 := ()
def tw9997734915968695870 := ()
def tw9668833479756445380 := ()
def tw10400633581483210326 := ()
def tw14412795239905111032 := ()
def tw17796768126398553170 := ()
def tw14895025132362968862 := ()
end PySem.W.Fast
set_option maxRecDepth 100000 in
set_option maxHeartbeats 0 in
theorem PySem.Challenge.cw_nearerwork_k11_changes_shown_holds : PySem.Challenge.rw_nearerwork_k11_changes_shown.Holds := by
  w_on; o_law; k_head; (case hw => w_witness2)
  k_fill
  refine Nw.walk (l := PySem.Challenge.rw_nearerwork_k11_changes_shown) rfl rfl (fun w h Y => PySem.W.kIn_of Y) ?F
  case F =>
    intro w mg fa h KX G hmg
    refine' Nw.all_mk KX G hmg ?aN ?pgN ?hdN ?poN ?saN ?mkN ?kcN ?nN_number ?aM ?pgM ?hdM ?poM ?saM ?mkM ?kcM ?nM_name ?aP ?pgP ?hdP ?poP ?saP ?mkP ?kcP ?nP_one ?nP_other ?aI ?pgI ?hdI ?poI ?saI ?mkI ?kcI ?nI_one ?nI_other ?aX ?pgX ?hdX ?poX ?saX ?mkX ?kcX ?nX_one ?nX_other ?aC ?pgC ?hdC ?poC ?saC ?mkC ?kcC ?nC_name ?aU ?pgU ?hdU ?poU ?saU ?mkU ?kcU ?nU_name ?nU_one ?aA ?pgA ?hdA ?poA ?saA ?mkA ?kcA ?nA_name ?nA_one ?nA_other ?aNI ?iNI ?lNI ?cNI ?kNI ?aMI ?iMI ?lMI ?cMI ?kMI ?aTI ?aTII ?aTIX ?iTI ?lTI ?cTI ?kTI ?aTN ?aTNI ?aTNX ?iTN ?lTN ?cTN ?kTN ?aCI ?iCI ?lCI ?cCI ?kCI ?aUI ?iUI ?lUI ?cUI ?kUI ?aAI ?iAI ?lAI ?cAI ?kAI ?aNS ?iNS ?lNS ?cNS ?kNS ?aMS ?iMS ?lMS ?cMS ?kMS ?aPS ?iPS ?lPS ?cPS ?kPS ?aIS ?iIS ?lIS ?cIS ?kIS ?aXS ?iXS ?lXS ?cXS ?kXS ?aNN ?iNN ?lNN ?cNN ?kNN ?aMN ?iMN ?lMN ?cMN ?kMN ?aCN ?iCN ?lCN ?cCN ?kCN ?aUN ?iUN ?lUN ?cUN ?kUN ?aAN ?iAN ?lAN ?cAN ?kAN ?aCS ?iCS ?lCS ?cCS ?kCS ?aUS ?iUS ?lUS ?cUS ?kUS ?aAS ?iAS ?lAS ?cAS ?kAS ?aAt ?lAt ?cAt ?kAt ?aBe ?lBe ?cBe ?kBe ?aDr ?lDr ?cDr ?kDr ?aNa ?lNa ?cNa ?kNa ?aSu ?lSu ?cSu ?kSu ?aTe ?lTe ?cTe ?kTe ?aHa ?lHa ?cHa ?kHa ?aNm ?lNm ?cNm ?kNm ?aRi ?lRi ?cRi ?kRi ?aBr ?lBr ?cBr ?kBr ?aTw ?lTw ?cTw ?kTw ?aL ?lL ?cL ?kL ?z_len ?z_range ?z_isinstance ?z_str ?z_list ?z_max ?z_min ?z_sorted ?z_set ?cmg ?cmr ?cmf
    (case aN => k_is)
    (case pgN => k_is)
    (case hdN => k_is)
    (case poN => k_is)
    (case saN => k_is)
    (case mkN => k_is)
    (case kcN => k_is)
    (case nN_number => k_is)
    (case aM => k_is)
    (case pgM => k_is)
    (case hdM => k_is)
    (case poM => k_is)
    (case saM => k_is)
    (case mkM => k_is)
    (case kcM => k_is)
    (case nM_name => k_is)
    (case aP => k_is)
    (case pgP => k_is)
    (case hdP => k_is)
    (case poP => k_is)
    (case saP => k_is)
    (case mkP => k_is)
    (case kcP => k_is)
    (case nP_one => k_is)
    (case nP_other => k_is)
    (case aI => k_is)
    (case pgI => k_is)
    (case hdI => k_is)
    (case poI => k_is)
    (case saI => k_is)
    (case mkI => k_is)
    (case kcI => k_is)
    (case nI_one => k_is)
    (case nI_other => k_is)
    (case aX => k_is)
    (case pgX => k_is)
    (case hdX => k_is)
    (case poX => k_is)
    (case saX => k_is)
    (case mkX => k_is)
    (case kcX => k_is)
    (case nX_one => k_is)
    (case nX_other => k_is)
    (case aC => k_is)
    (case pgC => k_is)
    (case hdC => k_is)
    (case poC => k_is)
    (case saC => k_is)
    (case mkC => k_is)
    (case kcC => k_is)
    (case nC_name => k_is)
    (case aU => k_is)
    (case pgU => k_is)
    (case hdU => k_is)
    (case poU => k_is)
    (case saU => k_is)
    (case mkU => k_is)
    (case kcU => k_is)
    (case nU_name => k_is)
    (case nU_one => k_is)
    (case aA => k_is)
    (case pgA => k_is)
    (case hdA => k_is)
    (case poA => k_is)
    (case saA => k_is)
    (case mkA => k_is)
    (case kcA => k_is)
    (case nA_name => k_is)
    (case nA_one => k_is)
    (case nA_other => k_is)
    (case aNI => k_is)
    (case iNI => k_is)
    (case lNI => k_is)
    (case cNI => k_is)
    (case kNI => k_is)
    (case aMI => k_is)
    (case iMI => k_is)
    (case lMI => k_is)
    (case cMI => k_is)
    (case kMI => k_is)
    (case aTI => k_is)
    (case aTII => k_is)
    (case aTIX => k_is)
    (case iTI => k_is)
    (case lTI => k_is)
    (case cTI => k_is)
    (case kTI => k_is)
    (case aTN => k_is)
    (case aTNI => k_is)
    (case aTNX => k_is)
    (case iTN => k_is)
    (case lTN => k_is)
    (case cTN => k_is)
    (case kTN => k_is)
    (case aCI => k_is)
    (case iCI => k_is)
    (case lCI => k_is)
    (case cCI => k_is)
    (case kCI => k_is)
    (case aUI => k_is)
    (case iUI => k_is)
    (case lUI => k_is)
    (case cUI => k_is)
    (case kUI => k_is)
    (case aAI => k_is)
    (case iAI => k_is)
    (case lAI => k_is)
    (case cAI => k_is)
    (case kAI => k_is)
    (case aNS => k_is)
    (case iNS => k_is)
    (case lNS => k_is)
    (case cNS => k_is)
    (case kNS => k_is)
    (case aMS => k_is)
    (case iMS => k_is)
    (case lMS => k_is)
    (case cMS => k_is)
    (case kMS => k_is)
    (case aPS => k_is)
    (case iPS => k_is)
    (case lPS => k_is)
    (case cPS => k_is)
    (case kPS => k_is)
    (case aIS => k_is)
    (case iIS => k_is)
    (case lIS => k_is)
    (case cIS => k_is)
    (case kIS => k_is)
    (case aXS => k_is)
    (case iXS => k_is)
    (case lXS => k_is)
    (case cXS => k_is)
    (case kXS => k_is)
    (case aNN => k_is)
    (case iNN => k_is)
    (case lNN => k_is)
    (case cNN => k_is)
    (case kNN => k_is)
    (case aMN => k_is)
    (case iMN => k_is)
    (case lMN => k_is)
    (case cMN => k_is)
    (case kMN => k_is)
    (case aCN => k_is)
    (case iCN => k_is)
    (case lCN => k_is)
    (case cCN => k_is)
    (case kCN => k_is)
    (case aUN => k_is)
    (case iUN => k_is)
    (case lUN => k_is)
    (case cUN => k_is)
    (case kUN => k_is)
    (case aAN => k_is)
    (case iAN => k_is)
    (case lAN => k_is)
    (case cAN => k_is)
    (case kAN => k_is)
    (case aCS => k_is)
    (case iCS => k_is)
    (case lCS => k_is)
    (case cCS => k_is)
    (case kCS => k_is)
    (case aUS => k_is)
    (case iUS => k_is)
    (case lUS => k_is)
    (case cUS => k_is)
    (case kUS => k_is)
    (case aAS => k_is)
    (case iAS => k_is)
    (case lAS => k_is)
    (case cAS => k_is)
    (case kAS => k_is)
    (case aAt => k_is)
    (case lAt => k_is)
    (case cAt => k_is)
    (case kAt => k_is)
    (case aBe => k_is)
    (case lBe => k_is)
    (case cBe => k_is)
    (case kBe => k_is)
    (case aDr => k_is)
    (case lDr => k_is)
    (case cDr => k_is)
    (case kDr => k_is)
    (case aNa => k_is)
    (case lNa => k_is)
    (case cNa => k_is)
    (case kNa => k_is)
    (case aSu => k_is)
    (case lSu => k_is)
    (case cSu => k_is)
    (case kSu => k_is)
    (case aTe => k_is)
    (case lTe => k_is)
    (case cTe => k_is)
    (case kTe => k_is)
    (case aHa => k_is)
    (case lHa => k_is)
    (case cHa => k_is)
    (case kHa => k_is)
    (case aNm => k_is)
    (case lNm => k_is)
    (case cNm => k_is)
    (case kNm => k_is)
    (case aRi => k_is)
    (case lRi => k_is)
    (case cRi => k_is)
    (case kRi => k_is)
    (case aBr => k_is)
    (case lBr => k_is)
    (case cBr => k_is)
    (case kBr => k_is)
    (case aTw => k_is)
    (case lTw => k_is)
    (case cTw => k_is)
    (case kTw => k_is)
    (case aL => k_is)
    (case lL => k_is)
    (case cL => k_is)
    (case kL => k_is)
    (case z_len => k_is)
    (case z_range => k_is)
    (case z_isinstance => k_is)
    (case z_str => k_is)
    (case z_list => k_is)
    (case z_max => k_is)
    (case z_min => k_is)
    (case z_sorted => k_is)
    (case z_set => k_is)
    (case cmg => k_is)
    (case cmr => k_is)
    (case cmf => k_is)
