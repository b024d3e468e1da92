import PyProof.Rows.All
import Wide.All
import OpenK.AllK
import Wide.FinOn
import Lean
import PyProof.EqAt
import PyProof.EqKinds
import PyProof.TupleCall
import PyProof.NeKinds
import KE.IntBitsLaws
import PyProof.ZipIter
import PyProof.StrCalls2
import PyProof.Rows.Range3
import PyProof.ListRange
import PyProof.LongRange
import KE.LcSums
import PyProof.SetKind
import PyProof.DictKinds
import PyProof.DictIter
import PyProof.CollectWalk
import PyProof.FactsAll.set_1
import PyProof.FactsAll.set_2
import PyProof.FactsAll.set_0
import PyProof.Walks
import PyProof.Rows.SortShellK
import PyProof.Rows.SortStr
import PyProof.Rows.SetFrom
import PyProof.DictItems
import PyProof.Rows.FStr
import KE.KIntText
import PyProof.StrLawsTight
import PyProof.StrLawsIdx
import PySem.Challenge.RW_nearerwork_k06_sums_and_sayings_read
noncomputable section
set_option Elab.async false
set_option linter.all false
set_option maxRecDepth 100000
set_option maxHeartbeats 4000000
namespace L2
open PySem PySem.Spec PyProof.Rows
abbrev Key := Sum Int Str
def keyIs : Key → Value → Bool
  | .inl k, v => Value.isInt k v
  | .inr x, v => Value.isStrOf x v
def keyH (w : World) : Key → Int
  | .inl k => hashInt k
  | .inr x => hashStr w x
theorem keyIs_shape : ∀ {k : Key} {v : Value}, keyIs k v = true → (∃ i t, k = Sum.inl i ∧ v = Value.int i t) ∨ (∃ x t, k = Sum.inr x ∧ v = Value.str x t)
  | .inl i, v, h => by
    obtain ⟨t, e⟩ := Value.isInt_shape (k := i) (v := v) h
    exact .inl ⟨i, t, rfl, e⟩
  | .inr x, v, h => by
    obtain ⟨t, e⟩ := Value.isStrOf_shape (x := x) (v := v) h
    exact .inr ⟨x, t, rfl, e⟩
theorem keyIs_int (i : Int) (t : Tok) : keyIs (.inl i) (.int i t) = true := by simp [keyIs, Value.isInt]
theorem keyIs_str (x : Str) (t : Tok) : keyIs (.inr x) (.str x t) = true := by simp [keyIs, Value.isStrOf]
theorem key_ll (a b : Int) : decide ((Sum.inl a : Key) = Sum.inl b) = (a == b) := by
  by_cases e : a = b
  · subst e; simp
  · have h : ¬ (Sum.inl a : Key) = Sum.inl b := fun q => e (Sum.inl.inj q)
    rw [decide_eq_false h]
    exact (beq_eq_false_iff_ne.mpr e).symm
theorem key_rr (a b : Str) : decide ((Sum.inr a : Key) = Sum.inr b) = decide (a = b) := by
  by_cases e : a = b
  · subst e; simp
  · have h : ¬ (Sum.inr a : Key) = Sum.inr b := fun q => e (Sum.inr.inj q)
    rw [decide_eq_false h, decide_eq_false e]
theorem key_lr (a : Int) (b : Str) : decide ((Sum.inl a : Key) = Sum.inr b) = false := decide_eq_false (fun q => nomatch q)
theorem key_rl (a : Str) (b : Int) : decide ((Sum.inr a : Key) = Sum.inl b) = false := decide_eq_false (fun q => nomatch q)
def mixKind (prog : Program) (w : World) : PySem.KeyKind prog w Key where
  is := keyIs
  hash := keyH w
  inj := fun v a b ha hb => by
    rcases keyIs_shape ha with ⟨i, t, rfl, rfl⟩ | ⟨x, t, rfl, rfl⟩
    · rcases keyIs_shape hb with ⟨j, u, rfl, e⟩ | ⟨y, u, rfl, e⟩
      · injection e with e1 _; rw [e1]
      · exact nomatch e
    · rcases keyIs_shape hb with ⟨j, u, rfl, e⟩ | ⟨y, u, rfl, e⟩
      · exact nomatch e
      · injection e with e1 _; rw [e1]
  byValue := fun k v h => by
    rcases keyIs_shape h with ⟨i, t, rfl, rfl⟩ | ⟨x, t, rfl, rfl⟩ <;> rfl
  pyHash := fun hv h => by
    rcases keyIs_shape hv with ⟨i, t, rfl, rfl⟩ | ⟨x, t, rfl, rfl⟩
    · exact wpAny_pyHash_int h
    · exact wpAny_pyHash_str h
  eqBool := fun hu hv h => by
    rcases keyIs_shape hu with ⟨i, t, rfl, rfl⟩ | ⟨x, t, rfl, rfl⟩
    · rcases keyIs_shape hv with ⟨j, u, rfl, rfl⟩ | ⟨y, u, rfl, rfl⟩
      · rw [key_ll] at h; exact wpAny_eqBool_int h
      · rw [key_lr] at h; exact SeqAt.EqAt.int_str i t y u _ _ _ _ h
    · rcases keyIs_shape hv with ⟨j, u, rfl, rfl⟩ | ⟨y, u, rfl, rfl⟩
      · rw [key_rl] at h; exact SeqAt.EqAt.str_int x t j u _ _ _ _ h
      · rw [key_rr] at h; exact wpAny_eqBool_str h
  «strs» := fun k x t v h => by
    rcases keyIs_shape h with ⟨i, u, rfl, e⟩ | ⟨y, u, rfl, e⟩
    · exact nomatch e
    · injection e with e1 _
      subst e1
      cases v <;> rfl
theorem mixKind_int (prog : Program) (w : World) (i : Int) (t : Tok) : (mixKind prog w).is (.inl i) (.int i t) = true := keyIs_int i t
theorem mixKind_str (prog : Program) (w : World) (x : Str) (t : Tok) : (mixKind prog w).is (.inr x) (.str x t) = true := keyIs_str x t
end L2
namespace L2
open PySem PySem.Spec PyProof.Rows
inductive V where
  | non | bl (b : Bool) | int (i : Int) | str (x : Str) | byt (b : Array UInt8) | flt (b : UInt64) | ref (a : Addr) | ty (n : String)
  deriving DecidableEq
def RelV : V → Value → Prop
  | .non, u => u = Value.none
  | .bl b, u => u = Value.bool b
  | .int i, u => ∃ t, u = Value.int i t
  | .str x, u => ∃ t, u = Value.str x t
  | .byt b, u => ∃ t, u = Value.bytes b t
  | .flt b, u => ∃ t, u = Value.float b t
  | .ref a, u => u = Value.ref a
  | .ty n, u => u = Value.type n
abbrev Vals : List V → List Value → Prop := Paired RelV
theorem Vals.length {xs : List V} {us : List Value} (r : Vals xs us) : xs.length = us.length := Paired.length r
theorem Vals.get : ∀ {xs : List V} {us : List Value} {i : Nat} {x : V}, Vals xs us → xs[i]? = some x → ∃ u, us[i]? = some u ∧ RelV x u
  | _, _, _, _, .nil, e => by simp at e
  | _, _, 0, _, .cons r _, e => by simp at e; subst e; exact ⟨_, rfl, r⟩
  | _, _, i + 1, x, .cons _ t, e => by
    obtain ⟨u, h1, h2⟩ := Vals.get (i := i) (x := x) t (by simpa using e)
    exact ⟨u, by simpa using h1, h2⟩
theorem Vals.set {x : V} {u : Value} (r : RelV x u) : ∀ {xs : List V} {us : List Value} (i : Nat), Vals xs us → Vals (xs.set i x) (us.set i u)
  | _, _, _, .nil => .nil
  | _, _, 0, .cons _ t => .cons r t
  | _, _, i + 1, .cons q t => .cons q (Vals.set r i t)
theorem Vals.append : ∀ {xs ys : List V} {us ws : List Value}, Vals xs us → Vals ys ws → Vals (xs ++ ys) (us ++ ws)
  | _, _, _, _, .nil, s => s
  | _, _, _, _, .cons r t, s => .cons r (Vals.append t s)
theorem Vals.take : ∀ {xs : List V} {us : List Value} (n : Nat), Vals xs us → Vals (xs.take n) (us.take n)
  | _, _, 0, _ => .nil
  | _, _, _ + 1, .nil => .nil
  | _, _, n + 1, .cons r t => .cons r (Vals.take n t)
theorem Vals.drop : ∀ {xs : List V} {us : List Value} (n : Nat), Vals xs us → Vals (xs.drop n) (us.drop n)
  | _, _, 0, r => r
  | _, _, _ + 1, .nil => .nil
  | _, _, n + 1, .cons _ t => Vals.drop n t
def RelO : Option V → Option Value → Prop
  | some v, some u => RelV v u
  | none, none => True
  | _, _ => False
def KV {κ : Type} : List (κ × V) → List (κ × Value) → Prop := Paired fun (p : κ × V) (q : κ × Value) => p.1 = q.1 ∧ RelV p.2 q.2
def kV : Key → V
  | .inl i => .int i
  | .inr x => .str x
inductive HO where
  | lst (xs : List V)
  | tup (xs : List V)
  | dK (kvs : List (Key × V)) | dT (kvs : List (List Key × V))
  | set (S : Int → Bool) (n : Nat)
  | ins (C dx : Addr) (fs : List (Str × V))
  | own (x : Addr)
  | xd (fs : List (Str × V))
  | met (f x : Addr)
  | rng (lo hi : Int)
  | frz (o : Obj) (u : HO)
  | tbl (ps : Array Value)
  | ext (φ : Heap → Prop)
abbrev Hp := Addr → Option HO
def upd (H : Hp) (a : Addr) (o : HO) : Hp := fun b => if b = a then some o else H b
theorem upd_same {H : Hp} {a : Addr} {o : HO} : upd H a o a = some o := by unfold upd; rw [if_pos rfl]
theorem upd_ne {H : Hp} {a b : Addr} {o : HO} (h : b ≠ a) : upd H a o b = H b := by unfold upd; rw [if_neg h]
theorem upd_upd {H : Hp} {a : Addr} {o u : HO} : upd (upd H a o) a u = upd H a u := by
  funext b; unfold upd; split <;> rfl
theorem ne_of {H : Hp} {a b : Addr} {o u : HO} (h : H a = some o) (h' : H b = some u) (d : o ≠ u) : a ≠ b := by
  intro e; subst e; rw [h] at h'; exact d (Option.some.inj h')
theorem ne_of_none {H : Hp} {a b : Addr} {o : HO} (h : H a = some o) (h' : H b = none) : a ≠ b := by
  intro e; subst e; rw [h] at h'; cases h'
section
variable (P : Program) (w : World)
def ObjOk (H : Hp) (h : Heap) (a : Addr) : HO → Prop
  | .lst xs => xs.length ≤ sizeLine ∧ ∃ (its : List Value) (n : Nat), Vals xs its ∧ h.get? a = some { cls := .type "list", data := .seq its.toArray n }
  | .tup xs => xs.length ≤ sizeLine ∧ ∃ its : List Value, Vals xs its ∧ IsTup h a its.toArray
  | .dK kvs => kvs.length ≤ sizeLine ∧ (a == sysModules) = false ∧ ∃ vs, KV kvs vs ∧ h.DictOf (mixKind P w) a vs
  | .dT kvs => kvs.length ≤ sizeLine ∧ (a == sysModules) = false ∧ ∃ xs : List (List Key × Addr × Value),
      Paired (fun (p : List Key × V) (q : List Key × Addr × Value) => p.1 = q.1 ∧ H q.2.1 = some (.tup (p.1.map kV)) ∧ RelV p.2 q.2.2) kvs xs ∧
      ∃ o es ep, h.get? a = some o ∧ o.ExactDict ∧ o.data = .dict es ep ∧ es.toList = xs.map (entryOfKey (tupleKind (mixKind P w))) ∧ (xs.map (·.1)).Nodup
  | .set S n => h.SetOf (intKind P w) a S n
  | .ins C dx fs => H dx = some (.own a) ∧ fs.length ≤ 1000 ∧ dx ≠ a ∧ h.get? a = some (PySem.W.instObj C dx) ∧
      ∃ mA, h.Ns1 dx mA ∧ (∀ f, RelO (fs.lookup f) (mA f)) ∧ PySem.Within mA (fs.map (·.1))
  | .own _ => ∃ o, h.get? a = some o
  | .xd fs => ∃ mA, h.Ns1 a mA ∧ ∀ f, RelO (fs.lookup f) (mA f)
  | .rng lo hi => ∃ t u v, h.get? a = some { cls := .type "range", data := .fields #[.int lo t, .int hi u, .int 1 v] }
  | .frz o u => h.get? a = some o ∧ ObjOk H h a u
  | .tbl ps => h.get? a = some { cls := .none, data := .fields ps }
  | .met f x => h.get? a = some (PySem.W.methodObj (.ref f) (.ref x))
  | .ext φ => φ h ∧ (∃ o, h.get? a = some o) ∧ ∀ h1 h2 : Heap, φ h1 → (∀ o, h1.get? a = some o → h2.get? a = some o) → φ h2
def HOk (H : Hp) (h : Heap) : Prop := ∀ a o, H a = some o → ObjOk P w H h a o
end
section
variable {P : Program} {w : World} {H H' : Hp} {h h' : Heap} {a : Addr} {o : HO}
theorem ObjOk.lt (x : ObjOk P w H h a o) : a < h.objs.size := by
  cases o with
  | lst xs => obtain ⟨_, _, _, _, e⟩ := x; exact Heap.lt_size e
  | tup xs => obtain ⟨_, _, _, p⟩ := x; exact p.lt
  | dK kvs => obtain ⟨_, _, _, _, o, _, _, e, _⟩ := x; exact Heap.lt_size e
  | dT kvs => obtain ⟨_, _, _, _, o, _, _, e, _⟩ := x; exact Heap.lt_size e
  | set S n => obtain ⟨o, _, _, _, e, _⟩ := x; exact Heap.lt_size e
  | ins C dx fs => obtain ⟨_, _, _, e, _⟩ := x; exact Heap.lt_size e
  | own y => obtain ⟨_, e⟩ := x; exact Heap.lt_size e
  | xd fs => obtain ⟨_, ⟨_, _, _, e, _⟩, _⟩ := x; exact Heap.lt_size e
  | rng lo hi => obtain ⟨_, _, _, e⟩ := x; exact Heap.lt_size e
  | frz ob u => obtain ⟨e, _⟩ := x; exact Heap.lt_size e
  | tbl ps => exact Heap.lt_size (show h.get? a = some _ from x)
  | met f y => exact Heap.lt_size (show h.get? a = some _ from x)
  | ext φ => obtain ⟨_, ⟨_, e⟩, _⟩ := x; exact Heap.lt_size e
theorem Paired.mapP {α β : Type} {F G : α → β → Prop} : ∀ {l₁ : List α} {l₂ : List β}, Paired F l₁ l₂ → (∀ a b, F a b → G a b) → Paired G l₁ l₂
  | _, _, .nil, _ => .nil
  | _, _, .cons r t, f => .cons (f _ _ r) (Paired.mapP t f)
theorem ObjOk.stay (x : ObjOk P w H h a o) (k : ∀ b u, (b = a ∨ H b = some (.own a)) → h.get? b = some u → h'.get? b = some u)
    (ho : ∀ b, H b = some (.own a) → H' b = some (.own a)) (ht : ∀ b xs, H b = some (.tup xs) → H' b = some (.tup xs)) : ObjOk P w H' h' a o := by
  induction o with
  | lst xs => obtain ⟨z, its, n, r, e⟩ := x; exact ⟨z, its, n, r, k _ _ (.inl rfl) e⟩
  | tup xs => obtain ⟨z, its, r, ob, e, c⟩ := x; exact ⟨z, its, r, ob, k _ _ (.inl rfl) e, c⟩
  | dK kvs => obtain ⟨z, y, vs, r, ob, es, ep, e, c⟩ := x; exact ⟨z, y, vs, r, ob, es, ep, k _ _ (.inl rfl) e, c⟩
  | dT kvs =>
    obtain ⟨z, y, xs, r, ob, es, ep, e, c⟩ := x
    exact ⟨z, y, xs, Paired.mapP r fun p q z => ⟨z.1, ht _ _ z.2.1, z.2.2⟩, ob, es, ep, k _ _ (.inl rfl) e, c⟩
  | set S n => obtain ⟨ob, es, ep, t, e, c⟩ := x; exact ⟨ob, es, ep, t, k _ _ (.inl rfl) e, c⟩
  | ins C dx fs =>
    obtain ⟨d, z, ne, e, mA, ⟨od, es, ep, e2, c⟩, r⟩ := x
    exact ⟨ho _ d, z, ne, k _ _ (.inl rfl) e, mA, ⟨od, es, ep, k _ _ (.inr d) e2, c⟩, r⟩
  | own y => obtain ⟨ob, e⟩ := x; exact ⟨ob, k _ _ (.inl rfl) e⟩
  | xd fs => obtain ⟨mA, ⟨od, es, ep, e, c⟩, r⟩ := x; exact ⟨mA, ⟨od, es, ep, k _ _ (.inl rfl) e, c⟩, r⟩
  | rng lo hi => obtain ⟨t, u, v, e⟩ := x; exact ⟨t, u, v, k _ _ (.inl rfl) e⟩
  | frz ob u ih => obtain ⟨e, q⟩ := x; exact ⟨k _ _ (.inl rfl) e, ih q⟩
  | tbl ps =>
    have e : h.get? a = some { cls := .none, data := .fields ps } := x
    show h'.get? a = some { cls := .none, data := .fields ps }
    exact k a _ (.inl rfl) e
  | met f y =>
    have e : h.get? a = some (PySem.W.methodObj (.ref f) (.ref y)) := x
    show h'.get? a = some (PySem.W.methodObj (.ref f) (.ref y))
    exact k a _ (.inl rfl) e
  | ext φ => obtain ⟨p, ⟨o, e⟩, st⟩ := x; exact ⟨st _ _ p fun o q => k _ _ (.inl rfl) q, ⟨o, k _ _ (.inl rfl) e⟩, st⟩
theorem HOk.lt (x : HOk P w H h) (e : H a = some o) : a < h.objs.size := (x a o e).lt
theorem HOk.fresh (x : HOk P w H h) (e : h.objs.size ≤ a) : H a = none := by
  cases q : H a with
  | none => rfl
  | some u => exact absurd (Nat.lt_of_lt_of_le (x.lt q) e) (Nat.lt_irrefl _)
theorem HOk.kept (x : HOk P w H h) (k : ∀ b u, h.get? b = some u → h'.get? b = some u) : HOk P w H h' := fun a o e =>
  (x a o e).stay (fun b u _ q => k b u q) (fun _ q => q) fun _ _ q => q
theorem HOk.laid (x : HOk P w H h) (k : ∀ b u, h.get? b = some u → h'.get? b = some u) (hp : h.objs.size ≤ a) (new : ObjOk P w (upd H a o) h' a o) : HOk P w (upd H a o) h' := fun b u e => by
  have hn := x.fresh hp
  by_cases hb : b = a
  · subst hb; rw [upd_same] at e; cases e; exact new
  · rw [upd_ne hb] at e
    exact (x b u e).stay (fun c v _ q => k c v q) (fun c q => by rw [upd_ne (ne_of_none q hn)]; exact q) fun c xs q => by rw [upd_ne (ne_of_none q hn)]; exact q
end
def Rd (H : Hp) (a : Addr) (u : HO) : Prop := H a = some u ∨ ∃ o, H a = some (.frz o u)
theorem Rd.ok {P : Program} {w : World} {H : Hp} {h : Heap} {a : Addr} {u : HO} (r : Rd H a u) (x : HOk P w H h) : ObjOk P w H h a u := by
  rcases r with r | ⟨o, r⟩
  · exact x a u r
  · obtain ⟨_, q⟩ := x a _ r
    exact q
def Mut : Option HO → Prop
  | some (.lst _) => True
  | some (.dK _) => True
  | some (.dT _) => True
  | some (.set _ _) => True
  | some (.ins _ _ _) => True
  | some (.ext _) => True
  | _ => False
section
variable {P : Program} {w : World} {H : Hp} {h h' : Heap} {x e : Addr} {o' : HO}
theorem HOk.write (ok : HOk P w H h) (mu : Mut (H x)) (he : e = x ∨ H e = some (.own x)) (k : ∀ b u, b ≠ e → h.get? b = some u → h'.get? b = some u) (heo : ∃ u, h'.get? e = some u)
    (new : ObjOk P w (upd H x o') h' x o') : HOk P w (upd H x o') h' := fun b u q => by
  have nown : ∀ c y, H c = some (.own y) → c ≠ x := fun c y r z => by subst z; rw [r] at mu; exact mu
  have ntup : ∀ c xs, H c = some (.tup xs) → c ≠ x := fun c xs r z => by subst z; rw [r] at mu; exact mu
  by_cases hb : b = x
  · subst hb; rw [upd_same] at q; cases q; exact new
  · rw [upd_ne hb] at q
    by_cases hbe : b = e
    · have q' : H b = some (.own x) := by
        rcases he with z | z
        · exact absurd (hbe.trans z) hb
        · rw [hbe]; exact z
      rw [q] at q'; cases q'
      obtain ⟨v, hv⟩ := heo
      exact ⟨v, by rw [hbe]; exact hv⟩
    · refine (ok b u q).stay (fun c v hc r => k c v ?_ r) (fun c r => by rw [upd_ne (nown c b r)]; exact r) fun c xs r => by rw [upd_ne (ntup c xs r)]; exact r
      rcases hc with rfl | hc
      · exact hbe
      · rintro rfl
        rcases he with z | z
        · exact nown c b hc z
        · rw [hc] at z; cases z; exact hb rfl
end
structure Un (fs ex : List Addr) (H H' : Hp) (h h' : Heap) : Prop where
  keep : ∀ b o, h.get? b = some o → H b = none → b ∉ fs → b ∉ ex → h'.get? b = some o
  slot : ∀ b o, h.get? b = some o → H b = none → b ∈ fs → b ∉ ex → ∃ sl, h'.get? b = some { o with slots := sl }
  free : ∀ b o, h.get? b = some o → H b = none → b ∉ ex → H' b = none
  there : ∀ b o, h.get? b = some o → b ∉ ex → ∃ o', h'.get? b = some o'
  tups : ∀ b xs, H b = some (.tup xs) → H' b = some (.tup xs)
  frzs : ∀ b o u, H b = some (.frz o u) → H' b = some (.frz o u)
  tbls : ∀ b ps, H b = some (.tbl ps) → ∃ more, H' b = some (.tbl (ps ++ more))
section
variable {fs fs' ex ex' : List Addr} {H H1 H2 : Hp} {h h1 h2 h' : Heap} {a x e : Addr} {o : HO}
theorem Un.any (u : Un fs ex H H1 h h1) {b : Addr} {ob : Obj} (q : h.get? b = some ob) (n : H b = none) (hx : b ∉ ex) : ∃ sl, h1.get? b = some { ob with slots := sl } := by
  by_cases hb : b ∈ fs
  · exact u.slot b ob q n hb hx
  · exact ⟨ob.slots, u.keep b ob q n hb hx⟩
theorem Un.kept (k : ∀ b u, h.get? b = some u → h'.get? b = some u) : Un fs ex H H h h' :=
  ⟨fun b ob q _ _ _ => k b ob q, fun b ob q _ _ _ => ⟨ob.slots, k b ob q⟩, fun _ _ _ n _ => n, fun b ob q _ => ⟨ob, k b ob q⟩, fun _ _ q => q, fun _ _ _ q => q, fun _ ps q => ⟨#[], by rw [q]; simp⟩⟩
theorem Un.refl : Un fs ex H H h h := Un.kept fun _ _ q => q
theorem Un.laid (k : ∀ b u, h.get? b = some u → h'.get? b = some u) (hp : h.objs.size ≤ a) (hn : H a = none) : Un fs ex H (upd H a o) h h' where
  keep := fun b u q _ _ _ => k b u q
  slot := fun b u q _ _ _ => ⟨u.slots, k b u q⟩
  free := fun b u q n _ => by rw [upd_ne (Nat.ne_of_lt (Nat.lt_of_lt_of_le (Heap.lt_size q) hp))]; exact n
  there := fun b u q _ => ⟨u, k b u q⟩
  tups := fun b xs q => by rw [upd_ne (ne_of_none q hn)]; exact q
  frzs := fun b u xs q => by rw [upd_ne (ne_of_none q hn)]; exact q
  tbls := fun b ps q => ⟨#[], by rw [upd_ne (ne_of_none q hn), q]; simp⟩
theorem Un.write (mu : Mut (H x)) (he : e = x ∨ H e = some (.own x)) (k : ∀ b u, b ≠ e → h.get? b = some u → h'.get? b = some u) (heo : ∃ u, h'.get? e = some u) : Un fs ex H (upd H x o) h h' := by
  have hx : ∀ b, H b = none → b ≠ x := fun b n z => by subst z; rw [n] at mu; exact mu
  have hb : ∀ b, H b = none → b ≠ e := fun b n z => by
    subst z
    rcases he with r | r
    · exact hx b n r
    · rw [n] at r; cases r
  have hm : ∀ b u, H b = some u → ¬ Mut (some u) → b ≠ x := fun b u q nm z => by subst z; rw [q] at mu; exact nm mu
  refine ⟨fun b u q n _ _ => k b u (hb b n) q, fun b u q n _ _ => ⟨u.slots, k b u (hb b n) q⟩, fun b u q n _ => by rw [upd_ne (hx b n)]; exact n, fun b u q _ => ?_,
    fun b xs q => by rw [upd_ne (hm b _ q fun z => z)]; exact q, fun b u xs q => by rw [upd_ne (hm b _ q fun z => z)]; exact q, fun b ps q => ⟨#[], by rw [upd_ne (hm b _ q fun z => z), q]; simp⟩⟩
  by_cases hbe : b = e
  · subst hbe; exact heo
  · exact ⟨u, k b u hbe q⟩
end
def trk (h : Heap) (H : Hp) : List Addr := (List.range h.objs.size).filter fun a => (H a).isSome
def hidT (h : Heap) (H : Hp) : Heap := PySem.W.hideAll h (trk h H)
theorem hidT_size (h : Heap) (H : Hp) : (hidT h H).objs.size = h.objs.size := PySem.W.hideAll_size _ _
theorem hidT_get {h : Heap} {H : Hp} {b : Addr} {o : Obj} (e : h.get? b = some o) (n : H b = none) : (hidT h H).get? b = some o :=
  PySem.W.hideAll_get _ e fun hm => by
    have q : (H b).isSome = true := (List.mem_filter.mp hm).2
    rw [n] at q; simp at q
theorem of_hidT {h : Heap} {H : Hp} {b : Addr} {o : Obj} (e : (hidT h H).get? b = some o) : h.get? b = some o ∧ H b = none := by
  have e' : h.get? b = some o := PySem.W.of_hideAll (trk h H) e
  refine ⟨e', ?_⟩
  cases q : H b with
  | none => rfl
  | some x =>
    have hm : b ∈ trk h H := List.mem_filter.mpr ⟨List.mem_range.mpr (Heap.lt_size e'), by simp [q]⟩
    have z : (hidT h H).get? b = none := PySem.W.hideAll_none (trk h H) hm
    rw [z] at e; cases e
end L2
namespace L2
open PySem PySem.Spec PyProof.Rows
structure Mod (K : PySem.W.Frag) (mg : Str → Option Value) (base : Heap) : Prop where
  kin : K.In base
  glob : base.Ns mainGlobals mg
  blt : ∃ mb, base.Ns builtinsNs mb ∧ ∀ x : Str, x ≠ "__name__" → mb x = bootBuiltins x
  nolimit : base.NoLimit
structure Cx where
  prog : Program
  w : World
  K : PySem.W.Frag
  mg : Str → Option Value
  base : Heap
  A : Around
  N : List Str
  s₀ : Shared
  H₀ : Hp
  env : Env
  outer : List Env
  stack : List Env
  ex : List Addr
  fn : Str → Bool
  calm : Bool
  pn : List (Addr × Obj)
  xe : Value → Shared → Prop
def frs (l : List Env) : List Addr := l.filterMap (·.frame)
abbrev Cx.fs (X : Cx) : List Addr := frs X.outer
def Vis (sc : Scope) (x : Str) : Prop := sc.names.lookup x = some .local ∨ sc.names.lookup x = some .cell ∨ sc.names.lookup x = some .free
def Loc (sc : Scope) (x : Str) : Prop := sc.names.lookup x = some .local ∨ sc.names.lookup x = some .cell
def Look (env : Env) (h : Heap) (m : Str → Option Value) (x : Str) (u : Value) : Prop :=
  (env.kindOf x = some .local ∧ m x = some u) ∨ ((env.kindOf x = some .cell ∨ env.kindOf x = some .free) ∧ ∃ c, env.cells.lookup x = some c ∧ h.IsCell c (some u))
structure Cx.Ok (X : Cx) : Prop where
  mod : Mod X.K X.mg X.base
  kind : X.env.scope.kind = .function
  glob : X.env.globals = mainGlobals
  blt : X.env.builtins = builtinsNs
  above : X.s₀.heap.objs.size ≤ X.env.locals
  inj : ∀ x y c, X.env.cells.lookup x = some c → X.env.cells.lookup y = some c → x = y
  has : ∀ x, (X.env.kindOf x = some .cell ∨ X.env.kindOf x = some .free) → ∃ c, X.env.cells.lookup x = some c
  cab : ∀ x c, X.fn x = true → X.env.cells.lookup x = some c → X.s₀.heap.objs.size ≤ c
  hd : X.calm = true → X.A.handled = none
  frames : X.A.frames = some X.stack
  stk : X.stack = X.outer ∨ (X.stack = X.env :: X.outer ∧ X.env.frame = some X.env.locals)
  exf : ∀ b ∈ X.ex, b ≠ X.env.locals ∧ ∀ x c, X.env.cells.lookup x = some c → c ≠ b
  bs : ∀ b o, X.base.get? b = some o → X.s₀.heap.get? b = some o ∧ X.H₀ b = none
  bsz : X.base.objs.size ≤ X.s₀.heap.objs.size
  noex : ∀ b o, X.base.get? b = some o → b ∉ X.ex
  exfs : ∀ b ∈ X.ex, b ∉ X.fs
  funs : X.s₀.heap.FunFrames X.base X.outer
  frf : ∀ b ∈ X.fs, X.H₀ b = none
structure Inv (X : Cx) (pins : List (Addr × Obj)) (σ : List (Option V)) (H : Hp) (s : Shared) : Prop where
  ok : X.Ok
  os : s.os = X.s₀.os
  bare : AllBare s.gens
  base : Un X.fs X.ex X.H₀ H X.s₀.heap s.heap
  loc : ∃ m, s.heap.Ns X.env.locals m ∧ ∀ (i : Nat) (x : Str) (v : V), X.N[i]? = some x → σ[i]? = some (some v) → Vis X.env.scope x → ∃ u, RelV v u ∧ Look X.env s.heap m x u
  cell : ∀ x c, X.env.cells.lookup x = some c → ∃ v, s.heap.IsCell c v
  free : H X.env.locals = none
  freeC : ∀ x c, X.env.cells.lookup x = some c → H c = none
  pin : ∀ p ∈ X.pn ++ pins, s.heap.get? p.1 = some p.2 ∧ H p.1 = none ∧ p.1 ≠ X.env.locals ∧ p.1 ∉ X.fs ∧ ∀ v, p.2.data ≠ .cell v
  hok : HOk X.prog X.w H s.heap
  len : σ.length = X.N.length
section
variable {X : Cx} {pins : List (Addr × Obj)} {σ : List (Option V)} {H H' : Hp} {s : Shared} {h' : Heap}
theorem Cx.Ok.nofr (ok : X.Ok) {b : Addr} {o : Obj} (e : X.base.get? b = some o) : b ∉ X.fs := fun hb => by
  have := (ok.funs.mem hb).1
  rw [e] at this; cases this
theorem Inv.bs (I : Inv X pins σ H s) : ∀ b o, X.base.get? b = some o → s.heap.get? b = some o ∧ H b = none := fun b o e =>
  ⟨I.base.keep b o (I.ok.bs b o e).1 (I.ok.bs b o e).2 (I.ok.nofr e) (I.ok.noex b o e), I.base.free b o (I.ok.bs b o e).1 (I.ok.bs b o e).2 (I.ok.noex b o e)⟩
theorem Inv.bk (I : Inv X pins σ H s) : ∀ b o, X.base.get? b = some o → s.heap.get? b = some o := fun b o e => (I.bs b o e).1
theorem Inv.mod (I : Inv X pins σ H s) : Mod X.K X.mg X.base := I.ok.mod
theorem Inv.kIn (I : Inv X pins σ H s) : X.K.In s.heap := I.ok.mod.kin.keeps I.bk
theorem Inv.fr (I : Inv X pins σ H s) : ∃ m, Fr X.base X.env.locals s.heap m :=
  let ⟨m, hn, _⟩ := I.loc
  ⟨m, hn, I.bk, Nat.le_trans I.ok.bsz I.ok.above⟩
theorem Inv.lt (I : Inv X pins σ H s) : X.env.locals < s.heap.objs.size := let ⟨_, hn, _⟩ := I.loc; hn.lt
theorem Inv.sz (I : Inv X pins σ H s) : X.s₀.heap.objs.size ≤ s.heap.objs.size := Nat.le_trans I.ok.above (Nat.le_of_lt I.lt)
theorem Inv.nofs (I : Inv X pins σ H s) {a : Addr} (h : s.heap.objs.size ≤ a) : a ∉ X.fs := fun hb => by
  obtain ⟨_, o, ho, _⟩ := I.ok.funs.mem hb
  exact absurd (Nat.lt_of_lt_of_le (Heap.lt_size ho) (Nat.le_trans I.sz h)) (Nat.lt_irrefl _)
theorem Inv.cne (I : Inv X pins σ H s) : ∀ x c, X.env.cells.lookup x = some c → c ≠ X.env.locals := fun x c e z => by
  obtain ⟨v, o, ho, hd⟩ := I.cell x c e
  obtain ⟨m, ⟨o', es, ep, ho', hd', _⟩, _⟩ := I.loc
  rw [z, ho'] at ho; cases ho; rw [hd'] at hd; cases hd
theorem Inv.funs (I : Inv X pins σ H s) : s.heap.FunFrames X.base X.outer := by
  have all : ∀ (l : List Env), (∀ b ∈ frs l, b ∈ X.fs) → X.s₀.heap.FunFrames X.base l → s.heap.FunFrames X.base l := by
    intro l
    induction l with
    | nil => intro _ _; trivial
    | cons env r ih =>
      intro hs hl
      obtain ⟨hk, ⟨L, o, hf, hn, ho, hd⟩, hr⟩ := hl
      have hL : L ∈ X.fs := hs L (by unfold frs; rw [List.filterMap_cons, hf]; exact List.mem_cons_self)
      obtain ⟨sl, e⟩ := I.base.slot L o ho (I.ok.frf L hL) hL fun z => I.ok.exfs L z hL
      exact ⟨hk, ⟨L, _, hf, hn, e, hd⟩, ih (fun b hb => hs b (by unfold frs; rw [List.filterMap_cons, hf]; exact List.mem_cons_of_mem _ hb)) hr⟩
  exact all X.outer (fun _ hb => hb) I.ok.funs
theorem Inv.stack (I : Inv X pins σ H s) : s.heap.FunFrames X.base X.stack := by
  rcases I.ok.stk with e | ⟨e, hf⟩
  · rw [e]; exact I.funs
  · rw [e]
    obtain ⟨m, hn, _⟩ := I.loc
    refine .cons (by rw [I.ok.kind]; decide) hf hn ?_ I.funs
    exact Heap.get?_none_of_le (Nat.le_trans I.ok.bsz I.ok.above)
theorem Inv.stkSub (I : Inv X pins σ H s) : ∀ b ∈ frs X.stack, b ∈ X.env.locals :: X.fs := fun b hb => by
  rcases I.ok.stk with e | ⟨e, hf⟩
  · rw [e] at hb; exact List.mem_cons_of_mem _ hb
  · rw [e] at hb
    unfold frs at hb
    rw [List.filterMap_cons, hf] at hb
    exact hb
theorem Inv.stkFree (I : Inv X pins σ H s) : ∀ b ∈ frs X.stack, H b = none := fun b hb => by
  rcases List.mem_cons.mp (I.stkSub b hb) with e | hb
  · rw [e]; exact I.free
  · obtain ⟨_, o, ho, _⟩ := I.ok.funs.mem hb
    exact I.base.free b o ho (I.ok.frf b hb) fun z => I.ok.exfs b z hb
theorem Inv.step {g' : Array GenState} {t' : Nat} {d' : Drawn} {ch : List Addr} (I : Inv X pins σ H s)
    (hch : ∀ b ∈ ch, (b ∈ X.ex ∨ X.s₀.heap.objs.size ≤ b) ∧ b ≠ X.env.locals ∧ (∀ x c, X.env.cells.lookup x = some c → c ≠ b) ∧ ∀ p ∈ X.pn ++ pins, p.1 ≠ b)
    (keep : ∀ b o, b ≠ X.env.locals → b ∉ X.fs → b ∉ ch → s.heap.get? b = some o → H b = none → h'.get? b = some o)
    (slot : ∀ b o, b ≠ X.env.locals → b ∈ X.fs → b ∉ ch → s.heap.get? b = some o → H b = none → ∃ sl, h'.get? b = some { o with slots := sl }) (free : ∀ b o, b ∉ ch → s.heap.get? b = some o → H b = none → H' b = none)
    (there : ∀ b o, b ∉ ch → s.heap.get? b = some o → ∃ o', h'.get? b = some o')
    (tups : ∀ b xs, H b = some (.tup xs) → H' b = some (.tup xs)) (frzs : ∀ b o u, H b = some (.frz o u) → H' b = some (.frz o u)) (tbls : ∀ b ps, H b = some (.tbl ps) → ∃ more, H' b = some (.tbl (ps ++ more)))
    (ns : ∀ m, s.heap.Ns X.env.locals m → h'.Ns X.env.locals m) (hok : HOk X.prog X.w H' h') (hg : AllBare g') :
    Inv X pins σ H' { s with heap := h', gens := g', drawn := d', toks := t' } := by
  have neL : ∀ b o, X.s₀.heap.get? b = some o → b ≠ X.env.locals := fun b o e => Nat.ne_of_lt (Nat.lt_of_lt_of_le (Heap.lt_size e) I.ok.above)
  have neC : ∀ b o, X.s₀.heap.get? b = some o → b ∉ X.ex → b ∉ ch := fun b o e hx hb => by
    rcases (hch b hb).1 with z | z
    · exact hx z
    · exact absurd (Nat.lt_of_lt_of_le (Heap.lt_size e) z) (Nat.lt_irrefl _)
  have cellK : ∀ x c, X.env.cells.lookup x = some c → ∀ v, s.heap.IsCell c v → h'.IsCell c v := fun x c e v ⟨o, ho, hd⟩ => by
    have nch : c ∉ ch := fun z => (hch c z).2.2.1 x c e rfl
    by_cases hc : c ∈ X.fs
    · obtain ⟨sl, q⟩ := slot c o (I.cne x c e) hc nch ho (I.freeC x c e)
      exact ⟨_, q, hd⟩
    · exact ⟨o, keep c o (I.cne x c e) hc nch ho (I.freeC x c e), hd⟩
  refine ⟨I.ok, I.os, hg, ⟨fun b o e n hb hx => ?_, fun b o e n hb hx => ?_, fun b o e n hx => ?_, fun b o e hx => ?_, fun b xs e => tups b xs (I.base.tups b xs e), fun b o xs e => frzs b o xs (I.base.frzs b o xs e), fun b ps e => ?_⟩, ?_, fun x c e => ?_, ?_, fun x c e => ?_, fun p hp => ?_, hok, I.len⟩
  · exact keep b o (neL b o e) hb (neC b o e hx) (I.base.keep b o e n hb hx) (I.base.free b o e n hx)
  · obtain ⟨sl, e1⟩ := I.base.slot b o e n hb hx
    obtain ⟨sl', e2⟩ := slot b _ (neL b o e) hb (neC b o e hx) e1 (I.base.free b o e n hx)
    exact ⟨sl', e2⟩
  · obtain ⟨o', e1⟩ := I.base.there b o e hx
    exact free b o' (neC b o e hx) e1 (I.base.free b o e n hx)
  · obtain ⟨o', e1⟩ := I.base.there b o e hx
    exact there b o' (neC b o e hx) e1
  · obtain ⟨m1, e1⟩ := I.base.tbls b ps e
    obtain ⟨m2, e2⟩ := tbls b _ e1
    exact ⟨m1 ++ m2, by rw [e2, Array.append_assoc]⟩
  · obtain ⟨m, hn, hl⟩ := I.loc
    refine ⟨m, ns m hn, fun i x v e1 e2 e3 => ?_⟩
    obtain ⟨u, r, l⟩ := hl i x v e1 e2 e3
    refine ⟨u, r, ?_⟩
    rcases l with l | ⟨k, c, e, z⟩
    · exact .inl l
    · exact .inr ⟨k, c, e, cellK x c e _ z⟩
  · obtain ⟨v, z⟩ := I.cell x c e
    exact ⟨v, cellK x c e v z⟩
  · obtain ⟨m, ⟨o, _, _, ho, _⟩, _⟩ := I.loc
    exact free _ o (fun z => (hch _ z).2.1 rfl) ho I.free
  · obtain ⟨v, o, ho, hd⟩ := I.cell x c e
    exact free c o (fun z => (hch c z).2.2.1 x c e rfl) ho (I.freeC x c e)
  · obtain ⟨e, n, ne, nf, d⟩ := I.pin p hp
    have nch : p.1 ∉ ch := fun z => (hch p.1 z).2.2.2 p hp rfl
    exact ⟨keep p.1 p.2 ne nf nch e n, free p.1 p.2 nch e n, ne, nf, d⟩
theorem Inv.un {t' : Nat} (I : Inv X pins σ H s) (u : Un X.fs [] H H' s.heap h') (hok : HOk X.prog X.w H' h') : Inv X pins σ H' { s with heap := h', toks := t' } := by
  obtain ⟨m, ⟨o, es, ep, ho, r⟩, _⟩ := id I.loc
  obtain ⟨sl, hL⟩ := u.any ho I.free (by simp)
  exact I.step (g' := s.gens) (d' := s.drawn) (ch := []) (fun _ z => nomatch z) (fun b o _ hb _ e n => u.keep b o e n hb (by simp)) (fun b o _ hb _ e n => u.slot b o e n hb (by simp)) (fun b o _ e n => u.free b o e n (by simp)) (fun b o _ e => u.there b o e (by simp)) u.tups u.frzs u.tbls (fun m' hm => by
    obtain ⟨o', es', ep', ho', r'⟩ := hm
    rw [ho] at ho'; cases ho'
    exact ⟨_, es', ep', hL, r'⟩) hok I.bare
theorem Inv.call {g' : Array GenState} {t' : Nat} {d' : Drawn} {ch : List Addr} (I : Inv X pins σ H s) (u : Un (frs X.stack) ch H H' s.heap h') (hok : HOk X.prog X.w H' h') (hg : AllBare g')
    (hch : ∀ b ∈ ch, (b ∈ X.ex ∨ X.s₀.heap.objs.size ≤ b) ∧ b ≠ X.env.locals ∧ (∀ x c, X.env.cells.lookup x = some c → c ≠ b) ∧ ∀ p ∈ X.pn ++ pins, p.1 ≠ b) :
    Inv X pins σ H' { s with heap := h', gens := g', drawn := d', toks := t' } := by
  obtain ⟨m, ⟨o, es, ep, ho, r⟩, _⟩ := id I.loc
  obtain ⟨sl, hL⟩ := u.any ho I.free fun z => (hch _ z).2.1 rfl
  exact I.step (ch := ch) hch (fun b o hL hb hc e n => u.keep b o e n (fun z => (List.mem_cons.mp (I.stkSub b z)).elim hL hb) hc) (fun b o _ _ hc e n => u.any e n hc) (fun b o hc e n => u.free b o e n hc) (fun b o hc e => u.there b o e hc) u.tups u.frzs u.tbls (fun m' hm => by
    obtain ⟨o', es', ep', ho', r'⟩ := hm
    rw [ho] at ho'; cases ho'
    exact ⟨_, es', ep', hL, r'⟩) hok hg
theorem Inv.turned {t' : Nat} {it : Addr} (I : Inv X pins σ H s) (k : ∀ b o, b ≠ it → s.heap.get? b = some o → h'.get? b = some o) (hn : H it = none) (hL : it ≠ X.env.locals)
    (h1 : it ∈ X.ex ∨ X.s₀.heap.objs.size ≤ it) (h2 : ∀ x c, X.env.cells.lookup x = some c → c ≠ it) (h3 : ∀ p ∈ X.pn ++ pins, p.1 ≠ it) : Inv X pins σ H { s with heap := h', toks := t' } := by
  have nit : ∀ b u, H b = some u → b ≠ it := fun b u e z => by rw [z, hn] at e; cases e
  refine I.step (g' := s.gens) (d' := s.drawn) (ch := [it]) (fun b hb => ?_) (fun b o _ _ hc e _ => k b o (fun z => hc (by simp [z])) e) (fun b o _ _ hc e _ => ⟨o.slots, k b o (fun z => hc (by simp [z])) e⟩) (fun _ _ _ _ n => n)
    (fun b o hc e => ⟨o, k b o (fun z => hc (by simp [z])) e⟩) (fun _ _ e => e) (fun _ _ _ e => e) (fun b ps e => ⟨#[], by rw [e]; simp⟩) (fun m hm => ?_) (fun b u e => ?_) I.bare
  · have e : b = it := by simpa using hb
    subst e
    exact ⟨h1, hL, h2, h3⟩
  · obtain ⟨o, es, ep, ho, r⟩ := hm
    exact ⟨o, es, ep, k _ o (Ne.symm hL) ho, r⟩
  · refine (I.hok b u e).stay (fun c v hc q => k c v ?_ q) (fun _ q => q) fun _ _ q => q
    rcases hc with z | z
    · rw [z]; exact nit b u e
    · exact nit c _ z
theorem Inv.tok (I : Inv X pins σ H s) (t : Nat) : Inv X pins σ H { s with toks := t } := I.un (h' := s.heap) (t' := t) Un.refl I.hok
theorem Inv.kept {t' : Nat} (I : Inv X pins σ H s) (k : ∀ b u, s.heap.get? b = some u → h'.get? b = some u) : Inv X pins σ H { s with heap := h', toks := t' } := I.un (Un.kept k) (I.hok.kept k)
theorem Inv.laid {a : Addr} {o : HO} {t' : Nat} (I : Inv X pins σ H s) (k : ∀ b u, s.heap.get? b = some u → h'.get? b = some u) (hp : s.heap.objs.size ≤ a) (new : ObjOk X.prog X.w (upd H a o) h' a o) :
    Inv X pins σ (upd H a o) { s with heap := h', toks := t' } := I.un (Un.laid k hp (I.hok.fresh hp)) (I.hok.laid k hp new)
theorem Inv.write {x e : Addr} {o : HO} {t' : Nat} (I : Inv X pins σ H s) (mu : Mut (H x)) (he : e = x ∨ H e = some (.own x)) (k : ∀ b u, b ≠ e → s.heap.get? b = some u → h'.get? b = some u) (heo : ∃ u, h'.get? e = some u)
    (new : ObjOk X.prog X.w (upd H x o) h' x o) : Inv X pins σ (upd H x o) { s with heap := h', toks := t' } := I.un (Un.write mu he k heo) (I.hok.write mu he k heo new)
theorem Inv.weak {σ' : List (Option V)} (I : Inv X pins σ H s) (hl : σ'.length = σ.length) (w : ∀ (i : Nat) v, σ'[i]? = some (some v) → σ[i]? = some (some v)) : Inv X pins σ' H s :=
  ⟨I.ok, I.os, I.bare, I.base, let ⟨m, hn, hl'⟩ := I.loc; ⟨m, hn, fun i x v e1 e2 e3 => hl' i x v e1 (w i v e2) e3⟩, I.cell, I.free, I.freeC, I.pin, I.hok, hl.trans I.len⟩
theorem Inv.pins_of {pins' : List (Addr × Obj)} (I : Inv X pins σ H s) (h : ∀ p ∈ pins', s.heap.get? p.1 = some p.2 ∧ H p.1 = none ∧ p.1 ≠ X.env.locals ∧ p.1 ∉ X.fs ∧ ∀ v, p.2.data ≠ .cell v) : Inv X pins' σ H s :=
  ⟨I.ok, I.os, I.bare, I.base, I.loc, I.cell, I.free, I.freeC, fun p hp => (List.mem_append.mp hp).elim (fun z => I.pin p (List.mem_append_left _ z)) (h p), I.hok, I.len⟩
theorem nodup_ix {N : List Str} (hN : N.Nodup) {i j : Nat} {x : Str} (a : N[i]? = some x) (b : N[j]? = some x) : i = j := by
  obtain ⟨h1, e1⟩ := List.getElem?_eq_some_iff.mp a
  obtain ⟨h2, e2⟩ := List.getElem?_eq_some_iff.mp b
  exact (List.getElem_inj hN).mp (e1.trans e2.symm)
theorem store_ok2 {M : Model} {A : Around} {E : Value → Shared → Prop} {i : Nat} {x : Str} {v : V} {u : Value} {Q : Unit → Shared → Prop} (I : Inv X pins σ H s) (hN : X.N.Nodup) (hi : X.N[i]? = some x) (hx : Loc X.env.scope x) (r : RelV v u)
    (h : ∀ s', Inv X pins (σ.set i (some v)) H s' → (∃ a, Heap.SameBut a s.heap s'.heap ∧ (a = X.env.locals ∨ X.env.cells.lookup x = some a)) → Q () s') (hf : X.fn x = true ∨ X.env.scope.names.lookup x = some .local := by first | exact .inl rfl | exact .inr rfl | assumption) : wpAny M A (storeName X.env x u) Q E s := by
  obtain ⟨m, hn, hl⟩ := id I.loc
  have hcls : (X.env.scope.kind == .class || (X.env.scope.kind == .module && X.env.locals != X.env.globals)) = false := by rw [I.ok.kind]; rfl
  have hiσ : i < σ.length := by rw [I.len]; exact (List.getElem?_eq_some_iff.mp hi).1
  have cne := I.cne
  have tracked : ∀ {a : Addr} {h' : Heap}, (∃ o, s.heap.get? a = some o ∧ H a = none) → Heap.SameBut a s.heap h' → HOk X.prog X.w H h' := fun {a h'} ha hs b ob e => by
    obtain ⟨_, _, hfree⟩ := ha
    refine (I.hok b ob e).stay (fun c w' hc q => (hs.2 c ?_).trans q) (fun _ q => q) fun _ _ q => q
    rintro rfl
    rcases hc with rfl | hc
    · rw [hfree] at e; cases e
    · rw [hfree] at hc; cases hc
  rcases hx with hk | hk
  · refine wpAny_storeName_local hk hn (fun h' hn' hs => ?_) hcls
    obtain ⟨oL, _, _, hoL, _⟩ := id hn
    refine h _ ⟨I.ok, I.os, I.bare, ⟨fun b o e n hb hx => ?_, fun b o e n hb hx => ?_, I.base.free, fun b o e hx => ?_, I.base.tups, I.base.frzs, I.base.tbls⟩, ⟨_, hn', fun j y v' e1 e2 e3 => ?_⟩, fun y c e => ?_, I.free, I.freeC, fun p hp => ?_, tracked ⟨oL, hoL, I.free⟩ hs, by simpa using I.len⟩ ⟨_, hs, .inl rfl⟩
    · exact (hs.2 b (Nat.ne_of_lt (Nat.lt_of_lt_of_le (Heap.lt_size e) I.ok.above))).trans (I.base.keep b o e n hb hx)
    · obtain ⟨sl, e1⟩ := I.base.slot b o e n hb hx
      exact ⟨sl, (hs.2 b (Nat.ne_of_lt (Nat.lt_of_lt_of_le (Heap.lt_size e) I.ok.above))).trans e1⟩
    · obtain ⟨o', e1⟩ := I.base.there b o e hx
      exact ⟨o', (hs.2 b (Nat.ne_of_lt (Nat.lt_of_lt_of_le (Heap.lt_size e) I.ok.above))).trans e1⟩
    · by_cases hj : j = i
      · subst hj
        rw [hi] at e1; cases e1
        rw [List.getElem?_set_self hiσ] at e2
        cases e2
        exact ⟨u, r, .inl ⟨hk, by simp⟩⟩
      · rw [List.getElem?_set_ne (Ne.symm hj)] at e2
        obtain ⟨u', r', q⟩ := hl j y v' e1 e2 e3
        refine ⟨u', r', ?_⟩
        rcases q with ⟨k, e⟩ | ⟨k, c, e, z⟩
        · refine .inl ⟨k, ?_⟩
          have : y ≠ x := fun e => hj (nodup_ix hN e1 (e ▸ hi))
          simp [this, e]
        · exact .inr ⟨k, c, e, z.sameBut hs (cne y c e)⟩
    · obtain ⟨w', z⟩ := I.cell y c e
      exact ⟨w', z.sameBut hs (cne y c e)⟩
    · obtain ⟨e, n, ne, nf, d⟩ := I.pin p hp
      exact ⟨(hs.2 p.1 ne).trans e, n, ne, nf, d⟩
  · have hfn : X.fn x = true := by
      rcases hf with z | z
      · exact z
      · rw [z] at hk; cases hk
    obtain ⟨c, hc⟩ := I.ok.has x (.inl hk)
    obtain ⟨w', z⟩ := I.cell x c hc
    refine wpAny_storeName_cell I.ok.kind hk hc z (fun h' hc' hs => ?_)
    obtain ⟨oc, hoc, hocd⟩ := id z
    refine h { s with heap := h' } ⟨I.ok, I.os, I.bare, ⟨fun b o e n hb hx => ?_, fun b o e n hb hx => ?_, I.base.free, fun b o e hx => ?_, I.base.tups, I.base.frzs, I.base.tbls⟩, ⟨m, hn.sameBut hs (Ne.symm (cne x c hc)), fun j y v' e1 e2 e3 => ?_⟩, fun y c' e => ?_, I.free, I.freeC, fun p hp => ?_, tracked ⟨oc, hoc, I.freeC x c hc⟩ hs, by simpa using I.len⟩ ⟨c, hs, .inr hc⟩
    · exact (hs.2 b (Nat.ne_of_lt (Nat.lt_of_lt_of_le (Heap.lt_size e) (I.ok.cab x c hfn hc)))).trans (I.base.keep b o e n hb hx)
    · obtain ⟨sl, e1⟩ := I.base.slot b o e n hb hx
      exact ⟨sl, (hs.2 b (Nat.ne_of_lt (Nat.lt_of_lt_of_le (Heap.lt_size e) (I.ok.cab x c hfn hc)))).trans e1⟩
    · obtain ⟨o', e1⟩ := I.base.there b o e hx
      exact ⟨o', (hs.2 b (Nat.ne_of_lt (Nat.lt_of_lt_of_le (Heap.lt_size e) (I.ok.cab x c hfn hc)))).trans e1⟩
    · by_cases hj : j = i
      · subst hj
        rw [hi] at e1; cases e1
        rw [List.getElem?_set_self hiσ] at e2
        cases e2
        exact ⟨u, r, .inr ⟨.inl hk, c, hc, hc'⟩⟩
      · rw [List.getElem?_set_ne (Ne.symm hj)] at e2
        obtain ⟨u', r', q⟩ := hl j y v' e1 e2 e3
        refine ⟨u', r', ?_⟩
        rcases q with q | ⟨k, c', e, z'⟩
        · exact .inl q
        · refine .inr ⟨k, c', e, z'.sameBut hs ?_⟩
          rintro rfl
          exact hj (nodup_ix hN e1 (I.ok.inj _ _ _ e hc ▸ hi))
    · by_cases hcc : c' = c
      · subst hcc; exact ⟨_, hc'⟩
      · obtain ⟨w2, z2⟩ := I.cell y c' e
        exact ⟨w2, z2.sameBut hs hcc⟩
    · obtain ⟨e, n, ne, nf, d⟩ := I.pin p hp
      refine ⟨(hs.2 p.1 ?_).trans e, n, ne, nf, d⟩
      intro q
      rw [q, hoc] at e
      have q' : oc = p.2 := Option.some.inj e
      exact d w' (by rw [← q']; exact hocd)
theorem store_ok {M : Model} {A : Around} {E : Value → Shared → Prop} {i : Nat} {x : Str} {v : V} {u : Value} {Q : Unit → Shared → Prop} (I : Inv X pins σ H s) (hN : X.N.Nodup) (hi : X.N[i]? = some x) (hx : Loc X.env.scope x) (r : RelV v u)
    (h : ∀ s', Inv X pins (σ.set i (some v)) H s' → Q () s') (hf : X.fn x = true ∨ X.env.scope.names.lookup x = some .local := by first | exact .inl rfl | exact .inr rfl | assumption) : wpAny M A (storeName X.env x u) Q E s :=
  store_ok2 I hN hi hx r (fun s' I' _ => h s' I') hf
theorem Inv.call' {s' : Shared} {ch : List Addr} (I : Inv X pins σ H s) (ho : s'.os = s.os) (u : Un (frs X.stack) ch H H' s.heap s'.heap) (hok : HOk X.prog X.w H' s'.heap) (hg : AllBare s'.gens)
    (hch : ∀ b ∈ ch, (b ∈ X.ex ∨ X.s₀.heap.objs.size ≤ b) ∧ b ≠ X.env.locals ∧ (∀ x c, X.env.cells.lookup x = some c → c ≠ b) ∧ ∀ p ∈ X.pn ++ pins, p.1 ≠ b) : Inv X pins σ H' s' := by
  obtain ⟨h', g', d', t', o'⟩ := s'
  have e : o' = s.os := ho
  subst e
  exact I.call (g' := g') (t' := t') (d' := d') u hok hg hch
end
abbrev XK := Value → Option Addr → Hp → Prop
abbrev St := List (Option V)
abbrev VK := V → Hp → Prop
abbrev TE := St → Hp → VK → Prop
abbrev TT := St → Hp → (Bool → Hp → Prop) → Prop
abbrev TA := St → Hp → (List V → Hp → Prop) → Prop
structure Ends where
  nx : St → Hp → Prop
  rt : VK
  bk : St → Hp → Prop := fun _ _ => False
  ct : St → Hp → Prop := fun _ _ => False
abbrev TS := Ends → St → Hp → Prop
def EP (X : Cx) (pins : List (Addr × Obj)) (σ : St) (Q : VK) (u : Value) (s' : Shared) : Prop := ∃ v H', Inv X pins σ H' s' ∧ RelV v u ∧ Q v H'
def TP (X : Cx) (pins : List (Addr × Obj)) (σ : St) (Q : Bool → Hp → Prop) (b : Bool) (s' : Shared) : Prop := ∃ H', Inv X pins σ H' s' ∧ Q b H'
def AP (X : Cx) (pins : List (Addr × Obj)) (σ : St) (Q : List V → Hp → Prop) (us : List Value) (s' : Shared) : Prop := ∃ vs H', Inv X pins σ H' s' ∧ Vals vs us ∧ Q vs H'
def SP (X : Cx) (pins : List (Addr × Obj)) (D : Ends) (f : Flow) (s' : Shared) : Prop :=
  match f with
  | .next => ∃ σ' H', Inv X pins σ' H' s' ∧ D.nx σ' H'
  | .brk => ∃ σ' H', Inv X pins σ' H' s' ∧ D.bk σ' H'
  | .cont => ∃ σ' H', Inv X pins σ' H' s' ∧ D.ct σ' H'
  | .ret u => ∃ v σ' H', Inv X pins σ' H' s' ∧ RelV v u ∧ D.rt v H'
def PE (X : Cx) (e : Expr) (t : TE) : Prop :=
  ∀ (pins : List (Addr × Obj)) (s : Shared) (σ : St) (H : Hp) (Q : VK), Inv X pins σ H s → t σ H Q → wpAny (model X.prog X.w) X.A (eval e X.env) (EP X pins σ Q) X.xe s
def PT (X : Cx) (e : Expr) (t : TT) : Prop :=
  ∀ (pins : List (Addr × Obj)) (s : Shared) (σ : St) (H : Hp) (Q : Bool → Hp → Prop), Inv X pins σ H s → t σ H Q → wpAny (model X.prog X.w) X.A (isTrue e X.env (eval e X.env)) (TP X pins σ Q) X.xe s
def PW (X : Cx) (e : Expr) (t : TT) : Prop :=
  ∀ (whole : Sem Value) (pins : List (Addr × Obj)) (s : Shared) (σ : St) (H : Hp) (Q : Bool → Hp → Prop), Inv X pins σ H s → t σ H Q → wpAny (model X.prog X.w) X.A (isTrue e X.env whole) (TP X pins σ Q) X.xe s
theorem PW.pt {X : Cx} {e : Expr} {t : TT} (h : PW X e t) : PT X e t := h _
def PA (X : Cx) (es : List Expr) (t : TA) : Prop :=
  ∀ (pos : Pos) (pins : List (Addr × Obj)) (s : Shared) (σ : St) (H : Hp) (Q : List V → Hp → Prop), Inv X pins σ H s → t σ H Q → wpAny (model X.prog X.w) X.A (spliced (backTo pos (starEach es X.env))) (AP X pins σ Q) X.xe s
def PS (X : Cx) (st : Stmt) (t : TS) : Prop :=
  ∀ (pins : List (Addr × Obj)) (s : Shared) (σ : St) (H : Hp) (D : Ends), Inv X pins σ H s → t D σ H → wpAny (model X.prog X.w) X.A (exec st X.env) (SP X pins D) X.xe s
def PSs (X : Cx) (st : List Stmt) (t : TS) : Prop :=
  ∀ (pins : List (Addr × Obj)) (s : Shared) (σ : St) (H : Hp) (D : Ends), Inv X pins σ H s → t D σ H → wpAny (model X.prog X.w) X.A (execs st X.env) (SP X pins D) X.xe s
theorem thn {α : Type} {t : Sem α} {Q Q' : α → Shared → Prop} {M : Model} {A : Around} {E : Value → Shared → Prop} {s : Shared} (h : wpAny M A t Q E s) (hQ : ∀ a s, Q a s → Q' a s) : wpAny M A t Q' E s := wpAny_mono h hQ fun _ _ x => x
end L2
namespace L2
open PySem PySem.Spec PyProof.Rows
section
variable {X : Cx}
theorem bin {a b : Expr} {ta tb : TE} (ha : PE X a ta) (hb : PE X b tb) {pins : List (Addr × Obj)} {s : Shared} {σ : St} {H : Hp} {R : V → V → Hp → Prop} (I : Inv X pins σ H s) (h : ta σ H fun x H1 => tb σ H1 fun y H2 => R x y H2)
    {α : Type} {Q : α → Shared → Prop} {f : Value → Value → Sem α}
    (hf : ∀ v u s2 x y H2, Inv X pins σ H2 s2 → RelV x v → RelV y u → R x y H2 → wpAny (model X.prog X.w) X.A (f v u) Q X.xe s2) :
    wpAny (model X.prog X.w) X.A (eval a X.env) (fun v s₁ => wpAny (model X.prog X.w) X.A (eval b X.env) (fun u s₂ => wpAny (model X.prog X.w) X.A (f v u) Q X.xe s₂) X.xe s₁) X.xe s := by
  refine thn (ha pins s σ H _ I h) fun v s1 ⟨x, H1, I1, r1, q1⟩ => ?_
  refine thn (hb pins s1 σ H1 _ I1 q1) fun u s2 ⟨y, H2, I2, r2, q2⟩ => ?_
  exact hf v u s2 x y H2 I2 r1 r2 q2
def tVar (i : Nat) : TE := fun σ H Q => ∃ v, σ[i]? = some (some v) ∧ Q v H
def tC (v : V) : TE := fun _ H Q => Q v H
theorem pe_var {i : Nat} {x : Str} {pos : Pos} (hN : X.N[i]? = some x) (hv : Vis X.env.scope x) (hd : (x == ("__debug__" : Str)) = false := by decide) (hcd : (x == ("__classdict__" : Str)) = false := by decide) : PE X (.Name x pos) (tVar i) := by
  intro pins s σ H Q I h
  obtain ⟨v, e, h⟩ := h
  obtain ⟨m, hn, hl⟩ := I.loc
  obtain ⟨u, r, l⟩ := hl i x v hN e hv
  have fin : EP X pins σ Q u s := ⟨v, H, I, r, h⟩
  rcases l with ⟨hk, hm⟩ | ⟨hk, c, hc, hcell⟩
  · exact wpAny_Name (wpAny_loadName_local I.ok.kind hk hn hm fin) hd
  · rcases hk with hk | hk
    · exact wpAny_Name (wpAny_loadName_cell I.ok.kind hk hc hcell fin) hd
    · exact wpAny_Name (wpAny_loadName_free I.ok.kind hk hc hcell fin hcd) hd
theorem pe_int {i j pos} : PE X (.Constant (.int i) j pos) (tC (.int i)) := fun _ _ _ H _ I h => wpAny_Constant_int ⟨.int i, H, I.tok _, ⟨_, rfl⟩, h⟩
theorem pe_bl {b j pos} : PE X (.Constant (.bool b) j pos) (tC (.bl b)) := fun _ _ _ H _ I h => Constant_bool ⟨.bl b, H, I, rfl, h⟩
theorem pe_str {x j pos} : PE X (.Constant (.str x) j pos) (tC (.str x)) := fun _ _ _ H _ I h => Calls.Constant_str ⟨.str x, H, I.tok _, ⟨_, rfl⟩, h⟩
def Gl (X : Cx) (x : Str) : Prop := X.env.kindOf x = some .globalImplicit
theorem ld_glob {E : Value → Shared → Prop} {pins : List (Addr × Obj)} {s : Shared} {σ : St} {H : Hp} {x : Str} {u : Value} {pos : Pos} {Q : Value → Shared → Prop} (I : Inv X pins σ H s) (hg : Gl X x) (hm : X.mg x = some u) (h : Q u s)
    (hd : (x == ("__debug__" : Str)) = false := by decide) : wpAny (model X.prog X.w) X.A (eval (.Name x pos) X.env) Q E s :=
  Calls.Name_function_global I.ok.kind hg (Calls.loadGlobal_global (by rw [I.ok.glob]; exact I.mod.glob.keeps I.bk) hm h) hd
theorem ld_blt {E : Value → Shared → Prop} {pins : List (Addr × Obj)} {s : Shared} {σ : St} {H : Hp} {x : Str} {u : Value} {pos : Pos} {Q : Value → Shared → Prop} (I : Inv X pins σ H s) (hg : Gl X x) (hm : X.mg x = none) (hv : bootBuiltins x = some u) (h : Q u s)
    (hn : x ≠ "__name__" := by decide) (hd : (x == ("__debug__" : Str)) = false := by decide) : wpAny (model X.prog X.w) X.A (eval (.Name x pos) X.env) Q E s := by
  obtain ⟨mb, h1, h2⟩ := I.mod.blt
  exact Calls.Name_function_global I.ok.kind hg (Calls.loadGlobal_builtin (by rw [I.ok.glob]; exact I.mod.glob.keeps I.bk) hm (by rw [I.ok.blt]; exact h1.keeps I.bk) ((h2 x hn).trans hv) h) hd
theorem pe_glob {x : Str} {v : V} {u : Value} {pos : Pos} (hg : Gl X x) (hm : X.mg x = some u) (r : RelV v u) (hd : (x == ("__debug__" : Str)) = false := by decide) : PE X (.Name x pos) (tC v) :=
  fun _ _ _ H _ I h => ld_glob I hg hm ⟨v, H, I, r, h⟩ hd
variable {a b : Expr} {ta tb : TE} {pos : Pos}
def PC (X : Cx) (op : CmpOp) (a b : Expr) (t : TE) : Prop :=
  ∀ (pins : List (Addr × Obj)) (s : Shared) (σ : St) (H : Hp) (Q : VK), Inv X pins σ H s → t σ H Q →
    wpAny (model X.prog X.w) X.A (eval a X.env) (fun v s₁ => wpAny (model X.prog X.w) X.A (eval b X.env) (fun u s₂ => wpAny (model X.prog X.w) X.A (compareOp op v u) (EP X pins σ Q) X.xe s₂) X.xe s₁) X.xe s
def tB (t : TE) : TT := fun σ H Q => t σ H fun x H1 => ∃ c, x = .bl c ∧ Q c H1
theorem pt_cmp {op : CmpOp} {t : TE} (h : PC X op a b t) (h1 : behindInMarks op b = false := by first | exact nobehind _ (by decide) (by decide) | rfl) : PT X (.Compare a [op] [b] pos) (tB t) := by
  intro pins s σ H Q I hw
  refine wpAny_isTrue_Compare1 (thn (h pins s σ H _ I hw) fun v s1 h1 => thn h1 fun u s2 h2 => thn h2 fun c s3 ⟨x, H1, I1, r1, q1⟩ => ?_) h1
  obtain ⟨d, rfl, q⟩ := q1
  cases r1
  exact wpAny_truthy_bool ⟨H1, I1, q⟩
theorem pt_val {e : Expr} {t : TE} (h : PE X e t) (he : ∀ whole, isTrue e X.env whole = (do let v ← whole; standAt e.pos; holding [v] (truthy v)) := by intro _; rfl) : PT X e (tB t) := by
  intro pins s σ H Q I hw
  refine isTrue_plain (thn (h pins s σ H _ I hw) fun v s1 ⟨x, H1, I1, r1, q1⟩ => ?_) (he _)
  obtain ⟨d, rfl, q⟩ := q1
  cases r1
  exact wpAny_truthy_bool ⟨H1, I1, q⟩
variable {tA tB' : TT} {rest : List Expr}
def tAnd (t u : TT) : TT := fun σ H Q => t σ H fun c H1 => if c = true then u σ H1 Q else Q false H1
def tOr (t u : TT) : TT := fun σ H Q => t σ H fun c H1 => if c = true then Q true H1 else u σ H1 Q
def tNot (t : TT) : TT := fun σ H Q => t σ H fun c H1 => Q (!c) H1
theorem pw_and1 (ha : PT X a tA) : PW X (.BoolOp .And [a] pos) tA := by
  intro wh pins s σ H Q I h
  refine isTrue_and (thn (ha pins s σ H Q I h) fun c s1 e => ?_)
  cases c with
  | true => exact isTrue_and_nil e
  | false => exact e
theorem pw_or1 (ha : PT X a tA) : PW X (.BoolOp .Or [a] pos) tA := by
  intro wh pins s σ H Q I h
  refine isTrue_or (thn (ha pins s σ H Q I h) fun c s1 e => ?_)
  cases c with
  | false => exact isTrue_or_nil e
  | true => exact e
theorem pw_and (ha : PT X a tA) (hb : PW X (.BoolOp .And (b :: rest) pos) tB') : PW X (.BoolOp .And (a :: b :: rest) pos) (tAnd tA tB') := by
  intro wh pins s σ H Q I h
  refine isTrue_and (thn (ha pins s σ H _ I h) fun c s1 ⟨H1, I1, q1⟩ => ?_)
  cases c with
  | true => exact hb wh pins s1 σ H1 Q I1 q1
  | false => exact ⟨H1, I1, q1⟩
theorem pw_or (ha : PT X a tA) (hb : PW X (.BoolOp .Or (b :: rest) pos) tB') : PW X (.BoolOp .Or (a :: b :: rest) pos) (tOr tA tB') := by
  intro wh pins s σ H Q I h
  refine isTrue_or (thn (ha pins s σ H _ I h) fun c s1 ⟨H1, I1, q1⟩ => ?_)
  cases c with
  | true => exact ⟨H1, I1, q1⟩
  | false => exact hb wh pins s1 σ H1 Q I1 q1
theorem pt_not (ha : PT X a tA) : PT X (.UnaryOp .Not a pos) (tNot tA) := by
  intro pins s σ H Q I h
  exact isTrue_not (ha pins s σ H (fun c H1 => Q (!c) H1) I h)
def tAndV (ta tb : TE) : TE := fun σ H Q => ta σ H fun x H1 => ∃ c, x = .bl c ∧ if c = true then tb σ H1 Q else Q (.bl false) H1
def tOrV (ta tb : TE) : TE := fun σ H Q => ta σ H fun x H1 => ∃ c, x = .bl c ∧ if c = true then Q (.bl true) H1 else tb σ H1 Q
def tNotV (ta : TE) : TE := fun σ H Q => ta σ H fun x H1 => ∃ c, x = .bl c ∧ Q (.bl (!c)) H1
theorem pe_one {op} {t : TE} (h : PE X a t) : PE X (.BoolOp op [a] pos) t := fun pins s σ H Q I hw => BoolOp_one (h pins s σ H Q I hw)
theorem pe_and (ha : PE X a ta) (hb : PE X (.BoolOp .And (b :: rest) pos) tb) : PE X (.BoolOp .And (a :: b :: rest) pos) (tAndV ta tb) := by
  intro pins s σ H Q I h
  refine BoolOp_and (thn (ha pins s σ H _ I h) fun v s1 ⟨x, H1, I1, r1, q1⟩ => ?_)
  obtain ⟨c, rfl, q1⟩ := q1
  cases r1
  refine wpAny_truthy_bool ?_
  cases c with
  | true => exact hb pins s1 σ H1 Q I1 q1
  | false => exact ⟨.bl false, H1, I1, rfl, q1⟩
theorem pe_or (ha : PE X a ta) (hb : PE X (.BoolOp .Or (b :: rest) pos) tb) : PE X (.BoolOp .Or (a :: b :: rest) pos) (tOrV ta tb) := by
  intro pins s σ H Q I h
  refine BoolOp_or (thn (ha pins s σ H _ I h) fun v s1 ⟨x, H1, I1, r1, q1⟩ => ?_)
  obtain ⟨c, rfl, q1⟩ := q1
  cases r1
  refine wpAny_truthy_bool ?_
  cases c with
  | false => exact hb pins s1 σ H1 Q I1 q1
  | true => exact ⟨.bl true, H1, I1, rfl, q1⟩
theorem pe_not (ha : PE X a ta) : PE X (.UnaryOp .Not a pos) (tNotV ta) := by
  intro pins s σ H Q I h
  refine UnaryOp_ (thn (ha pins s σ H _ I h) fun v s1 ⟨x, H1, I1, r1, q1⟩ => ?_)
  obtain ⟨c, rfl, q1⟩ := q1
  cases r1
  exact not_of (wpAny_truthy_bool ⟨.bl (!c), H1, I1, rfl, q1⟩)
end
end L2
namespace L2
open PySem PySem.Spec PyProof.Rows
def SqL (K : PySem.W.Frag) (H : Hp) (a : Addr) (xs : List V) : Prop :=
  Rd H a (.lst xs) ∨
    ∃ (o : Obj) (its : Array Value) (n : Nat), K.lookup a = some o ∧ o.cls = .type "list" ∧ o.dict = none ∧ o.data = .seq its n ∧ its.size ≤ sizeLine ∧ Vals xs its.toList
def SqT (K : PySem.W.Frag) (H : Hp) (a : Addr) (xs : List V) : Prop :=
  Rd H a (.tup xs) ∨
    ∃ (o : Obj) (its : Array Value) (n : Nat), K.lookup a = some o ∧ o.cls = .type "tuple" ∧ o.data = .seq its n ∧ its.size ≤ sizeLine ∧ Vals xs its.toList
def absV : Value → Option V
  | .none => some .non
  | .bool b => some (.bl b)
  | .int i _ => some (.int i)
  | .str x _ => some (.str x)
  | .bytes b _ => some (.byt b)
  | .float b _ => some (.flt b)
  | .ref a => some (.ref a)
  | .type n => some (.ty n)
  | _ => none
theorem RelV.abs {x : V} {u : Value} (r : RelV x u) : absV u = some x := by
  cases x with
  | non => cases r; rfl
  | bl _ => cases r; rfl
  | int _ => obtain ⟨t, rfl⟩ := r; rfl
  | str _ => obtain ⟨t, rfl⟩ := r; rfl
  | byt _ => obtain ⟨t, rfl⟩ := r; rfl
  | flt _ => obtain ⟨t, rfl⟩ := r; rfl
  | ref _ => cases r; rfl
  | ty _ => cases r; rfl
theorem RelV.inj {x y : V} {u : Value} (r : RelV x u) (q : RelV y u) : x = y := Option.some.inj (r.abs.symm.trans q.abs)
theorem Vals.inj : ∀ {xs ys : List V} {us : List Value}, Vals xs us → Vals ys us → xs = ys
  | _, _, _, .nil, .nil => rfl
  | _, _, _, .cons r t, .cons r' t' => by rw [r.inj r', Vals.inj t t']
section
variable {X : Cx} {pins : List (Addr × Obj)} {σ : St} {H : Hp} {s : Shared} {a : Addr} {xs ys : List V}
theorem SqL.of {K : PySem.W.Frag} (h : H a = some (.lst xs)) : SqL K H a xs := .inl (.inl h)
theorem SqT.of {K : PySem.W.Frag} (h : H a = some (.tup xs)) : SqT K H a xs := .inl (.inl h)
theorem Inv.list (I : Inv X pins σ H s) (h : SqL X.K H a xs) : ∃ its : List Value, Vals xs its ∧ PlainL s.heap a its.toArray ∧ xs.length ≤ sizeLine := by
  rcases h with h | ⟨o, its, n, hk, hc, hd, hs, hz, r⟩
  · obtain ⟨z, its, n, r, e⟩ := h.ok I.hok
    exact ⟨its, r, ⟨_, n, e, rfl, rfl, rfl⟩, z⟩
  · refine ⟨its.toList, r, ⟨o, n, I.kIn a o hk, hc, hd, by simpa using hs⟩, ?_⟩
    have e := r.length
    simp only [Array.length_toList] at e
    omega
theorem Inv.tuple (I : Inv X pins σ H s) (h : SqT X.K H a xs) : ∃ its : List Value, Vals xs its ∧ IsTup s.heap a its.toArray ∧ xs.length ≤ sizeLine := by
  rcases h with h | ⟨o, its, n, hk, hc, hs, hz, r⟩
  · obtain ⟨z, its, r, p⟩ := h.ok I.hok
    exact ⟨its, r, p, z⟩
  · refine ⟨its.toList, r, ⟨o, I.kIn a o hk, hc, n, by simpa using hs⟩, ?_⟩
    have e := r.length
    simp only [Array.length_toList] at e
    omega
theorem Inv.list_inj (I : Inv X pins σ H s) (h : SqL X.K H a xs) (h' : SqL X.K H a ys) : xs = ys := by
  obtain ⟨its, r, ⟨o, n, e, _, _, d⟩, _⟩ := I.list h
  obtain ⟨its', r', ⟨o', n', e', _, _, d'⟩, _⟩ := I.list h'
  rw [e] at e'; cases e'
  rw [d] at d'
  injection d' with d1 _
  have : its = its' := by simpa using congrArg Array.toList d1
  subst this
  exact r.inj r'
theorem Inv.tuple_inj (I : Inv X pins σ H s) (h : SqT X.K H a xs) (h' : SqT X.K H a ys) : xs = ys := by
  obtain ⟨its, r, ⟨o, e, _, n, d⟩, _⟩ := I.tuple h
  obtain ⟨its', r', ⟨o', e', _, n', d'⟩, _⟩ := I.tuple h'
  rw [e] at e'; cases e'
  rw [d] at d'
  injection d' with d1 _
  have : its = its' := by simpa using congrArg Array.toList d1
  subst this
  exact r.inj r'
end
abbrev Cx.wish (X : Cx) (E : Value → Shared → Prop) : Cx := { X with xe := E }
abbrev Cx.nox (X : Cx) : Cx := X.wish fun _ _ => False
theorem Cx.Ok.wish {X : Cx} (ok : X.Ok) (E : Value → Shared → Prop) : (X.wish E).Ok :=
  ⟨ok.mod, ok.kind, ok.glob, ok.blt, ok.above, ok.inj, ok.has, ok.cab, ok.hd, ok.frames, ok.stk, ok.exf, ok.bs, ok.bsz, ok.noex, ok.exfs, ok.funs, ok.frf⟩
theorem Cx.Ok.unwish {X : Cx} {E : Value → Shared → Prop} (ok : (X.wish E).Ok) : X.Ok :=
  ⟨ok.mod, ok.kind, ok.glob, ok.blt, ok.above, ok.inj, ok.has, ok.cab, ok.hd, ok.frames, ok.stk, ok.exf, ok.bs, ok.bsz, ok.noex, ok.exfs, ok.funs, ok.frf⟩
section
variable {X : Cx} {pins : List (Addr × Obj)} {σ : St} {H : Hp} {s : Shared} {E : Value → Shared → Prop}
theorem Inv.wish (I : Inv X pins σ H s) (E : Value → Shared → Prop) : Inv (X.wish E) pins σ H s := ⟨I.ok.wish E, I.os, I.bare, I.base, I.loc, I.cell, I.free, I.freeC, I.pin, I.hok, I.len⟩
theorem Inv.unwish (I : Inv (X.wish E) pins σ H s) : Inv X pins σ H s := ⟨I.ok.unwish, I.os, I.bare, I.base, I.loc, I.cell, I.free, I.freeC, I.pin, I.hok, I.len⟩
theorem SP.unwish {D : Ends} {f : Flow} {s' : Shared} (h : SP (X.wish E) pins D f s') : SP X pins D f s' := by
  cases f with
  | next => obtain ⟨σ', H', I, q⟩ := h; exact ⟨σ', H', I.unwish, q⟩
  | brk => obtain ⟨σ', H', I, q⟩ := h; exact ⟨σ', H', I.unwish, q⟩
  | cont => obtain ⟨σ', H', I, q⟩ := h; exact ⟨σ', H', I.unwish, q⟩
  | ret u => obtain ⟨v, σ', H', I, r, q⟩ := h; exact ⟨v, σ', H', I.unwish, r, q⟩
theorem PSs.nox {st : List Stmt} {t : TS} (h : PSs X.nox st t) : PSs X st t := fun pins s σ H D I hw =>
  wpAny_mono (h pins s σ H D (I.wish _) hw) (fun _ _ q => q.unwish) fun _ _ z => False.elim z
end
section
variable {X : Cx} {st : Stmt} {rest : List Stmt} {t u : TS} {e : Expr} {te : TE} {pos : Pos}
def tNext : TS := fun D σ H => D.nx σ H
def tSeq (t u : TS) : TS := fun D σ H => t { D with nx := u D } σ H
theorem pss_nil : PSs X [] tNext := fun _ _ σ H _ I h => wpAny_execs_nil ⟨σ, H, I, h⟩
theorem pss_cons (h1 : PS X st t) (h2 : PSs X rest u) : PSs X (st :: rest) (tSeq t u) := by
  intro pins s σ H D I h
  refine wpAny_execs_cons (thn (h1 pins s σ H { D with nx := u D } I h) fun f s1 q => ?_)
  cases f with
  | next =>
    obtain ⟨σ', H', I', q⟩ := q
    exact h2 pins s1 σ' H' D I' q
  | ret v => exact q
  | brk => exact q
  | cont => exact q
theorem pss_one (h1 : PS X st t) : PSs X [st] t := by
  intro pins s σ H D I h
  refine wpAny_execs_cons (thn (h1 pins s σ H D I h) fun f s1 q => ?_)
  cases f with
  | next => exact wpAny_execs_nil q
  | ret v => exact q
  | brk => exact q
  | cont => exact q
theorem Inv.quiet {pins : List (Addr × Obj)} {σ : St} {H : Hp} {s : Shared} (I : Inv X pins σ H s) : interactive X.env = false := by simp [interactive, I.ok.kind]
def tDrop (te : TE) : TS := fun D σ H => te σ H fun _ H1 => D.nx σ H1
theorem ps_expr (he : PE X e te) (hs : swapsWith e none pos.line X.env = pure false := by rfl) : PS X (.Expr e pos) (tDrop te) := by
  intro pins s σ H D I h
  exact wpAny_Expr_any (thn (he pins s σ H _ I h) fun v s1 ⟨x, H1, I1, r1, q1⟩ => ⟨σ, H1, I1, q1⟩) I.quiet hs
def tRet (te : TE) : TS := fun D σ H => te σ H D.rt
theorem ps_ret (he : PE X e te) : PS X (.Return (some e) pos) (tRet te) := by
  intro pins s σ H D I h
  exact wpAny_Return_some (thn (he pins s σ H _ I h) fun v s1 ⟨x, H1, I1, r1, q1⟩ => ⟨x, σ, H1, I1, r1, q1⟩)
def tIfS (c : TT) (t u : TS) : TS := fun D σ H => c σ H fun b H1 => if b = true then t D σ H1 else u D σ H1
theorem ps_if {c : Expr} {a b : List Stmt} {tc : TT} (hc : PT X c tc) (ha : PSs X a t) (hb : PSs X b u) : PS X (.If c a b pos) (tIfS tc t u) := by
  intro pins s σ H D I h
  refine wpAny_If (thn (hc pins s σ H _ I h) fun d s1 ⟨H1, I1, q1⟩ => ?_)
  cases d with
  | true => exact ha pins s1 σ H1 D I1 q1
  | false => exact hb pins s1 σ H1 D I1 q1
def tNever : TS := fun _ _ _ => False
theorem ps_never : PS X st tNever := fun _ _ _ _ _ _ h => h.elim
end
abbrev TG := V → St → Hp → (St → Hp → Prop) → Prop
def PG (X : Cx) (target : Expr) (t : TG) : Prop :=
  ∀ (pins : List (Addr × Obj)) (s : Shared) (σ : St) (H : Hp) (v : V) (u : Value) (Q : St → Hp → Prop), Inv X pins σ H s → RelV v u → t v σ H Q →
    wpAny (model X.prog X.w) X.A (assign target X.env u) (fun _ s' => ∃ σ' H', Inv X pins σ' H' s' ∧ Q σ' H') X.xe s
section
variable {X : Cx} {pos : Pos}
def gName (i : Nat) : TG := fun v σ H Q => Q (σ.set i (some v)) H
theorem pg_name {i : Nat} {x : Str} (hN : X.N.Nodup) (hi : X.N[i]? = some x) (hx : Loc X.env.scope x) (hf : X.fn x = true ∨ X.env.scope.names.lookup x = some .local := by first | exact .inl rfl | exact .inr rfl | assumption) : PG X (.Name x pos) (gName i) := by
  intro pins s σ H v u Q I r h
  exact wpAny_assign_Name (store_ok I hN hi hx r (fun s' I' => ⟨_, H, I', h⟩) hf)
def tAsg (te : TE) (g : TG) : TS := fun D σ H => te σ H fun x H1 => g x σ H1 D.nx
theorem ps_set {i : Nat} {x : Str} {e : Expr} {te : TE} {pos' : Pos} (hN : X.N.Nodup) (hi : X.N[i]? = some x) (hx : Loc X.env.scope x) (he : PE X e te) (hs : swapsWith e (some (.Name x pos')) pos.line X.env = pure false := by rfl) (hf : X.fn x = true ∨ X.env.scope.names.lookup x = some .local := by first | exact .inl rfl | exact .inr rfl | assumption) :
    PS X (.Assign [.Name x pos'] e pos) (tAsg te (gName i)) := by
  intro pins s σ H D I h
  refine wpAny_Assign_Name (thn (he pins s σ H _ I h) fun v s1 ⟨y, H1, I1, r1, q1⟩ => ?_) hs
  exact store_ok I1 hN hi hx r1 (fun s2 I2 => ⟨_, H1, I2, q1⟩) hf
end
section
variable {X : Cx} {pos : Pos}
end
structure It where
  go : Nat → Hp → Prop
  yld : Nat → Hp → V → Hp → Prop
  stop : Nat → Hp → Prop
def FpOk (X : Cx) (pins : List (Addr × Obj)) (H : Hp) (b : Addr) : Prop :=
  H b = none ∧ b ≠ X.env.locals ∧ b ∉ X.fs ∧ (b ∈ X.ex ∨ X.s₀.heap.objs.size ≤ b) ∧ (∀ x c, X.env.cells.lookup x = some c → c ≠ b) ∧ ∀ p ∈ X.pn ++ pins, p.1 ≠ b
theorem Inv.fpOk {X : Cx} {pins : List (Addr × Obj)} {σ : St} {H H' : Hp} {s : Shared} {b : Addr} (I : Inv X pins σ H s) (hb : s.heap.objs.size ≤ b) (hn : H' b = none) : FpOk X pins H' b := by
  refine ⟨hn, Nat.ne_of_gt (Nat.lt_of_lt_of_le I.lt hb), I.nofs hb, .inr (Nat.le_trans I.sz hb), fun x c e z => ?_, fun p hp z => ?_⟩
  · obtain ⟨v, q⟩ := I.cell x c e
    exact absurd (Nat.lt_of_lt_of_le q.lt (by rw [z]; exact hb)) (Nat.lt_irrefl _)
  · exact absurd (Nat.lt_of_lt_of_le (Heap.lt_size (I.pin p hp).1) (by rw [z]; exact hb)) (Nat.lt_irrefl _)
structure Turn (P : Program) (w : World) (K : PySem.W.Frag) (tg : Expr) (J : It) (fp : List Addr) (it : Addr) (tn : Nat → Heap → Prop) : Prop where
  mem : it ∈ fp
  obj : ∀ i h, tn i h → ∀ b ∈ fp, ∃ o, h.get? b = some o ∧ ∀ v, o.data ≠ .cell v
  keep : ∀ i h h', tn i h → (∀ b ∈ fp, ∀ o, h.get? b = some o → h'.get? b = some o) → tn i h'
  item : ∀ (X : Cx), X.prog = P → X.w = w → X.K = K → X.calm = true → ∀ (i : Nat) (pins : List (Addr × Obj)) (s : Shared) (σ : St) (H : Hp) (E : Value → Shared → Prop), Inv X pins σ H s → (∀ b ∈ fp, FpOk X pins H b) → tn i s.heap → J.go i H →
    wpAny (model P w) X.A (pyNext (.ref it)) (fun r s1 => ∃ u, r = some u ∧
      wpAny (model P w) X.A (letOwnedTupleGo tg (.ref it) u) (fun _ s2 => ∃ x H', Inv X pins σ H' s2 ∧ RelV x u ∧ J.yld i H x H' ∧ tn (i + 1) s2.heap ∧ ∀ b ∈ fp, H' b = none) E s1) E s
  done : ∀ (X : Cx), X.prog = P → X.w = w → X.K = K → X.calm = true → ∀ (i : Nat) (pins : List (Addr × Obj)) (s : Shared) (σ : St) (H : Hp) (E : Value → Shared → Prop), Inv X pins σ H s → (∀ b ∈ fp, FpOk X pins H b) → tn i s.heap → J.stop i H →
    wpAny (model P w) X.A (pyNext (.ref it)) (fun r s1 => r = none ∧ Inv X pins σ H s1) E s
  self : ∀ (A : Around) (i : Nat) (s : Shared) (Q : Value → Shared → Prop) (E : Value → Shared → Prop), tn i s.heap → Q (.ref it) s → wpAny (model P w) A (pyIter (.ref it)) Q E s
abbrev TI := St → Hp → (It → Hp → Prop) → Prop
def PIE (X : Cx) (pins : List (Addr × Obj)) (σ : St) (tg : Expr) (R : It → Hp → Prop) (itv : Value) (s2 : Shared) : Prop :=
  ∃ (it : Addr) (fp : List Addr) (tn : Nat → Heap → Prop) (J : It) (H' : Hp), itv = .ref it ∧ Inv X pins σ H' s2 ∧ Turn X.prog X.w X.K tg J fp it tn ∧ tn 0 s2.heap ∧ (∀ b ∈ fp, FpOk X pins H' b) ∧ R J H'
def PI (X : Cx) (tg iter : Expr) (wi : TI) : Prop :=
  ∀ (pins : List (Addr × Obj)) (s : Shared) (σ : St) (H : Hp) (R : It → Hp → Prop), Inv X pins σ H s → wi σ H R →
    wpAny (model X.prog X.w) X.A (eval iter X.env) (fun v s1 => wpAny (model X.prog X.w) X.A (pyIter v) (PIE X pins σ tg R) X.xe s1) X.xe s
theorem go_of {M : Model} {A : Around} {E : Value → Shared → Prop} {s : Shared} {tg : Expr} {it : Addr} {u : Value} {o : Obj} {n : String} {vs : Array Value} {Q : Unit → Shared → Prop} (ho : s.heap.get? it = some o) (hc : o.cls = .type n) (hd : o.data = .fields vs)
    (hn : ["enumerate", "zip", "dict_itemiterator", "dict_reverseitemiterator", "odict_iterator", "itertools.zip_longest", "itertools.pairwise"].contains n = false) (hQ : Q () s) : wpAny M A (letOwnedTupleGo tg (.ref it) u) Q E s := by
  unfold letOwnedTupleGo
  cases tg <;> first
    | exact wpAny_pure hQ
    | (cases u <;> first
        | exact wpAny_pure hQ
        | (refine wpAny_bind (wpAny_load ho ?_)
           rw [hc, hd]
           show wpAny M A (if (["enumerate", "zip", "dict_itemiterator", "dict_reverseitemiterator", "odict_iterator", "itertools.zip_longest", "itertools.pairwise"].contains n && vs[0]? == some (rawInt _)) = true then _ else _) Q E s
           rw [if_neg (by intro h; rw [hn, Bool.false_and] at h; cases h)]
           exact wpAny_pure hQ))
def Itl (K : PySem.W.Frag) (a : Addr) : It :=
  ⟨fun i H => ∃ xs x, SqL K H a xs ∧ xs[i]? = some x, fun i H x H' => H' = H ∧ ∀ xs, SqL K H a xs → xs[i]? = some x, fun i H => ∃ xs, SqL K H a xs ∧ xs.length ≤ i⟩
def Itr (lo : Int) (n : Nat) : It := ⟨fun i _ => i < n, fun i H x H' => H' = H ∧ x = .int (lo + i), fun i _ => n ≤ i⟩
theorem turn_list {P : Program} {w : World} {K : PySem.W.Frag} {tg : Expr} (a it : Addr) : Turn P w K tg (Itl K a) [it] it (fun i h => h.IsListIter it a i) where
  mem := by simp
  obj := fun i h st b hb => by
    have e : b = it := by simpa using hb
    subst e
    obtain ⟨o, e, c, d⟩ := st
    exact ⟨o, e, fun v z => by rw [d] at z; cases z⟩
  keep := fun i h h' st k => st.at fun o e => k it (by simp) o e
  item := by
    intro X hP hw hK hc i pins s σ H E I hf st hg
    subst hP hw hK
    obtain ⟨xs, x, hq, hx⟩ := hg
    obtain ⟨its, rv, p, hz⟩ := I.list hq
    obtain ⟨u, hu, ru⟩ := rv.get hx
    obtain ⟨f0, f1, f2, f3, f4, f5⟩ := hf it (by simp)
    refine wpAny_pyNext_list_item st p.isList (x := u) (by simpa using hu) fun h' st' sb => ?_
    have I1 : Inv X pins σ H { s with heap := h' } := I.turned (t' := s.toks) (fun b o hb e => (sb.2 b hb).trans e) f0 f1 f3 f4 f5
    obtain ⟨o, e, c, d⟩ := id st'
    exact ⟨u, rfl, go_of (s := { s with heap := h' }) e c d (by decide) ⟨x, H, I1, ru, ⟨rfl, fun ys hy => by rw [I.list_inj hy hq]; exact hx⟩, st', fun b hb => (hf b hb).1⟩⟩
  done := by
    intro X hP hw hK hc i pins s σ H E I hf st hg
    subst hP hw hK
    obtain ⟨xs, hq, hx⟩ := hg
    obtain ⟨its, rv, p, hz⟩ := I.list hq
    obtain ⟨f0, f1, f2, f3, f4, f5⟩ := hf it (by simp)
    have hl := rv.length
    exact wpAny_pyNext_list_end (I.ok.hd hc) st p.isList (by simp; omega) fun h' eb => ⟨rfl, I.turned (t' := s.toks) (fun b o hb e => eb b o hb e) f0 f1 f3 f4 f5⟩
  self := fun _ _ _ _ _ st h => wpAny_pyIter_listiter st h
theorem turn_range {P : Program} {w : World} {K : PySem.W.Frag} {tg : Expr} (it : Addr) (lo : Int) (n : Nat) : Turn P w K tg (Itr lo n) [it] it (fun i h => IsRangeIter h it (lo + (i : Nat) * 1) ((n : Int) - (i : Nat)) 1) where
  mem := by simp
  obj := fun i h st b hb => by
    have e : b = it := by simpa using hb
    subst e
    exact ⟨_, st, fun v z => by
      have z' : Data.fields _ = Data.cell v := z
      cases z'⟩
  keep := fun i h h' st k => k it (by simp) _ st
  item := by
    intro X hP hw hK hc i pins s σ H E I hf st hg
    subst hP hw hK
    obtain ⟨f0, f1, f2, f3, f4, f5⟩ := hf it (by simp)
    have W := Walks.range (prog := X.prog) (w := X.w) (I.ok.hd hc) it lo 1 n
    refine W.item i s _ _ hg st fun v h' tk hv st' kk => ?_
    obtain ⟨t, rfl⟩ := hv
    have I1 : Inv X pins σ H { s with heap := h', toks := tk } := I.turned (fun b o hb e => kk b o (by simpa using hb) e) f0 f1 f3 f4 f5
    refine ⟨_, rfl, go_of (s := { s with heap := h', toks := tk }) (n := "range_iterator") st' rfl rfl (by decide) ⟨.int (lo + i), H, I1, ⟨t, ?_⟩, ⟨rfl, rfl⟩, st', fun b hb => (hf b hb).1⟩⟩
    rw [Int.mul_one]
  done := by
    intro X hP hw hK hc i pins s σ H E I hf st hg
    subst hP hw hK
    obtain ⟨f0, f1, f2, f3, f4, f5⟩ := hf it (by simp)
    exact wpAny_pyNext_range_end (I.ok.hd hc) st (by have : n ≤ i := hg; omega) fun h' eb => ⟨rfl, I.turned (t' := s.toks) (fun b o hb e => eb b o hb e) f0 f1 f3 f4 f5⟩
  self := fun _ _ _ _ _ st h => wpAny_pyIter_rangeiter st h
end L2
namespace L2
open PySem PySem.Spec PyProof.Rows
section
variable {X : Cx} {tg : Expr}
def iList (K : PySem.W.Frag) (tl : TE) : TI := fun σ H R => tl σ H fun x H1 => ∃ a, x = .ref a ∧ (∃ xs, SqL K H1 a xs) ∧ R (Itl K a) H1
theorem pi_list {l : Expr} {tl : TE} (hl : PE X l tl) : PI X tg l (iList X.K tl) := by
  intro pins s σ H R I h
  refine thn (hl pins s σ H _ I h) fun v s1 ⟨x, H1, I1, r1, q1⟩ => ?_
  obtain ⟨a, e, ⟨xs, hq⟩, q⟩ := q1
  subst e
  cases r1
  obtain ⟨its, rv, p, hz⟩ := I1.list hq
  refine wpAny_pyIter_list p.isList ?_
  refine ⟨s1.heap.objs.size, [s1.heap.objs.size], _, _, H1, rfl, I1.kept (t' := s1.toks) fun b o e => Heap.get?_push_of_some _ e, turn_list a _, ⟨_, Heap.get?_push_size _ rfl, rfl, rfl⟩, fun b hb => ?_, q⟩
  have e : b = s1.heap.objs.size := by simpa using hb
  subst e
  exact I1.fpOk (Nat.le_refl _) (I1.hok.fresh (Nat.le_refl _))
theorem range_it {pins : List (Addr × Obj)} {σ : St} {H : Hp} {s : Shared} {R : It → Hp → Prop} {E : Value → Shared → Prop} {lo hi : Int} {t u v : Tok} {tk : Nat} (I : Inv X pins σ H s) (h1 : -(2 ^ 62) ≤ lo) (h2 : lo < 2 ^ 62) (h3 : -(2 ^ 62) ≤ hi) (h4 : hi < 2 ^ 62)
    (q : R (Itr lo (hi - lo).toNat) H) : wpAny (model X.prog X.w) X.A (pyIter (.ref s.heap.objs.size)) (PIE X pins σ tg R) E { s with heap := s.heap.push { cls := .type "range", data := .fields #[.int lo t, .int hi u, .int 1 v] }, toks := tk } := by
  refine wpAny_pyIter_range (IsRange.new ..) (small_one h1 h2 h3 h4) ?_
  have I1 : Inv X pins σ H { s with heap := s.heap.push { cls := .type "range", data := .fields #[.int lo t, .int hi u, .int 1 v] }, toks := tk } := I.kept fun b o e => Heap.get?_push_of_some _ e
  refine ⟨(s.heap.push { cls := .type "range", data := .fields #[.int lo t, .int hi u, .int 1 v] }).objs.size, [(s.heap.push { cls := .type "range", data := .fields #[.int lo t, .int hi u, .int 1 v] }).objs.size], _, _, H, rfl,
    I1.kept (t' := tk) fun b o e => Heap.get?_push_of_some _ e, turn_range _ lo (hi - lo).toNat, ?_, fun b hb => ?_, q⟩
  · have e1 : lo + ((0 : Nat) : Int) * 1 = lo := by simp
    have e2 : (((hi - lo).toNat : Nat) : Int) - ((0 : Nat) : Int) = Builtin.Range.rangeSize lo hi 1 := by rw [rangeSize_one]; split <;> omega
    show IsRangeIter _ _ (lo + ((0 : Nat) : Int) * 1) ((((hi - lo).toNat : Nat) : Int) - ((0 : Nat) : Int)) 1
    rw [e1, e2]
    exact Heap.get?_push_size _ rfl
  · have e : b = (s.heap.push { cls := .type "range", data := .fields #[.int lo t, .int hi u, .int 1 v] }).objs.size := by simpa using hb
    subst e
    exact I1.fpOk (Nat.le_refl _) (I1.hok.fresh (Nat.le_refl _))
def iRng1 (ta : TA) : TI := fun σ H R => ta σ H fun vs H1 => ∃ j : Int, vs = [.int j] ∧ -(2 ^ 62) ≤ j ∧ j < 2 ^ 62 ∧ R (Itr 0 j.toNat) H1
def iRng2 (ta : TA) : TI := fun σ H R => ta σ H fun vs H1 => ∃ i j : Int, vs = [.int i, .int j] ∧ (-(2 ^ 62) ≤ i ∧ i < 2 ^ 62 ∧ -(2 ^ 62) ≤ j ∧ j < 2 ^ 62) ∧ R (Itr i (j - i).toNat) H1
theorem pi_range1 {a : Expr} {ta : TA} {p pos : Pos} (hg : Gl X "range") (hm : X.mg "range" = none) (ha : PA X [a] ta) (hs : starEach [a] X.env = [(false, eval a X.env)] := by rfl) : PI X tg (.Call (.Name "range" p) [a] [] pos) (iRng1 ta) := by
  intro pins s σ H R I h
  refine Call_ (ld_blt I hg hm boot_range (PyProof.Rows.callWith_type1 (thn (ha pos pins s σ H _ I h) fun us s1 ⟨vs, H1, I1, r1, q1⟩ => ?_) hs rfl))
  obtain ⟨j, e, q1, q2, q⟩ := q1
  subst e
  cases r1 with
  | cons r rr =>
    cases rr
    obtain ⟨t, rfl⟩ := r
    exact call_range_1 (range_it I1 (by omega) (by omega) q1 q2 (by simpa using q))
theorem pi_range2 {a b : Expr} {ta : TA} {p pos : Pos} (hg : Gl X "range") (hm : X.mg "range" = none) (ha : PA X [a, b] ta) (hs : starEach [a, b] X.env = [(false, eval a X.env), (false, eval b X.env)] := by rfl) (hs2 : starEach [b] X.env = [(false, eval b X.env)] := by rfl) :
    PI X tg (.Call (.Name "range" p) [a, b] [] pos) (iRng2 ta) := by
  intro pins s σ H R I h
  refine Call_ (ld_blt I hg hm boot_range (PyProof.Rows.callWith_type1 (thn (ha pos pins s σ H _ I h) fun us s1 ⟨vs, H1, I1, r1, q1⟩ => ?_) (by rw [hs, hs2]) (by rw [hs2]; rfl)))
  obtain ⟨i, j, e, ⟨q1, q2, q3, q4⟩, q⟩ := q1
  subst e
  cases r1 with
  | cons r rr =>
    cases rr with
    | cons r' rr =>
      cases rr
      obtain ⟨t, rfl⟩ := r
      obtain ⟨t', rfl⟩ := r'
      exact call_range_2 (range_it I1 q1 q2 q3 q4 q)
def tFor (wi : TI) (g : TG) (tb : TS) : TS := fun D σ H => wi σ H fun J H1 => ∃ W : Nat → Nat → St → Hp → Prop, (∃ m, W 0 m σ H1) ∧ ∀ i m σ H, W i m σ H →
  (J.stop i H ∧ D.nx σ H) ∨ (J.go i H ∧ ∃ N : St → Hp → Prop, (∀ σ' H', N σ' H' → ∃ m', m' < m ∧ W (i + 1) m' σ' H') ∧ ∀ x H', J.yld i H x H' → g x σ H' fun σ2 H2 => tb { D with nx := N, ct := N, bk := D.nx } σ2 H2)
def pinsAt (fp : List Addr) (h : Heap) : List (Addr × Obj) := fp.filterMap fun b => (h.get? b).map fun o => (b, o)
theorem mem_pinsAt {fp : List Addr} {h : Heap} {b : Addr} {o : Obj} (hb : b ∈ fp) (e : h.get? b = some o) : (b, o) ∈ pinsAt fp h := List.mem_filterMap.mpr ⟨b, hb, by rw [e]; rfl⟩
theorem of_pinsAt {fp : List Addr} {h : Heap} {p : Addr × Obj} (hp : p ∈ pinsAt fp h) : p.1 ∈ fp ∧ h.get? p.1 = some p.2 := by
  obtain ⟨b, hb, e⟩ := List.mem_filterMap.mp hp
  cases q : h.get? b with
  | none => rw [q] at e; cases e
  | some o =>
    rw [q] at e
    have e' : (b, o) = p := Option.some.inj e
    subst e'
    exact ⟨hb, q⟩
theorem Inv.pinned {pins : List (Addr × Obj)} {σ : St} {H : Hp} {s : Shared} {fp : List Addr} (I : Inv X pins σ H s) (hf : ∀ b ∈ fp, FpOk X pins H b) (ho : ∀ b ∈ fp, ∃ o, s.heap.get? b = some o ∧ ∀ v, o.data ≠ .cell v) : Inv X (pins ++ pinsAt fp s.heap) σ H s :=
  I.pins_of fun p hp => (List.mem_append.mp hp).elim (fun z => I.pin p (List.mem_append_right _ z)) fun z => by
    obtain ⟨hb, e⟩ := of_pinsAt z
    obtain ⟨f0, f1, f2, _⟩ := hf p.1 hb
    obtain ⟨o, e', d⟩ := ho p.1 hb
    rw [e] at e'; cases e'
    exact ⟨e, f0, f1, f2, d⟩
theorem Inv.unpinned {pins pl : List (Addr × Obj)} {σ : St} {H : Hp} {s : Shared} (I : Inv X (pins ++ pl) σ H s) : Inv X pins σ H s := I.pins_of fun p hp => I.pin p (List.mem_append_right _ (List.mem_append_left _ hp))
theorem ps_for {iter : Expr} {body : List Stmt} {wi : TI} {g : TG} {tb : TS} {pos : Pos} (hp : PassesOwn (model X.prog X.w) X.A X.env X.xe) (hc : X.calm = true) (hi : PI X tg iter wi) (hg : PG X tg g) (hb : PSs X body tb)
    (hs : ∀ x, foldedSetIterable iter X.env x = pure x := by intro _; rfl) : PS X (.For tg iter body [] pos) (tFor wi g tb) := by
  intro pins s σ H D I h
  refine wpAny_For (thn (hi pins s σ H _ I h) fun v s1 h1 => thn h1 fun itv s2 h2 => ?_) hs
  obtain ⟨it, fp, tn, J, H2, e, I2, T, st2, f2, W, ⟨m0, w0⟩, turn⟩ := h2
  subst e
  have stat : ∀ {H' : Hp}, (∀ b ∈ fp, H' b = none) → ∀ b ∈ fp, FpOk X pins H' b := fun hn b hb => ⟨hn b hb, (f2 b hb).2⟩
  refine codeAny_forLoop_any (fun n s' => ∃ i σ' H', Inv X pins σ' H' s' ∧ tn i s'.heap ∧ (∀ b ∈ fp, H' b = none) ∧ W i n σ' H') ?_ m0 ⟨0, σ, H2, I2, st2, fun b hb => (f2 b hb).1, w0⟩
  rintro n s3 ⟨i, σ3, H3, I3, st3, fr3, w3⟩
  rcases turn i n σ3 H3 w3 with ⟨stop, qn⟩ | ⟨go, N, hN, step⟩
  · refine wpAny_passesOwn hp (thn (T.done X rfl rfl rfl hc i pins s3 σ3 H3 X.xe I3 (stat fr3) st3 stop) fun r s4 ⟨hr, I4⟩ => ?_)
    subst hr
    exact wpAny_execs_nil ⟨σ3, H3, I4, qn⟩
  · refine wpAny_passesOwn hp (thn (T.item X rfl rfl rfl hc i pins s3 σ3 H3 X.xe I3 (stat fr3) st3 go) fun r s4 ⟨u, hr, h4⟩ => ?_)
    subst hr
    refine wpAny_passesOwn hp (thn h4 fun _ s5 ⟨x, H5, I5, r5, y5, st5, fr5⟩ => ?_)
    have I5' := I5.pinned (stat fr5) (T.obj _ _ st5)
    refine wpAny_passesOwn hp (thn (hg _ s5 σ3 H5 x u _ I5' r5 (step x H5 y5)) fun _ s6 ⟨σ6, H6, I6, q6⟩ => ?_)
    refine wpAny_passesOwn hp (thn (hb _ s6 σ6 H6 _ I6 q6) fun f s7 q7 => ?_)
    have again : ∀ {σ7 : St} {H7 : Hp}, Inv X (pins ++ pinsAt fp s5.heap) σ7 H7 s7 → N σ7 H7 → ∃ m, m < n ∧ ∃ i σ' H', Inv X pins σ' H' s7 ∧ tn i s7.heap ∧ (∀ b ∈ fp, H' b = none) ∧ W i m σ' H' := fun {σ7 H7} I7 n7 => by
      obtain ⟨m', hm, w7⟩ := hN σ7 H7 n7
      refine ⟨m', hm, i + 1, σ7, H7, I7.unpinned, T.keep _ _ _ st5 fun b hb o e => (I7.pin (b, o) (List.mem_append_right _ (List.mem_append_right _ (mem_pinsAt hb e)))).1, fun b hb => ?_, w7⟩
      obtain ⟨o, e, d⟩ := T.obj _ _ st5 b hb
      exact (I7.pin (b, o) (List.mem_append_right _ (List.mem_append_right _ (mem_pinsAt hb e)))).2.1
    cases f with
    | next => obtain ⟨σ7, H7, I7, n7⟩ := q7; exact again I7 n7
    | cont => obtain ⟨σ7, H7, I7, n7⟩ := q7; exact again I7 n7
    | brk => obtain ⟨σ7, H7, I7, q7⟩ := q7; exact ⟨σ7, H7, I7.unpinned, q7⟩
    | ret v => obtain ⟨x7, σ7, H7, I7, r7, q7⟩ := q7; exact ⟨x7, σ7, H7, I7.unpinned, r7, q7⟩
end
theorem for_list {K : PySem.W.Frag} {a : Addr} {xs : List V} {g : TG} {tb : TS} {D : Ends} {σ : St} {H : Hp} (Pv : Nat → St → Hp → Prop) (h0 : Pv 0 σ H) (hl : ∀ i σ H, i ≤ xs.length → Pv i σ H → SqL K H a xs)
    (hs : ∀ i x σ H, xs[i]? = some x → Pv i σ H → g x σ H fun σ2 H2 => tb { D with nx := Pv (i + 1), ct := Pv (i + 1), bk := D.nx } σ2 H2) (hd : ∀ σ H, Pv xs.length σ H → D.nx σ H) :
    ∃ W : Nat → Nat → St → Hp → Prop, (∃ m, W 0 m σ H) ∧ ∀ i m σ H, W i m σ H →
      ((Itl K a).stop i H ∧ D.nx σ H) ∨ ((Itl K a).go i H ∧ ∃ N : St → Hp → Prop, (∀ σ' H', N σ' H' → ∃ m', m' < m ∧ W (i + 1) m' σ' H') ∧ ∀ x H', (Itl K a).yld i H x H' → g x σ H' fun σ2 H2 => tb { D with nx := N, ct := N, bk := D.nx } σ2 H2) := by
  refine ⟨fun i m σ H => m = xs.length - i ∧ i ≤ xs.length ∧ Pv i σ H, ⟨xs.length, by simp, Nat.zero_le _, h0⟩, ?_⟩
  rintro i m σ H ⟨rfl, hi, p⟩
  have q := hl i σ H hi p
  by_cases hlt : i < xs.length
  · refine .inr ⟨⟨xs, xs[i], q, by simp [hlt]⟩, Pv (i + 1), fun σ' H' p' => ⟨xs.length - (i + 1), by omega, rfl, hlt, p'⟩, fun x H' y => ?_⟩
    obtain ⟨e, y⟩ := y
    subst e
    exact hs i x σ _ (y xs q) p
  · have e : i = xs.length := by omega
    subst e
    exact .inl ⟨⟨xs, q, Nat.le_refl _⟩, hd σ H p⟩
theorem for_range {lo : Int} {n : Nat} {g : TG} {tb : TS} {D : Ends} {σ : St} {H : Hp} (Pv : Nat → St → Hp → Prop) (h0 : Pv 0 σ H)
    (hs : ∀ i σ H, i < n → Pv i σ H → g (.int (lo + i)) σ H fun σ2 H2 => tb { D with nx := Pv (i + 1), ct := Pv (i + 1), bk := D.nx } σ2 H2) (hd : ∀ σ H, Pv n σ H → D.nx σ H) :
    ∃ W : Nat → Nat → St → Hp → Prop, (∃ m, W 0 m σ H) ∧ ∀ i m σ H, W i m σ H →
      ((Itr lo n).stop i H ∧ D.nx σ H) ∨ ((Itr lo n).go i H ∧ ∃ N : St → Hp → Prop, (∀ σ' H', N σ' H' → ∃ m', m' < m ∧ W (i + 1) m' σ' H') ∧ ∀ x H', (Itr lo n).yld i H x H' → g x σ H' fun σ2 H2 => tb { D with nx := N, ct := N, bk := D.nx } σ2 H2) := by
  refine ⟨fun i m σ H => m = n - i ∧ i ≤ n ∧ Pv i σ H, ⟨n, by simp, Nat.zero_le _, h0⟩, ?_⟩
  rintro i m σ H ⟨rfl, hi, p⟩
  by_cases hlt : i < n
  · refine .inr ⟨hlt, Pv (i + 1), fun σ' H' p' => ⟨n - (i + 1), by omega, rfl, hlt, p'⟩, fun x H' y => ?_⟩
    obtain ⟨e, y⟩ := y
    subst e y
    exact hs i σ _ hlt p
  · have e : i = n := by omega
    subst e
    exact .inl ⟨Nat.le_refl _, hd σ H p⟩
end L2
namespace L2
open PySem PySem.Spec PyProof.Rows
abbrev R2 := V → V → Hp → VK → Prop
def OpR (X : Cx) (f : Value → Value → Sem Value) (r : R2) : Prop :=
  ∀ (pins : List (Addr × Obj)) (s : Shared) (σ : St) (H : Hp) (x y : V) (v u : Value) (Q : VK), Inv X pins σ H s → RelV x v → RelV y u → r x y H Q →
    wpAny (model X.prog X.w) X.A (f v u) (EP X pins σ Q) X.xe s
def CallR (X : Cx) (f : Value) (r : List V → Hp → VK → Prop) : Prop :=
  ∀ (pins : List (Addr × Obj)) (s : Shared) (σ : St) (H : Hp) (xs : List V) (us : List Value) (Q : VK), Inv X pins σ H s → Vals xs us → r xs H Q →
    wpAny (model X.prog X.w) X.A (call f us) (EP X pins σ Q) X.xe s
def tOp (r : R2) (ta tb : TE) : TE := fun σ H Q => ta σ H fun x H1 => tb σ H1 fun y H2 => r x y H2 Q
def rI (C : Int → Int → Prop) (g : Int → Int → V) : R2 := fun x y H Q => ∃ i j, x = .int i ∧ y = .int j ∧ C i j ∧ Q (g i j) H
def rI0 (g : Int → Int → V) : R2 := fun x y H Q => ∃ i j, x = .int i ∧ y = .int j ∧ Q (g i j) H
section
variable {X : Cx} {a b c : Expr} {ta tb tc : TE} {pos : Pos}
theorem binT (ha : PE X a ta) (hb : PE X b tb) {pins : List (Addr × Obj)} {s : Shared} {σ : St} {H : Hp} {R : V → V → Hp → Prop} (I : Inv X pins σ H s)
    (h : ta σ H fun x H1 => tb σ H1 fun y H2 => R x y H2) {Q : Value → Shared → Prop} {f : Value → Value → Sem Value}
    (hf : ∀ v u s2 x y H2, Inv X pins σ H2 s2 → RelV x v → RelV y u → R x y H2 → wpAny (model X.prog X.w) X.A (f v u) Q X.xe s2) :
    wpAny (model X.prog X.w) X.A (eval a X.env) (fun v s₁ => wpAny (model X.prog X.w) X.A (eval b X.env) (fun u s₂ => wpAny (model X.prog X.w) X.A (f v u) Q X.xe s₂) X.xe s₁) X.xe s := by
  refine thn (ha pins s σ H _ I h) fun v s1 ⟨x, H1, I1, r1, q1⟩ => ?_
  refine thn (hb pins s1 σ H1 _ I1 q1) fun u s2 ⟨y, H2, I2, r2, q2⟩ => ?_
  exact hf v u s2 x y H2 I2 r1 r2 q2
theorem pe_op {op : Operator} {r : R2} (ho : OpR X (binaryOp op) r) (ha : PE X a ta) (hb : PE X b tb) : PE X (.BinOp a op b pos) (tOp r ta tb) := by
  intro pins s σ H Q I h
  exact wpAny_BinOp (binT ha hb I h fun v u s2 x y H2 I2 rx ry q => ho pins s2 σ H2 x y v u Q I2 rx ry q)
theorem opI {f : Value → Value → Sem Value} {C : Int → Int → Prop} {g : Int → Int → Int}
    (rule : ∀ (i j : Int) (t u : Tok) (s : Shared) (Q : Value → Shared → Prop) (E : Value → Shared → Prop), C i j → Q (.int (g i j) s.toks) { s with toks := s.toks + 1 } → wpAny (model X.prog X.w) X.A (f (.int i t) (.int j u)) Q E s) :
    OpR X f (rI C fun i j => .int (g i j)) := by
  intro pins s σ H x y v u Q I rx ry h
  obtain ⟨i, j, rfl, rfl, hc, q⟩ := h
  obtain ⟨t, rfl⟩ := rx
  obtain ⟨t', rfl⟩ := ry
  exact rule i j t t' s _ _ hc ⟨.int (g i j), H, I.tok _, ⟨_, rfl⟩, q⟩
theorem opI0 {f : Value → Value → Sem Value} {g : Int → Int → Int}
    (rule : ∀ (i j : Int) (t u : Tok) (s : Shared) (Q : Value → Shared → Prop) (E : Value → Shared → Prop), Q (.int (g i j) s.toks) { s with toks := s.toks + 1 } → wpAny (model X.prog X.w) X.A (f (.int i t) (.int j u)) Q E s) :
    OpR X f (rI0 fun i j => .int (g i j)) := by
  intro pins s σ H x y v u Q I rx ry h
  obtain ⟨i, j, rfl, rfl, q⟩ := h
  obtain ⟨t, rfl⟩ := rx
  obtain ⟨t', rfl⟩ := ry
  exact rule i j t t' s _ _ ⟨.int (g i j), H, I.tok _, ⟨_, rfl⟩, q⟩
theorem opB0 {f : Value → Value → Sem Value} {g : Int → Int → Bool}
    (rule : ∀ (i j : Int) (t u : Tok) (s : Shared) (Q : Value → Shared → Prop) (E : Value → Shared → Prop), Q (.bool (g i j)) s → wpAny (model X.prog X.w) X.A (f (.int i t) (.int j u)) Q E s) :
    OpR X f (rI0 fun i j => .bl (g i j)) := by
  intro pins s σ H x y v u Q I rx ry h
  obtain ⟨i, j, rfl, rfl, q⟩ := h
  obtain ⟨t, rfl⟩ := rx
  obtain ⟨t', rfl⟩ := ry
  exact rule i j t t' s _ _ ⟨.bl (g i j), H, I, rfl, q⟩
def CDiv (i j : Int) : Prop := 0 < j ∧ j < 1073741824
def CPow (i j : Int) : Prop := 0 ≤ j ∧ j ≤ 1000000 ∧ i.natAbs < 2 ^ 64
def CMul (i j : Int) : Prop := (-(2 ^ 64) < i ∧ i < 2 ^ 64) ∨ (-(2 ^ 64) < j ∧ j < 2 ^ 64)
theorem CMul.ok {i j : Int} (h : CMul i j) : IntMulOk i j := by
  rcases h with ⟨h1, h2⟩ | ⟨h1, h2⟩
  · exact .of_left (intBits_le_64 h1 h2)
  · exact .of_right (intBits_le_64 h1 h2)
theorem op_add : OpR X (binaryOp .Add) (rI0 fun i j => .int (i + j)) := opI0 fun _ _ _ _ _ _ _ q => add_int q
theorem op_sub : OpR X (binaryOp .Sub) (rI0 fun i j => .int (i - j)) := opI0 fun _ _ _ _ _ _ _ q => sub_int q
theorem op_mul : OpR X (binaryOp .Mult) (rI CMul fun i j => .int (i * j)) := opI fun _ _ _ _ _ _ _ hc q => mul_int q hc.ok
theorem op_fdiv : OpR X (binaryOp .FloorDiv) (rI CDiv fun i j => .int (i / j)) := opI fun i j _ _ _ _ _ hc q => by
  have h1 : (0 : Int) < j := hc.1
  have h2 : j < 1073741824 := hc.2
  exact floordiv_int (by omega) (by rw [Int.fdiv_eq_ediv_of_nonneg i (by omega)]; exact q) (.inl (PyProof.noPylong_small (by omega)))
theorem op_mod : OpR X (binaryOp .Mod) (rI (fun _ j => 0 < j) fun i j => .int (i % j)) := opI fun i j _ _ _ _ _ hc q => by
  have h1 : (0 : Int) < j := hc
  exact mod_int' (by omega) (by rw [Int.fmod_eq_emod_of_nonneg i (by omega)]; exact q)
theorem op_pow : OpR X (binaryOp .Pow) (rI CPow fun i j => .int (i ^ j.toNat)) := opI fun _ _ _ _ _ _ _ hc q => pow_int_small hc.1 hc.2.1 hc.2.2 q
end
def scal : V → V → Bool
  | .non, .non => true | .non, .int _ => true | .int _, .non => true | .non, .bl _ => true | .bl _, .non => true | .non, .str _ => true | .str _, .non => true
  | .int _, .int _ => true | .bl _, .bl _ => true | .str _, .str _ => true | .byt _, .byt _ => true
  | .int _, .str _ => true | .str _, .int _ => true | .bl _, .str _ => true | .str _, .bl _ => true
  | _, _ => false
def rEq : R2 := fun x y H Q => scal x y = true ∧ Q (.bl (decide (x = y))) H
def rNe : R2 := fun x y H Q => scal x y = true ∧ Q (.bl (!decide (x = y))) H
theorem dec_int {i j : Int} : decide (V.int i = V.int j) = (i == j) := by
  rw [Bool.eq_iff_iff]
  simp
theorem dec_bl {i j : Bool} : decide (V.bl i = V.bl j) = (i == j) := by
  rw [Bool.eq_iff_iff]
  simp
theorem dec_str {i j : Str} : decide (V.str i = V.str j) = (i == j) := by
  rw [Bool.eq_iff_iff]
  simp
theorem dec_byt {i j : Array UInt8} : decide (V.byt i = V.byt j) = (i.toList == j.toList) := by
  rw [Bool.eq_iff_iff]
  cases i
  cases j
  simp
section
variable {X : Cx} {a b c : Expr} {ta tb tc : TE} {pos : Pos}
theorem fin_bl {pins : List (Addr × Obj)} {σ : St} {H : Hp} {s : Shared} {Q : VK} {k k' : Bool} (I : Inv X pins σ H s) (q : Q (.bl k) H) (e : k = k') : EP X pins σ Q (.bool k') s := by
  subst e
  exact ⟨.bl k, H, I, rfl, q⟩
theorem op_eq : OpR X (compareOp .Eq) rEq := by
  intro pins s σ H x y v u Q I rx ry h
  obtain ⟨hs, q⟩ := h
  cases x with
  | non =>
    cases rx
    cases y with
    | non => cases ry; exact PySem.EqNone.eq_none_none (fin_bl I q (by simp))
    | bl j => cases ry; exact PySem.EqNone.eq_none_bool (fin_bl I q (by simp))
    | int j => obtain ⟨t', rfl⟩ := ry; exact PySem.EqNone.eq_none_int (fin_bl I q (by simp))
    | str j => obtain ⟨t', rfl⟩ := ry; exact PySem.EqNone.eq_none_str (fin_bl I q (by simp))
    | _ => exact absurd (show false = true from hs) Bool.false_ne_true
  | bl i =>
    cases rx
    cases y with
    | non => cases ry; exact PySem.EqNone.eq_bool_none (fin_bl I q (by simp))
    | bl j => cases ry; exact eq_bool (fin_bl I q dec_bl)
    | str j => obtain ⟨t', rfl⟩ := ry; exact PySem.EqMixed.eq_bool_str (fin_bl I q (by simp))
    | _ => exact absurd (show false = true from hs) Bool.false_ne_true
  | int i =>
    obtain ⟨t, rfl⟩ := rx
    cases y with
    | non => cases ry; exact PySem.EqNone.eq_int_none (fin_bl I q (by simp))
    | int j => obtain ⟨t', rfl⟩ := ry; exact eq_int (fin_bl I q dec_int)
    | str j => obtain ⟨t', rfl⟩ := ry; exact PySem.EqMixed.eq_int_str (fin_bl I q (by simp))
    | _ => exact absurd (show false = true from hs) Bool.false_ne_true
  | str i =>
    obtain ⟨t, rfl⟩ := rx
    cases y with
    | non => cases ry; exact PySem.EqNone.eq_str_none (fin_bl I q (by simp))
    | bl j => cases ry; exact PySem.EqMixed.eq_str_bool (fin_bl I q (by simp))
    | int j => obtain ⟨t', rfl⟩ := ry; exact PySem.EqMixed.eq_str_int (fin_bl I q (by simp))
    | str j => obtain ⟨t', rfl⟩ := ry; exact eq_str (fin_bl I q dec_str)
    | _ => exact absurd (show false = true from hs) Bool.false_ne_true
  | byt i =>
    obtain ⟨t, rfl⟩ := rx
    cases y with
    | byt j => obtain ⟨t', rfl⟩ := ry; exact PySem.W.eq_bytes (fin_bl I q dec_byt)
    | _ => exact absurd (show false = true from hs) Bool.false_ne_true
  | _ => cases y <;> exact absurd (show false = true from hs) Bool.false_ne_true
theorem op_ne : OpR X (compareOp .NotEq) rNe := by
  intro pins s σ H x y v u Q I rx ry h
  obtain ⟨hs, q⟩ := h
  cases x with
  | non =>
    cases rx
    cases y with
    | non => cases ry; exact PySem.EqNone.ne_none_none (fin_bl I q (by simp))
    | bl j => cases ry; exact PySem.EqNone.ne_none_bool (fin_bl I q (by simp))
    | int j => obtain ⟨t', rfl⟩ := ry; exact PySem.EqNone.ne_none_int (fin_bl I q (by simp))
    | str j => obtain ⟨t', rfl⟩ := ry; exact PySem.EqNone.ne_none_str (fin_bl I q (by simp))
    | _ => exact absurd (show false = true from hs) Bool.false_ne_true
  | bl i =>
    cases rx
    cases y with
    | non => cases ry; exact PySem.EqNone.ne_bool_none (fin_bl I q (by simp))
    | bl j => cases ry; exact ne_bool (fin_bl I q (congrArg not dec_bl))
    | str j => obtain ⟨t', rfl⟩ := ry; exact PySem.EqMixed.ne_bool_str (fin_bl I q (by simp))
    | _ => exact absurd (show false = true from hs) Bool.false_ne_true
  | int i =>
    obtain ⟨t, rfl⟩ := rx
    cases y with
    | non => cases ry; exact PySem.EqNone.ne_int_none (fin_bl I q (by simp))
    | int j => obtain ⟨t', rfl⟩ := ry; exact ne_int (fin_bl I q (congrArg not dec_int))
    | str j => obtain ⟨t', rfl⟩ := ry; exact PySem.EqMixed.ne_int_str (fin_bl I q (by simp))
    | _ => exact absurd (show false = true from hs) Bool.false_ne_true
  | str i =>
    obtain ⟨t, rfl⟩ := rx
    cases y with
    | non => cases ry; exact PySem.EqNone.ne_str_none (fin_bl I q (by simp))
    | bl j => cases ry; exact PySem.EqMixed.ne_str_bool (fin_bl I q (by simp))
    | int j => obtain ⟨t', rfl⟩ := ry; exact PySem.EqMixed.ne_str_int (fin_bl I q (by simp))
    | str j => obtain ⟨t', rfl⟩ := ry; exact ne_str (fin_bl I q (congrArg not dec_str))
    | _ => exact absurd (show false = true from hs) Bool.false_ne_true
  | byt i =>
    obtain ⟨t, rfl⟩ := rx
    cases y with
    | byt j => obtain ⟨t', rfl⟩ := ry; exact PySem.W.ne_bytes (fin_bl I q (congrArg not dec_byt))
    | _ => exact absurd (show false = true from hs) Bool.false_ne_true
  | _ => cases y <;> exact absurd (show false = true from hs) Bool.false_ne_true
theorem op_lt : OpR X (compareOp .Lt) (rI0 fun i j => .bl (decide (i < j))) := opB0 fun _ _ _ _ _ _ _ q => lt_int q
theorem op_le : OpR X (compareOp .LtE) (rI0 fun i j => .bl (decide (i ≤ j))) := opB0 fun _ _ _ _ _ _ _ q => le_int q
theorem op_gt : OpR X (compareOp .Gt) (rI0 fun i j => .bl (decide (j < i))) := opB0 fun _ _ _ _ _ _ _ q => gt_int q
theorem op_ge : OpR X (compareOp .GtE) (rI0 fun i j => .bl (decide (j ≤ i))) := opB0 fun _ _ _ _ _ _ _ q => ge_int q
theorem op_in_str : OpR X (compareOp .In) (fun x y H Q => ∃ i j, x = .str i ∧ y = .str j ∧ Q (.bl (!(Builtin.Str.occurrences j i 0 j.length 1).isEmpty)) H) := by
  intro pins s σ H x y v u Q I rx ry h
  obtain ⟨i, j, rfl, rfl, q⟩ := h
  obtain ⟨t, rfl⟩ := rx
  obtain ⟨t', rfl⟩ := ry
  exact in_str (fin_bl I q rfl)
theorem nomark (b : Expr) {op : CmpOp} (h : op ≠ .In := by decide) (h2 : op ≠ .NotIn := by decide) : behindInMarks op b = false := by
  have e1 : (op == CmpOp.In) = false := by cases op <;> first | rfl | exact absurd rfl h
  have e2 : (op == CmpOp.NotIn) = false := by cases op <;> first | rfl | exact absurd rfl h2
  cases b <;> simp [behindInMarks, e1, e2]
theorem pe_cmpR {op : CmpOp} {r : R2} (ho : OpR X (compareOp op) r) (ha : PE X a ta) (hb : PE X b tb) (hm : behindInMarks op b = false) : PE X (.Compare a [op] [b] pos) (tOp r ta tb) := by
  intro pins s σ H Q I h
  exact wpAny_Compare1 (binT ha hb I h fun v u s2 x y H2 I2 rx ry q => ho pins s2 σ H2 x y v u Q I2 rx ry q) hm
def tTest (t : TE) : TT := fun σ H Q => t σ H fun x H' => ∃ k, x = .bl k ∧ Q k H'
theorem pt_cmpR {op : CmpOp} {r : R2} (ho : OpR X (compareOp op) r) (ha : PE X a ta) (hb : PE X b tb) (hm : behindInMarks op b = false) : PT X (.Compare a [op] [b] pos) (tTest (tOp r ta tb)) := by
  intro pins s σ H Q I h
  refine wpAny_isTrue_Compare1 (thn (ha pins s σ H _ I h) fun v s1 ⟨x, H1, I1, r1, q1⟩ => thn (hb pins s1 σ H1 _ I1 q1) fun u s2 ⟨y, H2, I2, r2, q2⟩ =>
    thn (ho pins s2 σ H2 x y v u _ I2 r1 r2 q2) fun c s3 ⟨z, H3, I3, r3, k, e, q3⟩ => ?_) hm
  subst e
  cases r3
  exact wpAny_truthy_bool ⟨H3, I3, q3⟩
theorem line63 : (sizeLine : Nat) < 2 ^ 63 := by rw [sizeLine_eq]; decide
theorem op_add_str : OpR X (binaryOp .Add) (fun x y H Q => ∃ i j, x = .str i ∧ y = .str j ∧ i.length + j.length ≤ sizeLine ∧ Q (.str (i ++ j)) H) := by
  intro pins s σ H x y v u Q I rx ry h
  obtain ⟨i, j, rfl, rfl, hz, q⟩ := h
  obtain ⟨t, rfl⟩ := rx
  obtain ⟨t', rfl⟩ := ry
  exact add_str (fun t' tk => ⟨.str (i ++ j), H, I.tok _, ⟨_, rfl⟩, q⟩) hz
theorem vals1 {x : V} {us : List Value} (r : Vals [x] us) : ∃ u, us = [u] ∧ RelV x u := by
  cases r with
  | cons r1 r2 => cases r2; exact ⟨_, rfl, r1⟩
theorem vals2 {x y : V} {us : List Value} (r : Vals [x, y] us) : ∃ u w', us = [u, w'] ∧ RelV x u ∧ RelV y w' := by
  cases r with
  | cons r1 r2 =>
    cases r2 with
    | cons r3 r4 => cases r4; exact ⟨_, _, rfl, r1, r3⟩
theorem call_max2 (hc : X.calm = true) : CallR X (.builtin "max") (fun xs H Q => ∃ i j, xs = [.int i, .int j] ∧ Q (.int (if j > i then j else i)) H) := by
  intro pins s σ H xs us Q I r h
  obtain ⟨i, j, rfl, q⟩ := h
  obtain ⟨u, w', rfl, ⟨t, rfl⟩, ⟨t', rfl⟩⟩ := vals2 r
  refine max_two_ints (I.ok.hd hc) fun h' tk k => ⟨_, H, I.kept k, ?_, q⟩
  by_cases hj : j > i
  · rw [if_pos hj, if_pos hj]; exact ⟨_, rfl⟩
  · rw [if_neg hj, if_neg hj]; exact ⟨_, rfl⟩
theorem call_str_int : CallR X (.type "str") (fun xs H Q => ∃ i, xs = [.int i] ∧ i.natAbs.log2 < 1920 ∧ Q (.str (toString i)) H) := by
  intro pins s σ H xs us Q I r h
  obtain ⟨i, rfl, hz, q⟩ := h
  obtain ⟨u, rfl, t, rfl⟩ := vals1 r
  exact PySem.P.str_of_int hz ⟨.str _, H, I.tok _, ⟨_, rfl⟩, q⟩
end
end L2
namespace L2
open PySem PySem.Spec PyProof.Rows
structure ObjM (h : Heap) (x dx C : Addr) (mA : Str → Option Value) : Prop where
  obj : h.get? x = some (PySem.W.instObj C dx)
  ns : h.Ns1 dx mA
  ne : dx ≠ x
theorem lookIn_ns {h : Heap} {dx : Addr} {mA : Str → Option Value} (n : h.Ns1 dx mA) : ∃ od, h.get? dx = some od ∧ ∀ name, PySem.W.lookIn name od = some (mA name) := by
  obtain ⟨o, es, ep, ho, hd, hk, _, hm⟩ := n
  refine ⟨o, ho, fun name => ?_⟩
  have e := hm name
  unfold nsFind findBy at e
  rw [← Array.find?_toList] at e
  unfold PySem.W.lookIn
  rw [hd]
  dsimp only
  split
  · rename_i y q
    rw [q] at e
    exact congrArg some e
  · rename_i q
    rw [q] at e
    have a : es.toList.any (·.refKey) = false := by
      rw [List.any_eq_false]
      intro y hy
      obtain ⟨z, t, hkey⟩ := hk y (Array.mem_toList_iff.mp hy)
      simp [DictEntry.refKey, hkey]
    have a' : ¬ es.toList.any (·.refKey) = true := by rw [a]; exact Bool.false_ne_true
    rw [if_neg a']
    exact congrArg some e
theorem ObjM.look {h : Heap} {x dx C : Addr} {mA : Str → Option Value} (I : ObjM h x dx C mA) : ∃ od, PySem.W.InstAt h x (PySem.W.instObj C dx) C (some od) ∧ ∀ name, PySem.W.lookIn name od = some (mA name) :=
  let ⟨od, ho, hl⟩ := lookIn_ns I.ns
  ⟨od, ⟨I.obj, rfl, rfl, ho⟩, hl⟩
section
variable {prog : Program} {w : World} {A : Around} {E : Value → Shared → Prop} {s : Shared} {K : PySem.W.Frag} {x dx C f : Addr} {mA : Str → Option Value} {name : Str} {v : Value}
theorem get_map {expr : Bool} {Q : Value → Shared → Prop} (X : K.In s.heap) (I : ObjM s.heap x dx C mA) (hg : PySem.W.plainGet K C name = true) (hh : PySem.W.hasDictIn K C = true)
    (ha : PySem.W.findIn K (.ref C) name = some none) (hv : mA name = some v) (hv' : PySem.W.handedIn v = true) (h : Q v { s with toks := s.toks + 1 }) :
    wpAny (model prog w) A (getAttr (.ref x) name expr) Q E s := by
  obtain ⟨od, J, hl⟩ := I.look
  exact PySem.W.get_value X J (PySem.W.plainGet_of hg).1 (PySem.W.findObj_own hh ha rfl (by rw [hl, hv])) hv' h
theorem get_meth {pl : Sem Bool} {Q : Value × List Value → Shared → Prop} (X : K.In s.heap) (I : ObjM s.heap x dx C mA) (hg : PySem.W.plainGet K C name = true)
    (hf : PySem.W.findIn K (.ref C) name = some (some (.ref f))) (ht : PySem.W.isFn K (.ref f) = true) (hv : mA name = none) (h : Q (.ref f, [.ref x]) s) :
    wpAny (model prog w) A (getMethod (.ref x) name pl) Q E s := by
  obtain ⟨od, J, hl⟩ := I.look
  exact PySem.W.method_fn X J (PySem.W.plainGet_of hg).1 (PySem.W.plainGet_of hg).2 hf (beq_iff_eq.mp ht) (by show (PySem.W.lookIn name od).map (·.isSome) = some false; rw [hl, hv]; rfl) h
theorem set_map {ns : List Str} {Q : Unit → Shared → Prop} (X : K.In s.heap) (I : ObjM s.heap x dx C mA)
    (hs : PySem.W.findIn K (.ref C) "__setattr__" = some (some (.builtin "object.__setattr__"))) (hp : PySem.W.plainOver K C = true) (ht : PySem.W.takerIn K C name = some none) (hh : PySem.W.hasDictIn K C = true)
    (hw : PySem.Within mA ns) (hsz : ns.length ≤ sizeLine)
    (h : ∀ h', ObjM h' x dx C (fun y => if y = name then some v else mA y) → Heap.SameBut dx s.heap h' → Q () { s with heap := h', toks := s.toks + 2 }) :
    wpAny (model prog w) A (setAttr (.ref x) name v) Q E s := by
  obtain ⟨od, J, hl⟩ := I.look
  refine PySem.W.set_plain X J hs (PySem.W.osa_open (s := { s with toks := s.toks + 1 }) (r := none) X J hp ht fun b => ?_)
  obtain ⟨cd, hc, hd'⟩ := PySem.W.any_some hh
  have hx : s.heap.get? x = some ⟨.ref C, some dx, .plain, #[]⟩ := I.obj
  refine wpAny_bind (wpAny_pure (wpAny_bind (wpAny_bind (wpAny_loadPart hx (wpAny_bind (PySem.W.Looks.here (s := { s with toks := s.toks + 1 }) (PySem.W.looks_clsIn X hc) ?_))))))
  rw [hd']
  refine wpAny_pure (a := some dx) (wpAny_bind (wpAny_pure (wpAny_bind ?_)))
  refine wpAny_nsSet1 (s := { s with toks := s.toks + 1 }) I.ns fun h' hn2 hs2 => ?_
  obtain ⟨oD, esD, epD, hoD, hdD, hcD⟩ := hn2.count (PySem.Within.cons name v hw)
  refine wpAny_bind (wpAny_lookBehind hoD (by rw [hdD]; exact pastItsLine_dict (Nat.le_trans hcD (by rw [List.length_cons]; omega))) ?_)
  exact wpAny_pure (h _ ⟨(hs2.2 _ (Ne.symm I.ne)).trans I.obj, hn2, I.ne⟩ hs2)
theorem make_map {R : Result → Shared → Prop} {vs : List Value} {kw : List (Str × Value)} (X : K.In s.heap) (hm : PySem.W.makesIn K C = true)
    (hi : PySem.W.findIn K (.ref C) "__init__" = some (some (.ref f))) (hf : PySem.W.typeIn K (.ref f) = some (.type "function"))
    (h : codeAny (model prog w) (A.under (.builtin "type.__call__" ⟨.ref C :: vs, kw⟩)) (.call (.ref f) ⟨.ref (s.heap.objs.size + 1) :: vs, kw⟩) (PySem.W.InitBack (s.heap.objs.size + 1) R)
      { s with heap := (s.heap.push PySem.W.emptyDict).push (PySem.W.instObj C s.heap.objs.size) }) :
    codeAny (model prog w) A (.call (.ref C) ⟨vs, kw⟩) R s := by
  obtain ⟨hh, g, d, t, os⟩ := s
  exact PySem.W.make_core (PySem.W.makes_of X hm) (PySem.W.looks_findIn X hi) (fun self => PySem.W.bind_fn X self hf) (.inl rfl) h
theorem make_map0 {R : Result → Shared → Prop} (X : K.In s.heap) (hm : PySem.W.makesIn K C = true)
    (hi : PySem.W.findIn K (.ref C) "__init__" = some (some (.builtin "object.__init__")))
    (hb : ∀ self, PySem.W.Looks (model prog w) s.heap (bindSpecial (.builtin "object.__init__") self) (.builtin "object.__init__", [self]))
    (h : codeAny (model prog w) (A.under (.builtin "type.__call__" ⟨[.ref C], []⟩)) (.call (.builtin "object.__init__") ⟨[.ref (s.heap.objs.size + 1)], []⟩) (PySem.W.InitBack (s.heap.objs.size + 1) R)
      { s with heap := (s.heap.push PySem.W.emptyDict).push (PySem.W.instObj C s.heap.objs.size) }) :
    codeAny (model prog w) A (.call (.ref C) ⟨[], []⟩) R s := by
  obtain ⟨hh, g, d, t, os⟩ := s
  exact PySem.W.make_core (PySem.W.makes_of X hm) (PySem.W.looks_findIn X hi) hb (.inr ⟨rfl, rfl⟩) h
end
def putF (f : Str) (v : V) : List (Str × V) → List (Str × V)
  | [] => [(f, v)]
  | (g, x) :: r => if g = f then (g, v) :: r else (g, x) :: putF f v r
theorem lookup_putF (f g : Str) (v : V) : ∀ fs : List (Str × V), (putF f v fs).lookup g = if g = f then some v else fs.lookup g
  | [] => by
    show List.lookup g [(f, v)] = _
    by_cases h : g = f
    · have hb : (g == f) = true := beq_iff_eq.mpr h
      simp only [List.lookup, hb, if_pos h]
    · have hb : (g == f) = false := beq_eq_false_iff_ne.mpr h
      simp only [List.lookup, hb, if_neg h]
  | (k, x) :: r => by
    have ih := lookup_putF f g v r
    rw [show putF f v ((k, x) :: r) = (if k = f then (k, v) :: r else (k, x) :: putF f v r) from rfl]
    by_cases hk : k = f
    · rw [if_pos hk]
      by_cases h : g = k
      · have hb : (g == k) = true := beq_iff_eq.mpr h
        simp only [List.lookup, hb, if_pos (h.trans hk)]
      · have hb : (g == k) = false := beq_eq_false_iff_ne.mpr h
        simp only [List.lookup, hb, if_neg (fun e : g = f => h (e.trans hk.symm))]
    · rw [if_neg hk]
      by_cases h : g = k
      · have hb : (g == k) = true := beq_iff_eq.mpr h
        simp only [List.lookup, hb, if_neg (fun e : g = f => hk (h.symm.trans e))]
      · have hb : (g == k) = false := beq_eq_false_iff_ne.mpr h
        simp only [List.lookup, hb]
        exact ih
theorem keys_putF (f : Str) (v : V) : ∀ fs : List (Str × V), f ∈ (putF f v fs).map (·.1) ∧ ∀ g, g ∈ fs.map (·.1) → g ∈ (putF f v fs).map (·.1)
  | [] => ⟨by simp [putF], fun g h => by simp at h⟩
  | (k, x) :: r => by
    obtain ⟨i1, i2⟩ := keys_putF f v r
    rw [show putF f v ((k, x) :: r) = (if k = f then (k, v) :: r else (k, x) :: putF f v r) from rfl]
    by_cases hk : k = f
    · rw [if_pos hk]
      subst hk
      exact ⟨by simp, fun g h => by simpa using h⟩
    · rw [if_neg hk]
      refine ⟨?_, fun g h => ?_⟩
      · rw [List.map_cons]
        exact List.mem_cons_of_mem _ i1
      · rw [List.map_cons] at h ⊢
        rcases List.mem_cons.mp h with e | e
        · exact List.mem_cons.mpr (.inl e)
        · exact List.mem_cons_of_mem _ (i2 g e)
theorem length_putF (f : Str) (v : V) : ∀ fs : List (Str × V), (putF f v fs).length ≤ fs.length + 1
  | [] => by simp [putF]
  | (k, x) :: r => by
    have ih := length_putF f v r
    rw [show putF f v ((k, x) :: r) = (if k = f then (k, v) :: r else (k, x) :: putF f v r) from rfl]
    by_cases hk : k = f
    · rw [if_pos hk, List.length_cons, List.length_cons]; omega
    · rw [if_neg hk, List.length_cons, List.length_cons]; omega
theorem RelO.some_of {v : V} {o : Option Value} (r : RelO (some v) o) : ∃ u, o = some u ∧ RelV v u := by
  cases o with
  | none => exact (show False from r).elim
  | some u => exact ⟨u, rfl, r⟩
theorem RelO.none_of {o : Option Value} (r : RelO none o) : o = none := by
  cases o with
  | none => rfl
  | some u => exact (show False from r).elim
theorem handed_of {v : V} {u : Value} (r : RelV v u) : PySem.W.handedIn u = true := by
  cases v with
  | non => cases (show u = Value.none from r); rfl
  | bl b => cases (show u = Value.bool b from r); rfl
  | int i => obtain ⟨t, e⟩ := (show ∃ t, u = Value.int i t from r); cases e; rfl
  | str x => obtain ⟨t, e⟩ := (show ∃ t, u = Value.str x t from r); cases e; rfl
  | byt b => obtain ⟨t, e⟩ := (show ∃ t, u = Value.bytes b t from r); cases e; rfl
  | flt b => obtain ⟨t, e⟩ := (show ∃ t, u = Value.float b t from r); cases e; rfl
  | ref a => cases (show u = Value.ref a from r); rfl
  | ty n => cases (show u = Value.type n from r); rfl
section
variable {P : Program} {w : World} {H H' : Hp} {h h' : Heap} {a C dx : Addr} {fs fs' : List (Str × V)}
theorem ins_get (hok : HOk P w H h) (e : H a = some (.ins C dx fs)) : ∃ mA, ObjM h a dx C mA ∧ (∀ f, RelO (fs.lookup f) (mA f)) ∧ PySem.Within mA (fs.map (·.1)) ∧ fs.length ≤ 1000 ∧ H dx = some (.own a) := by
  obtain ⟨d, z, ne, ob, mA, n, r, q⟩ := (show ObjOk P w H h a (.ins C dx fs) from hok a _ e)
  exact ⟨mA, ⟨ob, n, ne⟩, r, q, z, d⟩
end
structure Cls (K : PySem.W.Frag) (C : Addr) : Prop where
  pg : PySem.W.plainGet K C Str.empty = true
  hd : PySem.W.hasDictIn K C = true
  po : PySem.W.plainOver K C = true
  sa : PySem.W.findIn K (.ref C) "__setattr__" = some (some (.builtin "object.__setattr__"))
theorem Cls.get {K : PySem.W.Frag} {C : Addr} (c : Cls K C) (f : Str) : PySem.W.plainGet K C f = true := c.pg
def NoAttr (K : PySem.W.Frag) (C : Addr) (f : Str) : Prop := PySem.W.findIn K (.ref C) f = some none
theorem NoAttr.taker {K : PySem.W.Frag} {C : Addr} {f : Str} (n : NoAttr K C f) : PySem.W.takerIn K C f = some none := by
  unfold PySem.W.takerIn
  rw [show PySem.W.findIn K (.ref C) f = some none from n]
  rfl
structure Meth (K : PySem.W.Frag) (C : Addr) (m : Str) (f : Addr) : Prop where
  at_ : PySem.W.findIn K (.ref C) m = some (some (.ref f))
  fn : PySem.W.isFn K (.ref f) = true
  kp : PySem.W.keepIn K (.ref f) = true
section
variable {X : Cx} {pins : List (Addr × Obj)} {σ : St} {H : Hp} {s : Shared} {a C dx : Addr} {fs : List (Str × V)} {f : Str} {v : V} {A : Around} {E : Value → Shared → Prop}
theorem getattr_ok {b : Bool} {Q : Value → Shared → Prop} (I : Inv X pins σ H s) (e : H a = some (.ins C dx fs)) (c : Cls X.K C) (n : NoAttr X.K C f) (l : fs.lookup f = some v)
    (h : ∀ u s', Inv X pins σ H s' → RelV v u → Q u s') : wpAny (model X.prog X.w) A (getAttr (.ref a) f b) Q E s := by
  obtain ⟨mA, O, r, _, _, _⟩ := ins_get I.hok e
  obtain ⟨u, hu, ru⟩ := RelO.some_of (v := v) (o := mA f) (by rw [← l]; exact r f)
  exact get_map I.kIn O (c.get f) c.hd n hu (handed_of ru) (h u _ (I.tok _) ru)
theorem getmeth_ok {m : Str} {g : Addr} {pl : Sem Bool} {Q : Value × List Value → Shared → Prop} (I : Inv X pins σ H s) (e : H a = some (.ins C dx fs)) (c : Cls X.K C) (k : Meth X.K C m g) (l : fs.lookup m = none)
    (h : Q (.ref g, [.ref a]) s) : wpAny (model X.prog X.w) A (getMethod (.ref a) m pl) Q E s := by
  obtain ⟨mA, O, r, _, _, _⟩ := ins_get I.hok e
  have hn : mA m = none := RelO.none_of (by rw [← l]; exact r m)
  exact get_meth I.kIn O (c.get m) k.at_ k.fn hn h
theorem setattr_ok {y : V} {u : Value} {Q : Unit → Shared → Prop} (I : Inv X pins σ H s) (e : H a = some (.ins C dx fs)) (c : Cls X.K C) (n : NoAttr X.K C f) (hl : fs.length < 1000) (ry : RelV y u)
    (h : ∀ s', Inv X pins σ (upd H a (.ins C dx (putF f y fs))) s' → Q () s') : wpAny (model X.prog X.w) A (setAttr (.ref a) f u) Q E s := by
  obtain ⟨mA, O, r, wi, _, ho⟩ := ins_get I.hok e
  have hz : (fs.map (·.1)).length ≤ sizeLine := by rw [List.length_map, sizeLine_eq]; omega
  refine set_map I.kIn O c.sa c.po n.taker c.hd wi hz fun h' O' sb => h _ ?_
  have hd : ∃ o, h'.get? dx = some o := let ⟨o, _, _, e', _⟩ := O'.ns; ⟨o, e'⟩
  refine I.write (x := a) (e := dx) (by rw [e]; exact True.intro) (.inr ho) (fun b q hb z => (sb.2 b hb).trans z) hd ?_
  refine ⟨by rw [upd_ne O.ne]; exact ho, ?_, O.ne, O'.obj, _, O'.ns, fun g => ?_, fun g hg => ?_⟩
  · have := length_putF f y fs; omega
  · show RelO ((putF f y fs).lookup g) (if g = f then some u else mA g)
    rw [lookup_putF]
    by_cases q : g = f
    · rw [if_pos q, if_pos q]; exact ry
    · rw [if_neg q, if_neg q]; exact r g
  · by_cases q : g = f
    · rw [q]; exact (keys_putF f y fs).1
    · refine (keys_putF f y fs).2 g (wi g fun z => hg ?_)
      show (if g = f then some u else mA g) = none
      rw [if_neg q]; exact z
theorem Inv.made (I : Inv X pins σ H s) : Inv X pins σ (upd (upd H s.heap.objs.size (.own (s.heap.objs.size + 1))) (s.heap.objs.size + 1) (.ins C s.heap.objs.size []))
    { s with heap := (s.heap.push PySem.W.emptyDict).push (PySem.W.instObj C s.heap.objs.size) } := by
  have e1 : (s.heap.push PySem.W.emptyDict).get? s.heap.objs.size = some PySem.W.emptyDict := Heap.get?_push_size s.heap rfl
  have e2 : ((s.heap.push PySem.W.emptyDict).push (PySem.W.instObj C s.heap.objs.size)).get? (s.heap.objs.size + 1) = some (PySem.W.instObj C s.heap.objs.size) := by
    have := Heap.get?_push_size (s.heap.push PySem.W.emptyDict) (o := PySem.W.instObj C s.heap.objs.size) rfl
    rwa [Heap.size_push] at this
  have e3 : (s.heap.push PySem.W.emptyDict).Ns s.heap.objs.size (fun _ => none) := ⟨PySem.W.emptyDict, #[], _, e1, rfl, (fun e he => absurd he (by simp)), fun _ => rfl⟩
  have I1 := I.laid (a := s.heap.objs.size) (o := .own (s.heap.objs.size + 1)) (h' := s.heap.push PySem.W.emptyDict) (t' := s.toks) (fun b u q => Heap.get?_push_of_some _ q) (Nat.le_refl _) ⟨_, e1⟩
  refine I1.laid (a := s.heap.objs.size + 1) (o := .ins C s.heap.objs.size []) (t' := s.toks) (fun b u q => Heap.get?_push_of_some _ q) (Nat.le_of_eq (Heap.size_push _ _)) ?_
  have ne : s.heap.objs.size ≠ s.heap.objs.size + 1 := Nat.ne_of_lt (Nat.lt_succ_self _)
  refine ⟨by rw [upd_ne ne, upd_same], Nat.zero_le _, ne, e2, fun _ => none, (Heap.Ns1.of_empty e3).at fun o q => Heap.get?_push_of_some _ q, fun _ => True.intro, fun y hy => absurd rfl hy⟩
theorem attr_of {prog : Program} {w : World} {env : Env} {e : Expr} {f : Str} {pos : Pos} {s : Shared} {Q : Value → Shared → Prop} (hb : attributeBase e f env (eval e env) = eval e env)
    (h : wpAny (model prog w) A (eval e env) (fun o s₁ => wpAny (model prog w) A (getAttr o f true) Q E s₁) E s) : wpAny (model prog w) A (eval (.Attribute e f pos) env) Q E s :=
  Attribute_any_ h (by rw [arm_eval_Attribute, hb])
end
def tFld (K : PySem.W.Frag) (ta : TE) (f : Str) : TE := fun σ H Q => ta σ H fun x H1 => ∃ a C dx fs v, x = .ref a ∧ H1 a = some (.ins C dx fs) ∧ Cls K C ∧ NoAttr K C f ∧ fs.lookup f = some v ∧ Q v H1
def sFld (K : PySem.W.Frag) (ta tv : TE) (f : Str) : TS := fun D σ H => tv σ H fun y H1 => ta σ H1 fun x H2 => ∃ a C dx fs, x = .ref a ∧ H2 a = some (.ins C dx fs) ∧ Cls K C ∧ NoAttr K C f ∧ fs.length < 1000 ∧
  D.nx σ (upd H2 a (.ins C dx (putF f y fs)))
section
variable {X : Cx} {o e value : Expr} {f : Str} {pos pos' tpos : Pos} {ta tv : TE}
theorem pe_fld (he : PE X e ta) (hb : attributeBase e f X.env (eval e X.env) = eval e X.env) : PE X (.Attribute e f pos) (tFld X.K ta f) := by
  intro pins s σ H Q I h
  refine attr_of hb (thn (he pins s σ H _ I h) fun u s1 ⟨x, H1, I1, rx, a, C, dx, fs, v, ex, ea, c, n, l, q⟩ => ?_)
  subst ex
  obtain rfl : u = Value.ref a := rx
  exact getattr_ok I1 ea c n l fun u' s2 I2 ru => ⟨v, H1, I2, ru, q⟩
theorem ps_fld (ha : PE X o ta) (hv : PE X value tv) (hs : swapsWith value (some (.Attribute o f pos')) pos.line X.env = pure false) : PS X (.Assign [.Attribute o f pos'] value pos) (sFld X.K ta tv f) := by
  intro pins s σ H D I h
  refine plainObj_wpAny_Assign_Attribute (thn (hv pins s σ H _ I h) fun u s1 ⟨y, H1, I1, ry, q⟩ => thn (ha pins s1 σ H1 _ I1 q) fun ov s2 ⟨x, H2, I2, rx, a, C, dx, fs, ex, ea, c, n, l, q2⟩ => ?_) hs
  subst ex
  obtain rfl : ov = Value.ref a := rx
  exact setattr_ok I2 ea c n l ry fun s3 I3 => ⟨σ, _, I3, q2⟩
end
section
variable {X : Cx} {pins : List (Addr × Obj)} {σ : St} {H : Hp} {s : Shared} {A : Around} {E : Value → Shared → Prop} {Q : Value → Shared → Prop} {c : Value} {b : Bool}
inductive TyOf (K : PySem.W.Frag) (H : Hp) : V → Value → Prop where
  | non : TyOf K H .non (.type "NoneType")
  | bl (x : Bool) : TyOf K H (.bl x) (.type "bool")
  | int (i : Int) : TyOf K H (.int i) (.type "int")
  | str (x : Str) : TyOf K H (.str x) (.type "str")
  | flt (x : UInt64) : TyOf K H (.flt x) (.type "float")
  | lst {a : Addr} {xs : List V} (e : H a = some (.lst xs)) : TyOf K H (.ref a) (.type "list")
  | frz {a : Addr} {o : Obj} {xs : List V} (e : H a = some (.frz o (.lst xs))) : TyOf K H (.ref a) (.type "list")
  | tup {a : Addr} {xs : List V} (e : H a = some (.tup xs)) : TyOf K H (.ref a) (.type "tuple")
  | dK {a : Addr} {kvs : List (Key × V)} (e : H a = some (.dK kvs)) : TyOf K H (.ref a) (.type "dict")
  | dT {a : Addr} {kvs : List (List Key × V)} (e : H a = some (.dT kvs)) : TyOf K H (.ref a) (.type "dict")
  | ins {a C dx : Addr} {fs : List (Str × V)} (e : H a = some (.ins C dx fs)) (cl : Cls K C) (ha : PySem.W.findIn K (.ref C) "__class__" = some (some (.builtin "object.__class__")))
      (hn : PySem.W.specialIn K (.builtin "object.__class__") "__get__" = some (some (.builtin "getset_descriptor.__get__"))) (htk : PySem.W.takesIn K (.builtin "object.__class__") = some true)
      (hm : PySem.W.mroIn K C (.type "object") = some true) : TyOf K H (.ref a) (.ref C)
theorem isinst_ok {x : V} {u t : Value} (I : Inv X pins σ H s) (rx : RelV x u) (ty : TyOf X.K H x t) (e : PySem.W.kitOne X.K t c = some b) (h : ∀ tk, Q (.bool b) { s with toks := tk }) :
    wpAny (model X.prog X.w) A (call (.builtin "isinstance") [u, c]) Q E s := by
  cases ty with
  | non => cases (show u = Value.none from rx); exact PySem.W.kia_one PySem.W.kitx_none I.kIn True.intro e (fun z => nomatch z) h
  | bl y => cases (show u = Value.bool y from rx); exact PySem.W.kia_one PySem.W.kitx_bool I.kIn True.intro e (fun z => nomatch z) h
  | int i => obtain ⟨t, q⟩ := (show ∃ t, u = Value.int i t from rx); cases q; exact PySem.W.kia_one PySem.W.kitx_int I.kIn True.intro e (fun z => nomatch z) h
  | str y => obtain ⟨t, q⟩ := (show ∃ t, u = Value.str y t from rx); cases q; exact PySem.W.kia_one PySem.W.kitx_str I.kIn True.intro e (fun z => nomatch z) h
  | flt y => obtain ⟨t, q⟩ := (show ∃ t, u = Value.float y t from rx); cases q; exact PySem.W.kia_one PySem.W.kitx_float I.kIn True.intro e (fun z => nomatch z) h
  | @lst a xs ea =>
    cases (show u = Value.ref a from rx)
    obtain ⟨_, _, n, _, h1⟩ := (show ObjOk X.prog X.w H s.heap a (.lst xs) from I.hok a _ ea)
    exact PySem.W.kia_one PySem.W.kitx_list I.kIn ⟨_, h1, rfl⟩ e (fun z => nomatch z) h
  | @frz a ob xs ea =>
    cases (show u = Value.ref a from rx)
    obtain ⟨_, _, _, n, _, h1⟩ := (show ObjOk X.prog X.w H s.heap a (.frz ob (.lst xs)) from I.hok a _ ea)
    exact PySem.W.kia_one PySem.W.kitx_list I.kIn ⟨_, h1, rfl⟩ e (fun z => nomatch z) h
  | @tup a xs ea =>
    cases (show u = Value.ref a from rx)
    obtain ⟨_, _, _, p⟩ := (show ObjOk X.prog X.w H s.heap a (.tup xs) from I.hok a _ ea)
    obtain ⟨o, h1, h2, _⟩ := p
    exact PySem.W.kia_one PySem.W.kitx_tuple I.kIn ⟨o, h1, h2⟩ e (fun z => nomatch z) h
  | @dK a kvs ea =>
    cases (show u = Value.ref a from rx)
    obtain ⟨_, _, vs, _, p⟩ := (show ObjOk X.prog X.w H s.heap a (.dK kvs) from I.hok a _ ea)
    obtain ⟨o, es, ep, h1, h2, _⟩ := p
    exact PySem.W.kia_one PySem.W.kitx_dict I.kIn ⟨o, h1, h2.1⟩ e (fun z => nomatch z) h
  | @dT a kvs ea =>
    cases (show u = Value.ref a from rx)
    obtain ⟨_, _, xs, _, o, es, ep, h1, h2, _⟩ := (show ObjOk X.prog X.w H s.heap a (.dT kvs) from I.hok a _ ea)
    exact PySem.W.kia_one PySem.W.kitx_dict I.kIn ⟨o, h1, h2.1⟩ e (fun z => nomatch z) h
  | @ins a C dx fs ea cl ha hn htk hm =>
    cases (show u = Value.ref a from rx)
    obtain ⟨mA, O, _⟩ := ins_get I.hok ea
    obtain ⟨od, J, _⟩ := O.look
    exact PySem.W.kia_one (PySem.W.kitx_own (cl.get _) cl.hd ha hn htk hm) I.kIn J e (fun z => nomatch z) h
end
end L2
namespace L2
open PySem PySem.Spec PyProof.Rows
structure Room (k : Nat) (A : Around) : Prop where
  hd : A.handled = none
  dp : A.depth + 3 * k + 5 < recursionLimit
  un : A.units + 16 * k + 200 < cLine
theorem Room.mono {j k : Nat} {A : Around} (r : Room k A) (h : j ≤ k) : Room j A := ⟨r.hd, by have := r.dp; omega, by have := r.un; omega⟩
theorem Room.deeper {k : Nat} {A : Around} (r : Room (k + 1) A) (env : Env) : Room k (A.deeper env) :=
  ⟨r.hd, by have := r.dp; show A.depth + 1 + 3 * k + 5 < _; omega, by have := r.un; show A.units + 3 + 16 * k + 200 < _; omega⟩
theorem make_depth {A : Around} {C : Addr} {us : List Value} {kw : List (Str × Value)} : (A.under (.builtin "type.__call__" ⟨.ref C :: us, kw⟩)).depth = A.depth + 1 := by
  first | rfl | simp [Around.under, Code.weight, Code.isCreation, Code.isGuard, Code.isCaller, Code.frames, Code.isFrame, guardIds]
theorem make_units {A : Around} {C : Addr} {us : List Value} {kw : List (Str × Value)} : (A.under (.builtin "type.__call__" ⟨.ref C :: us, kw⟩)).units = A.units + 1 := by
  first | rfl | simp [Around.under, Code.cUnits, Code.frames, Code.isFrame]
theorem Room.make {k : Nat} {A : Around} (r : Room (k + 1) A) (C : Addr) (us : List Value) (kw : List (Str × Value)) : Room k (A.under (.builtin "type.__call__" ⟨.ref C :: us, kw⟩)) :=
  ⟨r.hd, by have := r.dp; rw [make_depth]; omega, by have := r.un; rw [make_units]; omega⟩
theorem Room.depth {k : Nat} {A : Around} (r : Room k A) : A.depth < recursionLimit := by have := r.dp; omega
def tNil : TA := fun _ H Q => Q [] H
def tCons (ta : TE) (tr : TA) : TA := fun σ H Q => ta σ H fun x H1 => tr σ H1 fun xs H2 => Q (x :: xs) H2
section
variable {X : Cx} {e : Expr} {es : List Expr} {te : TE} {t : TA} {pos : Pos}
theorem pa_nil : PA X [] tNil := fun _ _ _ _ H Q I h => Calls.spliced_nil ⟨[], H, I, .nil, h⟩
theorem pa_cons (ha : PE X e te) (hr : PA X es t) (hs : starEach (e :: es) X.env = (false, eval e X.env) :: starEach es X.env := by rfl) : PA X (e :: es) (tCons te t) := by
  intro pos pins s σ H Q I h
  rw [hs]
  show wpAny _ _ (spliced ((false, eval e X.env) :: backTo pos (starEach es X.env))) _ _ s
  refine Calls.spliced_cons (thn (ha pins s σ H _ I h) fun u s1 ⟨x, H1, I1, r1, q1⟩ => ?_)
  exact thn (hr pos pins s1 σ H1 _ I1 q1) fun us s2 ⟨xs, H2, I2, r2, q2⟩ => ⟨x :: xs, H2, I2, .cons r1 r2, q2⟩
def tTup (t : TA) : TE := fun σ H Q => t σ H fun xs H1 => xs.length ≤ sizeLine ∧ ∀ p, H1 p = none → Q (.ref p) (upd H1 p (.tup xs))
def tLst (t : TA) : TE := fun σ H Q => t σ H fun xs H1 => xs.length ≤ sizeLine ∧ ∀ p, H1 p = none → Q (.ref p) (upd H1 p (.lst xs))
theorem pe_tup {x1} (h : PA X es t) : PE X (.Tuple es x1 pos) (tTup t) := by
  intro pins s σ H Q I hq
  refine wpAny_Tuple_spliced (thn (h pos pins s σ H _ I hq) fun us s1 ⟨xs, H1, I1, r, z, q⟩ => ⟨by rw [← r.length]; exact z, ?_⟩)
  have hf : H1 s1.heap.objs.size = none := I1.hok.fresh (Nat.le_refl _)
  refine ⟨.ref s1.heap.objs.size, upd H1 s1.heap.objs.size (.tup xs), I1.laid (t' := s1.toks) (fun b u e => Heap.get?_push_of_some _ e) (Nat.le_refl _) ?_, rfl, q _ hf⟩
  exact ⟨z, us, r, ⟨_, Heap.get?_push_size _ rfl, rfl, _, rfl⟩⟩
theorem pe_lst (h : PA X es t) : PE X (.List es pos) (tLst t) := by
  intro pins s σ H Q I hq
  refine wpAny_List_spliced (thn (h pos pins s σ H _ I hq) fun us s1 ⟨xs, H1, I1, r, z, q⟩ => ⟨by rw [← r.length]; exact z, ?_⟩)
  have hf : H1 s1.heap.objs.size = none := I1.hok.fresh (Nat.le_refl _)
  refine ⟨.ref s1.heap.objs.size, upd H1 s1.heap.objs.size (.lst xs), I1.laid (t' := s1.toks) (fun b u e => Heap.get?_push_of_some _ e) (Nat.le_refl _) ?_, rfl, q _ hf⟩
  exact ⟨z, us, 0, r, Heap.get?_push_size _ rfl⟩
end
abbrev Sp := List V → Hp → VK → XK → Prop
abbrev CXT := List Env → Hp → Shared → XK → Value → Shared → Prop
structure Env0 (P : Program) (w : World) (K : PySem.W.Frag) (mg : Str → Option Value) (base : Heap) (A : Around) (outer : List Env) (s : Shared) (H : Hp) : Prop where
  frames : A.frames = some outer
  mod : Mod K mg base
  bs : ∀ b o, base.get? b = some o → s.heap.get? b = some o ∧ H b = none
  bsz : base.objs.size ≤ s.heap.objs.size
  funs : s.heap.FunFrames base outer
  frf : ∀ b ∈ frs outer, H b = none
  hok : HOk P w H s.heap
  bare : AllBare s.gens
def CE (outer : List Env) (P : Program) (w : World) (H : Hp) (s : Shared) (Q : VK) (u : Value) (s' : Shared) : Prop :=
  ∃ v H', s'.os = s.os ∧ AllBare s'.gens ∧ Un (frs outer) [] H H' s.heap s'.heap ∧ HOk P w H' s'.heap ∧ RelV v u ∧ Q v H'
def CR (CX : CXT) (outer : List Env) (P : Program) (w : World) (H : Hp) (s : Shared) (Q : VK) (E : XK) (r : Result) (s' : Shared) : Prop :=
  match r with
  | .ok (.ret u) => CE outer P w H s Q u s'
  | .ok _ => False
  | .error e => CX outer H s E e s'
structure FnOk (P : Program) (w : World) (K : PySem.W.Frag) (mg : Str → Option Value) (base : Heap) (CX : CXT) (k : Nat) (f : Addr) (fd : FuncData) (ps : List Str) (sp : Sp) : Prop where
  len : ∀ vs H Q E, sp vs H Q E → vs.length = ps.length
  run : ∀ (A : Around) (outer : List Env) (s : Shared) (H : Hp) (args : Args) (us : List Value) (vs : List V) (Q : VK) (E : XK), Room k A → Env0 P w K mg base A outer s H → BindsTo s fd args (ps.zip us) → Vals vs us → sp vs H Q E →
    codeAny (model P w) A (.call (.ref f) args) (CR CX outer P w H s Q E) s
theorem FnOk.mono {P : Program} {w : World} {K : PySem.W.Frag} {mg : Str → Option Value} {base : Heap} {CX : CXT} {j k : Nat} {f : Addr} {fd : FuncData} {ps : List Str} {sp : Sp} (F : FnOk P w K mg base CX j f fd ps sp) (h : j ≤ k) :
    FnOk P w K mg base CX k f fd ps sp := ⟨F.len, fun A outer s H args us vs Q E hr => F.run A outer s H args us vs Q E (hr.mono h)⟩
theorem FnOk.imp {P : Program} {w : World} {K : PySem.W.Frag} {mg : Str → Option Value} {base : Heap} {CX : CXT} {k : Nat} {f : Addr} {fd : FuncData} {ps : List Str} {sp sp' : Sp} (F : FnOk P w K mg base CX k f fd ps sp)
    (h : ∀ vs H Q E, sp' vs H Q E → sp vs H Q E) : FnOk P w K mg base CX k f fd ps sp' :=
  ⟨fun vs H Q E q => F.len vs H Q E (h _ _ _ _ q), fun A outer s H args us vs Q E hr he hb hv hs => F.run A outer s H args us vs Q E hr he hb hv (h _ _ _ _ hs)⟩
theorem Env0.make {P : Program} {w : World} {K : PySem.W.Frag} {mg : Str → Option Value} {base : Heap} {A : Around} {outer : List Env} {s : Shared} {H : Hp} (e : Env0 P w K mg base A outer s H) (C : Addr) (us : List Value) (kw : List (Str × Value)) :
    Env0 P w K mg base (A.under (.builtin "type.__call__" ⟨.ref C :: us, kw⟩)) outer s H := ⟨by first | exact e.frames | (simpa [Around.under, Code.envs, Code.isFrame, pushEnvs] using e.frames), e.mod, e.bs, e.bsz, e.funs, e.frf, e.hok, e.bare⟩
section
variable {X : Cx} {pins : List (Addr × Obj)} {σ : St} {H : Hp} {s s' : Shared}
theorem Inv.env0 (I : Inv X pins σ H s) : Env0 X.prog X.w X.K X.mg X.base X.A X.stack s H :=
  ⟨I.ok.frames, I.ok.mod, I.bs, Nat.le_trans I.ok.bsz I.sz, I.stack, I.stkFree, I.hok, I.bare⟩
theorem Inv.after {Q : VK} {u : Value} (I : Inv X pins σ H s) (h : CE X.stack X.prog X.w H s Q u s') : EP X pins σ Q u s' := by
  obtain ⟨v, H', os, bare, un, hok, r, q⟩ := h
  obtain ⟨hh, g, d, t, os'⟩ := s'
  obtain rfl : os' = s.os := os
  exact ⟨v, H', I.call (h' := hh) (g' := g) (d' := d) (t' := t) (ch := []) un hok bare (fun b z => absurd z (by simp)), r, q⟩
end
def tCall (sp : Sp) (dvs : List V) (E : XK) (t : TA) : TE := fun σ H Q => t σ H fun vs H1 => sp (vs ++ dvs) H1 Q E
def tMake (C : Addr) (sp : Sp) (dvs : List V) (E : XK) (t : TA) : TE := fun σ H Q => t σ H fun vs H1 => ∀ x dx, H1 x = none → H1 dx = none → dx ≠ x →
  sp (.ref x :: (vs ++ dvs)) (upd (upd H1 dx (.own x)) x (.ins C dx [])) (fun v H2 => v = .non ∧ Q (.ref x) H2) E
def Binds (K : PySem.W.Frag) (fd : FuncData) (ps : List Str) (ds : List Value) : Prop :=
  ∀ (s : Shared) (us : List Value), K.In s.heap → (us ++ ds).length = ps.length → BindsTo s fd ⟨us, []⟩ (ps.zip (us ++ ds))
theorem Binds.all {K : PySem.W.Frag} {fd : FuncData} {ps : List Str} (h : ∀ us : List Value, us.length = ps.length → bindArgs fd ⟨us, []⟩ = pure (ps.zip us)) : Binds K fd ps [] := fun s us _ hl => by
  rw [List.append_nil] at hl ⊢
  exact .of_eq (h us hl)
def Passes (CX : CXT) (X : Cx) (E : XK) : Prop := ∀ (pins : List (Addr × Obj)) (σ : St) (H : Hp) (s : Shared) (e : Value) (s' : Shared), Inv X pins σ H s → CX X.stack H s E e s' → X.xe e s'
section
variable {X : Cx} {CX : CXT} {k : Nat} {f C : Addr} {fd : FuncData} {ps : List Str} {sp : Sp} {dvs : List V} {ds : List Value} {E : XK} {x m : Str} {p pos apos : Pos} {e o : Expr} {es : List Expr} {ta : TE} {t : TA}
theorem run_fn {pins : List (Addr × Obj)} {σ : St} {H : Hp} {s : Shared} {Q : VK} {us : List Value} {vs : List V} (F : FnOk X.prog X.w X.K X.mg X.base CX k f fd ps sp) (hr : Room k X.A) (hb : Binds X.K fd ps ds) (hd : Vals dvs ds) (hx : Passes CX X E)
    (I : Inv X pins σ H s) (r : Vals vs us) (h : sp (vs ++ dvs) H Q E) : wpAny (model X.prog X.w) X.A (call (.ref f) us) (EP X pins σ Q) X.xe s := by
  have r2 : Vals (vs ++ dvs) (us ++ ds) := r.append hd
  have hl : (us ++ ds).length = ps.length := by rw [← r2.length]; exact F.len _ _ _ _ h
  refine wpAny_call (codeAny_mono (F.run X.A X.stack s H ⟨us, []⟩ (us ++ ds) (vs ++ dvs) Q E hr I.env0 (hb s us I.kIn hl) r2 h) fun r s' hq => ?_)
  cases r with
  | error e => exact hx pins σ H s e s' I hq
  | ok fl =>
    cases fl with
    | ret u => exact I.after hq
    | next => exact False.elim hq
    | brk => exact False.elim hq
    | cont => exact False.elim hq
theorem pe_call (F : FnOk X.prog X.w X.K X.mg X.base CX k f fd ps sp) (hr : Room k X.A) (hg : Gl X x) (hm : X.mg x = some (.ref f)) (hk : PySem.W.keepIn X.K (.ref f) = true) (hb : Binds X.K fd ps ds) (hd : Vals dvs ds) (hx : Passes CX X E)
    (ha : PA X (e :: es) t) (hdb : (x == ("__debug__" : Str)) = false := by decide) (he : starEach (e :: es) X.env = (false, eval e X.env) :: starEach es X.env := by rfl) (hpl : (backTo pos (starEach es X.env)).any (·.1) = false := by rfl) :
    PE X (.Call (.Name x p) (e :: es) [] pos) (tCall sp dvs E t) := by
  intro pins s σ H Q I h
  refine wpAny_Call_Name_kw (ld_glob I hg hm ?_ hdb)
  refine PySem.W.callWith_K (h₀ := X.base) I.ok.mod.kin hk (thn (ha pos pins s σ H _ I h) fun us s1 ⟨vs, H1, I1, r, q⟩ => ⟨I1.kIn, ?_⟩) he hpl
  exact run_fn F hr hb hd hx I1 r q
theorem pe_call0 (F : FnOk X.prog X.w X.K X.mg X.base CX k f fd ps sp) (hr : Room k X.A) (hg : Gl X x) (hm : X.mg x = some (.ref f)) (hk : PySem.W.keepIn X.K (.ref f) = true) (hb : Binds X.K fd ps ds) (hd : Vals dvs ds) (hx : Passes CX X E)
    (hdb : (x == ("__debug__" : Str)) = false := by decide) : PE X (.Call (.Name x p) [] [] pos) (tCall sp dvs E tNil) := by
  intro pins s σ H Q I h
  refine wpAny_Call_Name_kw (ld_glob I hg hm ?_ hdb)
  exact PySem.W.callWith_K0 I.kIn hk (run_fn (us := []) F hr hb hd hx I .nil h)
structure Mk (K : PySem.W.Frag) (C f : Addr) : Prop where
  makes : PySem.W.makesIn K C = true
  init : PySem.W.findIn K (.ref C) "__init__" = some (some (.ref f))
  fn : PySem.W.isFn K (.ref f) = true
  kp : PySem.W.keepIn K (.ref C) = true
theorem run_make {pins : List (Addr × Obj)} {σ : St} {H : Hp} {s : Shared} {Q : VK} {us : List Value} {vs : List V} (M : Mk X.K C f) (F : FnOk X.prog X.w X.K X.mg X.base CX k f fd ps sp) (hr : Room (k + 1) X.A) (hb : Binds X.K fd ps ds) (hd : Vals dvs ds)
    (hx : Passes CX X E) (I : Inv X pins σ H s) (r : Vals vs us)
    (h : ∀ x dx, H x = none → H dx = none → dx ≠ x → sp (.ref x :: (vs ++ dvs)) (upd (upd H dx (.own x)) x (.ins C dx [])) (fun v H2 => v = .non ∧ Q (.ref x) H2) E) :
    wpAny (model X.prog X.w) X.A (call (.ref C) us) (EP X pins σ Q) X.xe s := by
  have hq := h (s.heap.objs.size + 1) s.heap.objs.size (I.hok.fresh (Nat.le_succ _)) (I.hok.fresh (Nat.le_refl _)) (Nat.ne_of_lt (Nat.lt_succ_self _))
  have I2 := Inv.made (C := C) I
  have r2 : Vals (V.ref (s.heap.objs.size + 1) :: (vs ++ dvs)) (Value.ref (s.heap.objs.size + 1) :: (us ++ ds)) := .cons rfl (r.append hd)
  have hl : (Value.ref (s.heap.objs.size + 1) :: us ++ ds).length = ps.length := by
    have e := r2.length
    rw [F.len _ _ _ _ hq] at e
    exact e.symm
  refine wpAny_call (make_map (f := f) I.kIn M.makes M.init (beq_iff_eq.mp M.fn) (codeAny_mono (F.run _ X.stack _ _ ⟨Value.ref (s.heap.objs.size + 1) :: us, []⟩ (Value.ref (s.heap.objs.size + 1) :: (us ++ ds)) _ _ E (hr.make C us [])
    (I2.env0.make C us []) (hb _ (Value.ref (s.heap.objs.size + 1) :: us) I2.kIn hl) r2 hq) fun r s' hq' => ?_))
  cases r with
  | error e => exact hx pins σ _ _ e s' I2 hq'
  | ok fl =>
    cases fl with
    | ret u =>
      obtain ⟨v, H', I3, rv, ev, q3⟩ := I2.after hq'
      subst ev
      exact ⟨rv, ⟨V.ref (s.heap.objs.size + 1), H', I3, rfl, q3⟩⟩
    | next => exact False.elim hq'
    | brk => exact False.elim hq'
    | cont => exact False.elim hq'
theorem pe_make (M : Mk X.K C f) (F : FnOk X.prog X.w X.K X.mg X.base CX k f fd ps sp) (hr : Room (k + 1) X.A) (hg : Gl X x) (hm : X.mg x = some (.ref C)) (hb : Binds X.K fd ps ds) (hd : Vals dvs ds) (hx : Passes CX X E)
    (ha : PA X (e :: es) t) (hdb : (x == ("__debug__" : Str)) = false := by decide) (he : starEach (e :: es) X.env = (false, eval e X.env) :: starEach es X.env := by rfl) (hpl : (backTo pos (starEach es X.env)).any (·.1) = false := by rfl) :
    PE X (.Call (.Name x p) (e :: es) [] pos) (tMake C sp dvs E t) := by
  intro pins s σ H Q I h
  refine wpAny_Call_Name_kw (ld_glob I hg hm ?_ hdb)
  refine PySem.W.callWith_K (h₀ := X.base) I.ok.mod.kin M.kp (thn (ha pos pins s σ H _ I h) fun us s1 ⟨vs, H1, I1, r, q⟩ => ⟨I1.kIn, ?_⟩) he hpl
  exact run_make M F hr hb hd hx I1 r q
end
section
variable {X : Cx} {CX : CXT} {k : Nat} {f C : Addr} {fd : FuncData} {ps ks : List Str} {sp : Sp} {E : XK} {x m : Str} {p pos apos kpos : Pos} {e o : Expr} {es : List Expr} {kws : List Keyword} {te ta : TE} {t tk : TA} {nm : Option Str}
variable {g : List Value → List Value → List Value} {gV : List V → List V → List V}
end
structure FnScope (N P : List Str) (sc : Scope) : Prop where
  kind : sc.kind = .function
  co : sc.isCoroutine = false
  gen : sc.isGenerator = false
  nd : N.Nodup
  pre : N.take P.length = P
  par : ∀ x ∈ P, sc.names.lookup x = some .local ∨ sc.names.lookup x = some .cell
  nofree : ∀ y ∈ sc.names, y.2 ≠ .free
theorem bindL_out {kindOf : Str → Option NameKind} {x : Str} : ∀ {binds : List (Str × Value)} {m : Str → Option Value}, (∀ v, (x, v) ∉ binds) → bindL kindOf binds m x = m x
  | [], _, _ => rfl
  | (n, v) :: r, m, h => by
    unfold bindL
    rw [bindL_out fun w hw => h w (List.mem_cons_of_mem _ hw)]
    split
    · have : x ≠ n := by rintro rfl; exact h v List.mem_cons_self
      simp [this]
    · rfl
theorem bindC_out {kindOf : Str → Option NameKind} {x : Str} : ∀ {binds : List (Str × Value)} {m : Str → Option Value}, (∀ v, (x, v) ∉ binds) → bindC kindOf binds m x = m x
  | [], _, _ => rfl
  | (n, v) :: r, m, h => by
    unfold bindC
    rw [bindC_out fun w hw => h w (List.mem_cons_of_mem _ hw)]
    split
    · rfl
    · have : x ≠ n := by rintro rfl; exact h v List.mem_cons_self
      simp [this]
theorem bindL_get {kindOf : Str → Option NameKind} {x : Str} {v : Value} : ∀ {P : List Str} {vs : List Value} {i : Nat} {m : Str → Option Value}, P.Nodup → P[i]? = some x → vs[i]? = some v → kindOf x = some .local →
    bindL kindOf (P.zip vs) m x = some v
  | [], _, _, _, _, h, _, _ => by simp at h
  | _ :: _, [], _, _, _, _, h, _ => by simp at h
  | p :: P, w :: vs, 0, m, nd, h1, h2, hk => by
    simp at h1 h2; subst h1; subst h2
    show bindL kindOf ((p, w) :: P.zip vs) m p = _
    unfold bindL
    rw [bindL_out fun v hv => (List.nodup_cons.mp nd).1 (List.of_mem_zip hv).1, if_pos hk]
    simp
  | p :: P, w :: vs, i + 1, m, nd, h1, h2, hk => by
    show bindL kindOf ((p, w) :: P.zip vs) m x = _
    unfold bindL
    exact bindL_get (i := i) (List.nodup_cons.mp nd).2 (by simpa using h1) (by simpa using h2) hk
theorem bindC_get {kindOf : Str → Option NameKind} {x : Str} {v : Value} : ∀ {P : List Str} {vs : List Value} {i : Nat} {m : Str → Option Value}, P.Nodup → P[i]? = some x → vs[i]? = some v → kindOf x ≠ some .local →
    bindC kindOf (P.zip vs) m x = some v
  | [], _, _, _, _, h, _, _ => by simp at h
  | _ :: _, [], _, _, _, _, h, _ => by simp at h
  | p :: P, w :: vs, 0, m, nd, h1, h2, hk => by
    simp at h1 h2; subst h1; subst h2
    show bindC kindOf ((p, w) :: P.zip vs) m p = _
    unfold bindC
    rw [bindC_out fun v hv => (List.nodup_cons.mp nd).1 (List.of_mem_zip hv).1, if_neg hk]
    simp
  | p :: P, w :: vs, i + 1, m, nd, h1, h2, hk => by
    show bindC kindOf ((p, w) :: P.zip vs) m x = _
    unfold bindC
    exact bindC_get (i := i) (List.nodup_cons.mp nd).2 (by simpa using h1) (by simpa using h2) hk
def start (N : List Str) (vs : List V) : St := vs.map some ++ List.replicate (N.length - vs.length) none
def cxOf (CX : CXT) (P : Program) (w : World) (K : PySem.W.Frag) (mg : Str → Option Value) (base : Heap) (N : List Str) (qual : Str) (scope : Scope) (f : Addr) (cd : Value) (A : Around) (outer : List Env) (s : Shared) (H : Hp) (E : XK) : Cx where
  prog := P
  w := w
  K := K
  mg := mg
  base := base
  A := A.deeper (envOfC qual scope s.heap.objs.size f cd)
  N := N
  s₀ := s
  H₀ := H
  env := envOfC qual scope s.heap.objs.size f cd
  outer := outer
  stack := envOfC qual scope s.heap.objs.size f cd :: outer
  ex := []
  calm := true
  fn := fun _ => true
  pn := []
  xe := fun e s' => wpAny (model P w) (A.deeper (envOfC qual scope s.heap.objs.size f cd)) (leaving (envOfC qual scope s.heap.objs.size f cd) e) (fun _ s'' => CX outer H s E e s'') (fun e' s'' => CX outer H s E e' s'') s'
theorem cell_has {sc : Scope} {n : Nat} {x : Str} (h : sc.names.lookup x = some .cell) : ∃ c, (cellsFrom n sc.names []).lookup x = some c := by
  have q := PySem.W.cellsFrom_some sc.names n [] (.inl h)
  exact Option.isSome_iff_exists.mp q
theorem inv_start {CX : CXT} {P : Program} {w : World} {K : PySem.W.Frag} {mg : Str → Option Value} {base : Heap} {N ps : List Str} {qual : Str} {scope : Scope} {f : Addr} {cd : Value} {A : Around} {outer : List Env} {s s1 : Shared} {H : Hp} {E : XK} {us : List Value} {vs : List V}
    (S : FnScope N ps scope) (hd : A.handled = none) (e0 : Env0 P w K mg base A outer s H) (hl : vs.length = ps.length) (r : Vals vs us)
    (x : InCallC s s.heap.objs.size (bindL (envOfC qual scope s.heap.objs.size f cd).kindOf (ps.zip us) fun _ => none) (cellsFrom (s.heap.objs.size + 1) scope.names []) (bindC (envOfC qual scope s.heap.objs.size f cd).kindOf (ps.zip us) fun _ => none) s1) :
    Inv (cxOf CX P w K mg base N qual scope f cd A outer s H E) [] (start N vs) H s1 := by
  have hpl : ps.length ≤ N.length := by have := congrArg List.length S.pre; rw [List.length_take] at this; omega
  obtain ⟨h1, tk, rfl, hk⟩ := x.done
  have noA : ∀ b : Addr, b ∉ (cxOf CX P w K mg base N qual scope f cd A outer s H E).ex := fun b z => absurd (show b ∈ ([] : List Addr) from z) (by simp)
  refine ⟨⟨e0.mod, S.kind, rfl, rfl, Nat.le_refl _, fun y z c h1 h2 => ?_, fun y hy => ?_, fun y c _ h => ?_, fun _ => hd, Around.frames_deeper e0.frames, .inr ⟨rfl, rfl⟩, fun b z => absurd z (noA b), e0.bs, e0.bsz, fun b _ _ => noA b, fun b z => absurd z (noA b), e0.funs, e0.frf⟩,
    rfl, e0.bare, Un.kept hk, ⟨_, x.toInCall.ns, fun i y v h1 h2 h3 => ?_⟩, fun y c h => ⟨_, x.cell y c h⟩, e0.hok.fresh (Nat.le_refl _), fun y c h => ?_, fun p hp => absurd (show p ∈ ([] : List (Addr × Obj)) from hp) (by simp), e0.hok.kept hk, ?_⟩
  · exact name_of_addr x.apart (PySem.mem_of_lookup h1) (PySem.mem_of_lookup h2)
  · have hy : scope.names.lookup y = some .cell ∨ scope.names.lookup y = some .free := hy
    rcases hy with hy | hy
    · exact cell_has hy
    · exact absurd rfl (S.nofree _ (PySem.mem_of_lookup hy))
  · exact Nat.le_of_lt (x.above y c (PySem.mem_of_lookup h))
  · have hi : i < vs.length := by
      unfold start at h2
      by_cases hi : i < vs.length
      · exact hi
      · rw [List.getElem?_append_right (by simpa using hi)] at h2
        rw [List.getElem?_replicate] at h2
        split at h2 <;> cases h2
    have ha : vs[i]? = some v := by
      unfold start at h2
      rw [List.getElem?_append_left (by simpa using hi), List.getElem?_map] at h2
      cases e : vs[i]? with
      | none => rw [e] at h2; cases h2
      | some a => rw [e] at h2; cases h2; rfl
    obtain ⟨u, hu, rv⟩ := r.get ha
    have hp : ps[i]? = some y := by
      rw [← S.pre, List.getElem?_take_of_lt (by omega)]; exact h1
    have ndP : ps.Nodup := by rw [← S.pre]; exact S.nd.sublist (List.take_sublist _ _)
    refine ⟨u, rv, ?_⟩
    rcases S.par y (List.mem_of_getElem? hp) with k | k
    · exact .inl ⟨k, bindL_get ndP hp hu k⟩
    · obtain ⟨c, e⟩ := cell_has (n := s.heap.objs.size + 1) k
      refine .inr ⟨.inl k, c, e, ?_⟩
      have q := x.cell y c e
      rw [bindC_get ndP hp hu (by show scope.names.lookup y ≠ _; rw [k]; decide)] at q
      exact q
  · exact e0.hok.fresh (Nat.le_of_lt (x.above y c (PySem.mem_of_lookup h)))
  · unfold start
    show _ = N.length
    rw [List.length_append, List.length_map, List.length_replicate]
    omega
theorem fn_of {CX : CXT} {P : Program} {w : World} {K : PySem.W.Frag} {mg : Str → Option Value} {base : Heap} {k : Nat} {f : Addr} {name qual : Str} {params : Arguments} {body : List Stmt} {scope : Scope} {dV kV doc pm cdv ct oc : Value} {an od : Option Addr}
    {osl : Array (Option Value)} {N ps : List Str} {sp : Sp} (lk : K.lookup f = some ⟨oc, od, .func (PySem.W.fnOf name qual params body scope dV kV doc pm an cdv ct), osl⟩) (hcd : PySem.W.codeIn K cdv qual = true) (S : FnScope N ps scope)
    (len : ∀ vs H Q E, sp vs H Q E → vs.length = ps.length)
    (hbody : ∀ (A : Around) (outer : List Env) (s : Shared) (H : Hp) (vs : List V) (Q : VK) (E : XK), Room k (A.deeper (envOfC qual scope s.heap.objs.size f cdv)) → sp vs H Q E →
      ∃ t, PSs (cxOf CX P w K mg base N qual scope f cdv A outer s H E) body t ∧ t { nx := fun _ H' => Q .non H', rt := Q } (start N vs) H) :
    FnOk P w K mg base CX (k + 1) f (PySem.W.fnOf name qual params body scope dV kV doc pm an cdv ct) ps sp := by
  refine ⟨len, fun A outer s H args us vs Q E hr e0 hb r hsp => ?_⟩
  have hl := len _ _ _ _ hsp
  have KX : K.In s.heap := e0.mod.kin.keeps fun b o e => (e0.bs b o e).1
  have lim : s.heap.NoLimit := e0.mod.nolimit.keeps fun b o e => (e0.bs b o e).1
  have hkind : ∀ y ∈ ps.zip us, scope.names.lookup y.1 = some .local ∨ (scope.names.lookup y.1 = some .cell ∧ ((cellsFrom (s.heap.objs.size + 1) scope.names []).lookup y.1).isSome = true) := fun ⟨n, v⟩ hy => by
    rcases S.par n (List.of_mem_zip hy).1 with q | q
    · exact .inl q
    · exact .inr ⟨q, PySem.W.cellsFrom_some _ _ _ (.inl q)⟩
  refine codeAny_call_function hr.depth (KX _ _ lk) rfl S.co S.gen rfl (PySem.W.codeRec_of KX hcd) (hb _ _ _ _ ?_)
  refine wpAny_newFunctionEnv_cells S.kind hkind fun env he s1 x => ?_
  subst he
  refine ⟨lim.keeps x.toInCall.keep, codeAny_func ?_⟩
  obtain ⟨t, ht, hq⟩ := hbody A outer s H vs Q E (hr.deeper _) hsp
  have I : Inv (cxOf CX P w K mg base N qual scope f cdv A outer s H E) [] (start N vs) H s1 := inv_start S hr.hd e0 hl r x
  refine wpAny_mono (ht [] s1 (start N vs) H _ I hq) (fun fl s' hs => ?_) fun e s' hs => hs
  have fin : ∀ {σ' : St} {H' : Hp} {v : V} {u : Value}, Inv (cxOf CX P w K mg base N qual scope f cdv A outer s H E) [] σ' H' s' → RelV v u → Q v H' → CE outer P w H s Q u s' :=
    fun {σ' H' v u} J rv q => ⟨v, H', J.os, J.bare, J.base, J.hok, rv, q⟩
  cases fl with
  | ret u =>
    obtain ⟨v, σ', H', J, rv, q⟩ := hs
    exact fin J rv q
  | next =>
    obtain ⟨σ', H', J, q⟩ := hs
    exact fin (v := V.non) (u := Value.none) J rfl q
  | brk =>
    obtain ⟨_, _, _, q⟩ := hs
    exact False.elim q
  | cont =>
    obtain ⟨_, _, _, q⟩ := hs
    exact False.elim q
end L2
namespace L2
open PySem PySem.Spec PyProof.Rows
section
variable {X : Cx} {x : Str} {p pos : Pos} {e : Expr} {es : List Expr} {t : TA} {id T : String} {r : List V → Hp → VK → Prop}
def tCB (r : List V → Hp → VK → Prop) (t : TA) : TE := fun σ H Q => t σ H fun vs H1 => r vs H1 Q
theorem pe_callB (hc : CallR X (.builtin id) r) (hg : Gl X x) (hm : X.mg x = none) (hv : bootBuiltins x = some (.builtin id)) (ha : PA X (e :: es) t) (hn : x ≠ "__name__" := by decide) (hdb : (x == ("__debug__" : Str)) = false := by decide)
    (he : starEach (e :: es) X.env = (false, eval e X.env) :: starEach es X.env := by rfl) (hpl : (backTo pos (starEach es X.env)).any (·.1) = false := by rfl) : PE X (.Call (.Name x p) (e :: es) [] pos) (tCB r t) := by
  intro pins s σ H Q I h
  refine wpAny_Call_Name_kw (ld_blt I hg hm hv ?_ hn hdb)
  exact PyProof.Rows.callWith_builtin1 (thn (ha pos pins s σ H _ I h) fun us s1 ⟨vs, H1, I1, r1, q1⟩ => hc pins s1 σ H1 vs us Q I1 r1 q1) he hpl
theorem pe_callTy (hc : CallR X (.type T) r) (hg : Gl X x) (hm : X.mg x = none) (hv : bootBuiltins x = some (.type T)) (ha : PA X (e :: es) t) (hn : x ≠ "__name__" := by decide) (hdb : (x == ("__debug__" : Str)) = false := by decide)
    (he : starEach (e :: es) X.env = (false, eval e X.env) :: starEach es X.env := by rfl) (hpl : (backTo pos (starEach es X.env)).any (·.1) = false := by rfl) : PE X (.Call (.Name x p) (e :: es) [] pos) (tCB r t) := by
  intro pins s σ H Q I h
  refine wpAny_Call_Name_kw (ld_blt I hg hm hv ?_ hn hdb)
  exact PyProof.Rows.callWith_type1 (thn (ha pos pins s σ H _ I h) fun us s1 ⟨vs, H1, I1, r1, q1⟩ => hc pins s1 σ H1 vs us Q I1 r1 q1) he hpl
end
end L2
namespace HT
open PySem PyProof.Rows
section
open PySem.SeqAt
open PySem.AutoSeq1 (wpAny_loadPart')
open PySem.MeetsSeq PySem.MeetsSeq2 PySem.MeetsSeq3
end
section
variable {prog : Program} {w : World} {A : Around} {E : Value → Shared → Prop} {s : Shared}
def sIx (n d : Nat) : Option Int → Nat
  | none => d
  | some v => if v < 0 then (v + (n : Int)).toNat else min v.toNat n
theorem sIx_none (n d : Nat) : sIx n d none = d := rfl
theorem sIx_nat (n d k : Nat) : sIx n d (some (k : Int)) = min k n := by
  show (if (k : Int) < 0 then ((k : Int) + (n : Int)).toNat else min (k : Int).toNat n) = min k n
  rw [if_neg (by omega), Int.toNat_natCast]
end
end HT
namespace L2
open PySem PySem.Spec PyProof.Rows
abbrev TO := St → Hp → (Option Int → Hp → Prop) → Prop
def PO (X : Cx) (e : Option Expr) (t : TO) : Prop :=
  ∀ (pins : List (Addr × Obj)) (s : Shared) (σ : St) (H : Hp) (Q : Option Int → Hp → Prop), Inv X pins σ H s → t σ H Q →
    wpAny (model X.prog X.w) X.A (evalPart e X.env) (fun u s' => ∃ o H', Inv X pins σ H' s' ∧ IsPart u o ∧ Q o H') X.xe s
def tNoPart : TO := fun _ H Q => Q none H
def tPart (t : TE) : TO := fun σ H Q => t σ H fun x H1 => ∃ i, x = .int i ∧ Q (some i) H1
section
variable {X : Cx} {e : Expr} {te : TE} {lo hi : Option Expr} {tl th : TO} {pos p2 : Pos}
theorem po_none : PO X none tNoPart := by
  intro pins s σ H Q I h
  rw [evalPart_none]
  exact wpAny_pure ⟨none, H, I, .none, h⟩
theorem po_some (h : PE X e te) : PO X (some e) (tPart te) := by
  intro pins s σ H Q I hw
  rw [evalPart_some]
  refine thn (h pins s σ H _ I hw) fun u s1 ⟨x, H1, I1, r1, q1⟩ => ?_
  obtain ⟨i, rfl, q⟩ := q1
  obtain ⟨t, rfl⟩ := r1
  exact ⟨some i, H1, I1, .int i t, q⟩
def SlR (X : Cx) (r : V → Option Int → Option Int → Hp → VK → Prop) : Prop :=
  ∀ (pins : List (Addr × Obj)) (s : Shared) (σ : St) (H : Hp) (x : V) (v vl vu : Value) (lo hi : Option Int) (sl : Addr) (Q : VK), Inv X pins σ H s → RelV x v → s.heap.IsSliceOf sl vl vu .none → IsPart vl lo → IsPart vu hi → r x lo hi H Q →
    ∃ T id, typeLookup (.type T) "__getitem__" = pure (some (.builtin id)) ∧ s.TypeIs v T ∧ wpAny (model X.prog X.w) X.A (getItem v (.ref sl)) (EP X pins σ Q) X.xe s
def tSl (r : V → Option Int → Option Int → Hp → VK → Prop) (te : TE) (tl th : TO) : TE := fun σ H Q => te σ H fun x H1 => tl σ H1 fun l H2 => th σ H2 fun u H3 => r x l u H3 Q
theorem pe_slice {r : V → Option Int → Option Int → Hp → VK → Prop} (hr : SlR X r) (he : PE X e te) (hl : PO X lo tl) (hu : PO X hi th) : PE X (.Subscript e (.Slice lo hi none p2) pos) (tSl r te tl th) := by
  intro pins s σ H Q I h
  refine Subscript_ (thn (he pins s σ H _ I h) fun v s1 ⟨x, H1, I1, r1, q1⟩ => ?_)
  refine wpAny_Slice (thn (hl pins s1 σ H1 _ I1 q1) fun vl s2 ⟨l, H2, I2, pl, q2⟩ => thn (hu pins s2 σ H2 _ I2 q2) fun vu s3 ⟨u, H3, I3, pu, q3⟩ => ?_)
  rw [evalPart_none]
  refine wpAny_pure ?_
  have I4 : Inv X pins σ H3 { s3 with heap := s3.heap.push { cls := .type "slice", data := .fields #[vl, vu, .none] } } := I3.kept (t' := s3.toks) fun b ob q => Heap.get?_push_of_some _ q
  obtain ⟨T, id, hT, ht, hg⟩ := hr pins { s3 with heap := s3.heap.push { cls := .type "slice", data := .fields #[vl, vu, .none] } } σ H3 x v vl vu l u s3.heap.objs.size Q I4 r1 (Heap.IsSliceOf.new ..) pl pu q3
  show wpAny (model X.prog X.w) X.A (subscriptTail e (.Slice lo hi none p2) v (.ref s3.heap.objs.size)) (EP X pins σ Q) X.xe { s3 with heap := s3.heap.push { cls := .type "slice", data := .fields #[vl, vu, .none] } }
  exact tail_any (ops := [.ref s3.heap.objs.size, v]) ht hT hg (by with_unfolding_all rfl)
def cutV (xs : List V) (lo hi : Option Int) : List V := (xs.drop (HT.sIx xs.length 0 lo)).take (HT.sIx xs.length xs.length hi - HT.sIx xs.length 0 lo)
theorem cutV_length (xs : List V) (lo hi : Option Int) : (cutV xs lo hi).length ≤ xs.length := by
  unfold cutV
  rw [List.length_take, List.length_drop]
  omega
theorem Vals.nil_iff {xs : List V} {us : List Value} (r : Vals xs us) : us = [] ↔ xs = [] := by
  cases r with
  | nil => simp
  | cons _ _ => simp
end
end L2
namespace L2
open PySem PySem.Spec PyProof.Rows
def ixN (n : Nat) (i : Int) : Option Nat := if 0 ≤ i then (if i < n then some i.toNat else none) else if -(n : Int) ≤ i then some (i + n).toNat else none
def atI {α : Type} (xs : List α) (i : Int) : Option α := (ixN xs.length i).bind fun j => xs[j]?
theorem ixN_seq {n : Nat} {i : Int} {j : Nat} (h : ixN n i = some j) : seqIndex? i n = some j ∧ j < n ∧ -(n : Int) ≤ i ∧ i < n := by
  unfold ixN at h
  by_cases h0 : 0 ≤ i
  · rw [if_pos h0] at h
    by_cases h1 : i < n
    · rw [if_pos h1] at h
      have e : i.toNat = j := Option.some.inj h
      exact ⟨by rw [seqIndex_of h0 h1, e], by omega, by omega, h1⟩
    · rw [if_neg h1] at h; cases h
  · rw [if_neg h0] at h
    by_cases h1 : -(n : Int) ≤ i
    · rw [if_pos h1] at h
      have e : (i + n).toNat = j := Option.some.inj h
      exact ⟨by rw [seqIndex_neg (by omega) h1, e], by omega, h1, by omega⟩
    · rw [if_neg h1] at h; cases h
theorem atI_get {α : Type} {xs : List α} {i : Int} {v : α} (h : atI xs i = some v) : ∃ j, seqIndex? i xs.length = some j ∧ xs[j]? = some v ∧ j < xs.length ∧ -(xs.length : Int) ≤ i ∧ i < xs.length := by
  unfold atI at h
  cases e : ixN xs.length i with
  | none => rw [e] at h; cases h
  | some j =>
    rw [e] at h
    obtain ⟨h1, h2, h3, h4⟩ := ixN_seq e
    exact ⟨j, h1, h, h2, h3, h4⟩
theorem atI_nat {α : Type} {xs : List α} {j : Nat} {v : α} (h : xs[j]? = some v) : atI xs (j : Int) = some v := by
  have hj : j < xs.length := (List.getElem?_eq_some_iff.mp h).1
  have e : ixN xs.length (j : Int) = some j := by
    unfold ixN
    rw [if_pos (by omega), if_pos (by omega)]; simp
  unfold atI; rw [e]; exact h
def PlainIx (b : Expr) : Prop := ∀ o i, subscripted b false o i = operate [o, i] (getItem o i)
def IxR (X : Cx) (r : R2) : Prop :=
  ∀ (value slice : Expr) (pins : List (Addr × Obj)) (s : Shared) (σ : St) (H : Hp) (x y : V) (v u : Value) (Q : VK), Inv X pins σ H s → RelV x v → RelV y u → r x y H Q →
    subscripted slice false v u = operate [v, u] (getItem v u) → wpAny (model X.prog X.w) X.A (subscriptTail value slice v u) (EP X pins σ Q) X.xe s
def MtR (X : Cx) (id : String) (r : V → List V → Hp → VK → Prop) : Prop :=
  ∀ (pins : List (Addr × Obj)) (s : Shared) (σ : St) (H : Hp) (x : V) (xs : List V) (v : Value) (us : List Value) (Q : VK), Inv X pins σ H s → RelV x v → Vals xs us → r x xs H Q →
    wpAny (model X.prog X.w) X.A (call (.builtin id) (v :: us)) (EP X pins σ Q) X.xe s
section
variable {X : Cx} {a b : Expr} {ta tb : TE} {pos : Pos}
theorem pe_ix {r : R2} (hr : IxR X r) (ha : PE X a ta) (hb : PE X b tb) (hs : PlainIx b) : PE X (.Subscript a b pos) (tOp r ta tb) := by
  intro pins s σ H Q I h
  exact Subscript_ (binT ha hb I h fun v u s2 x y H2 I2 rx ry q => hr a b pins s2 σ H2 x y v u Q I2 rx ry q (hs _ _))
def rIxL (K : PySem.W.Frag) : R2 := fun x y H Q => ∃ p xs i v, x = .ref p ∧ y = .int i ∧ SqL K H p xs ∧ atI xs i = some v ∧ Q v H
def rIxT (K : PySem.W.Frag) : R2 := fun x y H Q => ∃ p xs i v, x = .ref p ∧ y = .int i ∧ SqT K H p xs ∧ atI xs i = some v ∧ Q v H
def rIxS : R2 := fun x y H Q => ∃ z i c, x = .str z ∧ y = .int i ∧ z.length ≤ sizeLine ∧ atI z.cps.toList i = some c ∧ Q (.str ⟨#[c]⟩) H
theorem ix_list : IxR X (rIxL X.K) := by
  intro value slice pins s σ H x y v u Q I rx ry h hs
  obtain ⟨p, xs, i, z, rfl, rfl, hq, he, q⟩ := h
  cases rx
  obtain ⟨t, rfl⟩ := ry
  obtain ⟨its, r, pl, hz⟩ := I.list hq
  obtain ⟨j, h1, h2, h3, h4, h5⟩ := atI_get he
  obtain ⟨w, ew, rw'⟩ := r.get h2
  have hl := r.length
  have hn := line63
  have fin : EP X pins σ Q w s := ⟨z, H, I, rw', q⟩
  by_cases h0 : 0 ≤ i
  · have hj : i.toNat = j := by
      rw [seqIndex_of h0 h5] at h1
      exact Option.some.inj h1
    exact item_listR pl.isList h0 (by omega) (by rw [hj]; simpa using ew) fin hs
  · have hj : (i + (its.toArray.size : Int)).toNat = j := by
      rw [seqIndex_neg (by omega) h4] at h1
      rw [List.size_toArray, ← hl]
      exact Option.some.inj h1
    exact subscriptTail_builtinR (x := w) pl.isList.typeIs slot_list_getitem.lookup
      (wpAny_getItem_list_neg (Q := fun r s' => r = w ∧ EP X pins σ Q r s') pl.isList (by omega) (by rw [List.size_toArray] <;> omega) (by omega) (by rw [hj]; simpa using ew) ⟨rfl, fin⟩) hs
theorem ix_tup : IxR X (rIxT X.K) := by
  intro value slice pins s σ H x y v u Q I rx ry h hs
  obtain ⟨p, xs, i, z, rfl, rfl, hq, he, q⟩ := h
  cases rx
  obtain ⟨t, rfl⟩ := ry
  obtain ⟨its, r, pl, hz⟩ := I.tuple hq
  obtain ⟨j, h1, h2, h3, h4, h5⟩ := atI_get he
  obtain ⟨w, ew, rw'⟩ := r.get h2
  have hl := r.length
  have hn := line63
  have fin : EP X pins σ Q w s := ⟨z, H, I, rw', q⟩
  exact subscriptTail_builtinR (x := w) pl.typeIs slot_tuple_getitem.lookup
    (getItem_tuple (j := j) (Q := fun r s' => r = w ∧ EP X pins σ Q r s') pl (by omega) (by omega) (by rw [List.size_toArray, ← hl]; exact h1) (by simpa using ew) ⟨rfl, fin⟩) hs
theorem ix_str : IxR X rIxS := by
  intro value slice pins s σ H x y v u Q I rx ry h hs
  obtain ⟨z, i, c, rfl, rfl, hz, he, q⟩ := h
  obtain ⟨t, rfl⟩ := rx
  obtain ⟨t', rfl⟩ := ry
  obtain ⟨j, h1, h2, h3, h4, h5⟩ := atI_get he
  have hl : z.cps.toList.length = z.length := by simp [Str.length]
  rw [hl] at h1 h4 h5
  have hn := line63
  exact tail_any (typeIs_str s z t) slot_str_getitem.lookup (getItem_str (c := c) (by
    have e1 : decide (i < -(2 ^ 63 : Int)) = false := decide_eq_false (by omega)
    have e2 : decide (i ≥ 2 ^ 63) = false := decide_eq_false (by omega)
    rw [e1, e2, Bool.or_false]) (by rw [h1]; simpa using h2) ⟨.str ⟨#[c]⟩, H, I.tok _, ⟨_, rfl⟩, q⟩) hs
theorem slice_bounds (lo hi : Option Int) (n : Nat) : (sliceBounds lo hi none n).1 = ((HT.sIx n 0 lo : Nat) : Int) ∧ (sliceBounds lo hi none n).2.1 = ((HT.sIx n n hi : Nat) : Int) ∧ (sliceBounds lo hi none n).2.2 = 1 := by
  refine ⟨?_, ?_, rfl⟩
  · cases lo with
    | none => simp [sliceBounds, HT.sIx]
    | some i =>
      simp only [sliceBounds, HT.sIx, Option.getD_none, show (1 : Int) > 0 by decide, if_true]
      by_cases h : i < 0
      · simp only [h, if_true] <;> omega
      · simp only [h, if_false] <;> omega
  · cases hi with
    | none => simp [sliceBounds, HT.sIx]
    | some i =>
      simp only [sliceBounds, HT.sIx, Option.getD_none, show (1 : Int) > 0 by decide, if_true]
      by_cases h : i < 0
      · simp only [h, if_true] <;> omega
      · simp only [h, if_false] <;> omega
theorem slicePick_cut (its : List Value) (lo hi : Option Int) : slicePick its.toArray lo hi none = ((its.drop (HT.sIx its.length 0 lo)).take (HT.sIx its.length its.length hi - HT.sIx its.length 0 lo)).toArray := by
  obtain ⟨h1, h2, h3⟩ := slice_bounds lo hi its.toArray.size
  unfold slicePick
  rw [h1, h2, h3]
  simp only [sliceRange_one, pick_run, List.size_toArray] <;> rfl
def rSlL (K : PySem.W.Frag) : V → Option Int → Option Int → Hp → VK → Prop := fun x lo hi H Q => ∃ a xs, x = .ref a ∧ SqL K H a xs ∧ ∀ p, H p = none → Q (.ref p) (upd H p (.lst (cutV xs lo hi)))
theorem sl_list : SlR X (rSlL X.K) := by
  intro pins s σ H x v vl vu lo hi sl Q I rx hs pl pu h
  obtain ⟨a, xs, rfl, hx, q⟩ := h
  cases rx
  obtain ⟨its, r, ht, hz⟩ := I.list hx
  have hlen := r.length
  refine ⟨"list", _, slot_list_getitem.lookup, ht.isList.typeIs, ?_⟩
  refine wpAny_getItem_list_slice ht.isList hs pl pu .none (by simp) ?_ (by rw [List.size_toArray] <;> omega)
  rw [slicePick_cut, ← hlen]
  refine ⟨.ref s.heap.objs.size, _, I.laid (t' := s.toks) (o := .lst (cutV xs lo hi)) (fun b ob q => Heap.get?_push_of_some _ q) (Nat.le_refl _) ?_, rfl, q _ (I.hok.fresh (Nat.le_refl _))⟩
  exact ⟨Nat.le_trans (cutV_length xs lo hi) hz, _, 0, (r.drop (HT.sIx xs.length 0 lo)).take (HT.sIx xs.length xs.length hi - HT.sIx xs.length 0 lo), Heap.get?_push_size _ rfl⟩
def flatV : V → Bool
  | .non => true
  | .bl _ => true
  | .int _ => true
  | .str _ => true
  | _ => false
def eqV : V → V → Bool
  | .non, .non => true
  | .bl a, .bl b => a == b
  | .bl a, .int b => (if a then 1 else 0) == b
  | .int a, .bl b => a == (if b then 1 else 0)
  | .int a, .int b => a == b
  | .str a, .str b => a == b
  | _, _ => false
theorem eqAt_V {A : Around} {s : Shared} {y x : V} {u v : Value} (ry : RelV y u) (rx : RelV x v) (fy : flatV y = true) (fx : flatV x = true) : SeqAt.EqAt A s u v (eqV y x) := by
  cases y with
  | non =>
    cases ry
    cases x with
    | non => cases rx; exact SeqAt.EqAt.same _
    | bl b => cases rx; exact SeqAt.EqAt.none_bool b
    | int b => obtain ⟨t, rfl⟩ := rx; exact SeqAt.EqAt.none_int b t
    | str b => obtain ⟨t, rfl⟩ := rx; exact SeqAt.EqAt.none_str b t
    | _ => exact absurd (show false = true from fx) Bool.false_ne_true
  | bl a =>
    cases ry
    cases x with
    | non => cases rx; exact SeqAt.EqAt.bool_none a
    | bl b => cases rx; exact SeqAt.EqAt.bool_bool a b
    | int b => obtain ⟨t, rfl⟩ := rx; exact SeqAt.EqAt.bool_int a b t
    | str b => obtain ⟨t, rfl⟩ := rx; exact SeqAt.EqAt.bool_str a b t
    | _ => exact absurd (show false = true from fx) Bool.false_ne_true
  | int a =>
    obtain ⟨t', rfl⟩ := ry
    cases x with
    | non => cases rx; exact SeqAt.EqAt.int_none a t'
    | bl b => cases rx; exact SeqAt.EqAt.int_bool a t' b
    | int b => obtain ⟨t, rfl⟩ := rx; exact SeqAt.EqAt.int_int a t' b t
    | str b => obtain ⟨t, rfl⟩ := rx; exact SeqAt.EqAt.int_str a t' b t
    | _ => exact absurd (show false = true from fx) Bool.false_ne_true
  | str a =>
    obtain ⟨t', rfl⟩ := ry
    cases x with
    | non => cases rx; exact SeqAt.EqAt.str_none a t'
    | bl b => cases rx; exact SeqAt.EqAt.str_bool a t' b
    | int b => obtain ⟨t, rfl⟩ := rx; exact SeqAt.EqAt.str_int a t' b t
    | str b => obtain ⟨t, rfl⟩ := rx; exact SeqAt.EqAt.str_str a t' b t
    | _ => exact absurd (show false = true from fx) Bool.false_ne_true
  | _ => exact absurd (show false = true from fy) Bool.false_ne_true
def eqU (x : V) (u : Value) : Bool := match u with
  | .none => eqV .non x
  | .bool b => eqV (.bl b) x
  | .int i _ => eqV (.int i) x
  | .str z _ => eqV (.str z) x
  | _ => false
theorem eqU_of {x y : V} {u : Value} (r : RelV y u) (f : flatV y = true) : eqU x u = eqV y x := by
  cases y with
  | non => cases r; rfl
  | bl b => cases r; rfl
  | int i => obtain ⟨t, rfl⟩ := r; rfl
  | str z => obtain ⟨t, rfl⟩ := r; rfl
  | _ => exact absurd (show false = true from f) Bool.false_ne_true
theorem any_eqU {x : V} : ∀ {xs : List V} {us : List Value}, Vals xs us → xs.all flatV = true → us.any (eqU x) = xs.any fun y => eqV y x
  | _, _, .nil, _ => rfl
  | y :: xs, u :: us, .cons r t, f => by
    rw [List.all_cons, Bool.and_eq_true] at f
    rw [List.any_cons, List.any_cons, eqU_of r f.1, any_eqU t f.2]
theorem mem_eqAt {A : Around} {s : Shared} {x : V} {v : Value} (rx : RelV x v) (fx : flatV x = true) : ∀ {xs : List V} {us : List Value}, Vals xs us → xs.all flatV = true → ∀ u ∈ us, SeqAt.EqAt A s u v (eqU x u)
  | _, _, .nil, _ => fun u hu => by cases hu
  | y :: xs, u :: us, .cons r t, f => fun u' hu => by
    rw [List.all_cons, Bool.and_eq_true] at f
    rcases List.mem_cons.mp hu with rfl | hu
    · rw [eqU_of r f.1]; exact eqAt_V r rx f.1 fx
    · exact mem_eqAt rx fx t f.2 u' hu
def inV (x : V) (xs : List V) : Bool := xs.any fun y => eqV y x
def rIn (K : PySem.W.Frag) (neg : Bool) : R2 := fun x y H Q => ∃ p xs, y = .ref p ∧ (SqL K H p xs ∨ SqT K H p xs) ∧ flatV x = true ∧ xs.all flatV = true ∧ Q (.bl (if neg then !inV x xs else inV x xs)) H
theorem op_in_seq : OpR X (compareOp .In) (rIn X.K false) := by
  intro pins s σ H x y v u Q I rx ry h
  obtain ⟨p, xs, rfl, hq, fx, fs, q⟩ := h
  cases ry
  rcases hq with hq | hq
  · obtain ⟨its, r, pl, hz⟩ := I.list hq
    refine SeqAt.in_listAt (eqU x) pl.isList (fun w hw => mem_eqAt rx fx r fs w (by simpa using hw)) ⟨.bl _, H, I, rfl, ?_⟩
    rw [show its.toArray.any (eqU x) = its.any (eqU x) by simp, any_eqU r fs]
    exact q
  · obtain ⟨its, r, pl, hz⟩ := I.tuple hq
    refine SeqAt.in_tupleAt (eqU x) pl (fun w hw => mem_eqAt rx fx r fs w (by simpa using hw)) ⟨.bl _, H, I, rfl, ?_⟩
    rw [show its.toArray.any (eqU x) = its.any (eqU x) by simp, any_eqU r fs]
    exact q
theorem op_notIn_seq : OpR X (compareOp .NotIn) (rIn X.K true) := by
  intro pins s σ H x y v u Q I rx ry h
  obtain ⟨p, xs, rfl, hq, fx, fs, q⟩ := h
  cases ry
  rcases hq with hq | hq
  · obtain ⟨its, r, pl, hz⟩ := I.list hq
    refine SeqAt.notIn_listAt (eqU x) pl.isList (fun w hw => mem_eqAt rx fx r fs w (by simpa using hw)) ⟨.bl _, H, I, rfl, ?_⟩
    rw [show its.toArray.any (eqU x) = its.any (eqU x) by simp, any_eqU r fs]
    exact q
  · obtain ⟨its, r, pl, hz⟩ := I.tuple hq
    refine SeqAt.notIn_tupleAt (eqU x) pl (fun w hw => mem_eqAt rx fx r fs w (by simpa using hw)) ⟨.bl _, H, I, rfl, ?_⟩
    rw [show its.toArray.any (eqU x) = its.any (eqU x) by simp, any_eqU r fs]
    exact q
theorem call_len_seq : CallR X (.builtin "len") (fun xs H Q => ∃ p ys, xs = [.ref p] ∧ (SqL X.K H p ys ∨ SqT X.K H p ys) ∧ Q (.int ys.length) H) := by
  intro pins s σ H xs us Q I r h
  obtain ⟨p, ys, rfl, hq, q⟩ := h
  obtain ⟨u, rfl, rx⟩ := vals1 r
  cases rx
  have hn := line63
  rcases hq with hq | hq
  · obtain ⟨its, r', pl, hz⟩ := I.list hq
    have hlen := r'.length
    exact Calls.call_len_list pl.isList (by simp only [List.size_toArray] <;> omega) ⟨.int ys.length, H, I.tok _, ⟨s.toks + 1, by rw [List.size_toArray, hlen]⟩, q⟩
  · obtain ⟨its, r', pl, hz⟩ := I.tuple hq
    have hlen := r'.length
    exact len_tuple pl (by simp only [List.size_toArray] <;> omega) ⟨.int ys.length, H, I.tok _, ⟨s.toks + 1, by rw [List.size_toArray, hlen]⟩, q⟩
theorem call_len_str : CallR X (.builtin "len") (fun xs H Q => ∃ z, xs = [.str z] ∧ z.length ≤ sizeLine ∧ Q (.int z.length) H) := by
  intro pins s σ H xs us Q I r h
  obtain ⟨z, rfl, hz, q⟩ := h
  obtain ⟨u, rfl, t, rfl⟩ := vals1 r
  have hn := line63
  exact len_str (by omega) ⟨.int z.length, H, I.tok _, ⟨_, rfl⟩, q⟩
def tyV (K : PySem.W.Frag) (T : String) (x : V) (H : Hp) : Prop := match x with
  | .str _ => T = "str"
  | .int _ => T = "int"
  | .ref p => (T = "list" ∧ ∃ xs, SqL K H p xs) ∨ (T = "tuple" ∧ ∃ o, K.lookup p = some o ∧ o.cls = .type "tuple" ∧ o.dict = none) ∨
      (T = "dict" ∧ ((∃ kvs, H p = some (.dK kvs)) ∨ ∃ kvs, H p = some (.dT kvs))) ∨ (T = "set" ∧ ∃ S n, H p = some (.set S n))
  | _ => False
theorem tyV_is {pins : List (Addr × Obj)} {σ : St} {H : Hp} {s : Shared} {T : String} {x : V} {v : Value} (I : Inv X pins σ H s) (r : RelV x v) (ty : tyV X.K T x H) :
    s.TypeIs v T ∧ ∀ a, v = .ref a → ∃ ob, s.heap.get? a = some ob ∧ ob.dict = none := by
  cases x with
  | str z =>
    obtain ⟨t, rfl⟩ := r
    cases (show T = "str" from ty)
    exact ⟨typeIs_str s z t, fun _ e => nomatch e⟩
  | int i =>
    obtain ⟨t, rfl⟩ := r
    cases (show T = "int" from ty)
    exact ⟨typeIs_int s i t, fun _ e => nomatch e⟩
  | ref p =>
    cases r
    rcases ty with ⟨rfl, xs, hq⟩ | ⟨rfl, o, hk, hc, hd⟩ | ⟨rfl, hk⟩ | ⟨rfl, S, n, hk⟩
    · obtain ⟨its, _, pl, _⟩ := I.list hq
      refine ⟨pl.isList.typeIs, fun a e => ?_⟩
      cases e
      obtain ⟨o, n, e, c, hd, _⟩ := pl
      exact ⟨o, e, hd⟩
    · refine ⟨⟨o, I.kIn p o hk, hc⟩, fun a e => ?_⟩
      cases e
      exact ⟨o, I.kIn _ o hk, hd⟩
    · have z : ∃ o, s.heap.get? p = some o ∧ o.ExactDict := by
        rcases hk with ⟨kvs, hk⟩ | ⟨kvs, hk⟩
        · obtain ⟨_, _, _, _, o, _, _, e, ex, _⟩ := I.hok p _ hk
          exact ⟨o, e, ex⟩
        · obtain ⟨_, _, _, _, o, _, _, e, ex, _⟩ := I.hok p _ hk
          exact ⟨o, e, ex⟩
      obtain ⟨o, e, ex⟩ := z
      refine ⟨⟨o, e, ex.1⟩, fun a e2 => ?_⟩
      cases e2
      exact ⟨o, e, ex.2.1⟩
    · obtain ⟨o, _, _, _, e, ex, _⟩ := I.hok p _ hk
      refine ⟨⟨o, e, ex.1⟩, fun a e2 => ?_⟩
      cases e2
      exact ⟨o, e, ex.2.1⟩
  | _ => exact False.elim ty
def tBM (K : PySem.W.Frag) (T : String) (r : V → List V → Hp → VK → Prop) (to : TE) (t : TA) : TE := fun σ H Q => to σ H fun x H1 => tyV K T x H1 ∧ t σ H1 fun xs H2 => r x xs H2 Q
variable {o e : Expr} {es : List Expr} {to : TE} {t : TA} {name : Str} {apos cpos : Pos} {T id : String} {r : V → List V → Hp → VK → Prop}
theorem pe_bm (pa : PlainAttrs T) (slot : Slot T name id) (hty : typeOf (.builtin id) = pure (.type "method_descriptor")) (hm : MtR X id r) (ho : PE X o to) (ha : PA X (e :: es) t)
    (hbase : attributeBase o name X.env (eval o X.env) = eval o X.env := by rfl)
    (hfew : ((backTo cpos (starEach (e :: es) X.env)).all (fun x => !x.1) && (backToKw cpos (keywordEach [] X.env)).all (fun x => x.1.isSome)
      && decide ((e :: es).length + ([] : List Keyword).length + (if ([] : List Keyword).isEmpty then 0 else 1) < 30)) = true := by rfl)
    (hline : (apos.endLine == cpos.line) = true := by rfl) (hs : starEach (e :: es) X.env = (false, eval e X.env) :: starEach es X.env := by rfl) (hplain : (backTo cpos (starEach es X.env)).any (·.1) = false := by rfl) :
    PE X (.Call (.Attribute o name apos) (e :: es) [] cpos) (tBM X.K T r to t) := by
  intro pins s σ H Q I h
  refine wpAny_Call_method_late hbase hfew hline rfl (thn (ho pins s σ H _ I h) fun v s1 ⟨x, H1, I1, r1, ty, q1⟩ => ?_)
  obtain ⟨h1, h2⟩ := tyV_is I1 r1 ty
  refine ⟨T, id, pa, slot, hty, h1, h2, ?_⟩
  have hA := ha cpos pins s1 σ H1 _ I1 q1
  rw [hs] at hA ⊢
  refine Calls.callWith_builtin (by show (false || (backTo cpos (starEach es X.env)).any (·.1)) = false; rw [hplain] <;> rfl) (Calls.evalArgs_plain ?_)
  exact thn hA fun us s2 ⟨vs, H2, I2, r2, q2⟩ => hm pins s2 σ H2 x vs v us Q I2 r1 r2 q2
end
end L2
namespace L2
open PySem PySem.Spec PyProof.Rows
def MtM (X : Cx) (id : String) (r : V → List V → Hp → VK → Prop) : Prop :=
  ∀ (pins : List (Addr × Obj)) (s : Shared) (σ : St) (H : Hp) (x : V) (xs : List V) (v : Value) (us : List Value) (Q : VK), Inv X pins σ H s → RelV x v → Vals xs us → r x xs H Q →
    wpAny (model X.prog X.w) X.A (call (.builtin id) (v :: us)) (EP X pins σ Q) X.xe s
theorem Vals.one : ∀ {x : V} {us : List Value}, Vals [x] us → ∃ u, us = [u] ∧ RelV x u
  | _, _, .cons r .nil => ⟨_, rfl, r⟩
theorem Vals.eraseIdx : ∀ {xs : List V} {us : List Value} (i : Nat), Vals xs us → Vals (xs.eraseIdx i) (us.eraseIdx i)
  | _, _, _, .nil => .nil
  | _, _, 0, .cons _ t => t
  | _, _, i + 1, .cons r t => .cons r (Vals.eraseIdx i t)
theorem len_erase {α : Type} : ∀ (l : List α) (i : Nat), (l.eraseIdx i).length ≤ l.length
  | [], _ => Nat.le_refl _
  | _ :: _, 0 => Nat.le_succ _
  | _ :: r, i + 1 => Nat.succ_le_succ (len_erase r i)
section
variable {X : Cx} {pins : List (Addr × Obj)} {σ : St} {H : Hp} {s : Shared} {l b : Addr} {xs ys zs : List V}
theorem Inv.lset {its its' : List Value} {n : Nat} {f : Array Value → Array Value} {t' : Nat} (I : Inv X pins σ H s) (hH : H l = some (.lst xs))
    (e : s.heap.get? l = some { cls := .type "list", data := .seq its.toArray n }) (hf : f its.toArray = its'.toArray) (hv : Vals ys its') (hz : ys.length ≤ sizeLine) :
    Inv X pins σ (upd H l (.lst ys)) { s with heap := s.heap.update l (Obj.mapSeq f), toks := t' } := by
  have q := PySem.IsL.update e f
  rw [hf] at q
  refine I.write (x := l) (e := l) (by rw [hH]; exact trivial) (.inl rfl) (fun b' u hb hu => (Heap.get?_update_other s.heap (Obj.mapSeq f) (Ne.symm hb)).trans hu) ⟨_, q⟩ ?_
  exact ⟨hz, its', _, hv, q⟩
theorem Inv.lnew {its : List Value} {t' : Nat} (I : Inv X pins σ H s) (hv : Vals ys its) (hz : ys.length ≤ sizeLine) :
    Inv X pins σ (upd H s.heap.objs.size (.lst ys)) { s with heap := s.heap.push { cls := .type "list", data := .seq its.toArray }, toks := t' } :=
  I.laid (fun _ _ q => Heap.get?_push_of_some _ q) (Nat.le_refl _) ⟨hz, its, 0, hv, Heap.get?_push_size _ rfl⟩
theorem Inv.fresh (I : Inv X pins σ H s) : H s.heap.objs.size = none := I.hok.fresh (Nat.le_refl _)
theorem Inv.lstM (I : Inv X pins σ H s) (hH : H l = some (.lst xs)) : xs.length ≤ sizeLine ∧ ∃ (its : List Value) (n : Nat), Vals xs its ∧ xs.length = its.length ∧ s.heap.get? l = some { cls := .type "list", data := .seq its.toArray n } := by
  obtain ⟨z, its, n, r, e⟩ := I.hok l _ hH
  exact ⟨z, its, n, r, r.length, e⟩
theorem notLongL {n : Nat} (h : n ≤ sizeLine) : Builtin.List.listTooLong n = false := by
  unfold Builtin.List.listTooLong
  exact decide_eq_false (by omega)
end
section
variable {X : Cx}
def rAppend : V → List V → Hp → VK → Prop := fun x vs H Q => ∃ l xs y, x = .ref l ∧ vs = [y] ∧ H l = some (.lst xs) ∧ xs.length < sizeLine ∧ Q .non (upd H l (.lst (xs ++ [y])))
theorem mt_append : MtM X "list.append" rAppend := by
  intro pins s σ H x vs v us Q I rx rv h
  obtain ⟨l, xs, y, rfl, rfl, hH, hz, q⟩ := h
  cases rx
  obtain ⟨u, rfl, ru⟩ := rv.one
  obtain ⟨z, its, n, r, hl, e⟩ := I.lstM hH
  refine call_meets F.slot_list_append ⟨_, e, rfl⟩ F.entry_list_append (F.args_list_append_2 _ _) (PySem.list_append l its.toArray n u (by rw [List.size_toArray]; omega)) ⟨e, ?_⟩
  refine ⟨.non, _, I.lset (its' := its ++ [u]) hH e (by simp) (r.append (.cons ru .nil)) ?_, rfl, q⟩
  rw [List.length_append, List.length_singleton]
  omega
def rExtend : V → List V → Hp → VK → Prop := fun x vs H Q => ∃ l b xs zs, x = .ref l ∧ vs = [.ref b] ∧ H l = some (.lst xs) ∧ H b = some (.lst zs) ∧ xs.length + zs.length ≤ sizeLine ∧ Q .non (upd H l (.lst (xs ++ zs)))
theorem mt_extend : MtM X "list.extend" rExtend := by
  intro pins s σ H x vs v us Q I rx rv h
  obtain ⟨l, b, xs, zs, rfl, rfl, hH, hB, hz, q⟩ := h
  cases rx
  obtain ⟨u, rfl, ru⟩ := rv.one
  cases ru
  obtain ⟨z, its, n, r, hl, e⟩ := I.lstM hH
  obtain ⟨z2, its2, n2, r2, hl2, e2⟩ := I.lstM hB
  have hsz : its.toArray.size + its2.toArray.size ≤ sizeLine := by rw [List.size_toArray, List.size_toArray]; omega
  have hlong : ¬ (!its.toArray.isEmpty && Builtin.List.listTooLong (its.toArray.size + its2.toArray.size)) = true := by
    rw [notLongL hsz, Bool.and_false]
    exact Bool.false_ne_true
  refine call_meets F.slot_list_extend ⟨_, e, rfl⟩ F.entry_list_extend (F.args_list_extend_2 _ _)
    (AutoSeq1.list_extend_list_list_0 l its.toArray n b its2.toArray n2 hlong (by rw [List.size_toArray]; omega) (by omega)) ⟨e, e2, ?_⟩
  refine ⟨.non, _, I.lset (its' := its ++ its2) hH e (by simp) (r.append r2) ?_, rfl, q⟩
  rw [List.length_append]
  omega
def rPopAt : V → List V → Hp → VK → Prop := fun x vs H Q => ∃ l xs i k y, x = .ref l ∧ vs = [.int i] ∧ H l = some (.lst xs) ∧ -(2 ^ 63) ≤ i ∧ i < 2 ^ 63 ∧ seqIndex? i xs.length = some k ∧ xs[k]? = some y ∧ Q y (upd H l (.lst (xs.eraseIdx k)))
theorem mt_popAt : MtM X "list.pop" rPopAt := by
  intro pins s σ H x vs v us Q I rx rv h
  obtain ⟨l, xs, i, k, y, rfl, rfl, hH, h1, h2, hk, hy, q⟩ := h
  cases rx
  obtain ⟨u, rfl, ru⟩ := rv.one
  obtain ⟨t, rfl⟩ := ru
  obtain ⟨z, its, n, r, hl, e⟩ := I.lstM hH
  obtain ⟨w, hw, rw'⟩ := r.get hy
  refine call_meets F.slot_list_pop ⟨_, e, rfl⟩ F.entry_list_pop (F.args_list_pop_2 _ _)
    (MeetsSeq.list_pop_at l its.toArray n i t k w (fitsIndex_both h1 h2) (by rw [List.size_toArray, ← hl]; exact hk) (by rw [← Array.getElem?_toList]; exact hw) (by rw [List.size_toArray]; omega)) ⟨e, ?_⟩
  refine ⟨y, _, I.lset (its' := its.eraseIdx k) hH e ?_ (r.eraseIdx k) ?_, rw', q⟩
  · show its.toArray.eraseIdxIfInBounds k = (its.eraseIdx k).toArray
    rw [List.eraseIdxIfInBounds_toArray]
  · have := len_erase xs k
    omega
def rCat : R2 := fun x y H Q => ∃ l b xs zs, x = .ref l ∧ y = .ref b ∧ H l = some (.lst xs) ∧ H b = some (.lst zs) ∧ xs.length + zs.length ≤ sizeLine ∧ ∀ p, H p = none → Q (.ref p) (upd H p (.lst (xs ++ zs)))
theorem op_cat : OpR X (binaryOp .Add) rCat := by
  intro pins s σ H x y v u Q I rx ry h
  obtain ⟨l, b, xs, zs, rfl, rfl, hH, hB, hz, q⟩ := h
  cases rx
  cases ry
  obtain ⟨z, its, n, r, hl, e⟩ := I.lstM hH
  obtain ⟨z2, its2, n2, r2, hl2, e2⟩ := I.lstM hB
  refine PySem.P.add_list e e2 ?_ (by rw [List.size_toArray, List.size_toArray]; omega)
  have ea : its.toArray ++ its2.toArray = (its ++ its2).toArray := by simp
  rw [ea]
  exact ⟨.ref _, _, I.lnew (t' := s.toks) (r.append r2) (by rw [List.length_append]; omega), rfl, q _ I.fresh⟩
end
section
variable {prog : Program} {w : World} {A : Around} {E : Value → Shared → Prop} {s : Shared}
set_option maxRecDepth 100000 in
end
section
variable {X : Cx}
end
end L2
namespace L2
open PySem PySem.Spec PyProof.Rows
section
variable {κ : Type} [DecidableEq κ]
def valV (kvs : List (κ × V)) (k : κ) : Option V := (kvs.find? fun kv => decide (kv.1 = k)).map (·.2)
def putK (kvs : List (κ × V)) (k : κ) (v : V) : List (κ × V) :=
  if (kvs.any fun kv => decide (kv.1 = k)) = true then kvs.map (fun kv => if kv.1 = k then (kv.1, v) else kv) else kvs ++ [(k, v)]
theorem valV_nil {k : κ} : valV ([] : List (κ × V)) k = none := rfl
theorem valV_pos {p : κ × V} {r : List (κ × V)} {k : κ} (e : p.1 = k) : valV (p :: r) k = some p.2 := by simp [valV, List.find?_cons, e]
theorem valV_neg {p : κ × V} {r : List (κ × V)} {k : κ} (e : ¬ p.1 = k) : valV (p :: r) k = valV r k := by simp [valV, List.find?_cons, e]
theorem valV_any (k : κ) : ∀ kvs : List (κ × V), (kvs.any fun kv => decide (kv.1 = k)) = (valV kvs k).isSome
  | [] => rfl
  | p :: r => by
    rw [List.any_cons]
    by_cases e : p.1 = k
    · simp only [valV_pos e, decide_eq_true e, Bool.true_or, Option.isSome_some]
    · rw [valV_neg e, decide_eq_false e, Bool.false_or]; exact valV_any k r
theorem valV_map (k j : κ) (y : V) : ∀ kvs : List (κ × V), valV (kvs.map fun kv => if kv.1 = k then (kv.1, y) else kv) j = (valV kvs j).map fun x => if j = k then y else x
  | [] => rfl
  | p :: r => by
    have ih := valV_map k j y r
    rw [List.map_cons]
    by_cases h : p.1 = k
    · rw [if_pos h]
      by_cases e : p.1 = j
      · rw [valV_pos (p := (p.1, y)) e, valV_pos e, Option.map_some, if_pos (e.symm.trans h)]
      · rw [valV_neg (p := (p.1, y)) e, valV_neg e, ih]
    · rw [if_neg h]
      by_cases e : p.1 = j
      · rw [valV_pos (p := p) e, valV_pos e, Option.map_some, if_neg (fun z => h (e.trans z))]
      · rw [valV_neg (p := p) e, valV_neg e, ih]
theorem valV_snoc (k j : κ) (y : V) : ∀ kvs : List (κ × V), valV kvs k = none → valV (kvs ++ [(k, y)]) j = if j = k then some y else valV kvs j
  | [], _ => by
    by_cases e : k = j
    · rw [if_pos e.symm]; exact valV_pos (p := (k, y)) e
    · rw [if_neg (fun z => e z.symm)]; exact valV_neg (p := (k, y)) e
  | p :: r, hn => by
    rw [List.cons_append]
    have hk : ¬ p.1 = k := fun z => by rw [valV_pos z] at hn; cases hn
    rw [valV_neg hk] at hn
    have ih := valV_snoc k j y r hn
    by_cases e : p.1 = j
    · rw [valV_pos e, valV_pos e, if_neg (fun z => hk (e.trans z))]
    · rw [valV_neg e, valV_neg e, ih]
theorem valV_put (kvs : List (κ × V)) (k j : κ) (y : V) : valV (putK kvs k y) j = if j = k then some y else valV kvs j := by
  unfold putK
  by_cases a : (kvs.any fun kv => decide (kv.1 = k)) = true
  · rw [if_pos a, valV_map]
    rw [valV_any] at a
    by_cases e : j = k
    · obtain ⟨x, hx⟩ := Option.isSome_iff_exists.mp a
      rw [if_pos e, e, hx, Option.map_some, if_pos rfl]
    · rw [if_neg e]
      cases valV kvs j with
      | none => rfl
      | some x => rw [Option.map_some, if_neg e]
  · rw [if_neg a]
    refine valV_snoc k j y kvs ?_
    rw [valV_any] at a
    cases q : valV kvs k with
    | none => rfl
    | some x => rw [q] at a; exact (a rfl).elim
theorem length_putK (kvs : List (κ × V)) (k : κ) (v : V) : (putK kvs k v).length ≤ kvs.length + 1 := by
  unfold putK
  split
  · rw [List.length_map]; omega
  · rw [List.length_append, List.length_cons, List.length_nil]; omega
theorem putK_new {kvs : List (κ × V)} {k : κ} (v : V) (h : valV kvs k = none) : putK kvs k v = kvs ++ [(k, v)] := by
  unfold putK
  rw [valV_any, h]
  exact if_neg (by decide)
theorem RelO.isSome_eq {o : Option V} {u : Option Value} (r : RelO o u) : o.isSome = u.isSome := by
  cases o with
  | none => cases u with
    | none => rfl
    | some _ => exact (show False from r).elim
  | some _ => cases u with
    | none => exact (show False from r).elim
    | some _ => rfl
theorem KV.val {kvs : List (κ × V)} {vs : List (κ × Value)} (r : KV kvs vs) (k : κ) : RelO (valV kvs k) (valueAt vs k) := by
  unfold KV at r
  induction r with
  | nil => exact True.intro
  | @cons p q ps qs h t ih =>
    obtain ⟨h1, h2⟩ := h
    by_cases e : p.1 = k
    · have e' : q.1 = k := h1.symm.trans e
      have b : valueAt (q :: qs) k = some q.2 := by simp [valueAt, List.find?_cons, e']
      rw [valV_pos e, b]; exact h2
    · have e' : ¬ q.1 = k := fun z => e (h1.trans z)
      have b : valueAt (q :: qs) k = valueAt qs k := by simp [valueAt, List.find?_cons, e']
      rw [valV_neg e, b]; exact ih
theorem KV.any {kvs : List (κ × V)} {vs : List (κ × Value)} (r : KV kvs vs) (k : κ) : (kvs.any fun kv => decide (kv.1 = k)) = vs.any fun kv => decide (kv.1 = k) := by
  unfold KV at r
  induction r with
  | nil => rfl
  | cons h t ih => rw [List.any_cons, List.any_cons, ih, h.1]
theorem KV.repl {kvs : List (κ × V)} {vs : List (κ × Value)} (r : KV kvs vs) (k : κ) {y : V} {u : Value} (ry : RelV y u) :
    KV (kvs.map fun kv => if kv.1 = k then (kv.1, y) else kv) (vs.map fun kv => if kv.1 = k then (kv.1, u) else kv) := by
  unfold KV at r ⊢
  induction r with
  | nil => exact .nil
  | @cons p q ps qs h t ih =>
    rw [List.map_cons, List.map_cons]
    refine .cons ?_ ih
    obtain ⟨h1, h2⟩ := h
    by_cases e : p.1 = k
    · rw [if_pos e, if_pos (h1.symm.trans e)]; exact ⟨h1, ry⟩
    · rw [if_neg e, if_neg (fun z => e (h1.trans z))]; exact ⟨h1, h2⟩
theorem KV.put {kvs : List (κ × V)} {vs : List (κ × Value)} (r : KV kvs vs) (k : κ) {y : V} {u : Value} (ry : RelV y u) : KV (putK kvs k y) (stored vs k u) := by
  unfold putK stored
  rw [r.any k]
  by_cases e : (vs.any fun kv => decide (kv.1 = k)) = true
  · rw [if_pos e, if_pos e]; exact r.repl k ry
  · rw [if_neg e, if_neg e]; exact Paired.snoc r ⟨rfl, ry⟩
theorem KV.length {kvs : List (κ × V)} {vs : List (κ × Value)} (r : KV kvs vs) : kvs.length = vs.length := Paired.length r
end
theorem kV_is {P : Program} {w : World} {k : Key} {u : Value} (r : RelV (kV k) u) : (mixKind P w).is k u = true := by
  cases k with
  | inl i => obtain ⟨t, e⟩ := (show ∃ t, u = Value.int i t from r); subst e; exact mixKind_int P w i t
  | inr x => obtain ⟨t, e⟩ := (show ∃ t, u = Value.str x t from r); subst e; exact mixKind_str P w x t
theorem items_are {P : Program} {w : World} : ∀ {ks : List Key} {us : List Value}, Vals (ks.map kV) us → ItemsAre (mixKind P w) ks us
  | [], _, r => by rw [List.map_nil] at r; cases r; exact .nil
  | k :: ks, _, r => by
    rw [List.map_cons] at r
    cases r with
    | cons h t => exact .cons (kV_is h) (items_are t)
abbrev KT (H : Hp) : List (List Key × V) → List (List Key × Addr × Value) → Prop := Paired fun p q => p.1 = q.1 ∧ H q.2.1 = some (.tup (p.1.map kV)) ∧ RelV p.2 q.2.2
theorem KT.val {H : Hp} {kvs : List (List Key × V)} {xs : List (List Key × Addr × Value)} (r : KT H kvs xs) (k : List Key) : RelO (valV kvs k) ((atKey xs k).map (·.2)) := by
  induction r with
  | nil => exact True.intro
  | @cons p q ps qs h t ih =>
    obtain ⟨h1, _, h2⟩ := h
    by_cases e : p.1 = k
    · have e' : q.1 = k := h1.symm.trans e
      have b : atKey (q :: qs) k = some q.2 := by simp [atKey, List.find?_cons, e']
      rw [valV_pos e, b]; exact h2
    · have e' : ¬ q.1 = k := fun z => e (h1.trans z)
      have b : atKey (q :: qs) k = atKey qs k := by simp [atKey, List.find?_cons, e']
      rw [valV_neg e, b]; exact ih
theorem KT.repl {H : Hp} {kvs : List (List Key × V)} {xs : List (List Key × Addr × Value)} (r : KT H kvs xs) (k : List Key) {y : V} {u : Value} (ry : RelV y u) :
    KT H (kvs.map fun kv => if kv.1 = k then (kv.1, y) else kv) (xs.map (putAt k u)) := by
  induction r with
  | nil => exact .nil
  | @cons p q ps qs h t ih =>
    rw [List.map_cons, List.map_cons]
    refine .cons ?_ ih
    obtain ⟨h1, h2, h3⟩ := h
    unfold putAt
    by_cases e : p.1 = k
    · rw [if_pos e, if_pos (h1.symm.trans e)]; exact ⟨h1, h2, ry⟩
    · rw [if_neg e, if_neg (fun z => e (h1.trans z))]; exact ⟨h1, h2, h3⟩
theorem KT.put {H : Hp} {kvs : List (List Key × V)} {xs : List (List Key × Addr × Value)} (r : KT H kvs xs) (k : List Key) {b : Addr} {y : V} {u : Value} (hb : H b = some (.tup (k.map kV))) (ry : RelV y u) :
    KT H (putK kvs k y) (storedH xs k b u) := by
  have e : (kvs.any fun kv => decide (kv.1 = k)) = (atKey xs k).isSome := by
    rw [valV_any, (r.val k).isSome_eq, Option.isSome_map]
  unfold putK storedH
  rw [e]
  by_cases q : (atKey xs k).isSome = true
  · rw [if_pos q, if_pos q]; exact r.repl k ry
  · rw [if_neg q, if_neg q]; exact Paired.snoc r ⟨rfl, hb, ry⟩
theorem KT.keeps {H H' : Hp} {kvs : List (List Key × V)} {xs : List (List Key × Addr × Value)} (r : KT H kvs xs) (ht : ∀ b ys, H b = some (.tup ys) → H' b = some (.tup ys)) : KT H' kvs xs :=
  Paired.mapP r fun _ _ z => ⟨z.1, ht _ _ z.2.1, z.2.2⟩
section
variable {P : Program} {w : World} {H : Hp} {h : Heap} {a : Addr}
theorem rd_of {u : HO} (ok : HOk P w H h) (e : Rd H a u) : ObjOk P w H h a u := e.ok ok
theorem dk_rd {kvs : List (Key × V)} (ok : HOk P w H h) (e : Rd H a (.dK kvs)) : kvs.length ≤ sizeLine ∧ (a == sysModules) = false ∧ ∃ vs, KV kvs vs ∧ h.DictOf (mixKind P w) a vs :=
  show ObjOk P w H h a (.dK kvs) from rd_of ok e
theorem dk_of {kvs : List (Key × V)} (ok : HOk P w H h) (e : H a = some (.dK kvs)) : kvs.length ≤ sizeLine ∧ (a == sysModules) = false ∧ ∃ vs, KV kvs vs ∧ h.DictOf (mixKind P w) a vs := dk_rd ok (.inl e)
theorem key_of {ks : List Key} (ok : HOk P w H h) (e : H a = some (.tup (ks.map kV))) : (tupleKind (mixKind P w)).is h ks a := by
  obtain ⟨_, its, r, o, h1, h2, n, h3⟩ := (show ObjOk P w H h a (.tup (ks.map kV)) from ok a _ e)
  exact ⟨o, its.toArray, n, h1, h2, h3, by simpa using items_are r⟩
theorem dt_rd {kvs : List (List Key × V)} (ok : HOk P w H h) (e : Rd H a (.dT kvs)) : kvs.length ≤ sizeLine ∧ (a == sysModules) = false ∧
    ∃ xs, KT H kvs xs ∧ h.DictOfH (tupleKind (mixKind P w)) a xs := by
  obtain ⟨z, y, xs, r, o, es, ep, h1, h2, h3, h4, h5⟩ := (show ObjOk P w H h a (.dT kvs) from rd_of ok e)
  refine ⟨z, y, xs, r, o, es, ep, h1, h2, h3, h4, fun x hx => ?_, h5⟩
  have all : ∀ {l : List (List Key × V)} {m : List (List Key × Addr × Value)}, KT H l m → ∀ x ∈ m, (tupleKind (mixKind P w)).is h x.1 x.2.1 := by
    intro l m q
    induction q with
    | nil => intro x hx; exact nomatch hx
    | @cons p q ps qs hq t ih =>
      intro x hx
      rcases List.mem_cons.mp hx with e | hx
      · subst e
        exact key_of ok (by rw [← hq.1]; exact hq.2.1)
      · exact ih x hx
  exact all r x hx
theorem dt_of {kvs : List (List Key × V)} (ok : HOk P w H h) (e : H a = some (.dT kvs)) : kvs.length ≤ sizeLine ∧ (a == sysModules) = false ∧
    ∃ xs, KT H kvs xs ∧ h.DictOfH (tupleKind (mixKind P w)) a xs := dt_rd ok (.inl e)
end
def DGet (H : Hp) (a : Addr) (y : V) (r : Option V) : Prop :=
  (∃ kvs k, Rd H a (.dK kvs) ∧ y = kV k ∧ r = valV kvs k) ∨ ∃ kvs k b, Rd H a (.dT kvs) ∧ y = .ref b ∧ H b = some (.tup (k.map kV)) ∧ r = valV kvs k
def DPut (H : Hp) (a : Addr) (y v : V) (H' : Hp) : Prop :=
  (∃ kvs k, H a = some (.dK kvs) ∧ y = kV k ∧ kvs.length < sizeLine ∧ H' = upd H a (.dK (putK kvs k v))) ∨
  ∃ kvs k b, H a = some (.dT kvs) ∧ y = .ref b ∧ H b = some (.tup (k.map kV)) ∧ kvs.length < sizeLine ∧ H' = upd H a (.dT (putK kvs k v))
theorem DGet.k {H : Hp} {a : Addr} {kvs : List (Key × V)} {k : Key} (e : H a = some (.dK kvs)) : DGet H a (kV k) (valV kvs k) := .inl ⟨kvs, k, .inl e, rfl, rfl⟩
theorem DPut.k {H : Hp} {a : Addr} {kvs : List (Key × V)} {k : Key} {v : V} (e : H a = some (.dK kvs)) (hl : kvs.length < sizeLine) : DPut H a (kV k) v (upd H a (.dK (putK kvs k v))) := .inl ⟨kvs, k, e, rfl, hl, rfl⟩
section
variable {X : Cx} {pins : List (Addr × Obj)} {σ : St} {H : Hp} {s : Shared} {a : Addr} {y v : V} {u r : Value} {o : Option V} {A : Around} {E : Value → Shared → Prop}
theorem Inv.big (I : Inv X pins σ H s) : sysModules < s.heap.objs.size := by
  have h : mainGlobals < s.heap.objs.size := (I.mod.glob.keeps I.bk).lt
  exact Nat.lt_trans (by decide) h
theorem d_getItem {Q : Value → Shared → Prop} (hu : A.units + 1 < cLine) (I : Inv X pins σ H s) (g : DGet H a y (some v)) (ry : RelV y u) (h : ∀ w' s', Inv X pins σ H s' → RelV v w' → Q w' s') :
    wpAny (model X.prog X.w) A (getItem (.ref a) u) Q E s := by
  rcases g with ⟨kvs, k, e, ey, l⟩ | ⟨kvs, k, b, e, ey, eb, l⟩
  · subst ey
    obtain ⟨z, hd, vs, rel, dd⟩ := dk_rd I.hok e
    obtain ⟨w', hw, rw'⟩ := RelO.some_of (v := v) (o := valueAt vs k) (by rw [l]; exact rel.val k)
    exact wpAny_getItem_of (kV_is ry) dd.mapOf hw (h w' _ (I.tok _) rw')
  · subst ey
    cases (show u = Value.ref b from ry)
    obtain ⟨z, hd, xs, rel, dd⟩ := dt_rd I.hok e
    obtain ⟨w', hw, rw'⟩ := RelO.some_of (v := v) (o := (atKey xs k).map (·.2)) (by rw [l]; exact rel.val k)
    obtain ⟨p, hp, hp2⟩ := Option.map_eq_some_iff.mp hw
    refine wpAny_getItem_heap (tupleKind_room_in1 hu) (key_of I.hok eb) dd hp ?_
    rw [hp2]
    exact h w' _ (I.tok _) rw'
theorem d_in {Q : Value → Shared → Prop} (hu : A.units + 1 < cLine) (I : Inv X pins σ H s) (g : DGet H a y o) (ry : RelV y u) (h : ∀ s', Inv X pins σ H s' → Q (.bool o.isSome) s') :
    wpAny (model X.prog X.w) A (compareOp .In u (.ref a)) Q E s := by
  rcases g with ⟨kvs, k, e, ey, l⟩ | ⟨kvs, k, b, e, ey, eb, l⟩
  · subst ey
    obtain ⟨z, hd, vs, rel, dd⟩ := dk_rd I.hok e
    refine wpAny_in_of (kV_is ry) hd dd.mapOf ?_
    rw [← (rel.val k).isSome_eq, ← l]
    exact h _ (I.tok _)
  · subst ey
    cases (show u = Value.ref b from ry)
    obtain ⟨z, hd, xs, rel, dd⟩ := dt_rd I.hok e
    refine wpAny_in_heap (tupleKind_room_in1 hu) (key_of I.hok eb) hd dd ?_
    have q := (rel.val k).isSome_eq
    rw [Option.isSome_map] at q
    rw [← q, ← l]
    exact h _ (I.tok _)
theorem d_write {h' : Heap} {t' : Nat} {ob : HO} (I : Inv X pins σ H s) (mu : Mut (H a)) (hs : Heap.SameBut a s.heap h') (he : ∃ q, h'.get? a = some q) (new : ObjOk X.prog X.w (upd H a ob) h' a ob) :
    Inv X pins σ (upd H a ob) { s with heap := h', toks := t' } :=
  I.write (x := a) (e := a) mu (.inl rfl) (fun b q hb z => (hs.2 b hb).trans z) he new
theorem dk_new {P : Program} {w : World} {H' : Hp} {h' : Heap} {kvs : List (Key × V)} {vs : List (Key × Value)} (z : kvs.length ≤ sizeLine) (hd : (a == sysModules) = false) (rel : KV kvs vs) (dd : h'.DictOf (mixKind P w) a vs) :
    ObjOk P w H' h' a (.dK kvs) := ⟨z, hd, vs, rel, dd⟩
theorem d_setItem {H' : Hp} {Q : Unit → Shared → Prop} (hu : A.units + 1 < cLine) (I : Inv X pins σ H s) (g : DPut H a y v H') (ry : RelV y u) (rv : RelV v r) (h : ∀ s', Inv X pins σ H' s' → Q () s') :
    wpAny (model X.prog X.w) A (setItem (.ref a) u r) Q E s := by
  rcases g with ⟨kvs, k, e, ey, l, eH⟩ | ⟨kvs, k, b, e, ey, eb, l, eH⟩
  · subst ey eH
    obtain ⟨z, hd, vs, rel, dd⟩ := dk_of I.hok e
    have hz : vs.length ≤ sizeLine := by rw [← rel.length]; exact z
    have hl : (putK kvs k v).length ≤ sizeLine := by have := length_putK kvs k v; omega
    refine wpAny_setItem_pairs (hsz := hz) (kV_is ry) dd fun h' dd' hs => h _ ?_
    have he : ∃ q, h'.get? a = some q := let ⟨q, _, _, hq, _⟩ := dd'; ⟨q, hq⟩
    exact d_write I (by rw [e]; exact True.intro) hs he (dk_new hl hd (rel.put k rv) dd')
  · subst ey eH
    cases (show u = Value.ref b from ry)
    obtain ⟨z, hd, xs, rel, dd⟩ := dt_of I.hok e
    have hz : xs.length ≤ sizeLine := by rw [← Paired.length rel]; exact z
    have hl : (putK kvs k v).length ≤ sizeLine := by have := length_putK kvs k v; omega
    refine wpAny_setItem_heap (hsz := hz) (tupleKind_room_in1 hu) (key_of I.hok eb) dd fun h' dd' hs => h _ ?_
    obtain ⟨q, es, ep, hq, h2, h3, h4, _, h5⟩ := dd'
    refine d_write I (by rw [e]; exact True.intro) hs ⟨q, hq⟩ ⟨hl, hd, _, (rel.put k eb rv).keeps fun c ys ec => ?_, q, es, ep, hq, h2, h3, h4, h5⟩
    rw [upd_ne (ne_of ec e (fun z => nomatch z))]
    exact ec
end
section
variable {X : Cx} {pins : List (Addr × Obj)} {σ : St} {H : Hp} {s : Shared} {a : Addr} {kvs : List (Key × V)} {k : Key} {u : Value} {A : Around} {E : Value → Shared → Prop}
end
def NoSl (i : Expr) : Prop := ∀ ov iv, subscripted i false ov iv = operate [ov, iv] (getItem ov iv)
theorem subD_of {prog : Program} {w : World} {A : Around} {E : Value → Shared → Prop} {s : Shared} {env : Env} {value slice : Expr} {pos : Pos} {T id : String} {Q : Value → Shared → Prop}
    (hl : typeLookup (.type T) "__getitem__" = pure (some (.builtin id))) (hs : NoSl slice)
    (h : wpAny (model prog w) A (eval value env) (fun o s₁ => wpAny (model prog w) A (eval slice env) (fun i s₂ => s₂.TypeIs o T ∧ wpAny (model prog w) A (getItem o i) Q E s₂) E s₁) E s) :
    wpAny (model prog w) A (eval (.Subscript value slice pos) env) Q E s := by
  refine Subscript_ (wpAny_mono h (fun o s₁ h₁ => wpAny_mono h₁ (fun i s₂ h₂ => ?_) fun _ _ x => x) fun _ _ x => x)
  obtain ⟨hT, h₂⟩ := h₂
  unfold subscriptTail
  refine wpAny_bind ?_
  rw [getitemInPython_of_ne hT.not_modules]
  refine wpAny_bind (wpAny_specialOf hT hl ?_)
  have fin : wpAny (model prog w) A (subscripted slice false o i) (fun r s₃ => wpAny (model prog w) A (letTemporaryGo value o r >>= fun _ => pure r) Q E s₃) E s₂ := by
    rw [hs o i]
    exact wpAny_operating (wpAny_mono h₂ (fun r s₃ h₃ => wpAny_bind (wpAny_letTemporaryGo (wpAny_pure h₃))) fun _ _ x => x)
  first
    | exact wpAny_pure (wpAny_bind fin)
    | exact wpAny_bind (wpAny_pure (wpAny_bind fin))
    | exact wpAny_bind fin
theorem dict_typeIs {X : Cx} {pins : List (Addr × Obj)} {σ : St} {H : Hp} {s : Shared} {a : Addr} {y : V} {o : Option V} (I : Inv X pins σ H s) (g : DGet H a y o) : s.TypeIs (.ref a) "dict" := by
  rcases g with ⟨kvs, k, e, _, _⟩ | ⟨kvs, k, b, e, _, _, _⟩
  · obtain ⟨_, _, vs, _, dd⟩ := dk_rd I.hok e
    exact dd.typeIs
  · obtain ⟨_, _, xs, _, dd⟩ := dt_rd I.hok e
    exact dd.typeIs
def tDGet (td ty : TE) : TE := fun σ H Q => td σ H fun x H1 => ty σ H1 fun y H2 => ∃ a v, x = .ref a ∧ DGet H2 a y (some v) ∧ Q v H2
def tDIn (ty td : TE) : TE := fun σ H Q => ty σ H fun y H1 => td σ H1 fun x H2 => ∃ a o, x = .ref a ∧ DGet H2 a y o ∧ Q (.bl o.isSome) H2
def sDPut (td ty tv : TE) : TS := fun D σ H => tv σ H fun v H1 => td σ H1 fun x H2 => ty σ H2 fun y H3 => ∃ a H4, x = .ref a ∧ DPut H3 a y v H4 ∧ D.nx σ H4
section
variable {X : Cx} {o i e value : Expr} {pos pos' tpos : Pos} {td ty tv : TE}
theorem pe_dget (hu : X.A.units + 1 < cLine) (ho : PE X o td) (hi : PE X i ty) (hs : NoSl i) : PE X (.Subscript o i pos) (tDGet td ty) := by
  intro pins s σ H Q I h
  refine subD_of PySem.F.slot_dict_getitem.lookup hs (thn (ho pins s σ H _ I h) fun u s1 ⟨x, H1, I1, rx, q1⟩ => thn (hi pins s1 σ H1 _ I1 q1) fun iv s2 ⟨y, H2, I2, ry, a, v, ex, g, q2⟩ => ?_)
  subst ex
  obtain rfl : u = Value.ref a := rx
  exact ⟨dict_typeIs I2 g, d_getItem hu I2 g ry fun w' s3 I3 rw' => ⟨v, H2, I3, rw', q2⟩⟩
theorem pc_din (hu : X.A.units + 1 < cLine) (hi : PE X i ty) (ho : PE X o td) : PC X .In i o (tDIn ty td) := by
  intro pins s σ H Q I h
  refine thn (hi pins s σ H _ I h) fun iv s1 ⟨y, H1, I1, ry, q1⟩ => thn (ho pins s1 σ H1 _ I1 q1) fun u s2 ⟨x, H2, I2, rx, a, ov, ex, g, q2⟩ => ?_
  subst ex
  obtain rfl : u = Value.ref a := rx
  exact d_in hu I2 g ry fun s3 I3 => ⟨.bl ov.isSome, H2, I3, rfl, q2⟩
theorem ps_dput (hu : X.A.units + 1 < cLine) (ho : PE X o td) (hi : PE X i ty) (hv : PE X value tv) (hs : swapsWith value (some (.Subscript o i pos')) pos.line X.env = pure false) :
    PS X (.Assign [.Subscript o i pos'] value pos) (sDPut td ty tv) := by
  intro pins s σ H D I h
  refine wpAny_Assign_Subscript (thn (hv pins s σ H _ I h) fun r s1 ⟨v, H1, I1, rv, q1⟩ => thn (ho pins s1 σ H1 _ I1 q1) fun u s2 ⟨x, H2, I2, rx, q2⟩ => thn (hi pins s2 σ H2 _ I2 q2) fun iv s3 ⟨y, H3, I3, ry, a, H4, ex, g, q3⟩ => ?_) hs
  subst ex
  obtain rfl : u = Value.ref a := rx
  exact d_setItem hu I3 g ry rv fun s4 I4 => ⟨σ, H4, I4, q3⟩
end
theorem dk_empty {P : Program} {w : World} {H : Hp} (h : Heap) (hb : sysModules < h.objs.size) : ObjOk P w H (h.push { cls := .type "dict", data := .dict #[] }) h.objs.size (.dK []) :=
  ⟨Nat.zero_le _, beq_eq_false_iff_ne.mpr (Ne.symm (Nat.ne_of_lt hb)), [], .nil, Heap.DictOf.new h⟩
def tDNewK : TE := fun _ H Q => ∀ p, H p = none → Q (.ref p) (upd H p (.dK []))
section
variable {X : Cx} {pos : Pos}
theorem pe_dnewK : PE X (.Dict [] [] pos) tDNewK := fun pins s σ H Q I h =>
  wpAny_Dict_empty ⟨.ref s.heap.objs.size, _, I.laid (a := s.heap.objs.size) (o := .dK []) (t' := s.toks) (fun _ _ q => Heap.get?_push_of_some _ q) (Nat.le_refl _) (dk_empty s.heap I.big), rfl, h _ (I.hok.fresh (Nat.le_refl _))⟩
end
section
variable {X : Cx} {pins : List (Addr × Obj)} {σ : St} {H : Hp} {s : Shared} {a : Addr} {y d : V} {u r : Value} {o : Option V} {A : Around} {E : Value → Shared → Prop}
end
section
variable {X : Cx} {o e f : Expr} {apos cpos : Pos} {td ty tx : TE}
end
section
variable {X : Cx} {pins : List (Addr × Obj)} {σ : St} {H : Hp} {s : Shared} {a : Addr} {kvs : List (Key × V)} {A : Around} {E : Value → Shared → Prop}
end
section
variable {X : Cx} {pins : List (Addr × Obj)} {σ : St} {H : Hp} {s : Shared} {a : Addr} {y : V} {u : Value} {A : Around} {E : Value → Shared → Prop}
end
end L2
namespace Att
open PySem PySem.W PySem.Calls PyProof.Rows
theorem ints_of_wellAll {P : Params} {h : Heap} : ∀ (ns : List Int) (vs : List Value), WellAll P h vs (ns.map WData.int) → IntsAre vs ns := by
  intro ns
  induction ns with
  | nil =>
    intro vs w
    rw [List.map_nil] at w
    cases w
    exact .nil
  | cons n ns ih =>
    intro vs w
    rw [List.map_cons] at w
    cases w with
    | cons a b =>
      cases a
      exact .cons _ _ (ih _ b)
theorem script_of {l : OpenLaw} {n : Nat} (hn : l.most = some n) {P : Params} {h : Heap} {args : List WData} {vals : List Value}
    (hpre : l.row.toRowW.claim.pre args = true) (hwl : WellAll P h vals args) :
    ∃ a vs ns, vals = [Value.ref a] ∧ args = [WData.list (ns.map WData.int)] ∧ h.get? a = some { cls := .type "list", data := .seq vs.toArray } ∧ IntsAre vs ns ∧ ns.length ≤ n := by
  have hsh : WShape.hasAll [] args [.list .int] = true := (pre_splitW hpre).1
  have hc : l.pre.holds [] { args := args } = true := (pre_splitW hpre).2
  obtain ⟨d, r, rfl, h1, h2⟩ := hasAllW_cons hsh
  obtain rfl := hasAllW_nil h2
  obtain ⟨xs, rfl, h3⟩ := hasW_list h1
  obtain ⟨ns, rfl⟩ := items_int h3
  have hlen : ns.length ≤ n := by
    unfold OpenLaw.pre at hc
    have h4 : (WTm.not (.lt (.lit (.int (n : Int))) (.len (.arg 0)))).holds [] { args := [.list (ns.map .int)] } = true := by
      have h4 := (holds_andW hc).1
      rw [hn] at h4
      exact h4
    have h5 := condW_of h4 (w_not (w_lt w_lit (w_len_list (w_arg rfl))))
    rw [List.length_map] at h5
    refine Nat.le_of_not_lt fun q => ?_
    have q' : (n : Int) < ((ns.length : Nat) : Int) := by omega
    first
      | (rw [decide_eq_true q'] at h5; exact absurd h5 (by decide))
      | (simp at h5; omega)
  cases hwl with
  | cons w1 w2 =>
    cases w2
    cases w1 with
    | list ho hall => exact ⟨_, _, ns, rfl, rfl, ho, ints_of_wellAll ns _ hall, hlen⟩
theorem post_true (l : OpenLaw) (args : List WData) : l.row.toRowW.claim.post args (.bool true) args = true :=
  postW_of (r := l.row.toRowW) (X := (true == true))
    (show WShape.has [] (.bool true) .bool = true by first | rfl | decide | simp [WShape.has, WShape.arms, WShape.armsAll])
    (show (WTm.eq .res (.lit (.bool true))).value [] { args := args, res := some (.bool true), after := args } = some (.bool (true == true)) from w_eq_bool (w_res rfl) w_lit) rfl
theorem attach_call {l : OpenLaw} {n : Nat} {q : Program} {loose : List Str} {XP : (Str → Option Value) → Heap → Prop} {YP : World → Heap → Prop} {d : DefRec}
    (hn : l.most = some n) (hdf : d.params.defaults = [])
    (call : ∀ (w : World) (s₀ s₁ : Shared) (mg mb : Str → Option Value) (fa : Addr) (o : Obj) (pm cd doc : Value) (a : Addr) (vs : List Value) (ns : List Int),
      Ground q loose [] XP w s₀ mg mb s₁.heap → YP w s₁.heap →
      s₁.heap.get? fa = some o → o.data = .func (docDef d.name d.params d.body d.scope pm cd doc) → s₁.heap.CodeRec cd d.name → mg d.name = some (.ref fa) →
      s₁.heap.get? a = some { cls := .type "list", data := .seq vs.toArray } → IntsAre vs ns → ns.length ≤ n → s₁.gens = #[] →
      codeAny (model l.prog w) callerA (.call (.ref fa) ⟨[.ref a], []⟩) (fun r s' => r = .ok (.ret (.bool true)) ∧ OldK s₁.heap s'.heap ∧ s'.os = s₁.os ∧ AllBare s'.gens) s₁) :
    WalkO q loose XP YP l.row.toRowW d [] (fun f vs => PySem.call f vs) := by
  intro w s₀ s₁ mg mb G Y fa o pm cd doc dV kV ho hd hcd hD hmg hg args vals as hpre hlay hrd hwl hlo
  obtain rfl : dV = .none := Dflts.none hD hdf
  obtain rfl : kV = .none := Dflts.noKw hD
  obtain ⟨a, vs, ns, rfl, rfl, hobj, hints, hlen⟩ := script_of hn hpre hwl
  refine enter_call (codeAny_mono (call w s₀ s₁ mg mb fa o pm cd doc a vs ns G Y ho (fd_plain hd) hcd hmg hobj hints hlen hg) fun r s' hq => ?_)
  obtain ⟨rfl, h2, h3, h4⟩ := hq
  exact ⟨.inl ⟨.bool true, .bool true, [], rfl, fun _ => rfl, .bool true, post_true l _, fun _ => ⟨List.Pairwise.nil, fun _ hm => (nomatch hm)⟩⟩, h2, h3, h4⟩
section
variable {prog : Program} {w : World} {A : Around} {E : Value → Shared → Prop} {s : Shared} {K : Frag}
end
end Att
namespace L2
open PySem PySem.Spec PyProof.Rows
theorem vals_ints : ∀ {vs : List Value} {ns : List Int}, IntsAre vs ns → Vals (ns.map V.int) vs
  | _, _, .nil => .nil
  | _, _, .cons n t h => .cons ⟨t, rfl⟩ (vals_ints h)
def Only (H : Hp) : Prop := ∀ b, H b = none ∨ ∃ o xs, H b = some (.frz o (.lst xs))
theorem law_call {P : Program} {w : World} {K : PySem.W.Frag} {mg mb : Str → Option Value} {CX : CXT} {k : Nat} {fa a : Addr} {fd : FuncData} {x : Str} {sp : Sp} {s₁ : Shared} {vs : List Value} {ns : List Int}
    (KX : K.In s₁.heap) (hns : s₁.heap.Ns mainGlobals mg) (hb : s₁.heap.Ns builtinsNs mb) (hbb : ∀ x : Str, x ≠ "__name__" → mb x = bootBuiltins x) (hlim : s₁.heap.NoLimit) (hg : s₁.gens = #[])
    (ha : s₁.heap.get? a = some { cls := .type "list", data := .seq vs.toArray }) (hi : IntsAre vs ns) (hl : ns.length ≤ sizeLine) (hr : Room k callerA)
    (F : ∀ base : Heap, K.In base → base.Ns mainGlobals mg → FnOk P w K mg base CX k fa fd [x] sp) (hbind : ∀ (s : Shared) (u : Value), BindsTo s fd ⟨[u], []⟩ [(x, u)])
    (hsp : ∀ H : Hp, Only H → SqL K H a (ns.map V.int) → sp [.ref a] H (fun v _ => v = .bl true) fun _ _ _ => False)
    (hCX : ∀ H e s', CX [] H s₁ (fun _ _ _ => False) e s' → False) :
    codeAny (model P w) callerA (.call (.ref fa) ⟨[.ref a], []⟩) (fun r s' => r = .ok (.ret (.bool true)) ∧ OldK s₁.heap s'.heap ∧ s'.os = s₁.os ∧ AllBare s'.gens) s₁ := by
  have rv := vals_ints hi
  have lenV := hi.length
  have core : ∀ H : Hp, Only H → SqL K H a (ns.map V.int) → HOk P w H s₁.heap → (∀ b, H b ≠ none → b = a) → (H a ≠ none → K.lookup a = none) →
      codeAny (model P w) callerA (.call (.ref fa) ⟨[.ref a], []⟩) (fun r s' => r = .ok (.ret (.bool true)) ∧ OldK s₁.heap s'.heap ∧ s'.os = s₁.os ∧ AllBare s'.gens) s₁ := by
    intro H hO hS hok hA hK
    have base_of : ∀ {b : Addr} {o : Obj}, s₁.heap.get? b = some o → H b = none → (hidT s₁.heap H).get? b = some o := fun e n => hidT_get e n
    have noA : ∀ {b : Addr} {o : Obj} {es : Array DictEntry} {ep : Nat}, s₁.heap.get? b = some o → o.data = .dict es ep → H b = none := fun {b o es ep} e d => by
      cases q : H b with
      | none => rfl
      | some u =>
        have e' : b = a := hA b (by rw [q]; simp)
        subst e'
        rw [ha] at e; cases e
        have d' : Data.seq vs.toArray _ = Data.dict es ep := d
        cases d'
    have nsK : ∀ {b : Addr} {m : Str → Option Value}, s₁.heap.Ns b m → (hidT s₁.heap H).Ns b m := fun {b m} ⟨o, es, ep, e, d, r⟩ => ⟨o, es, ep, base_of e (noA e d), d, r⟩
    have hKb : K.In (hidT s₁.heap H) := fun b o e => base_of (KX b o e) (by
      cases q : H b with
      | none => rfl
      | some u =>
        have e' : b = a := hA b (by rw [q]; simp)
        subst e'
        rw [hK (by rw [q]; simp)] at e; cases e)
    have hM : Mod K mg (hidT s₁.heap H) := ⟨hKb, nsK hns, ⟨mb, nsK hb, hbb⟩, let ⟨mc, h1, h2⟩ := hlim; ⟨mc, nsK h1, h2⟩⟩
    have e0 : Env0 P w K mg (hidT s₁.heap H) callerA [] s₁ H := ⟨rfl, hM, fun b o e => of_hidT e, Nat.le_of_eq (hidT_size _ _), trivial, fun b hb => absurd (show b ∈ ([] : List Addr) from hb) (by simp), hok, .of_eq hg⟩
    refine codeAny_mono ((F _ hKb (nsK hns)).run callerA [] s₁ H ⟨[.ref a], []⟩ [.ref a] [.ref a] _ _ hr e0 (hbind s₁ (.ref a)) (.cons rfl .nil) (hsp H hO hS)) fun r s' h => ?_
    cases r with
    | error e => exact (hCX H e s' h).elim
    | ok fl =>
      cases fl with
      | next => exact False.elim h
      | brk => exact False.elim h
      | cont => exact False.elim h
      | ret u =>
        obtain ⟨v, H', os, bare, un, hok', r', q⟩ := h
        have q' : v = .bl true := q
        subst q'
        obtain rfl : u = Value.bool true := r'
        refine ⟨rfl, OldK.of_keep fun b o e => ?_, os, bare⟩
        cases q : H b with
        | none => exact un.keep b o e q (by intro z; exact absurd (show b ∈ ([] : List Addr) from z) (by simp)) (by simp)
        | some u =>
          rcases hO b with z | ⟨ob, xs, z⟩
          · rw [q] at z; cases z
          · have z2 := un.frzs b ob _ z
            obtain ⟨e1, _⟩ := hok b _ z
            obtain ⟨e2, _⟩ := hok' b _ z2
            rw [e] at e1; cases e1
            exact e2
  cases hk : K.lookup a with
  | some o =>
    have e := KX a o hk
    rw [ha] at e
    cases e
    refine core (fun _ => none) (fun _ => .inl rfl) (.inr ⟨_, vs.toArray, _, hk, rfl, rfl, rfl, by rw [List.size_toArray, lenV]; exact hl, by simpa using rv⟩) (fun b u z => by have z' : (none : Option HO) = some u := z; cases z') (fun b z => absurd rfl z) fun z => absurd rfl z
  | none =>
    refine core (fun b => if b = a then some (.frz { cls := .type "list", data := .seq vs.toArray } (.lst (ns.map V.int))) else none) (fun b => ?_) (.inl (.inr ⟨{ cls := .type "list", data := .seq vs.toArray }, if_pos rfl⟩)) (fun b u z => ?_) (fun b z => ?_) fun _ => hk
    · by_cases hb : b = a
      · exact .inr ⟨_, _, if_pos hb⟩
      · exact .inl (if_neg hb)
    · by_cases hb : b = a
      · have z' := (if_pos hb).symm.trans z
        cases z'
        subst hb
        exact ⟨ha, by rw [List.length_map]; exact hl, vs, _, rv, ha⟩
      · have z' := (if_neg hb).symm.trans z
        cases z'
    · by_cases hb : b = a
      · exact hb
      · exact absurd (if_neg hb) z
end L2
namespace L2
open PySem PySem.Spec PyProof.Rows
theorem walk_of {l : PySem.W.OpenLaw} {n k : Nat} {q : Program} {loose : List Str} {XP : (Str → Option Value) → Heap → Prop} {YP : World → Heap → Prop} {d : DefRec} {K : Params → PySem.W.Frag} {CX : World → CXT} {sp : World → Sp} {x : Str}
    (hn : l.most = some n) (hn2 : n ≤ sizeLine) (hdf : d.params.defaults = []) (hr : Room k callerA)
    (hY : ∀ (w : World) (h : Heap), YP w h → (K w.params).In h)
    (F : ∀ (w : World) (mg : Str → Option Value) (fa : Addr) (h : Heap), (K w.params).In h → h.Ns mainGlobals mg → mg d.name = some (.ref fa) →
      ∃ fd : FuncData, (∀ (s : Shared) (u : Value), BindsTo s fd ⟨[u], []⟩ [(x, u)]) ∧
        ∀ base : Heap, (K w.params).In base → base.Ns mainGlobals mg → FnOk l.prog w (K w.params) mg base (CX w) k fa fd [x] (sp w))
    (hsp : ∀ (w : World) (H : Hp) (a : Addr) (ns : List Int), ns.length ≤ n → Only H → SqL (K w.params) H a (ns.map V.int) → sp w [.ref a] H (fun v _ => v = .bl true) fun _ _ _ => False)
    (hCX : ∀ (w : World) (H : Hp) (s : Shared) (e : Value) (s' : Shared), CX w [] H s (fun _ _ _ => False) e s' → False) :
    PySem.W.WalkO q loose XP YP l.row.toRowW d [] (fun f vs => PySem.call f vs) := by
  refine Att.attach_call hn hdf fun w s₀ s₁ mg mb fa o pm cd doc a vs ns G Y ho hd hcd hmg hobj hints hlen hg => ?_
  have KX := hY w _ Y
  obtain ⟨fd, hb, hF⟩ := F w mg fa _ KX G.T.g hmg
  exact law_call KX G.T.g G.T.b G.T.builtins G.T.nolimit hg hobj hints (Nat.le_trans hlen hn2) hr hF hb (fun H hO hS => hsp w H a ns hlen hO hS) fun H e s' => hCX w H s₁ e s'
end L2
namespace L2
open PySem PySem.Spec PyProof.Rows
def inClass (s : Stmt) (j : Nat) : Stmt := match s with
  | .ClassDef _ _ _ body _ _ _ _ _ _ _ => body.getD j (.Pass ⟨0, 0, 0, 0⟩)
  | _ => .Pass ⟨0, 0, 0, 0⟩
def defArgs (s : Stmt) : Arguments := match s with
  | .FunctionDef _ a _ _ _ _ _ _ _ _ => a
  | _ => { posonlyargs := [], args := [], vararg := none, kwonlyargs := [], kw_defaults := [], kwarg := none, defaults := [] }
def defBody (s : Stmt) : List Stmt := match s with
  | .FunctionDef _ _ b _ _ _ _ _ _ _ => b
  | _ => []
def defScope (s : Stmt) : Scope := match s with
  | .FunctionDef _ _ _ _ _ _ sc _ _ _ => sc
  | _ => { kind := .function, names := [], isGenerator := false, isCoroutine := false }
abbrev CX0 : CXT := fun _ _ _ _ _ _ => False
abbrev E0 : XK := fun _ _ _ => False
theorem pass0 {X : Cx} : Passes CX0 X E0 := fun _ _ _ _ _ _ _ h => h.elim
structure Fun (K : PySem.W.Frag) (x qual : Str) (st : Stmt) (f : Addr) (fd : FuncData) : Prop where
  ex : ∃ (oc : Value) (od : Option Addr) (kV doc pm : Value) (an : Option Addr) (cdv ct : Value) (osl : Array (Option Value)),
    fd = PySem.W.fnOf x qual (defArgs st) (defBody st) (defScope st) .none kV doc pm an cdv ct ∧ K.lookup f = some ⟨oc, od, .func fd, osl⟩ ∧ PySem.W.codeIn K cdv qual = true
  kp : PySem.W.keepIn K (.ref f) = true
section
variable {P : Program} {w : World} {K : PySem.W.Frag} {mg : Str → Option Value} {base : Heap}
theorem Fun.ok {x qual : Str} {st : Stmt} {f : Addr} {fd : FuncData} {N ps : List Str} {k : Nat} {sp : Sp} (F : Fun K x qual st f fd) (S : FnScope N ps (defScope st)) (len : ∀ vs H Q E, sp vs H Q E → vs.length = ps.length)
    (hbody : ∀ (cdv : Value) (A : Around) (outer : List Env) (s : Shared) (H : Hp) (vs : List V) (Q : VK) (E : XK), Room k (A.deeper (envOfC qual (defScope st) s.heap.objs.size f cdv)) → sp vs H Q E →
      ∃ t, PSs (cxOf CX0 P w K mg base N qual (defScope st) f cdv A outer s H E).nox (defBody st) t ∧ t { nx := fun _ H' => Q .non H', rt := Q } (start N vs) H) : FnOk P w K mg base CX0 (k + 1) f fd ps sp := by
  obtain ⟨oc, od, kV, doc, pm, an, cdv, ct, osl, rfl, lk, hcd⟩ := F.ex
  refine fn_of lk hcd S len fun A outer s H vs Q E hr hsp => ?_
  obtain ⟨t, h, q⟩ := hbody cdv A outer s H vs Q E hr hsp
  exact ⟨t, h.nox, q⟩
theorem Fun.binds {x qual : Str} {st : Stmt} {f : Addr} {fd : FuncData} {ps : List Str} (F : Fun K x qual st f fd)
    (h : ∀ (kV doc pm : Value) (an : Option Addr) (cdv ct : Value) (us : List Value), us.length = ps.length → bindArgs (PySem.W.fnOf x qual (defArgs st) (defBody st) (defScope st) .none kV doc pm an cdv ct) ⟨us, []⟩ = pure (ps.zip us)) : Binds K fd ps [] := by
  obtain ⟨oc, od, kV, doc, pm, an, cdv, ct, osl, rfl, lk, hcd⟩ := F.ex
  exact .all (h kV doc pm an cdv ct)
theorem fun_mk {x qual : Str} {st : Stmt} {f : Addr} {oc : Value} {od an : Option Addr} {osl : Array (Option Value)} {kV doc pm cdv ct : Value} (l : K.lookup f = some ⟨oc, od, .func (PySem.W.fnOf x qual (defArgs st) (defBody st) (defScope st) .none kV doc pm an cdv ct), osl⟩)
    (c : PySem.W.codeIn K cdv qual = true) (k : PySem.W.keepIn K (.ref f) = true) : Fun K x qual st f (PySem.W.fnOf x qual (defArgs st) (defBody st) (defScope st) .none kV doc pm an cdv ct) := ⟨⟨oc, od, kV, doc, pm, an, cdv, ct, osl, rfl, l, c⟩, k⟩
end
theorem small1000 {n : Nat} (h : n ≤ 1000) : n < sizeLine := Nat.lt_of_le_of_lt h (by decide)
section
variable {X : Cx}
theorem pv (i : Nat) {x : Str} {pos : Pos} (hN : X.N[i]? = some x := by rfl) (hv : Vis X.env.scope x := by first | exact Or.inl rfl | exact Or.inr (Or.inl rfl) | exact Or.inr (Or.inr rfl)) (hd : (x == ("__debug__" : Str)) = false := by decide)
    (hcd : (x == ("__classdict__" : Str)) = false := by decide) : PE X (.Name x pos) (tVar i) := pe_var hN hv hd hcd
end
theorem iteF {A B : Prop} (h : B) : if false = true then A else B := by
  rw [if_neg Bool.false_ne_true]
  exact h
theorem iteT {A B : Prop} (h : A) : if true = true then A else B := by
  rw [if_pos rfl]
  exact h
theorem ite2 {c A B : Prop} [Decidable c] (h1 : c → A) (h2 : ¬ c → B) : if c then A else B := by
  by_cases h : c
  · rw [if_pos h]
    exact h1 h
  · rw [if_neg h]
    exact h2 h
theorem iteNS {c A B : Prop} [Decidable c] (hc : c) (h : B) : if (!decide c) = true then A else B := by
  rw [decide_eq_true hc]
  exact iteF h
def Same (H H' : Hp) : Prop := ∀ b o, H b = some o → H' b = some o
theorem Same.refl (H : Hp) : Same H H := fun _ _ h => h
theorem Same.trans {H H1 H2 : Hp} (a : Same H H1) (b : Same H1 H2) : Same H H2 := fun c o h => b c o (a c o h)
theorem Same.free {H H' : Hp} (e : Same H H') {l : Addr} (h : H' l = Option.none) : H l = Option.none := by
  cases q : H l with
  | none => rfl
  | some o =>
    rw [e l o q] at h
    cases h
theorem Same.seq {K : PySem.W.Frag} {H H' : Hp} {a : Addr} {xs : List V} (e : Same H H') (h : SqL K H a xs) : SqL K H' a xs := by
  rcases h with (h | ⟨o, h⟩) | h
  · exact .inl (.inl (e _ _ h))
  · exact .inl (.inr ⟨o, e _ _ h⟩)
  · exact .inr h
end L2
namespace L2
open PySem PySem.Spec PyProof.Rows
section
variable {X : Cx}
end
section
variable {κ : Type} [DecidableEq κ]
theorem valV_not {kvs : List (κ × V)} {k : κ} (h : valV kvs k = none) : ¬ k ∈ kvs.map (·.1) := by
  intro m
  obtain ⟨p, hp, e⟩ := List.mem_map.mp m
  have q : (kvs.any fun kv => decide (kv.1 = k)) = true := List.any_eq_true.mpr ⟨p, hp, decide_eq_true e⟩
  rw [valV_any, h] at q
  exact absurd q (by simp)
theorem nd_snoc : ∀ {l : List κ} {k : κ}, l.Nodup → ¬ k ∈ l → (l ++ [k]).Nodup
  | [], k, _, _ => by simp
  | a :: r, k, h, hk => by
    obtain ⟨h1, h2⟩ := List.nodup_cons.mp h
    show (a :: (r ++ [k])).Nodup
    refine List.nodup_cons.mpr ⟨fun m => ?_, nd_snoc h2 fun m => hk (List.mem_cons.mpr (Or.inr m))⟩
    rcases List.mem_append.mp m with q | q
    · exact h1 q
    · exact hk (List.mem_cons.mpr (Or.inl (List.mem_singleton.mp q).symm))
theorem nd_putK {kvs : List (κ × V)} {k : κ} (v : V) (hn : (kvs.map (·.1)).Nodup) (h : valV kvs k = none) : ((putK kvs k v).map (·.1)).Nodup := by
  rw [putK_new v h, List.map_append]
  exact nd_snoc hn (valV_not h)
end
end L2
namespace L2
open PySem PySem.Spec PyProof.Rows
def clos (cells : List (Str × Addr)) : List (Str × NameKind) → List (Str × Addr) → List (Str × Addr)
  | [], acc => acc
  | (n, k) :: r, acc => clos cells r (if k == .free then (n, (cells.lookup n).getD 0) :: acc else acc)
theorem clos_go {env : Env} : ∀ (names : List (Str × NameKind)) (acc : List (Str × Addr)), (∀ x ∈ names, x.2 = .free → ∃ c, env.cells.lookup x.1 = some c) →
    (forIn (m := Sem) names acc fun x r => if (x.2 == NameKind.free) = true then (do let a ← cellOf env x.1; pure (ForInStep.yield ((x.1, a) :: r))) else pure (ForInStep.yield r)) = pure (clos env.cells names acc)
  | [], acc, _ => rfl
  | (n, k) :: r, acc, h => by
    have hr : ∀ x ∈ r, x.2 = .free → ∃ c, env.cells.lookup x.1 = some c := fun x hx => h x (List.mem_cons_of_mem _ hx)
    rw [List.forIn_cons]
    by_cases hk : k = .free
    · subst hk
      obtain ⟨c, hc⟩ := h (n, .free) List.mem_cons_self rfl
      have hc : env.cells.lookup n = some c := hc
      have e : cellOf env n = pure c := by unfold cellOf; rw [hc]
      have q := clos_go r ((n, c) :: acc) hr
      show ((do let a ← cellOf env n; pure (ForInStep.yield ((n, a) :: acc))) >>= _) = _
      rw [e]
      refine Eq.trans ?goalA (Eq.trans q ?goalB)
      case goalA => rfl
      case goalB =>
        show _ = pure (clos env.cells r ((n, (env.cells.lookup n).getD 0) :: acc))
        rw [hc]
        rfl
    · have hb : (k == NameKind.free) = false := by simpa using hk
      have q := clos_go r acc hr
      show ((if (k == NameKind.free) = true then _ else _) >>= _) = pure (clos env.cells r (if k == .free then _ else acc))
      rw [hb]
      exact q
theorem closureFor_eq {scope : Scope} {env : Env} (h : ∀ x ∈ scope.names, x.2 = .free → ∃ c, env.cells.lookup x.1 = some c) : closureFor scope env = pure (clos env.cells scope.names []) := by
  have q := clos_go scope.names [] h
  unfold closureFor
  show (forIn scope.names [] _ >>= fun cs => pure cs) = _
  refine Eq.trans (congrArg (fun t => t >>= fun cs => pure cs) (Eq.trans ?_ q)) ?_
  · rfl
  · rfl
theorem clos_lookup {cells : List (Str × Addr)} : ∀ (names : List (Str × NameKind)) (acc : List (Str × Addr)), (∀ y ∈ names, y.2 = .free → ∃ c, cells.lookup y.1 = some c) → (∀ x c, acc.lookup x = some c → cells.lookup x = some c) →
    ∀ x c, (clos cells names acc).lookup x = some c → cells.lookup x = some c
  | [], acc, _, h2 => h2
  | (n, k) :: r, acc, h1, h2 => by
    have hr : ∀ x ∈ r, x.2 = .free → ∃ c, cells.lookup x.1 = some c := fun x hx => h1 x (List.mem_cons_of_mem _ hx)
    refine clos_lookup r _ hr ?_
    intro x c e
    by_cases hk : k = .free
    · subst hk
      obtain ⟨c', hc⟩ := h1 (n, .free) List.mem_cons_self rfl
      have hc : cells.lookup n = some c' := hc
      rw [show (if (NameKind.free == NameKind.free) = true then (n, (cells.lookup n).getD 0) :: acc else acc) = (n, (cells.lookup n).getD 0) :: acc from rfl, hc] at e
      rw [List.lookup_cons] at e
      cases q : x == n with
      | true =>
        rw [q] at e
        have e1 : x = n := by simpa using q
        have e2 : c' = c := Option.some.inj e
        rw [e1, hc, e2]
      | false =>
        rw [q] at e
        exact h2 x c e
    · have hb : (k == NameKind.free) = false := by simpa using hk
      rw [hb] at e
      exact h2 x c e
theorem clos_has {cells : List (Str × Addr)} : ∀ (names : List (Str × NameKind)) (acc : List (Str × Addr)) (x : Str), ((x, NameKind.free) ∈ names ∨ ∃ c, acc.lookup x = some c) → ∃ c, (clos cells names acc).lookup x = some c
  | [], acc, x, h => h.elim (fun z => nomatch z) id
  | (n, k) :: r, acc, x, h => by
    refine clos_has r _ x ?_
    rcases h with h | ⟨c, h⟩
    · rcases List.mem_cons.mp h with e | e
      · have e1 : x = n := congrArg Prod.fst e
        have e2 : NameKind.free = k := congrArg Prod.snd e
        subst e2
        subst e1
        exact .inr ⟨(cells.lookup x).getD 0, by show List.lookup x ((x, _) :: acc) = _; rw [List.lookup_cons, beq_self_eq_true]⟩
      · exact .inl e
    · right
      by_cases hk : (k == NameKind.free) = true
      · rw [if_pos hk, List.lookup_cons]
        cases x == n with
        | true => exact ⟨_, rfl⟩
        | false => exact ⟨c, h⟩
      · rw [if_neg hk]
        exact ⟨c, h⟩
section
variable {X : Cx} {pins : List (Addr × Obj)} {σ : St} {H : Hp} {s : Shared} {a : Addr} {o : HO}
theorem Inv.track (I : Inv X pins σ H s) (hn : H a = none) (h0 : X.s₀.heap.objs.size ≤ a) (hL : a ≠ X.env.locals) (h2 : ∀ x c, X.env.cells.lookup x = some c → c ≠ a) (h3 : ∀ p ∈ X.pn ++ pins, p.1 ≠ a)
    (new : ObjOk X.prog X.w (upd H a o) s.heap a o) : Inv X pins σ (upd H a o) s := by
  have old : ∀ b u, X.s₀.heap.get? b = some u → b ≠ a := fun b u e => Nat.ne_of_lt (Nat.lt_of_lt_of_le (Heap.lt_size e) h0)
  have trk : ∀ b u, H b = some u → b ≠ a := fun b u e z => by rw [z, hn] at e; cases e
  refine ⟨I.ok, I.os, I.bare, ⟨I.base.keep, I.base.slot, fun b u e n hx => ?_, I.base.there, fun b xs e => ?_, fun b u v e => ?_, fun b ps e => ?_⟩, I.loc, I.cell, ?_, fun x c e => ?_, fun p hp => ?_, fun b u e => ?_, I.len⟩
  · rw [upd_ne (old b u e)]; exact I.base.free b u e n hx
  · have q := I.base.tups b xs e; rw [upd_ne (trk _ _ q)]; exact q
  · have q := I.base.frzs b u v e; rw [upd_ne (trk _ _ q)]; exact q
  · obtain ⟨m, q⟩ := I.base.tbls b ps e; exact ⟨m, by rw [upd_ne (trk _ _ q)]; exact q⟩
  · rw [upd_ne (Ne.symm hL)]; exact I.free
  · rw [upd_ne (h2 x c e)]; exact I.freeC x c e
  · obtain ⟨e1, e2, e3⟩ := I.pin p hp
    exact ⟨e1, by rw [upd_ne (h3 p hp)]; exact e2, e3⟩
  · by_cases hb : b = a
    · subst hb; rw [upd_same] at e; cases e; exact new
    · rw [upd_ne hb] at e
      exact (I.hok b u e).stay (fun c v _ q => q) (fun c q => by rw [upd_ne (trk _ _ q)]; exact q) fun c xs q => by rw [upd_ne (trk _ _ q)]; exact q
theorem Inv.untrack {ys : List V} (I : Inv X pins σ (upd H a (.lst ys)) s) (hn : H a = none) : Inv X pins σ H s := by
  have off : ∀ b, upd H a (.lst ys) b = none → H b = none := fun b e => by
    by_cases hb : b = a
    · rw [hb, upd_same] at e; cases e
    · rw [upd_ne hb] at e; exact e
  have off2 : ∀ b u, upd H a (.lst ys) b = some u → u ≠ .lst ys → H b = some u := fun b u e ne => by
    by_cases hb : b = a
    · rw [hb, upd_same] at e; cases e; exact absurd rfl ne
    · rw [upd_ne hb] at e; exact e
  refine ⟨I.ok, I.os, I.bare, ⟨I.base.keep, I.base.slot, fun b u e n hx => off _ (I.base.free b u e n hx), I.base.there, fun b xs e => off2 _ _ (I.base.tups b xs e) (by intro z; cases z), fun b u v e => off2 _ _ (I.base.frzs b u v e) (by intro z; cases z), fun b ps e => ?_⟩, I.loc, I.cell, off _ I.free, fun x c e => off _ (I.freeC x c e), fun p hp => ?_, fun b u e => ?_, I.len⟩
  · obtain ⟨m, q⟩ := I.base.tbls b ps e; exact ⟨m, off2 _ _ q (by intro z; cases z)⟩
  · obtain ⟨e1, e2, e3⟩ := I.pin p hp
    exact ⟨e1, off _ e2, e3⟩
  · have hb : b ≠ a := fun z => by rw [z, hn] at e; cases e
    exact (I.hok b u (by rw [upd_ne hb]; exact e)).stay (fun c v _ q => q) (fun c q => off2 _ _ q (by intro z; cases z)) fun c xs q => off2 _ _ q (by intro z; cases z)
end
def maskS : List Bool → St → St
  | [], _ => []
  | _ :: bs, [] => none :: maskS bs []
  | b :: bs, v :: σ => cond b v none :: maskS bs σ
theorem maskS_length : ∀ (ms : List Bool) (σ : St), (maskS ms σ).length = ms.length
  | [], _ => rfl
  | _ :: bs, [] => by show (maskS bs []).length + 1 = bs.length + 1; rw [maskS_length bs []]
  | b :: bs, v :: σ => by show (maskS bs σ).length + 1 = bs.length + 1; rw [maskS_length bs σ]
theorem maskS_get : ∀ {ms : List Bool} {σ : St} {i : Nat} {v : V}, (maskS ms σ)[i]? = some (some v) → ms[i]? = some true ∧ σ[i]? = some (some v)
  | [], _, i, v, h => by simp [maskS] at h
  | b :: bs, [], 0, v, h => by simp [maskS] at h
  | b :: bs, [], i + 1, v, h => by
    have h' : (maskS bs [])[i]? = some (some v) := h
    have q := (maskS_get (ms := bs) (σ := []) (i := i) h').2
    simp at q
  | true :: bs, w :: σ, 0, v, h => ⟨rfl, h⟩
  | false :: bs, w :: σ, 0, v, h => by simp [maskS] at h
  | b :: bs, w :: σ, i + 1, v, h => by
    have h' : (maskS bs σ)[i]? = some (some v) := h
    exact maskS_get (ms := bs) (σ := σ) (i := i) h'
def okMask (sc : Scope) : List Str → List Str → List Bool → Bool
  | [], _, [] => true
  | x :: N, y :: NX, true :: ms => decide (x = y) && decide (sc.names.lookup x ≠ some .local) && okMask sc N NX ms
  | _ :: N, NX, false :: ms => okMask sc N NX.tail ms
  | _, _, _ => false
theorem okMask_len {sc : Scope} : ∀ {N NX : List Str} {ms : List Bool}, okMask sc N NX ms = true → ms.length = N.length
  | [], _, [], _ => rfl
  | x :: N, y :: NX, true :: ms, h => by
    rw [okMask, Bool.and_eq_true] at h
    rw [List.length_cons, List.length_cons, okMask_len h.2]
  | x :: N, [], false :: ms, h => by
    rw [okMask] at h
    rw [List.length_cons, List.length_cons, okMask_len h]
  | x :: N, y :: NX, false :: ms, h => by
    rw [okMask] at h
    rw [List.length_cons, List.length_cons, okMask_len h]
  | [], _, _ :: _, h => by simp [okMask] at h
  | _ :: _, _, [], h => by simp [okMask] at h
  | _ :: _, [], true :: _, h => by simp [okMask] at h
theorem okMask_at {sc : Scope} : ∀ {N NX : List Str} {ms : List Bool} {i : Nat} {x : Str}, okMask sc N NX ms = true → N[i]? = some x → ms[i]? = some true → NX[i]? = some x ∧ sc.names.lookup x ≠ some .local
  | x :: N, y :: NX, true :: ms, 0, z, h, h1, h2 => by
    rw [okMask, Bool.and_eq_true, Bool.and_eq_true] at h
    have e : x = z := Option.some.inj h1
    have e2 : x = y := of_decide_eq_true h.1.1
    subst e
    exact ⟨by rw [← e2]; rfl, of_decide_eq_true h.1.2⟩
  | x :: N, y :: NX, true :: ms, i + 1, z, h, h1, h2 => by
    rw [okMask, Bool.and_eq_true] at h
    exact okMask_at (i := i) h.2 h1 h2
  | x :: N, NX, false :: ms, 0, z, h, h1, h2 => by simp at h2
  | x :: N, [], false :: ms, i + 1, z, h, h1, h2 => by
    rw [okMask] at h
    have q := (okMask_at (i := i) h h1 h2).1
    simp at q
  | x :: N, y :: NX, false :: ms, i + 1, z, h, h1, h2 => by
    rw [okMask] at h
    exact okMask_at (i := i) h h1 h2
  | [], _, [], i, z, h, h1, h2 => by simp at h1
  | [], _, _ :: _, i, z, h, h1, h2 => by simp [okMask] at h
  | _ :: _, _, [], i, z, h, h1, h2 => by simp [okMask] at h
  | _ :: _, [], true :: _, i, z, h, h1, h2 => by simp [okMask] at h
structure CompScope (out sc : Scope) (NX N : List Str) (ms : List Bool) : Prop where
  kind : sc.kind = .function
  nocell : ∀ x ∈ sc.names, x.2 ≠ .cell
  own : ∀ x ∈ sc.names, x.2 = .local → sc.names.lookup x.1 = some .local
  fre : ∀ x ∈ sc.names, x.2 = .free → out.names.lookup x.1 = some .cell ∨ out.names.lookup x.1 = some .free
  nd : N.Nodup
  mask : okMask sc N NX ms = true
def Sets (g : TG) (ks : List Nat) : Prop := ∀ (x : V) (σ : St) (H : Hp) (Q Q' : St → Hp → Prop), g x σ H Q → (∀ σ2 H2, (σ2.length = σ.length ∧ ∀ i, i ∉ ks → σ2[i]? = σ[i]?) → Q σ2 H2 → Q' σ2 H2) → g x σ H Q'
theorem sets_name (i : Nat) : Sets (gName i) [i] := fun x σ H Q Q' h k => k _ _ ⟨List.length_set, fun j hj => by
  rw [List.getElem?_set_ne (fun z => hj (by simp [z]))]⟩ h
def cxComp (X : Cx) (sc : Scope) (N : List Str) (C : Addr) (ex : List Addr) (s : Shared) (H : Hp) : Cx :=
  { X with N := N, s₀ := s, H₀ := H, env := compEnvC sc (clos X.env.cells sc.names []) C X.env, outer := X.stack, ex := ex, fn := fun _ => false, pn := [], xe := fun _ _ => False }
def PTs (X : Cx) (ifs : List Expr) (t : TT) : Prop :=
  ∀ (pins : List (Addr × Obj)) (s : Shared) (σ : St) (H : Hp) (Q : Bool → Hp → Prop), Inv X pins σ H s → t σ H Q →
    wpAny (model X.prog X.w) X.A (forIn ifs true fun c r => if r = true then do let ok ← isTrue c X.env (eval c X.env); pure (ForInStep.yield ok) else pure (ForInStep.yield r)) (TP X pins σ Q) X.xe s
def tYes : TT := fun _ H Q => Q true H
theorem pts_nil {X : Cx} : PTs X [] tYes := fun pins s σ H Q I h => wpAny_tests_nil ⟨H, I, h⟩
theorem pts_one {X : Cx} {c : Expr} {t : TT} (h : PT X c t) : PTs X [c] t := fun pins s σ H Q I q => wpAny_tests_one (h pins s σ H Q I q)
def tComp (ms : List Bool) (wi : TI) (g : TG) (tc : TT) (te : TE) : TE := fun σ H Q => wi σ H fun J H1 =>
  ∃ W : Nat → Nat → List V → Hp → Prop, (∃ m, W 0 m [] H1) ∧ ∀ i m ys H, W i m ys H →
    (J.stop i H ∧ ∀ D, H D = none → Q (.ref D) (upd H D (.lst ys))) ∨
    (J.go i H ∧ ys.length < sizeLine ∧ ∃ N : List V → Hp → Prop, (∀ ys' H', N ys' H' → ∃ m', m' < m ∧ W (i + 1) m' ys' H') ∧
      ∀ x H', J.yld i H x H' → g x (maskS ms σ) H' fun σ2 H2 => tc σ2 H2 fun b H3 => if b = true then te σ2 H3 fun v H4 => N (ys ++ [v]) H4 else N ys H3)
section
variable {prog : Program} {w : World} {A : Around} {R : Result → Shared → Prop} {s : Shared}
theorem codeAny_compLoop_own {elt target iter : Expr} {ifs : List Expr} {scope : Scope} {pos : Pos} {it acc : Value} {env : Env} (I : Nat → Shared → Prop)
    (turn : ∀ n s, I n s → wpAny (model prog w) A (pyNext it) (fun r s₁ => match r with
      | none => R (.ok .next) s₁
      | some v => wpAny (model prog w) A (letOwnedTupleGo target it v) (fun _ s₁' => wpAny (model prog w) A (assign target env v) (fun _ s₂ =>
          wpAny (model prog w) A (forIn ifs true fun c r => if r = true then do let ok ← isTrue c env (eval c env); pure (ForInStep.yield ok) else pure (ForInStep.yield r)) (fun ok s₃ =>
            if ok = true then wpAny (model prog w) A (eval elt env) (fun x s₄ =>
              wpAny (model prog w) A (call (.builtin "list.append") [acc, x]) (fun _ s₅ => ∃ m, m < n ∧ I m s₅) (fun _ _ => False) s₄) (fun _ _ => False) s₃
            else ∃ m, m < n ∧ I m s₃) (fun _ _ => False) s₂) (fun _ _ => False) s₁') (fun _ _ => False) s₁) (fun _ _ => False) s)
    (n : Nat) (h : I n s) :
    codeAny (model prog w) A (.compLoop (.ListComp elt [⟨target, iter, ifs, 0⟩] scope pos) 0 it acc env) R s := by
  have fe : ∀ {α : Type} {t : Sem α} {Q : α → Shared → Prop} {E : Value → Shared → Prop} {s : Shared}, wpAny (model prog w) A t Q (fun _ _ => False) s → wpAny (model prog w) A t Q E s := fun h => wpAny_mono h (fun _ _ q => q) fun _ _ f => f.elim
  refine codeAny_loop rfl I (fun n s hI => ?_) n h
  show wpAny _ A ((compTurn (.ListComp elt [⟨target, iter, ifs, 0⟩] scope pos) 0 it acc env).onRaise (fun x => do noteFrame x env; theTreesLotGoes x)) _ _ s
  refine wpAny_noted ?_
  rw [compTurn_list]
  refine wpAny_bind (wpAny_standAt (wpAny_bind (wpAny_mono (turn n s hI) (fun r s₁ h₁ => ?_) fun _ _ f => f.elim)))
  cases r with
  | none => exact wpAny_pure h₁
  | some v =>
    refine wpAny_bind (wpAny_mono h₁ (fun _ s₁' h₁' => ?_) fun _ _ f => f.elim)
    refine wpAny_bind (wpAny_mono h₁' (fun _ s₂ h₂ => wpAny_bind (wpAny_mono h₂ (fun ok s₃ h₃ => ?_) fun _ _ f => f.elim)) fun _ _ f => f.elim)
    cases ok with
    | false => exact wpAny_pure ⟨rfl, h₃⟩
    | true =>
      exact wpAny_bind (wpAny_bind (wpAny_mono h₃ (fun x s₄ h₄ => wpAny_bind (wpAny_mono h₄ (fun _ s₅ h₅ => wpAny_pure (wpAny_pure ⟨rfl, h₅⟩)) fun _ _ f => f.elim)) fun _ _ f => f.elim))
end
section
variable {X : Cx} {pins : List (Addr × Obj)} {σ : St} {H : Hp} {s s1 : Shared} {out sc : Scope} {N : List Str} {ms : List Bool}
theorem CompScope.cells (S : CompScope out sc X.N N ms) (ho : X.env.scope = out) (ok : X.Ok) : ∀ x ∈ sc.names, x.2 = .free → ∃ c, X.env.cells.lookup x.1 = some c := fun x hx hf => by
  subst ho
  exact ok.has x.1 (S.fre x hx hf)
theorem lookup_mem {α β : Type} [BEq α] [LawfulBEq α] : ∀ {l : List (α × β)} {x : α} {y : β}, l.lookup x = some y → (x, y) ∈ l
  | [], _, _, h => by simp at h
  | (a, b) :: r, x, y, h => by
    rw [List.lookup_cons] at h
    cases q : x == a with
    | true =>
      rw [q] at h
      have e1 : x = a := by simpa using q
      have e2 : b = y := Option.some.inj h
      rw [e1, e2]
      exact List.mem_cons_self
    | false =>
      rw [q] at h
      exact List.mem_cons_of_mem _ (lookup_mem h)
theorem relabel_lookup {env : Env} : ∀ {names : List (Str × NameKind)} {x : Str} {k : NameKind}, (∀ y ∈ names, y.2 ≠ .cell) →
    (names.map fun (n, k) => if (k == NameKind.free && env.scope.kind == .function && env.kindOf n == some .cell) then (n, NameKind.cell) else (n, k)).lookup x = some k → (k = .cell ∨ k = .free) → names.lookup x = some .free
  | [], _, _, _, h, _ => by simp at h
  | (n, k') :: r, x, k, hc, h, hk => by
    have hc' : ∀ y ∈ r, y.2 ≠ .cell := fun y hy => hc y (List.mem_cons_of_mem _ hy)
    have ih := @relabel_lookup env r x k hc'
    have hk' : k' ≠ .cell := hc (n, k') List.mem_cons_self
    replace h : List.lookup x ((if (k' == NameKind.free && env.scope.kind == .function && env.kindOf n == some .cell) = true then (n, NameKind.cell) else (n, k')) :: _) = some k := h
    cases hx : x == n with
    | true =>
      by_cases hb : (k' == NameKind.free && env.scope.kind == .function && env.kindOf n == some .cell) = true
      · rw [Bool.and_eq_true, Bool.and_eq_true] at hb
        have e : k' = .free := by simpa using hb.1.1
        rw [List.lookup_cons, hx, e]
      · rw [if_neg hb, List.lookup_cons, hx] at h
        have e : k' = k := Option.some.inj h
        rw [List.lookup_cons, hx, e]
        rcases hk with z | z
        · exact absurd (e.trans z) hk'
        · rw [z]
    | false =>
      have h2 : List.lookup x (r.map fun (n, k) => if (k == NameKind.free && env.scope.kind == .function && env.kindOf n == some .cell) then (n, NameKind.cell) else (n, k)) = some k := by
        by_cases hb : (k' == NameKind.free && env.scope.kind == .function && env.kindOf n == some .cell) = true
        · rw [if_pos hb, List.lookup_cons, hx] at h; exact h
        · rw [if_neg hb, List.lookup_cons, hx] at h; exact h
      rw [List.lookup_cons, hx]
      exact ih h2 hk
theorem relabel_local {env : Env} : ∀ {names : List (Str × NameKind)} {x : Str},
    (names.map fun (n, k) => if (k == NameKind.free && env.scope.kind == .function && env.kindOf n == some .cell) then (n, NameKind.cell) else (n, k)).lookup x = some .local → names.lookup x = some .local
  | [], _, h => by simp at h
  | (n, k') :: r, x, h => by
    have ih := @relabel_local env r x
    replace h : List.lookup x ((if (k' == NameKind.free && env.scope.kind == .function && env.kindOf n == some .cell) = true then (n, NameKind.cell) else (n, k')) :: _) = some .local := h
    cases hx : x == n with
    | true =>
      by_cases hb : (k' == NameKind.free && env.scope.kind == .function && env.kindOf n == some .cell) = true
      · rw [if_pos hb, List.lookup_cons, hx] at h
        have e : NameKind.cell = .local := Option.some.inj h
        cases e
      · rw [if_neg hb, List.lookup_cons, hx] at h
        rw [List.lookup_cons, hx]
        exact h
    | false =>
      rw [List.lookup_cons, hx]
      refine ih ?_
      by_cases hb : (k' == NameKind.free && env.scope.kind == .function && env.kindOf n == some .cell) = true
      · rw [if_pos hb, List.lookup_cons, hx] at h; exact h
      · rw [if_neg hb, List.lookup_cons, hx] at h; exact h
theorem Inv.block (I : Inv X pins σ H s) (S : CompScope out sc X.N N ms) (ho : X.env.scope = out) {C : Addr} {ex : List Addr} {t' : Nat} {h1 : Heap} {m : Str → Option Value} (hex : ∀ b ∈ ex, FpOk X pins H b) (hlt : ∀ b ∈ ex, b < s.heap.objs.size)
    (hC : s.heap.objs.size ≤ C) (hn : h1.Ns C m) (kp : ∀ b o, s.heap.get? b = some o → h1.get? b = some o) : Inv (cxComp X sc N C ex s H) [] (maskS ms σ) H { s with heap := h1, toks := t' } := by
  have hcells := S.cells ho I.ok
  have clk : ∀ x c, (clos X.env.cells sc.names []).lookup x = some c → X.env.cells.lookup x = some c := clos_lookup sc.names [] hcells (fun x c e => by simp at e)
  have seen : ∀ x, ((relabel sc X.env).names.lookup x = some .cell ∨ (relabel sc X.env).names.lookup x = some .free) → sc.names.lookup x = some .free := fun x hx => by
    rcases hx with z | z
    · exact relabel_lookup S.nocell z (.inl rfl)
    · exact relabel_lookup S.nocell z (.inr rfl)
  have hasC : ∀ x, sc.names.lookup x = some .free → ∃ c, (clos X.env.cells sc.names []).lookup x = some c := fun x hx => clos_has sc.names [] x (.inl (lookup_mem hx))
  have ok : (cxComp X sc N C ex s H).Ok := by
    refine ⟨I.ok.mod, S.kind, I.ok.glob, I.ok.blt, hC, fun x y c e1 e2 => I.ok.inj x y c (clk x c e1) (clk y c e2), fun x hx => hasC x (seen x hx), fun x c e => (by cases e), I.ok.hd, I.ok.frames, .inl rfl, fun b hb => ⟨?_, fun x c e => (hex b hb).2.2.2.2.1 x c (clk x c e)⟩, I.bs, ?_, fun b o e hb => ?_, fun b hb hb' => ?_, I.stack, I.stkFree⟩
    · exact Nat.ne_of_lt (Nat.lt_of_lt_of_le (hlt b hb) hC)
    · exact Nat.le_trans I.ok.bsz I.sz
    · rcases (hex b hb).2.2.2.1 with z | z
      · exact I.ok.noex b o e z
      · exact absurd (Nat.lt_of_lt_of_le (Heap.lt_size (I.ok.bs b o e).1) z) (Nat.lt_irrefl _)
    · rcases List.mem_cons.mp (I.stkSub b hb') with z | z
      · exact (hex b hb).2.1 z
      · exact (hex b hb).2.2.1 z
  obtain ⟨m0, _, hl0⟩ := I.loc
  refine ⟨ok, rfl, I.bare, Un.kept kp, ⟨m, hn, fun i x v e1 e2 e3 => ?_⟩, fun x c e => ?_, I.hok.fresh hC, fun x c e => I.freeC x c (clk x c e), fun p hp => absurd hp (by show p ∉ ([] ++ [] : List (Addr × Obj)); simp), I.hok.kept kp, ?_⟩
  · obtain ⟨g1, g2⟩ := maskS_get e2
    obtain ⟨g3, g4⟩ := okMask_at S.mask e1 g1
    have e3 : (relabel sc X.env).names.lookup x = some .local ∨ (relabel sc X.env).names.lookup x = some .cell ∨ (relabel sc X.env).names.lookup x = some .free := e3
    rcases e3 with z | z
    · exact absurd (relabel_local z) g4
    · have q := seen x z
      have w := S.fre (x, .free) (lookup_mem q) rfl
      have w : X.env.scope.names.lookup x = some .cell ∨ X.env.scope.names.lookup x = some .free := by rw [ho]; exact w
      obtain ⟨u, r, l⟩ := hl0 i x v g3 g2 (.inr w)
      refine ⟨u, r, ?_⟩
      rcases l with ⟨l, _⟩ | ⟨_, c, hc, o, hco, hcd⟩
      · have l : X.env.scope.names.lookup x = some .local := l
        rcases w with w | w <;> (rw [l] at w; cases w)
      · obtain ⟨c', hc'⟩ := hasC x q
        have e : c' = c := Option.some.inj ((clk x c' hc').symm.trans hc)
        subst e
        exact .inr ⟨z, c', hc', o, kp _ _ hco, hcd⟩
  · obtain ⟨v, o, hco, hcd⟩ := I.cell x c (clk x c e)
    exact ⟨v, o, kp _ _ hco, hcd⟩
  · rw [maskS_length, okMask_len S.mask]; rfl
variable {elt iter tg : Expr} {ifs : List Expr} {pos : Pos} {wi : TI} {g : TG} {tc : TT} {te : TE} {ks : List Nat}
theorem comp_core {E : Value → Shared → Prop} {RR : Value → Addr → Result → Shared → Prop} {it : Addr} {fp : List Addr} {tn : Nat → Heap → Prop} {J : It} {Qv : VK} (S : CompScope out sc X.N N ms) (ho : X.env.scope = out) (hc : X.calm = true) (hks : ∀ k ∈ ks, ms[k]? = some false) (hst : Sets g ks)
    (hg : ∀ C ex s H, PG (cxComp X sc N C ex s H) tg g) (ht : ∀ C ex s H, PTs (cxComp X sc N C ex s H) ifs tc) (he : ∀ C ex s H, PE (cxComp X sc N C ex s H) elt te)
    (I : Inv X pins σ H s) (T : Turn X.prog X.w X.K tg J fp it tn) (st0 : tn 0 s.heap) (f0 : ∀ b ∈ fp, FpOk X pins H b)
    (h : ∃ W : Nat → Nat → List V → Hp → Prop, (∃ m, W 0 m [] H) ∧ ∀ i m ys H, W i m ys H →
      (J.stop i H ∧ ∀ D, H D = none → Qv (.ref D) (upd H D (.lst ys))) ∨
      (J.go i H ∧ ys.length < sizeLine ∧ ∃ N : List V → Hp → Prop, (∀ ys' H', N ys' H' → ∃ m', m' < m ∧ W (i + 1) m' ys' H') ∧
        ∀ x H', J.yld i H x H' → g x (maskS ms σ) H' fun σ2 H2 => tc σ2 H2 fun b H3 => if b = true then te σ2 H3 fun v H4 => N (ys ++ [v]) H4 else N ys H3))
    (hRR : ∀ D C H' s' m', Inv X pins σ H' s' → H' C = none → s.heap.objs.size ≤ C → s'.heap.Ns C m' → Qv (.ref D) H' → RR (.ref D) C (.ok .next) s') :
    wpAny (model X.prog X.w) X.A (newList []) (fun acc s₃ => wpAny (model X.prog X.w) X.A (newFunctionEnv sc X.env.globals (clos X.env.cells sc.names []) [] X.env.qual none .none (some X.env)) (fun cenv s₄ =>
      codeAny (model X.prog X.w) X.A (.compStart (.ListComp elt [⟨tg, iter, ifs, 0⟩] sc pos) 0 (.ref it) acc { cenv with scope := relabel sc X.env }) (RR acc cenv.locals) s₄) E s₃) E s := by
  obtain ⟨W, ⟨m0, w0⟩, turn⟩ := h
  refine wpAny_newObj_type (wpAny_newFunctionEnv S.nocell (by intro y hy; simp at hy) (fun h₁ hns₁ hsb₁ => ?_) S.kind)
  dsimp only at hns₁ hsb₁ ⊢
  generalize hH2 : s.heap.push { cls := .type "list", dict := none, data := .seq ([] : List Value).toArray } = H2 at hns₁ hsb₁ ⊢
  generalize hDe : s.heap.objs.size = D at hns₁ hsb₁ ⊢
  generalize hCe : H2.objs.size = C at hns₁ hsb₁ ⊢
  have hCD : C = D + 1 := by rw [← hCe, ← hH2, Heap.size_push, hDe]
  have hDs : s.heap.objs.size ≤ D := Nat.le_of_eq hDe
  have hCs : s.heap.objs.size ≤ C := by omega
  have hDC : D ≠ C := by omega
  have below : ∀ b, b < s.heap.objs.size → b ≠ C ∧ b ≠ D := fun b hb => ⟨by omega, by omega⟩
  have old : ∀ b o, s.heap.get? b = some o → h₁.get? b = some o := fun b o e => hsb₁.extBut b o (below b (Heap.lt_size e)).1 (Heap.get?_push_of_some _ (hH2 ▸ Heap.get?_push_of_some _ e))
  have objD : h₁.get? D = some { cls := .type "list", dict := none, data := .seq ([] : List Value).toArray } := hsb₁.extBut _ _ hDC (Heap.get?_push_of_some _ (hH2 ▸ hDe ▸ Heap.get?_push_size _ rfl))
  have flt : ∀ b ∈ fp, b < s.heap.objs.size := fun b hb => by
    obtain ⟨o, e, _⟩ := T.obj 0 _ st0 b hb
    exact Heap.lt_size e
  have hcells := S.cells ho I.ok
  have clk : ∀ x c, (clos X.env.cells sc.names []).lookup x = some c → c < s.heap.objs.size := fun x c e => by
    obtain ⟨v, o, hco, _⟩ := I.cell x c (clos_lookup sc.names [] hcells (fun x c e => by simp at e) x c e)
    exact Heap.lt_size hco
  generalize hX : cxComp X sc N C fp s H = Y
  have hgY : PG Y tg g := hX ▸ hg C fp s H
  have htY : PTs Y ifs tc := hX ▸ ht C fp s H
  have heY : PE Y elt te := hX ▸ he C fp s H
  have Yprog : Y.prog = X.prog := by rw [← hX]; rfl
  have Yw : Y.w = X.w := by rw [← hX]; rfl
  have YK : Y.K = X.K := by rw [← hX]; rfl
  have Ycalm : Y.calm = true := by rw [← hX]; exact hc
  have YA : Y.A = X.A := by rw [← hX]; rfl
  have Yxe : Y.xe = fun _ _ => False := by rw [← hX]; rfl
  have Ypn : Y.pn = [] := by rw [← hX]; rfl
  have Yex : Y.ex = fp := by rw [← hX]; rfl
  have Ys0 : Y.s₀ = s := by rw [← hX]; rfl
  have YH0 : Y.H₀ = H := by rw [← hX]; rfl
  have Yfs : Y.fs = frs X.stack := by rw [← hX]; rfl
  have YL : Y.env.locals = C := by rw [← hX]; rfl
  have Ycl : Y.env.cells = clos X.env.cells sc.names [] := by rw [← hX]; rfl
  have Yenv : Y.env = { (newEnv sc C X.env.globals (clos X.env.cells sc.names []) X.env.qual none .none (some X.env) 0) with scope := relabel sc X.env } := by rw [← hX]; rfl
  have IY0 : ∀ t', Inv Y [] (maskS ms σ) H { s with heap := h₁, toks := t' } := fun t' => by rw [← hX]; exact I.block S ho f0 flt hCs hns₁ old
  have fpY : ∀ {H' : Hp} {ps : List (Addr × Obj)}, (∀ b ∈ fp, H' b = none) → (∀ p ∈ ps, p.1 = D) → ∀ b ∈ fp, FpOk Y ps H' b := fun {H' ps} hn hp b hb => by
    refine ⟨hn b hb, by rw [YL]; exact (below b (flt b hb)).1, fun z => ?_, .inl (by rw [Yex]; exact hb), fun x c e z => ?_, fun p hp' z => ?_⟩
    · rw [Yfs] at z
      rcases List.mem_cons.mp (I.stkSub b z) with y | y
      · exact (f0 b hb).2.1 y
      · exact (f0 b hb).2.2.1 y
    · rw [Ycl] at e
      exact (f0 b hb).2.2.2.2.1 x c (clos_lookup sc.names [] hcells (fun x c e => by simp at e) x c e) z
    · rw [Ypn] at hp'
      exact (below b (flt b hb)).2 (z.symm.trans (hp p hp'))
  have dY : ∀ {H' : Hp} {ps : List (Addr × Obj)}, H' D = none → (∀ p ∈ ps, p.1 ∈ fp) → FpOk Y ps H' D := fun {H' ps} hn hp => by
    refine ⟨hn, by rw [YL]; exact hDC, fun z => ?_, .inr (by rw [Ys0]; exact hDs), fun x c e z => ?_, fun p hp' z => ?_⟩
    · rw [Yfs] at z
      have q : H D = none := I.stkFree D z
      rcases List.mem_cons.mp (I.stkSub D z) with y | y
      · exact (below _ I.lt).2 y.symm
      · exact I.nofs hDs y
    · rw [Ycl] at e
      exact (below c (clk x c e)).2 z
    · rw [Ypn] at hp'
      exact (below p.1 (flt p.1 (hp p hp'))).2 z
  have wk : ∀ {σ6 : St}, (σ6.length = (maskS ms σ).length ∧ ∀ i, i ∉ ks → σ6[i]? = (maskS ms σ)[i]?) → (∀ (i : Nat) v, (maskS ms σ)[i]? = some (some v) → σ6[i]? = some (some v)) := fun {σ6} hf i v e => by
    rw [hf.2 i (fun z => ?_)]
    · exact e
    · have q := (maskS_get e).1
      rw [hks i z] at q
      cases q
  have loop : ∀ t', codeAny (model X.prog X.w) X.A (.compLoop (.ListComp elt [⟨tg, iter, ifs, 0⟩] sc pos) 0 (.ref it) (.ref D) Y.env) (RR (.ref D) C) { s with heap := h₁, toks := t' } := fun t' => by
    refine codeAny_compLoop_own (fun n s' => ∃ i ys H', Inv Y [] (maskS ms σ) H' s' ∧ tn i s'.heap ∧ (∀ b ∈ fp, H' b = none) ∧ H' D = none ∧ (∃ (its : List Value) (n : Nat), Vals ys its ∧ s'.heap.get? D = some { cls := .type "list", data := .seq its.toArray n }) ∧ ys.length ≤ sizeLine ∧ W i n ys H') ?_ m0
      ⟨0, [], H, IY0 t', T.keep _ _ _ st0 (fun b _ o e => old b o e), fun b hb => (f0 b hb).1, I.hok.fresh hDs, ⟨[], _, .nil, objD⟩, Nat.zero_le _, w0⟩
    rintro n s3 ⟨i, ys, H3, I3, st3, fr3, hD3, ⟨its, nn, vs3, ob3⟩, hl3, w3⟩
    rcases turn i n ys H3 w3 with ⟨stop, qn⟩ | ⟨go, hlen, NN, hN, step⟩
    · have z := T.done Y Yprog Yw YK Ycalm i (pinsAt [D] s3.heap) s3 (maskS ms σ) H3 (fun _ _ => False) (I3.pinned (fp := [D]) (pins := []) (fun b hb => ?c1) (fun b hb => ?c2)) (fpY fr3 (fun p hp => ?c3)) st3 stop
      case c1 => rw [List.mem_singleton.mp hb]; exact dY hD3 (fun p hp => absurd hp (by simp))
      case c2 => rw [List.mem_singleton.mp hb]; exact ⟨_, ob3, fun v e => by cases e⟩
      case c3 => exact List.mem_singleton.mp (of_pinsAt hp).1
      rw [YA] at z
      refine wpAny_mono z (fun r s4 hr4 => ?_) fun _ _ f => f
      obtain ⟨hr, I4⟩ := hr4
      subst hr
      obtain ⟨obD, hD4, _⟩ := I4.pin (D, _) (List.mem_append_right _ (mem_pinsAt (List.mem_singleton.mpr rfl) ob3))
      have b4 := I4.base
      rw [Yfs, Yex, YH0, Ys0] at b4
      have hok4 := I4.hok
      rw [Yprog, Yw] at hok4
      have I5 : Inv X pins σ H3 s4 := I.call' (ch := fp) (by rw [I4.os, Ys0]) b4 hok4 I4.bare (fun b hb => ⟨(f0 b hb).2.2.2.1, (f0 b hb).2.1, (f0 b hb).2.2.2.2.1, (f0 b hb).2.2.2.2.2⟩)
      have nC : H3 C = none := by rw [← YL]; exact I4.free
      obtain ⟨m4, hm4, _⟩ := I4.loc
      rw [YL] at hm4
      refine hRR D C (upd H3 D (.lst ys)) s4 m4 (I5.track hD4 (Nat.le_trans I.sz hDs) (fun z => (below _ I.lt).2 z.symm) (fun x c e => ?_) (fun p hp => ?_) ⟨hl3, its, nn, vs3, obD⟩) (by rw [upd_ne (Ne.symm hDC)]; exact nC) hCs hm4 (qn D hD4)
      · obtain ⟨v, o, hco, _⟩ := I.cell x c e
        exact (below c (Heap.lt_size hco)).2
      · exact (below _ (Heap.lt_size (I.pin p hp).1)).2
    · have z := T.item Y Yprog Yw YK Ycalm i (pinsAt [D] s3.heap) s3 (maskS ms σ) H3 (fun _ _ => False) (I3.pinned (fp := [D]) (pins := []) (fun b hb => ?c1) (fun b hb => ?c2)) (fpY fr3 (fun p hp => ?c3)) st3 go
      case c1 => rw [List.mem_singleton.mp hb]; exact dY hD3 (fun p hp => absurd hp (by simp))
      case c2 => rw [List.mem_singleton.mp hb]; exact ⟨_, ob3, fun v e => by cases e⟩
      case c3 => exact List.mem_singleton.mp (of_pinsAt hp).1
      rw [YA] at z
      refine wpAny_mono z (fun r s4 hr4 => ?_) fun _ _ f => f
      obtain ⟨u, hr, h4⟩ := hr4
      subst hr
      refine wpAny_mono h4 (fun _ s5 h5 => ?_) fun _ _ f => f
      obtain ⟨x, H5, I5, r5, y5, st5, fr5⟩ := h5
      have I5' := I5.pinned (fpY fr5 (fun p hp => List.mem_singleton.mp (of_pinsAt hp).1)) (T.obj _ _ st5)
      have q5 := hst x (maskS ms σ) H5 _ (fun σ2 H2 => (σ2.length = (maskS ms σ).length ∧ ∀ i, i ∉ ks → σ2[i]? = (maskS ms σ)[i]?) ∧ (tc σ2 H2 fun b H3 => if b = true then te σ2 H3 fun v H4 => NN (ys ++ [v]) H4 else NN ys H3)) (step x H5 y5) (fun σ2 H2 f q => ⟨f, q⟩)
      have z5 := hgY _ s5 (maskS ms σ) H5 x u _ I5' r5 q5
      rw [Yprog, Yw, YA, Yxe] at z5
      refine wpAny_mono z5 (fun _ s6 h6 => ?_) fun _ _ f => f
      obtain ⟨σ6, H6, I6, f6, q6⟩ := h6
      have z6 := htY _ s6 σ6 H6 _ I6 q6
      rw [Yprog, Yw, YA, Yxe] at z6
      refine wpAny_mono z6 (fun b s7 h7 => ?_) fun _ _ f => f
      obtain ⟨H7, I7, q7⟩ := h7
      have back : ∀ {H8 : Hp} {s8 : Shared}, Inv Y (([] ++ pinsAt [D] s3.heap) ++ pinsAt fp s5.heap) σ6 H8 s8 → (∀ b ∈ fp, H8 b = none) ∧ H8 D = none ∧ s8.heap.get? D = some { cls := .type "list", data := .seq its.toArray nn } ∧ (∀ b ∈ fp, ∀ o, s5.heap.get? b = some o → s8.heap.get? b = some o) ∧ Inv Y (pinsAt fp s5.heap) σ6 H8 s8 := fun {H8 s8} I8 => by
        obtain ⟨obD, hD8, _⟩ := I8.pin (D, _) (List.mem_append_right _ (List.mem_append_left _ (List.mem_append_right _ (mem_pinsAt (List.mem_singleton.mpr rfl) ob3))))
        refine ⟨fun b hb => ?_, hD8, obD, fun b hb o e => (I8.pin (b, o) (List.mem_append_right _ (List.mem_append_right _ (mem_pinsAt hb e)))).1, I8.pins_of fun p hp => I8.pin p (List.mem_append_right _ (List.mem_append_right _ hp))⟩
        obtain ⟨o, e, _⟩ := T.obj _ _ st5 b hb
        exact (I8.pin (b, o) (List.mem_append_right _ (List.mem_append_right _ (mem_pinsAt hb e)))).2.1
      cases b with
      | false =>
        have q7 : NN ys H7 := q7
        obtain ⟨m', hm', w'⟩ := hN _ _ q7
        obtain ⟨k1, k2, k3, k4, k5⟩ := back I7
        show ∃ m, m < n ∧ _
        exact ⟨m', hm', i + 1, ys, H7, (k5.pins_of (fun p hp => absurd hp (by simp))).weak f6.1.symm (wk f6), T.keep _ _ _ st5 k4, k1, k2, ⟨its, nn, vs3, k3⟩, hl3, w'⟩
      | true =>
        have q7 : te σ6 H7 fun v H4 => NN (ys ++ [v]) H4 := q7
        have z7 := heY _ s7 σ6 H7 _ I7 q7
        rw [Yprog, Yw, YA, Yxe] at z7
        show wpAny _ _ _ _ _ _
        refine wpAny_mono z7 (fun v s8 h8 => ?_) fun _ _ f => f
        obtain ⟨v8, H8, I8, r8, q8⟩ := h8
        obtain ⟨k1, k2, k3, k4, k5⟩ := back I8
        have I9 : Inv Y (pinsAt fp s5.heap) σ6 (upd H8 D (.lst ys)) s8 := k5.track k2 (by rw [Ys0]; exact hDs) (by rw [YL]; exact hDC) (fun x c e z => (below c (clk x c (by rw [Ycl] at e; exact e))).2 z) (fun p hp => by
          rw [Ypn] at hp
          exact (below p.1 (flt p.1 (of_pinsAt hp).1)).2) ⟨hl3, its, nn, vs3, k3⟩
        have z8 := mt_append (X := Y) (pinsAt fp s5.heap) s8 σ6 (upd H8 D (.lst ys)) (.ref D) [v8] (.ref D) [v] (fun _ H9 => H9 = upd (upd H8 D (.lst ys)) D (.lst (ys ++ [v8]))) I9 rfl (.cons r8 .nil) ⟨D, ys, v8, rfl, rfl, upd_same, hlen, rfl⟩
        rw [Yprog, Yw, YA, Yxe] at z8
        refine wpAny_mono z8 (fun _ s9 h9 => ?_) fun _ _ f => f
        obtain ⟨_, H9, I9', _, e9⟩ := h9
        subst e9
        rw [upd_upd] at I9'
        have I10 := I9'.untrack k2
        obtain ⟨m', hm', w'⟩ := hN _ _ q8
        have ok9 : ObjOk Y.prog Y.w _ s9.heap D (.lst (ys ++ [v8])) := I9'.hok D _ upd_same
        obtain ⟨l9, its9, n9, vs9, ob9⟩ := ok9
        refine ⟨m', hm', i + 1, ys ++ [v8], H8, (I10.pins_of (fun p hp => absurd hp (by simp))).weak f6.1.symm (wk f6), T.keep _ _ _ st5 (fun b hb o e => ?_), k1, k2, ⟨its9, n9, vs9, ob9⟩, l9, w'⟩
        exact (I10.pin (b, o) (List.mem_append_right _ (mem_pinsAt hb e))).1
  have z := fun t' => codeAny_compStart_list (loop t') (T.self _ 0 _ _ _ (T.keep _ _ _ st0 (fun b _ o e => old b o e)) (loop t'))
  rw [Yenv] at z
  exact z _
theorem pe_comp {NX : List Str} (S : CompScope out sc NX N ms) (ho : X.env.scope = out) (hnx : X.N = NX) (hc : X.calm = true) (hi : PI X tg iter wi) (hst : Sets g ks) (hks : ∀ k ∈ ks, ms[k]? = some false)
    (hg : ∀ C ex s H, PG (cxComp X sc N C ex s H) tg g) (ht : ∀ C ex s H, PTs (cxComp X sc N C ex s H) ifs tc) (he : ∀ C ex s H, PE (cxComp X sc N C ex s H) elt te)
    (hs : ∀ x, foldedSetIterable iter X.env x = pure x := by intro _; rfl) : PE X (.ListComp elt [⟨tg, iter, ifs, 0⟩] sc pos) (tComp ms wi g tc te) := by
  intro pins s σ H Q I h
  subst hnx
  rw [eval_ListComp]
  refine wpAny_comprehension_free (use := none) (g := ⟨tg, iter, ifs, 0⟩) (gs := []) rfl hs (closureFor_eq (S.cells ho I.ok)) S.kind S.own (thn (hi pins s σ H _ I h) fun v s1 h1 => thn h1 fun itv s2 h2 => ?_)
  obtain ⟨it, fp, tn, J, H2, e, I2, T, st2, f2, hW⟩ := h2
  subst e
  refine comp_core (Qv := Q) S ho hc hks hst hg ht he I2 T st2 f2 hW ?_
  intro D C H' s' m' I' nC hC hm q
  refine ⟨m', hm, fun h' sb => ⟨.ref D, H', ?_, rfl, q⟩⟩
  exact I'.turned (t' := s'.toks) (it := C) (fun b o hb e => sb.extBut b o hb e) nC (Ne.symm (Nat.ne_of_lt (Nat.lt_of_lt_of_le I2.lt hC))) (.inr (Nat.le_trans I2.sz hC)) (fun x c e => by
    obtain ⟨v, o, hco, _⟩ := I2.cell x c e
    exact Nat.ne_of_lt (Nat.lt_of_lt_of_le (Heap.lt_size hco) hC)) (fun p hp => Nat.ne_of_lt (Nat.lt_of_lt_of_le (Heap.lt_size (I2.pin p hp).1) hC))
theorem ps_comp {NX : List Str} {i : Nat} {y : Str} {py spos : Pos} (S : CompScope out sc NX N ms) (ho : X.env.scope = out) (hnx : X.N = NX) (hc : X.calm = true) (hN : X.N.Nodup) (hy : X.N[i]? = some y) (hx : Loc X.env.scope y) (hi : PI X tg iter wi) (hst : Sets g ks) (hks : ∀ k ∈ ks, ms[k]? = some false)
    (hg : ∀ C ex s H, PG (cxComp X sc N C ex s H) tg g) (ht : ∀ C ex s H, PTs (cxComp X sc N C ex s H) ifs tc) (he : ∀ C ex s H, PE (cxComp X sc N C ex s H) elt te)
    (hsw : swapsWith (.ListComp elt [⟨tg, iter, ifs, 0⟩] sc pos) (some (.Name y py)) spos.line X.env = pure true)
    (hs : ∀ x, foldedSetIterable iter X.env x = pure x := by intro _; rfl) (hf : X.fn y = true ∨ X.env.scope.names.lookup y = some .local := by first | exact .inl rfl | exact .inr rfl | assumption) :
    PS X (.Assign [.Name y py] (.ListComp elt [⟨tg, iter, ifs, 0⟩] sc pos) spos) (tAsg (tComp ms wi g tc te) (gName i)) := by
  intro pins s σ H Dn I h
  subst hnx
  rw [exec_Assign_Name_used _ _ _ _ hsw]
  refine wpAny_bind (wpAny_standAt (wpAny_bind ?_))
  show wpAny _ X.A (do let _ ← comprehension (.ListComp elt [⟨tg, iter, ifs, 0⟩] sc pos) sc X.env _ (newList []) false (eval iter X.env) (some (assign (.Name y py) X.env))) _ _ s
  refine wpAny_bind (wpAny_mono (wpAny_comprehension_free (use := some (assign (.Name y py) X.env)) (g := ⟨tg, iter, ifs, 0⟩) (gs := []) (Q := fun _ s' => SP X pins Dn .next s') rfl hs (closureFor_eq (S.cells ho I.ok)) S.kind S.own (thn (hi pins s σ H _ I h) fun v s1 h1 => thn h1 fun itv s2 h2 => ?_))
    (fun _ s' hq => wpAny_pure (wpAny_pure hq)) fun _ _ e => e)
  obtain ⟨it, fp, tn, J, H2, e, I2, T, st2, f2, hW⟩ := h2
  subst e
  refine comp_core (Qv := fun x H1 => gName i x σ H1 Dn.nx) S ho hc hks hst hg ht he I2 T st2 f2 hW ?_
  intro D C H' s' m' I' nC hC hm q
  have cne : ∀ x c, X.env.cells.lookup x = some c → c ≠ C := fun x c e => by
    obtain ⟨v, o, hco, _⟩ := I2.cell x c e
    exact Nat.ne_of_lt (Nat.lt_of_lt_of_le (Heap.lt_size hco) hC)
  have lne : C ≠ X.env.locals := Ne.symm (Nat.ne_of_lt (Nat.lt_of_lt_of_le I2.lt hC))
  show wpAny _ X.A (assign (.Name y py) X.env (.ref D)) _ _ _
  refine wpAny_assign_Name (store_ok2 (v := .ref D) I' hN hy hx rfl (fun s'' I'' hsb => ?_) hf)
  obtain ⟨a, sba, ha⟩ := hsb
  have aC : C ≠ a := by
    rcases ha with z | z
    · rw [z]; exact lne
    · exact Ne.symm (cne y a z)
  refine ⟨m', hm.sameBut sba aC, fun h' sb => ⟨_, H', ?_, q⟩⟩
  exact I''.turned (t' := s''.toks) (it := C) (fun b o hb e => sb.extBut b o hb e) nC lne (.inr (Nat.le_trans I2.sz hC)) cne (fun p hp => Nat.ne_of_lt (Nat.lt_of_lt_of_le (Heap.lt_size (I2.pin p hp).1) hC))
end
theorem comp_list {K : PySem.W.Frag} {a : Addr} {xs : List V} {B : V → List V → (List V → Hp → Prop) → Hp → Prop} {Z : List V → Hp → Prop} {H : Hp} (Pv : Nat → List V → Hp → Prop) (h0 : Pv 0 [] H) (hl : ∀ i ys H, i ≤ xs.length → Pv i ys H → SqL K H a xs)
    (hy : ∀ i ys H, i < xs.length → Pv i ys H → ys.length < sizeLine) (hs : ∀ i x ys H, xs[i]? = some x → Pv i ys H → B x ys (Pv (i + 1)) H) (hd : ∀ ys H, Pv xs.length ys H → Z ys H) :
    ∃ W : Nat → Nat → List V → Hp → Prop, (∃ m, W 0 m [] H) ∧ ∀ i m ys H, W i m ys H →
      ((Itl K a).stop i H ∧ Z ys H) ∨ ((Itl K a).go i H ∧ ys.length < sizeLine ∧ ∃ N : List V → Hp → Prop, (∀ ys' H', N ys' H' → ∃ m', m' < m ∧ W (i + 1) m' ys' H') ∧ ∀ x H', (Itl K a).yld i H x H' → B x ys N H') := by
  refine ⟨fun i m ys H => m = xs.length - i ∧ i ≤ xs.length ∧ Pv i ys H, ⟨xs.length, by simp, Nat.zero_le _, h0⟩, ?_⟩
  rintro i m ys H ⟨rfl, hi, p⟩
  have q := hl i ys H hi p
  by_cases hlt : i < xs.length
  · refine .inr ⟨⟨xs, xs[i], q, by simp [hlt]⟩, hy i ys H hlt p, Pv (i + 1), fun ys' H' p' => ⟨xs.length - (i + 1), by omega, rfl, hlt, p'⟩, fun x H' y => ?_⟩
    obtain ⟨e, y⟩ := y
    subst e
    exact hs i x ys _ (y xs q) p
  · have e : i = xs.length := by omega
    subst e
    exact .inl ⟨⟨xs, q, Nat.le_refl _⟩, hd ys H p⟩
theorem comp_range {lo : Int} {n : Nat} {B : V → List V → (List V → Hp → Prop) → Hp → Prop} {Z : List V → Hp → Prop} {H : Hp} (Pv : Nat → List V → Hp → Prop) (h0 : Pv 0 [] H)
    (hy : ∀ i ys H, i < n → Pv i ys H → ys.length < sizeLine) (hs : ∀ i ys H, i < n → Pv i ys H → B (.int (lo + i)) ys (Pv (i + 1)) H) (hd : ∀ ys H, Pv n ys H → Z ys H) :
    ∃ W : Nat → Nat → List V → Hp → Prop, (∃ m, W 0 m [] H) ∧ ∀ i m ys H, W i m ys H →
      ((Itr lo n).stop i H ∧ Z ys H) ∨ ((Itr lo n).go i H ∧ ys.length < sizeLine ∧ ∃ N : List V → Hp → Prop, (∀ ys' H', N ys' H' → ∃ m', m' < m ∧ W (i + 1) m' ys' H') ∧ ∀ x H', (Itr lo n).yld i H x H' → B x ys N H') := by
  refine ⟨fun i m ys H => m = n - i ∧ i ≤ n ∧ Pv i ys H, ⟨n, by simp, Nat.zero_le _, h0⟩, ?_⟩
  rintro i m ys H ⟨rfl, hi, p⟩
  by_cases hlt : i < n
  · refine .inr ⟨hlt, hy i ys H hlt p, Pv (i + 1), fun ys' H' p' => ⟨n - (i + 1), by omega, rfl, hlt, p'⟩, fun x H' y => ?_⟩
    obtain ⟨e, y⟩ := y
    subst e y
    exact hs i ys _ hlt p
  · have e : i = n := by omega
    subst e
    exact .inl ⟨Nat.le_refl _, hd ys H p⟩
end L2
namespace L2
open PySem PySem.Spec PyProof.Rows
inductive Dt where
  | non | bl (b : Bool) | int (i : Int) | str (x : Str) | tup (l : List Dt) | lst (l : List Dt)
mutual
def dEq : Dt → Dt → Bool
  | .non, .non => true
  | .bl a, .bl b => a == b
  | .bl a, .int b => (if a then 1 else 0) == b
  | .int a, .bl b => a == (if b then 1 else 0)
  | .int a, .int b => a == b
  | .str a, .str b => a == b
  | .tup l, .tup m => dEqs l m
  | .lst l, .lst m => dEqs l m
  | _, _ => false
def dEqs : List Dt → List Dt → Bool
  | [], [] => true
  | a :: l, b :: m => dEq a b && dEqs l m
  | _, _ => false
end
mutual
theorem dEq_refl : ∀ d : Dt, dEq d d = true
  | .non => by rw [dEq]
  | .bl a => by rw [dEq]; exact beq_self_eq_true a
  | .int a => by rw [dEq]; exact beq_self_eq_true a
  | .str a => by rw [dEq]; exact beq_self_eq_true a
  | .tup l => by rw [dEq]; exact dEqs_refl l
  | .lst l => by rw [dEq]; exact dEqs_refl l
theorem dEqs_refl : ∀ l : List Dt, dEqs l l = true
  | [] => by rw [dEqs]
  | a :: l => by rw [dEqs, dEq_refl a, dEqs_refl l]; rfl
end
mutual
def dep : Dt → Nat
  | .tup l => deps l + 1
  | .lst l => deps l + 1
  | _ => 0
def deps : List Dt → Nat
  | [] => 0
  | a :: l => max (dep a) (deps l)
end
mutual
def Is (K : PySem.W.Frag) (H : Hp) : Dt → V → Prop
  | .non, v => v = .non
  | .bl b, v => v = .bl b
  | .int i, v => v = .int i
  | .str x, v => v = .str x
  | .tup l, v => ∃ a xs, v = .ref a ∧ SqT K H a xs ∧ Iss K H l xs
  | .lst l, v => ∃ a xs, v = .ref a ∧ SqL K H a xs ∧ Iss K H l xs
def Iss (K : PySem.W.Frag) (H : Hp) : List Dt → List V → Prop
  | [], vs => vs = []
  | d :: l, vs => ∃ v r, vs = v :: r ∧ Is K H d v ∧ Iss K H l r
end
theorem Iss.length {K : PySem.W.Frag} {H : Hp} : ∀ {l : List Dt} {vs : List V}, Iss K H l vs → vs.length = l.length
  | [], vs, h => by rw [Iss] at h; rw [h]; rfl
  | d :: l, vs, h => by
    rw [Iss] at h
    obtain ⟨v, r, rfl, _, h2⟩ := h
    rw [List.length_cons, List.length_cons, Iss.length h2]
theorem Iss.nil {K : PySem.W.Frag} {H : Hp} : Iss K H [] [] := by rw [Iss]
theorem Iss.cons {K : PySem.W.Frag} {H : Hp} {d : Dt} {l : List Dt} {v : V} {r : List V} (h1 : Is K H d v) (h2 : Iss K H l r) : Iss K H (d :: l) (v :: r) := by rw [Iss]; exact ⟨v, r, rfl, h1, h2⟩
theorem Iss.get {K : PySem.W.Frag} {H : Hp} : ∀ {l : List Dt} {vs : List V} {i : Nat} {v : V}, Iss K H l vs → vs[i]? = some v → ∃ d, l[i]? = some d ∧ Is K H d v
  | [], vs, i, v, h, e => by rw [Iss] at h; rw [h] at e; simp at e
  | d :: l, vs, 0, v, h, e => by
    rw [Iss] at h
    obtain ⟨w, r, rfl, h1, h2⟩ := h
    have e : w = v := Option.some.inj e
    subst e
    exact ⟨d, rfl, h1⟩
  | d :: l, vs, i + 1, v, h, e => by
    rw [Iss] at h
    obtain ⟨w, r, rfl, h1, h2⟩ := h
    exact Iss.get h2 (i := i) e
theorem Iss.ints {K : PySem.W.Frag} {H : Hp} : ∀ ns : List Int, Iss K H (ns.map Dt.int) (ns.map V.int)
  | [] => .nil
  | n :: ns => .cons (by rw [Is]) (Iss.ints ns)
theorem Iss.strs {K : PySem.W.Frag} {H : Hp} : ∀ ns : List Str, Iss K H (ns.map Dt.str) (ns.map V.str)
  | [] => .nil
  | n :: ns => .cons (by rw [Is]) (Iss.strs ns)
theorem Same.tup {K : PySem.W.Frag} {H H' : Hp} {a : Addr} {xs : List V} (e : Same H H') (h : SqT K H a xs) : SqT K H' a xs := by
  rcases h with (h | ⟨o, h⟩) | h
  · exact .inl (.inl (e _ _ h))
  · exact .inl (.inr ⟨o, e _ _ h⟩)
  · exact .inr h
mutual
theorem Is.same {K : PySem.W.Frag} {H H' : Hp} (s : Same H H') : ∀ {d : Dt} {v : V}, Is K H d v → Is K H' d v
  | .non, v, h => by rw [Is] at h ⊢; exact h
  | .bl b, v, h => by rw [Is] at h ⊢; exact h
  | .int i, v, h => by rw [Is] at h ⊢; exact h
  | .str x, v, h => by rw [Is] at h ⊢; exact h
  | .tup l, v, h => by
    rw [Is] at h ⊢
    obtain ⟨a, xs, e, h1, h2⟩ := h
    exact ⟨a, xs, e, s.tup h1, Iss.same s h2⟩
  | .lst l, v, h => by
    rw [Is] at h ⊢
    obtain ⟨a, xs, e, h1, h2⟩ := h
    exact ⟨a, xs, e, s.seq h1, Iss.same s h2⟩
theorem Iss.same {K : PySem.W.Frag} {H H' : Hp} (s : Same H H') : ∀ {l : List Dt} {vs : List V}, Iss K H l vs → Iss K H' l vs
  | [], vs, h => by rw [Iss] at h ⊢; exact h
  | d :: l, vs, h => by
    rw [Iss] at h ⊢
    obtain ⟨v, r, e, h1, h2⟩ := h
    exact ⟨v, r, e, Is.same s h1, Iss.same s h2⟩
end
def ej (l m : List Dt) (j : Nat) : Bool := match l[j]?, m[j]? with
  | some a, some b => dEq a b
  | _, _ => false
theorem dEqs_all : ∀ l m : List Dt, ((List.range (min l.length m.length)).all (ej l m) && l.length == m.length) = dEqs l m
  | [], [] => by rw [dEqs]; rfl
  | [], b :: m => by simp [dEqs]
  | a :: l, [] => by simp [dEqs]
  | a :: l, b :: m => by
    rw [dEqs, ← dEqs_all l m]
    have e : min (a :: l).length (b :: m).length = min l.length m.length + 1 := by simp only [List.length_cons]; omega
    rw [e, List.range_succ_eq_map, List.all_cons, List.all_map]
    have e2 : (ej (a :: l) (b :: m) ∘ Nat.succ) = ej l m := by funext j; rfl
    have e3 : ej (a :: l) (b :: m) 0 = dEq a b := rfl
    have e4 : ((a :: l).length == (b :: m).length) = (l.length == m.length) := by simp
    rw [e2, e3, e4, Bool.and_assoc]
section
variable {X : Cx} {pins : List (Addr × Obj)} {σ : St} {H : Hp} {s : Shared}
theorem Inv.tupleD {K : PySem.W.Frag} (I : Inv X pins σ H s) (hK : X.K = K) {l : List Dt} {v : V} {u : Value} (h : Is K H (.tup l) v) (r : RelV v u) : ∃ (a : Addr) (xs : List V) (its : List Value), v = .ref a ∧ u = .ref a ∧ SqT K H a xs ∧ Iss K H l xs ∧ Vals xs its ∧ s.heap.IsTuple a its.toArray := by
  subst hK
  rw [Is] at h
  obtain ⟨a, xs, rfl, h1, h2⟩ := h
  obtain ⟨its, h3, h4, _⟩ := I.tuple h1
  exact ⟨a, xs, its, rfl, r, h1, h2, h3, h4⟩
theorem Inv.listD {K : PySem.W.Frag} (I : Inv X pins σ H s) (hK : X.K = K) {l : List Dt} {v : V} {u : Value} (h : Is K H (.lst l) v) (r : RelV v u) : ∃ (a : Addr) (xs : List V) (its : List Value), v = .ref a ∧ u = .ref a ∧ SqL K H a xs ∧ Iss K H l xs ∧ Vals xs its ∧ s.heap.IsList a its.toArray := by
  subst hK
  rw [Is] at h
  obtain ⟨a, xs, rfl, h1, h2⟩ := h
  obtain ⟨its, h3, h4, _⟩ := I.list h1
  exact ⟨a, xs, its, rfl, r, h1, h2, h3, h4.isList⟩
mutual
theorem eq_same (I : Inv X pins σ H s) : ∀ (d e : Dt) {v : V}, Is X.K H d v → Is X.K H e v → dEq d e = true
  | .tup l, .tup m, v, h1, h2 => by
    rw [Is] at h1; rw [Is] at h2
    obtain ⟨a, xs, rfl, q1, q2⟩ := h1
    obtain ⟨b, ys, e, q3, q4⟩ := h2
    cases e
    have e := I.tuple_inj q1 q3
    subst e
    rw [dEq]
    exact eqs_same I l m q2 q4
  | .lst l, .lst m, v, h1, h2 => by
    rw [Is] at h1; rw [Is] at h2
    obtain ⟨a, xs, rfl, q1, q2⟩ := h1
    obtain ⟨b, ys, e, q3, q4⟩ := h2
    cases e
    have e := I.list_inj q1 q3
    subst e
    rw [dEq]
    exact eqs_same I l m q2 q4
  | .tup l, .lst m, v, h1, h2 => by
    rw [Is] at h1; rw [Is] at h2
    obtain ⟨a, xs, rfl, q1, q2⟩ := h1
    obtain ⟨b, ys, e, q3, q4⟩ := h2
    cases e
    obtain ⟨i1, _, k1, _⟩ := I.tuple q1
    obtain ⟨i2, _, k2, _⟩ := I.list q3
    exact absurd rfl (SeqAt.ne_of_list_tuple k2.isList k1)
  | .lst l, .tup m, v, h1, h2 => by
    rw [Is] at h1; rw [Is] at h2
    obtain ⟨a, xs, rfl, q1, q2⟩ := h1
    obtain ⟨b, ys, e, q3, q4⟩ := h2
    cases e
    obtain ⟨i1, _, k1, _⟩ := I.tuple q3
    obtain ⟨i2, _, k2, _⟩ := I.list q1
    exact absurd rfl (SeqAt.ne_of_list_tuple k2.isList k1)
  | .non, e, v, h1, h2 => by
    rw [Is] at h1; subst h1
    cases e <;> rw [Is] at h2 <;> first | rfl | (exfalso; first | (cases h2; done) | (obtain ⟨_, _, z, _⟩ := h2; cases z))
  | .bl b, e, v, h1, h2 => by
    rw [Is] at h1; subst h1
    cases e <;> rw [Is] at h2 <;> first | (cases h2; rw [dEq]; exact beq_self_eq_true _) | (exfalso; first | (cases h2; done) | (obtain ⟨_, _, z, _⟩ := h2; cases z))
  | .int b, e, v, h1, h2 => by
    rw [Is] at h1; subst h1
    cases e <;> rw [Is] at h2 <;> first | (cases h2; rw [dEq]; exact beq_self_eq_true _) | (exfalso; first | (cases h2; done) | (obtain ⟨_, _, z, _⟩ := h2; cases z))
  | .str b, e, v, h1, h2 => by
    rw [Is] at h1; subst h1
    cases e <;> rw [Is] at h2 <;> first | (cases h2; rw [dEq]; exact beq_self_eq_true _) | (exfalso; first | (cases h2; done) | (obtain ⟨_, _, z, _⟩ := h2; cases z))
  | .tup l, .non, v, h1, h2 => by rw [Is] at h1; rw [Is] at h2; obtain ⟨_, _, z, _⟩ := h1; rw [h2] at z; cases z
  | .tup l, .bl _, v, h1, h2 => by rw [Is] at h1; rw [Is] at h2; obtain ⟨_, _, z, _⟩ := h1; rw [h2] at z; cases z
  | .tup l, .int _, v, h1, h2 => by rw [Is] at h1; rw [Is] at h2; obtain ⟨_, _, z, _⟩ := h1; rw [h2] at z; cases z
  | .tup l, .str _, v, h1, h2 => by rw [Is] at h1; rw [Is] at h2; obtain ⟨_, _, z, _⟩ := h1; rw [h2] at z; cases z
  | .lst l, .non, v, h1, h2 => by rw [Is] at h1; rw [Is] at h2; obtain ⟨_, _, z, _⟩ := h1; rw [h2] at z; cases z
  | .lst l, .bl _, v, h1, h2 => by rw [Is] at h1; rw [Is] at h2; obtain ⟨_, _, z, _⟩ := h1; rw [h2] at z; cases z
  | .lst l, .int _, v, h1, h2 => by rw [Is] at h1; rw [Is] at h2; obtain ⟨_, _, z, _⟩ := h1; rw [h2] at z; cases z
  | .lst l, .str _, v, h1, h2 => by rw [Is] at h1; rw [Is] at h2; obtain ⟨_, _, z, _⟩ := h1; rw [h2] at z; cases z
theorem eqs_same (I : Inv X pins σ H s) : ∀ (l m : List Dt) {vs : List V}, Iss X.K H l vs → Iss X.K H m vs → dEqs l m = true
  | [], [], vs, h1, h2 => by rw [dEqs]
  | [], b :: m, vs, h1, h2 => by rw [Iss] at h1; rw [Iss] at h2; obtain ⟨_, _, z, _⟩ := h2; rw [h1] at z; cases z
  | a :: l, [], vs, h1, h2 => by rw [Iss] at h1; rw [Iss] at h2; obtain ⟨_, _, z, _⟩ := h1; rw [h2] at z; cases z
  | a :: l, b :: m, vs, h1, h2 => by
    rw [Iss] at h1; rw [Iss] at h2
    obtain ⟨v, r, rfl, q1, q2⟩ := h1
    obtain ⟨v', r', e, q3, q4⟩ := h2
    cases e
    rw [dEqs, eq_same I a b q1 q3, eqs_same I l m q2 q4]
    rfl
end
theorem dep_le {d : Dt} : ∀ {l : List Dt} {j : Nat}, l[j]? = some d → dep d ≤ deps l
  | [], j, h => by simp at h
  | a :: l, 0, h => by
    have e : a = d := Option.some.inj h
    subst e
    rw [deps]; omega
  | a :: l, j + 1, h => by
    have q := dep_le (l := l) (j := j) h
    rw [deps]; omega
theorem items_eq {A : Around} {l m : List Dt} {xs ys : List V} {us vs : List Value} (ih : ∀ (j : Nat) (d e : Dt) {x y : V} {u v : Value}, l[j]? = some d → m[j]? = some e → Is X.K H d x → Is X.K H e y → RelV x u → RelV y v → SeqAt.EqAt A s u v (dEq d e))
    (h1 : Iss X.K H l xs) (h2 : Iss X.K H m ys) (r1 : Vals xs us) (r2 : Vals ys vs) : ∀ j (q1 : j < us.toArray.size) (q2 : j < vs.toArray.size), SeqAt.EqAt A s us.toArray[j] vs.toArray[j] (ej l m j) := by
  intro j q1 q2
  have q1' : j < us.length := by simpa using q1
  have q2' : j < vs.length := by simpa using q2
  have e1 : us.toArray[j] = us[j] := by simp
  have e2 : vs.toArray[j] = vs[j] := by simp
  rw [e1, e2]
  have lx : j < xs.length := by rw [r1.length]; exact q1'
  have ly : j < ys.length := by rw [r2.length]; exact q2'
  obtain ⟨u, hu, ru⟩ := r1.get (List.getElem?_eq_getElem lx)
  obtain ⟨v, hv, rv⟩ := r2.get (List.getElem?_eq_getElem ly)
  obtain ⟨d, hd, id⟩ := h1.get (List.getElem?_eq_getElem lx)
  obtain ⟨e, he, ie⟩ := h2.get (List.getElem?_eq_getElem ly)
  have e3 : us[j] = u := by rw [List.getElem?_eq_getElem q1'] at hu; exact Option.some.inj hu
  have e4 : vs[j] = v := by rw [List.getElem?_eq_getElem q2'] at hv; exact Option.some.inj hv
  have e5 : ej l m j = dEq d e := by unfold ej; rw [hd, he]
  rw [e3, e4, e5]
  exact ih j d e hd he id ie ru rv
theorem eqs_tup {l m : List Dt} {xs ys : List V} {us vs : List Value} (h1 : Iss X.K H l xs) (h2 : Iss X.K H m ys) (r1 : Vals xs us) (r2 : Vals ys vs) : ((List.range (min us.toArray.size vs.toArray.size)).all (ej l m) && us.toArray.size == vs.toArray.size) = dEqs l m := by
  have e1 : us.toArray.size = l.length := by rw [List.size_toArray, ← r1.length, h1.length]
  have e2 : vs.toArray.size = m.length := by rw [List.size_toArray, ← r2.length, h2.length]
  rw [e1, e2, dEqs_all]
theorem eqAt_D (I : Inv X pins σ H s) : ∀ (n : Nat) (A : Around) (d e : Dt) {x y : V} {u v : Value}, dep d ≤ n → A.units + n + 1 < cLine → Is X.K H d x → Is X.K H e y → RelV x u → RelV y v → SeqAt.EqAt A s u v (dEq d e) := by
  intro n
  induction n with
  | zero =>
    intro A d e x y u v hn hu h1 h2 r1 r2
    have hu0 : A.units < cLine := by omega
    cases d with
    | tup l => rw [dep] at hn; omega
    | lst l => rw [dep] at hn; omega
    | _ => 
      rw [Is] at h1; subst h1
      cases e with
      | tup m =>
        obtain ⟨a, xs, its, rfl, rfl, q1, q2, q3, q4⟩ := I.tupleD rfl h2 r2
        first
          | (cases r1; exact SeqAt.EqAt.none_tuple q4 hu0)
          | (cases r1; exact SeqAt.EqAt.bool_tuple _ q4 hu0)
          | (obtain ⟨t, rfl⟩ := r1; exact SeqAt.EqAt.int_tuple _ t q4 hu0)
          | (obtain ⟨t, rfl⟩ := r1; exact SeqAt.EqAt.str_tuple _ t q4 hu0)
      | lst m =>
        obtain ⟨a, xs, its, rfl, rfl, q1, q2, q3, q4⟩ := I.listD rfl h2 r2
        first
          | (cases r1; exact SeqAt.EqAt.none_list q4 hu0)
          | (cases r1; exact SeqAt.EqAt.bool_list _ q4 hu0)
          | (obtain ⟨t, rfl⟩ := r1; exact SeqAt.EqAt.int_list _ t q4 hu0)
          | (obtain ⟨t, rfl⟩ := r1; exact SeqAt.EqAt.str_list _ t q4 hu0)
      | _ =>
        rw [Is] at h2; subst h2
        exact eqAt_V r1 r2 rfl rfl
  | succ n ih =>
    intro A d e x y u v hn hu h1 h2 r1 r2
    have hu0 : A.units < cLine := by omega
    have hu1 : A.in1.units + n + 1 < cLine := by show A.units + 1 + n + 1 < cLine; omega
    cases d with
    | tup l =>
      obtain ⟨a, xs, its, rfl, rfl, q1, q2, q3, q4⟩ := I.tupleD rfl h1 r1
      rw [dep] at hn
      cases e with
      | tup m =>
        obtain ⟨b, ys, ist, rfl, rfl, p1, p2, p3, p4⟩ := I.tupleD rfl h2 r2
        by_cases hab : a = b
        · subst hab
          rw [eq_same I _ _ h1 h2]
          exact SeqAt.EqAt.same _
        · refine SeqAt.EqAt.of_refs hab ?_
          have z := SeqAt.RcAt.tuples q4 p4 hu0 (items_eq (X := X) (fun j d e {x y u v} hd _ g1 g2 g3 g4 => ih A.in1 d e (Nat.le_trans (dep_le hd) (by omega)) hu1 g1 g2 g3 g4) q2 p2 q3 p3)
          rw [eqs_tup q2 p2 q3 p3] at z
          rw [dEq]
          exact z
      | lst m =>
        obtain ⟨b, ys, ist, rfl, rfl, p1, p2, p3, p4⟩ := I.listD rfl h2 r2
        exact SeqAt.EqAt.tuple_list q4 p4 hu0
      | non => rw [Is] at h2; subst h2; cases r2; exact SeqAt.EqAt.tuple_none q4 hu0
      | bl b => rw [Is] at h2; subst h2; cases r2; exact SeqAt.EqAt.tuple_bool _ q4 hu0
      | int i => rw [Is] at h2; subst h2; obtain ⟨t, rfl⟩ := r2; exact SeqAt.EqAt.tuple_int _ t q4 hu0
      | str i => rw [Is] at h2; subst h2; obtain ⟨t, rfl⟩ := r2; exact SeqAt.EqAt.tuple_str _ t q4 hu0
    | lst l =>
      obtain ⟨a, xs, its, rfl, rfl, q1, q2, q3, q4⟩ := I.listD rfl h1 r1
      rw [dep] at hn
      cases e with
      | lst m =>
        obtain ⟨b, ys, ist, rfl, rfl, p1, p2, p3, p4⟩ := I.listD rfl h2 r2
        by_cases hab : a = b
        · subst hab
          rw [eq_same I _ _ h1 h2]
          exact SeqAt.EqAt.same _
        · refine SeqAt.EqAt.of_refs hab ?_
          rw [dEq]
          have ei := eqs_tup q2 p2 q3 p3
          by_cases hz : its.toArray.size = ist.toArray.size
          · have z := SeqAt.RcAt.lists q4 p4 hz hu0 (items_eq (X := X) (fun j d e {x y u v} hd _ g1 g2 g3 g4 => ih A.in1 d e (Nat.le_trans (dep_le hd) (by omega)) hu1 g1 g2 g3 g4) q2 p2 q3 p3)
            rw [← hz, Nat.min_self, beq_self_eq_true, Bool.and_true] at ei
            rw [ei] at z
            exact z
          · have hz' : (its.toArray.size == ist.toArray.size) = false := by simpa using hz
            rw [hz', Bool.and_false] at ei
            rw [← ei]
            exact SeqAt.RcAt.lists_lengths q4 p4 (by simpa using hz) hu0
      | tup m =>
        obtain ⟨b, ys, ist, rfl, rfl, p1, p2, p3, p4⟩ := I.tupleD rfl h2 r2
        exact SeqAt.EqAt.list_tuple q4 p4 hu0
      | non => rw [Is] at h2; subst h2; cases r2; exact SeqAt.EqAt.list_none q4 hu0
      | bl b => rw [Is] at h2; subst h2; cases r2; exact SeqAt.EqAt.list_bool _ q4 hu0
      | int i => rw [Is] at h2; subst h2; obtain ⟨t, rfl⟩ := r2; exact SeqAt.EqAt.list_int _ t q4 hu0
      | str i => rw [Is] at h2; subst h2; obtain ⟨t, rfl⟩ := r2; exact SeqAt.EqAt.list_str _ t q4 hu0
    | _ =>
      rw [Is] at h1; subst h1
      cases e with
      | tup m =>
        obtain ⟨a, xs, its, rfl, rfl, q1, q2, q3, q4⟩ := I.tupleD rfl h2 r2
        first
          | (cases r1; exact SeqAt.EqAt.none_tuple q4 hu0)
          | (cases r1; exact SeqAt.EqAt.bool_tuple _ q4 hu0)
          | (obtain ⟨t, rfl⟩ := r1; exact SeqAt.EqAt.int_tuple _ t q4 hu0)
          | (obtain ⟨t, rfl⟩ := r1; exact SeqAt.EqAt.str_tuple _ t q4 hu0)
      | lst m =>
        obtain ⟨a, xs, its, rfl, rfl, q1, q2, q3, q4⟩ := I.listD rfl h2 r2
        first
          | (cases r1; exact SeqAt.EqAt.none_list q4 hu0)
          | (cases r1; exact SeqAt.EqAt.bool_list _ q4 hu0)
          | (obtain ⟨t, rfl⟩ := r1; exact SeqAt.EqAt.int_list _ t q4 hu0)
          | (obtain ⟨t, rfl⟩ := r1; exact SeqAt.EqAt.str_list _ t q4 hu0)
      | _ =>
        rw [Is] at h2; subst h2
        exact eqAt_V r1 r2 rfl rfl
end
end L2
namespace L2
open PySem PySem.Spec PyProof.Rows
section
variable {X : Cx} {a b e o : Expr} {ta tb te : TE} {pos : Pos}
def seqD : Dt → Bool
  | .tup _ => true
  | .lst _ => true
  | _ => false
def rEqD (K : PySem.W.Frag) : R2 := fun x y H Q => ∃ d e, Is K H d x ∧ Is K H e y ∧ seqD d = true ∧ seqD e = true ∧ dep d ≤ 50 ∧ Q (.bl (dEq d e)) H
def rNeD (K : PySem.W.Frag) : R2 := fun x y H Q => ∃ d e, Is K H d x ∧ Is K H e y ∧ seqD d = true ∧ seqD e = true ∧ dep d ≤ 50 ∧ Q (.bl (!dEq d e)) H
theorem eqD_core {pins : List (Addr × Obj)} {s : Shared} {σ : St} {H : Hp} {d e : Dt} {x y : V} {v u : Value} (hu : X.A.units + 60 < cLine) (I : Inv X pins σ H s) (h1 : Is X.K H d x) (h2 : Is X.K H e y) (g1 : seqD d = true) (g2 : seqD e = true) (g3 : dep d ≤ 50) (rx : RelV x v) (ry : RelV y u) :
    SeqAt.RcAt X.A s v u (dEq d e) ∧ SeqAt.RcNeAt X.A s v u (!dEq d e) := by
  have hu0 : X.A.units < cLine := by omega
  have hu1 : X.A.in1.units + 50 + 1 < cLine := by show X.A.units + 1 + 50 + 1 < cLine; omega
  cases d with
  | tup l =>
    obtain ⟨a, xs, its, rfl, rfl, q1, q2, q3, q4⟩ := I.tupleD rfl h1 rx
    rw [dep] at g3
    cases e with
    | tup m =>
      obtain ⟨b, ys, ist, rfl, rfl, p1, p2, p3, p4⟩ := I.tupleD rfl h2 ry
      have it := items_eq (X := X) (A := X.A.in1) (fun j d e {x y u v} hd _ g1 g2 g3 g4 => eqAt_D I 50 X.A.in1 d e (Nat.le_trans (dep_le hd) (by omega)) hu1 g1 g2 g3 g4) q2 p2 q3 p3
      have z1 := SeqAt.RcAt.tuples q4 p4 hu0 it
      have z2 := SeqAt.RcNeAt.tuples q4 p4 hu0 it
      rw [eqs_tup q2 p2 q3 p3] at z1 z2
      rw [dEq]
      exact ⟨z1, z2⟩
    | lst m =>
      obtain ⟨b, ys, ist, rfl, rfl, p1, p2, p3, p4⟩ := I.listD rfl h2 ry
      exact ⟨SeqAt.RcAt.tuple_list q4 p4 hu0, SeqAt.RcNeAt.tuple_list q4 p4 hu0⟩
    | _ => cases g2
  | lst l =>
    obtain ⟨a, xs, its, rfl, rfl, q1, q2, q3, q4⟩ := I.listD rfl h1 rx
    rw [dep] at g3
    cases e with
    | lst m =>
      obtain ⟨b, ys, ist, rfl, rfl, p1, p2, p3, p4⟩ := I.listD rfl h2 ry
      have it := items_eq (X := X) (A := X.A.in1) (fun j d e {x y u v} hd _ g1 g2 g3 g4 => eqAt_D I 50 X.A.in1 d e (Nat.le_trans (dep_le hd) (by omega)) hu1 g1 g2 g3 g4) q2 p2 q3 p3
      rw [dEq]
      have ei := eqs_tup q2 p2 q3 p3
      by_cases hz : its.toArray.size = ist.toArray.size
      · have z1 := SeqAt.RcAt.lists q4 p4 hz hu0 it
        have z2 := SeqAt.RcNeAt.lists q4 p4 hz hu0 it
        rw [← hz, Nat.min_self, beq_self_eq_true, Bool.and_true] at ei
        rw [ei] at z1 z2
        exact ⟨z1, z2⟩
      · have hz' : (its.toArray.size == ist.toArray.size) = false := by simpa using hz
        rw [hz', Bool.and_false] at ei
        rw [← ei]
        exact ⟨SeqAt.RcAt.lists_lengths q4 p4 (by simpa using hz) hu0, SeqAt.RcNeAt.lists_lengths q4 p4 (by simpa using hz) hu0⟩
    | tup m =>
      obtain ⟨b, ys, ist, rfl, rfl, p1, p2, p3, p4⟩ := I.tupleD rfl h2 ry
      exact ⟨SeqAt.RcAt.list_tuple q4 p4 hu0, SeqAt.RcNeAt.list_tuple q4 p4 hu0⟩
    | _ => cases g2
  | _ => cases g1
theorem op_eqD (hu : X.A.units + 60 < cLine) : OpR X (compareOp .Eq) (rEqD X.K) := by
  intro pins s σ H x y v u Q I rx ry h
  obtain ⟨d, e, h1, h2, g1, g2, g3, q⟩ := h
  exact (eqD_core hu I h1 h2 g1 g2 g3 rx ry).1 _ _ _ _ ⟨.bl (dEq d e), H, I, rfl, q⟩
theorem op_neD (hu : X.A.units + 60 < cLine) : OpR X (compareOp .NotEq) (rNeD X.K) := by
  intro pins s σ H x y v u Q I rx ry h
  obtain ⟨d, e, h1, h2, g1, g2, g3, q⟩ := h
  exact (eqD_core hu I h1 h2 g1 g2 g3 rx ry).2 _ _ _ _ ⟨.bl (!dEq d e), H, I, rfl, q⟩
end
section
variable {X : Cx} {a b e o : Expr} {ta tb te : TE} {pos : Pos}
open Classical in
theorem call_isinstC : CallR X (.builtin "isinstance") (fun xs H Q => ∃ x C t b, xs = [x, .ref C] ∧ TyOf X.K H x t ∧ PySem.W.kitOne X.K t (.ref C) = some b ∧ Q (.bl b) H) := by
  intro pins s σ H xs us Q I r h
  obtain ⟨x, C, t, b, rfl, ty, e, q⟩ := h
  obtain ⟨u, w', rfl, ru, rw'⟩ := vals2 r
  cases (show w' = Value.ref C from rw')
  exact isinst_ok I ru ty e fun tk => ⟨.bl b, H, I.tok tk, rfl, q⟩
structure Mk0 (K : PySem.W.Frag) (C : Addr) : Prop where
  makes : PySem.W.makesIn K C = true
  init : PySem.W.findIn K (.ref C) "__init__" = some (some (.builtin "object.__init__"))
  kp : PySem.W.keepIn K (.ref C) = true
def tMake0 (C : Addr) : TE := fun _ H Q => ∀ x dx, H x = none → H dx = none → dx ≠ x → Q (.ref x) (upd (upd H dx (.own x)) x (.ins C dx []))
theorem pe_make00 {C : Addr} {x : Str} {p : Pos} (M : Mk0 X.K C) (hg : Gl X x) (hm : X.mg x = some (.ref C)) (hdb : (x == ("__debug__" : Str)) = false := by decide) : PE X (.Call (.Name x p) [] [] pos) (tMake0 C) := by
  intro pins s σ H Q I h
  refine wpAny_Call_Name_kw (ld_glob I hg hm ?_ hdb)
  refine PySem.W.callWith_K0 I.kIn M.kp (wpAny_call ?_)
  have hq := h (s.heap.objs.size + 1) s.heap.objs.size (I.hok.fresh (Nat.le_succ _)) (I.hok.fresh (Nat.le_refl _)) (Nat.ne_of_lt (Nat.lt_succ_self _))
  have I2 := Inv.made (C := C) I
  have Y := PySem.W.makes_of (M := model X.prog X.w) I.kIn M.makes
  refine make_map0 I.kIn M.makes M.init (fun self => PySem.W.Looks.of_pure (PySem.W.oi_bind self)) ?_
  obtain ⟨hh, g, d, t, os⟩ := s
  have e : ((hh.push PySem.W.emptyDict).push (PySem.W.instObj C hh.objs.size)).get? (hh.objs.size + 1) = some (PySem.W.instObj C hh.objs.size) := by
    have := Heap.get?_push_size (hh.push PySem.W.emptyDict) (o := PySem.W.instObj C hh.objs.size) rfl
    rw [Heap.size_push] at this
    exact this
  have t1 : PySem.W.Looks (model X.prog X.w) ((hh.push PySem.W.emptyDict).push (PySem.W.instObj C hh.objs.size)) (typeOf (.ref (hh.objs.size + 1))) (.ref C) := (PySem.W.Looks.ld e).andThen .now
  have t2 : PySem.W.Looks (model X.prog X.w) ((hh.push PySem.W.emptyDict).push (PySem.W.instObj C hh.objs.size)) (isInstance (.ref (hh.objs.size + 1)) (.type "object")) true := t1.andThen (Y.top.keeps fun b o e => Heap.get?_push_of_some _ (Heap.get?_push_of_some _ e))
  refine codeAny_call_builtin PySem.W.oi_plain PySem.W.entry_oi (@PySem.W.check_slot (model X.prog X.w) _ _ _ "object.__init__" "object" "__init__" (.ref (hh.objs.size + 1)) [] [] _ PySem.W.oi_kind PySem.W.oi_split t2 (PySem.W.oi_args (.ref (hh.objs.size + 1))) ?_)
  rw [PySem.W.oi_run]
  exact wpAny_pure ⟨rfl, V.ref (hh.objs.size + 1), _, I2, rfl, hq⟩
end
section
variable {X : Cx} {a : Expr} {ta : TA} {elts : List Expr} {x1 : Nat} {tpos p pos : Pos}
end
def strsOf : List Expr → Option (List Str)
  | [] => some []
  | .Constant (.str x) _ _ :: r => (strsOf r).map (x :: ·)
  | _ => none
theorem pa_strs {X : Cx} : ∀ {es : List Expr} {xs : List Str}, strsOf es = some xs → PA X es (fun _ H Q => Q (xs.map V.str) H)
  | [], xs, h => by
    cases (Option.some.inj h : [] = xs)
    exact pa_nil
  | e :: r, xs, h => by
    cases e with
    | Constant c j pos =>
      cases c with
      | str x =>
        have h : (strsOf r).map (x :: ·) = some xs := h
        cases q : strsOf r with
        | none => rw [q] at h; cases h
        | some ys =>
          rw [q] at h
          cases (Option.some.inj h : x :: ys = xs)
          exact pa_cons (te := tC (.str x)) pe_str (pa_strs q)
      | _ => cases h
    | _ => cases h
def tCut (t : TS) : TS := fun D σ H => ∃ I : St → Hp → Prop, t { D with nx := I } σ H ∧ ∀ σ' H', I σ' H' → D.nx σ' H'
theorem ps_cut {X : Cx} {st : Stmt} {t : TS} (h : PS X st t) : PS X st (tCut t) := by
  intro pins s σ H D I0 h0
  obtain ⟨I, h1, h2⟩ := h0
  refine thn (h pins s σ H _ I0 h1) fun f s' q => ?_
  cases f with
  | next => obtain ⟨σ', H', q1, q2⟩ := q; exact ⟨σ', H', q1, h2 _ _ q2⟩
  | brk => exact q
  | cont => exact q
  | ret u => exact q
def tCutT (t : TT) : TT := fun σ H Q => ∃ I : Bool → Hp → Prop, t σ H I ∧ ∀ b H', I b H' → Q b H'
theorem pt_cut {X : Cx} {e : Expr} {t : TT} (h : PT X e t) : PT X e (tCutT t) := by
  intro pins s σ H Q I0 h0
  obtain ⟨I, h1, h2⟩ := h0
  exact thn (h pins s σ H _ I0 h1) fun b s' ⟨H', q1, q2⟩ => ⟨H', q1, h2 _ _ q2⟩
end L2
namespace L2
open PySem PySem.Spec PyProof.Rows
section
variable {X : Cx} {a b e o : Expr} {ta tb te : TE} {pos : Pos}
theorem bits_of {n : Nat} {i : Int} (h : i.natAbs < 2 ^ n) : Builtin.Int.intBits i ≤ n := PySem.intBits_le_iff.mpr h
def CBig (i j : Int) : Prop := ∃ m n : Nat, m ≤ 100000 ∧ n ≤ 100000 ∧ i.natAbs < 2 ^ m ∧ j.natAbs < 2 ^ n
theorem op_mulB : OpR X (binaryOp .Mult) (rI CBig fun i j => .int (i * j)) := opI fun _ _ _ _ _ _ _ hc q => by
  obtain ⟨m, n, hm, hn, h1, h2⟩ := hc
  exact mul_int q (.of_bits (Nat.le_trans (bits_of h1) (by omega)) (Nat.le_trans (bits_of h2) (by omega)))
theorem strsAre_of : ∀ {ys : List Str} {us : List Value}, Vals (ys.map V.str) us → StrsAre us ys
  | [], us, h => by cases h; exact .nil
  | y :: ys, us, h => by
    cases h with
    | cons r rr =>
      obtain ⟨t, rfl⟩ := r
      exact .cons _ _ (strsAre_of rr)
def rJoin (K : PySem.W.Frag) : V → List V → Hp → VK → Prop := fun x vs H Q => ∃ z p ys, x = .str z ∧ vs = [.ref p] ∧ SqL K H p (ys.map V.str) ∧ (ys.map (·.length)).sum + ys.length * z.length ≤ 16777216 ∧ Q (.str (Txt.join z ys)) H
theorem mt_join : MtR X "str.join" (rJoin X.K) := by
  intro pins s σ H x vs v us Q I rx rv h
  obtain ⟨z, p, ys, rfl, rfl, hx, hl, q⟩ := h
  obtain ⟨t, rfl⟩ := rx
  obtain ⟨u, rfl, ru⟩ := vals1 rv
  cases ru
  obtain ⟨its, r, pl, hz⟩ := I.list hx
  exact join_list pl.isList (strsAre_of r) hl fun t' k => ⟨.str (Txt.join z ys), H, I.tok k, ⟨_, rfl⟩, q⟩
def rIndex : V → List V → Hp → VK → Prop := fun x vs H Q => ∃ (z y : Str) (i : Nat) (rest : List Nat), x = .str z ∧ vs = [.str y] ∧ Builtin.Str.occurrences z y 0 z.length 1 = i :: rest ∧ Q (.int i) H
theorem mt_indexS : MtR X "str.index" rIndex := by
  intro pins s σ H x vs v us Q I rx rv h
  obtain ⟨z, y, i, rest, rfl, rfl, ho, q⟩ := h
  obtain ⟨t, rfl⟩ := rx
  obtain ⟨u, rfl, ru⟩ := vals1 rv
  obtain ⟨t', rfl⟩ := ru
  exact SC.index ho ⟨.int i, H, I.tok _, ⟨_, rfl⟩, q⟩
theorem part_of {v : Value} {o : Option Int} (h : IsPart v o) : ∃ l : Option (Int × Tok), v = partValue l ∧ l.map (·.1) = o := by
  cases h with
  | none => exact ⟨none, rfl, rfl⟩
  | int i t => exact ⟨some (i, t), rfl, rfl⟩
theorem sl_str : SlR X (fun x lo hi H Q => ∃ z, x = .str z ∧ z.length ≤ sizeLine ∧ Q (.str (Txt.slice z lo hi)) H) := by
  intro pins s σ H x v vl vu lo hi sl Q I rx hs pl pu h
  obtain ⟨z, rfl, hz, q⟩ := h
  obtain ⟨t, rfl⟩ := rx
  obtain ⟨l, rfl, el⟩ := part_of pl
  obtain ⟨u, rfl, eu⟩ := part_of pu
  refine ⟨"str", _, F.slot_str_getitem.lookup, typeIs_str s z t, ?_⟩
  refine wpAny_getItem_str_slice (l := l) (u := u) (st := none) hs rfl ?_
  unfold sliceMade slicePicked
  rw [el, eu]
  have e : ∀ t' k, EP X pins σ Q (.str (Txt.slice z lo hi) t') { s with toks := k } := fun t' k => ⟨.str (Txt.slice z lo hi), H, I.tok k, ⟨_, rfl⟩, q⟩
  have hl := Txt.slice_le z lo hi
  unfold Txt.slice at e hl
  refine post_val_or_made (fun hc => ?_) e
  rw [if_neg (show ¬ (((1 : Int) == 1 && (Builtin.Str.strSliceIndices lo hi 1 z.length).length == z.length) = true) from hc)] at hl
  exact Nat.le_trans hl hz
theorem op_catL : OpR X (binaryOp .Add) (fun x y H Q => ∃ l b xs zs, x = .ref l ∧ y = .ref b ∧ SqL X.K H l xs ∧ SqL X.K H b zs ∧ xs.length + zs.length ≤ sizeLine ∧ ∀ p, H p = none → Q (.ref p) (upd H p (.lst (xs ++ zs)))) := by
  intro pins s σ H x y v u Q I rx ry h
  obtain ⟨l, b, xs, zs, rfl, rfl, hH, hB, hz, q⟩ := h
  cases rx
  cases ry
  obtain ⟨its, r, pl, z1⟩ := I.list hH
  obtain ⟨its2, r2, pl2, z2⟩ := I.list hB
  have hl := r.length
  have hl2 := r2.length
  obtain ⟨⟨cls, dd, data, sl⟩, ho, hc, n, hd⟩ := pl.isList
  obtain ⟨⟨cls2, dd2, data2, sl2⟩, ho2, hc2, n2, hd2⟩ := pl2.isList
  simp only at hc hd hc2 hd2
  subst hc hd hc2 hd2
  refine concat_meets ⟨_, ho, rfl⟩ ⟨_, ho2, rfl⟩ noFill_list_add seq_list_add PySem.F.slot_list_add PySem.F.entry_list_add (PySem.F.args_list_add_2 _ _) (list_addW l b its.toArray its2.toArray n n2 dd dd2 sl sl2 (by rw [List.size_toArray, List.size_toArray]; omega)) ⟨ho, ho2, ?_⟩
  have ea : its.toArray ++ its2.toArray = (its ++ its2).toArray := by simp
  rw [ea]
  exact ⟨.ref _, _, I.lnew (t' := s.toks) (r.append r2) (by rw [List.length_append]; omega), rfl, q _ I.fresh⟩
end
structure MOk (P : Program) (w : World) (K : PySem.W.Frag) (mg : Str → Option Value) (base : Heap) (k : Nat) (C : Addr) (m : Str) (sp : Sp) : Prop where
  cl : Cls K C
  run : ∃ (f : Addr) (fd : FuncData) (ps : List Str), Meth K C m f ∧ FnOk P w K mg base CX0 k f fd ps sp ∧ Binds K fd ps []
def tMethP (P : Program) (w : World) (K : PySem.W.Frag) (mg : Str → Option Value) (base : Heap) (k : Nat) (m : Str) (ta : TE) (t : TA) : TE := fun σ H Q => ta σ H fun x H1 => ∃ a C dx fs sp, x = .ref a ∧ H1 a = some (.ins C dx fs) ∧ fs.lookup m = none ∧ MOk P w K mg base k C m sp ∧
  t σ H1 fun vs H2 => sp (x :: vs) H2 Q E0
section
variable {X : Cx} {m : Str} {pos apos : Pos} {e o : Expr} {es : List Expr} {ta : TE} {t : TA} {k : Nat}
theorem pe_methP {pl : Sem Bool} (he : PE X o ta) (hr : Room k X.A) (ha : PA X (e :: es) t)
    (hst : starEach (e :: es) X.env = (false, eval e X.env) :: starEach es X.env := by rfl) (hpl : (backTo pos (starEach es X.env)).any (·.1) = false := by rfl)
    (ht : eval (.Call (.Attribute o m apos) (e :: es) [] pos) X.env = (do
      let ov ← eval o X.env
      standAt apos.atName
      let (f, first) ← holding [ov] (getMethod ov m pl)
      callWith pos f first (backTo pos (starEach (e :: es) X.env)) (backToKw pos (keywordEach [] X.env))) := by rfl) :
    PE X (.Call (.Attribute o m apos) (e :: es) [] pos) (tMethP X.prog X.w X.K X.mg X.base k m ta t) := by
  intro pins s σ H Q I h
  refine PySem.W.methodCall_KW (pl := pl) (thn (he pins s σ H _ I h) fun u s1 ⟨x, H1, I1, rx, a, C, dx, fs, sp, ex, ea, l, M, q⟩ => ?_) ht
  subst ex
  obtain rfl : u = Value.ref a := rx
  obtain ⟨c, f, fd, ps, hm, F, hb⟩ := M
  refine getmeth_ok I1 ea c hm l ?_
  refine PySem.W.callWith_K (first := [.ref a]) (h₀ := X.base) I.ok.mod.kin hm.kp (thn (ha pos pins s1 σ H1 _ I1 q) fun us s2 ⟨vs, H2, I2, r, q2⟩ => ⟨I2.kIn, ?_⟩) hst hpl
  exact run_fn (us := .ref a :: us) (vs := .ref a :: vs) (dvs := []) F hr hb .nil pass0 I2 (.cons rfl r) (by rw [List.append_nil]; exact q2)
theorem pe_methP0 {pl : Sem Bool} (he : PE X o ta) (hr : Room k X.A)
    (ht : eval (.Call (.Attribute o m apos) [] [] pos) X.env = (do
      let ov ← eval o X.env
      standAt apos.atName
      let (f, first) ← holding [ov] (getMethod ov m pl)
      callWith pos f first (backTo pos (starEach [] X.env)) (backToKw pos (keywordEach [] X.env))) := by rfl) :
    PE X (.Call (.Attribute o m apos) [] [] pos) (tMethP X.prog X.w X.K X.mg X.base k m ta tNil) := by
  intro pins s σ H Q I h
  refine PySem.W.methodCall_KW (pl := pl) (thn (he pins s σ H _ I h) fun u s1 ⟨x, H1, I1, rx, a, C, dx, fs, sp, ex, ea, l, M, q⟩ => ?_) ht
  subst ex
  obtain rfl : u = Value.ref a := rx
  obtain ⟨c, f, fd, ps, hm, F, hb⟩ := M
  refine getmeth_ok I1 ea c hm l ?_
  exact PySem.W.callWith_K0 (first := [.ref a]) I1.kIn hm.kp (run_fn (us := [.ref a]) (vs := [.ref a]) (dvs := []) F hr hb .nil pass0 I1 (.cons rfl .nil) q)
end
end L2
namespace L2
open PySem PySem.Spec PyProof.Rows
section
variable {X : Cx}
theorem count_eqU {x : V} : ∀ {xs : List V} {us : List Value}, Vals xs us → xs.all flatV = true → us.countP (eqU x) = xs.countP fun y => eqV y x
  | _, _, .nil, _ => rfl
  | y :: xs, u :: us, .cons r t, f => by
    rw [List.all_cons, Bool.and_eq_true] at f
    rw [List.countP_cons, List.countP_cons, eqU_of r f.1, count_eqU t f.2]
def rCount : V → List V → Hp → VK → Prop := fun x vs H Q => ∃ l xs y, x = .ref l ∧ vs = [y] ∧ H l = some (.lst xs) ∧ flatV y = true ∧ xs.all flatV = true ∧ Q (.int (xs.countP fun z => eqV z y)) H
theorem mt_count : MtM X "list.count" rCount := by
  intro pins s σ H x vs v us Q I rx rv h
  obtain ⟨l, xs, y, rfl, rfl, hH, fy, fs, q⟩ := h
  cases rx
  obtain ⟨u, rfl, ru⟩ := rv.one
  obtain ⟨z, its, n, r, hl, e⟩ := I.lstM hH
  refine call_meets F.slot_list_count ⟨_, e, rfl⟩ F.entry_list_count (F.args_list_count_2 _ _) (SeqAt.list_countAt l its.toArray n _ _ u (eqU y)) ⟨e, fun w hw => mem_eqAt ru fy r fs w (by simpa using hw), ?_⟩
  rw [List.toList_toArray, count_eqU r fs]
  exact ⟨.int _, H, I.tok _, ⟨_, rfl⟩, q⟩
def rIndexL : V → List V → Hp → VK → Prop := fun x vs H Q => ∃ l xs y j, x = .ref l ∧ vs = [y] ∧ H l = some (.lst xs) ∧ flatV y = true ∧ xs.all flatV = true ∧ j < 1000 ∧ (∃ z, xs[j]? = some z ∧ eqV z y = true) ∧ (∀ m z, m < j → xs[m]? = some z → eqV z y = false) ∧ Q (.int (j : Nat)) H
theorem at_eqU {x : V} : ∀ {xs : List V} {us : List Value} {j : Nat} {u : Value}, Vals xs us → xs.all flatV = true → us[j]? = some u → ∃ z, xs[j]? = some z ∧ eqU x u = eqV z x
  | _, _, j, u, .nil, _, h => by simp at h
  | y :: xs, w :: us, 0, u, .cons r t, f, h => by
    rw [List.all_cons, Bool.and_eq_true] at f
    cases h
    exact ⟨y, rfl, eqU_of r f.1⟩
  | y :: xs, w :: us, j + 1, u, .cons r t, f, h => by
    rw [List.all_cons, Bool.and_eq_true] at f
    exact at_eqU (j := j) t f.2 h
theorem mt_indexL : MtM X "list.index" rIndexL := by
  intro pins s σ H x vs v us Q I rx rv h
  obtain ⟨l, xs, y, j, rfl, rfl, hH, fy, fs, hj, ⟨z0, hz0, ez0⟩, hno, q⟩ := h
  cases rx
  obtain ⟨u, rfl, ru⟩ := rv.one
  obtain ⟨z, its, n, r, hl, e⟩ := I.lstM hH
  have lj : j < its.length := by
    rw [← r.length]
    exact (List.getElem?_eq_some_iff.mp hz0).1
  have lj' : j < its.toArray.size := by rw [List.size_toArray]; exact lj
  have key : ∀ m (hm : m < its.toArray.size), ∃ z, xs[m]? = some z ∧ eqU y its.toArray[m] = eqV z y := by
    intro m hm
    rw [List.size_toArray] at hm
    exact at_eqU (j := m) r fs (by rw [List.getElem_toArray, List.getElem?_eq_getElem hm])
  refine call_meets F.slot_list_index ⟨_, e, rfl⟩ F.entry_list_index (F.args_list_index_2 _ _) (SeqAt.list_indexAt l its.toArray n _ _ u (eqU y) j lj' (by omega) ?_ ?_) ⟨e, fun w hw => mem_eqAt ru fy r fs w (by simpa using hw), ?_⟩
  · obtain ⟨z, e1, e2⟩ := key j lj'
    rw [e2]
    rw [hz0] at e1
    cases e1
    exact ez0
  · intro m hm hmj
    obtain ⟨z, e1, e2⟩ := key m hm
    rw [e2]
    exact hno m z hmj e1
  · exact ⟨.int _, H, I.tok _, ⟨_, rfl⟩, q⟩
end
end L2
namespace L2
open PySem PySem.Spec PyProof.Rows
section
variable {X : Cx} {tg : Expr}
end
def rSplit : V → List V → Hp → VK → Prop := fun x vs H Q => ∃ z y : Str, x = .str z ∧ vs = [.str y] ∧ (y.length == 0) = false ∧ z.length ≤ sizeLine ∧ (Builtin.Str.partsBetween z (Builtin.Str.occurrences z y 0 z.length (z.length + 1)) y.length).length ≤ sizeLine ∧
  ∀ p, H p = none → Q (.ref p) (upd H p (.lst ((Txt.split z y).map V.str)))
theorem vals_strs : ∀ l : List (Str × Tok), Vals ((l.map (·.1)).map V.str) (strValues l)
  | [] => .nil
  | (x, t) :: l => .cons ⟨t, rfl⟩ (vals_strs l)
theorem mt_split {X : Cx} : MtR X "str.split" rSplit := by
  intro pins s σ H x vs v us Q I rx rv h
  obtain ⟨z, y, rfl, rfl, hy, hz, hn, q⟩ := h
  obtain ⟨t, rfl⟩ := rx
  obtain ⟨u, rfl, ru⟩ := vals1 rv
  obtain ⟨t', rfl⟩ := ru
  have one : (1 : Nat) ≤ sizeLine := by decide
  cases h1 : (decide (z.length < y.length) || decide (Builtin.Str.strKind z < Builtin.Str.strKind y)) with
  | true =>
    have e : Txt.split z y = [z] := if_pos h1
    rw [e] at q
    exact call_meets F.slot_str_split (typeIs_str _ _ _) F.entry_str_split (F.args_str_split_2 _ _) (meets_str_split_cannot_occur z y t t' h1) ⟨.ref _, _, I.lnew (ys := [.str z]) (its := [.str z t]) (t' := s.toks) (.cons ⟨t, rfl⟩ .nil) one, rfl, q _ I.fresh⟩
  | false =>
    cases hf : (Builtin.Str.occurrences z y 0 z.length (z.length + 1)).isEmpty with
    | true =>
      have e : Txt.split z y = [z] := (if_neg (ne_true_of_eq_false h1)).trans (if_pos hf)
      rw [e] at q
      exact call_meets F.slot_str_split (typeIs_str _ _ _) F.entry_str_split (F.args_str_split_2 _ _) (meets_str_split_not_found z y t t' h1 hy hf) ⟨.ref _, _, I.lnew (ys := [.str z]) (its := [.str z t]) (t' := s.toks) (.cons ⟨t, rfl⟩ .nil) one, rfl, q _ I.fresh⟩
    | false =>
      have e : Txt.split z y = Builtin.Str.partsBetween z (Builtin.Str.occurrences z y 0 z.length (z.length + 1)) y.length := (if_neg (ne_true_of_eq_false h1)).trans (if_neg (ne_true_of_eq_false hf))
      rw [e] at q
      refine call_meets F.slot_str_split (typeIs_str _ _ _) F.entry_str_split (F.args_str_split_2 _ _) (meets_str_split_sep z y t t' h1 hy hf hz hn) ?_
      have ev := vals_strs (numbered s.toks (Builtin.Str.partsBetween z (Builtin.Str.occurrences z y 0 z.length (z.length + 1)) y.length))
      rw [numbered_texts, ← strsFrom_eq] at ev
      exact ⟨.ref _, _, I.lnew ev (by rw [List.length_map]; exact hn), rfl, q _ I.fresh⟩
end L2
namespace L2
open PySem PySem.Spec PyProof.Rows
section
variable {prog : Program} {w : World} {A : Around} {E : Value → Shared → Prop} {s : Shared}
variable {z TI TO i1 i2 l1 l2 : Addr} {b1 b2 : Bool} {k1 k2 : Nat} {xs ys : Array Value}
end
section
variable {X : Cx} {a b : Expr} {ta : TA} {elts : List Expr} {x1 : Nat} {tpos p pos : Pos}
end
end L2
namespace L2
open PySem PySem.Spec PyProof.Rows
section
variable {X : Cx} {CX : CXT} {k : Nat} {f C : Addr} {fd : FuncData} {ps : List Str} {sp : Sp} {dvs : List V} {ds : List Value} {E : XK} {x m : Str} {p pos apos : Pos} {e : Expr} {es : List Expr} {t : TA}
end
end L2
namespace L2
open PySem PySem.Spec PyProof.Rows
section
variable {X : Cx} {tg a b : Expr} {ta : TA} {p p1 pos pos1 : Pos}
end
section
variable {prog : Program} {w : World} {A : Around} {s : Shared} {R : Result → Shared → Prop} {r : Addr} {a b c : Int} {t u v : Tok} {n : Nat}
end
section
variable {X : Cx} {a b : Expr} {ta : TA} {p p1 pos pos1 : Pos}
end
end L2
namespace L2
open PySem PySem.Spec PyProof.Rows
section
variable {X : Cx}
theorem vals_bools : ∀ {bs : List Bool} {its : List Value}, Vals (bs.map V.bl) its → its = bs.map Value.bool
  | [], its, h => by
    rw [List.map_nil] at h
    exact h.nil_iff.mpr rfl
  | b :: bs, its, h => by
    rw [List.map_cons] at h
    cases h with
    | cons r1 r2 =>
      rw [vals_bools r2, List.map_cons, show _ = Value.bool b from r1]
theorem call_all (hc : X.calm = true) : CallR X (.builtin "all") (fun xs H Q => ∃ (a : Addr) (bs : List Bool), xs = [.ref a] ∧ SqL X.K H a (bs.map V.bl) ∧ Q (.bl (bs.all id)) H) := by
  intro pins s σ H xs us Q I r h
  obtain ⟨a, bs, rfl, hx, q⟩ := h
  obtain ⟨u, rfl, ru⟩ := vals1 r
  cases ru
  obtain ⟨its, rv, ht, hz⟩ := I.list hx
  have ei := vals_bools rv
  subst ei
  have hl := ht.isList
  have hlt : a < s.heap.objs.size := by obtain ⟨_, e, _⟩ := hl; exact Heap.lt_size e
  refine call_all_walk (wpAny_pyIter_list hl ?_)
  refine ⟨s.heap.objs.size, [s.heap.objs.size, a], [s.heap.objs.size], (bs.map Value.bool).toArray.size, _, _, fun i => (bs[i]?).getD true, rfl, Walks.list (A := X.A.in1) (I.ok.hd hc) _ a (Nat.ne_of_lt hlt) (bs.map Value.bool).toArray,
    ⟨⟨_, Heap.get?_push_size _ rfl, rfl, rfl⟩, hl.push _⟩, fun i v s' Q' E' hP hQ => ?_, fun h' tk hk => ?_⟩
  · have hP : (bs.map Value.bool)[i]? = some v := by simpa using hP
    rw [List.getElem?_map] at hP
    obtain ⟨b, e, rfl⟩ := Option.map_eq_some_iff.mp hP
    simp only [e, Option.getD_some] at hQ
    exact wpAny_truthy_bool hQ
  · have e : ((List.range ((bs.map Value.bool).toArray.size)).all fun i => (bs[i]?).getD true) = bs.all id := by
      rw [List.size_toArray, List.length_map]; exact LSm.range_all bs
    rw [e]
    exact ⟨.bl (bs.all id), H, I.kept (LSm.kept_iter hk), rfl, q⟩
end
end L2
namespace NwS
open PySem
def byText (w : World) : Bool := w.params.followText "set-order"
def txt : Value → Str
  | .str x _ => x
  | _ => ⟨#[]⟩
abbrev setObj (es : Array (Int × Value)) (ep : Nat) (t : SetTable) : Obj := { cls := .type "set", dict := none, data := .set es ep t, slots := #[] }
structure SetT (prog : Program) (w : World) (h : Heap) (a : Addr) (ss : List Str) (es : Array (Int × Value)) (ep : Nat) (t : SetTable) : Prop where
  obj : h.get? a = some (setObj es ep t)
  el : ElemsOf (strKind prog w) es.toList
  pm : (es.toList.map (fun e => txt e.2)).Perm ss
  bd : es.size < scanBound
  ft : t.fits es.size = true
  pl : es.size = 0 ∨ t.plain = false
  ld : byText w = false → t.led = true
theorem orStandIn_led (t : SetTable) (n : Nat) : (t.orStandIn n).led = t.led := by
  unfold SetTable.orStandIn; split <;> rfl
theorem layNew_led (t : SetTable) (es : Array (Int × Value)) (h : Int) (x : Value) : (layNew t es h x).2.1.led = t.led := by
  unfold layNew
  split
  · exact orStandIn_led _ _
  · rfl
theorem relayAll_led (t : SetTable) (es : Array (Int × Value)) (n : Nat) : (relayAll t es n).2.1.led = t.led ∧ (t.plain = false → (relayAll t es n).2.1.plain = false) := by
  unfold relayAll
  split
  · rename_i t' order e
    have : t'.led = t.led ∧ t'.plain = t.plain := by
      unfold SetTable.relaid SetTable.laid at e
      simp only [Option.bind_eq_bind, Option.pure_def, Option.bind_eq_some_iff] at e
      obtain ⟨ow, _, e2⟩ := e
      injection e2 with e2
      injection e2 with e2 _
      subst e2
      exact ⟨rfl, rfl⟩
    dsimp only
    split
    · exact ⟨this.1, fun z => this.2.trans z⟩
    · exact ⟨rfl, fun _ => rfl⟩
  · exact ⟨rfl, fun _ => rfl⟩
section
variable {prog : Program} {w : World} {A : Around} {E : Value → Shared → Prop} {s : Shared}
theorem store_get {h : Heap} {a : Addr} {es es' : Array (Int × Value)} {ep : Nat} {t t' : SetTable} (ho : h.get? a = some (setObj es ep t)) :
    (h.update a (Obj.putSet es' t')).get? a = some (setObj es' (ep + 1) t') := by
  have := Heap.get?_update_self (Obj.putSet es' t') ho (by rw [putSet_of es' t' rfl]; rfl)
  rw [putSet_of es' t' rfl] at this; exact this
theorem txt_of {e : Int × Value} {x : Str} (h : (strKind prog w).is x e.2 = true) : txt e.2 = x := by
  obtain ⟨t, e1⟩ := Value.isStrOf_shape (x := x) (v := e.2) h
  rw [e1]; rfl
theorem tail_ok {g : Bool → Sem Unit} (hg : ∀ (b : Bool) (s₁ : Shared) (Q' : Unit → Shared → Prop), Q' () s₁ → wpAny (model prog w) A (g b) Q' E s₁)
    {a : Addr} {es : Array (Int × Value)} {ep : Nat} {t : SetTable} (ho : s.heap.get? a = some (setObj es ep t))
    {es1 : Array (Int × Value)} {t2 : SetTable} {ss : List Str} (hel1 : ElemsOf (strKind prog w) es1.toList) (hpm : (es1.toList.map (fun e => txt e.2)).Perm ss)
    (hb1 : es1.size < scanBound) (hf2 : t2.fits es1.size = true) (hp2 : t2.plain = false) (hl2 : byText w = false → t2.led = true) {wasDummy : Bool} {R : Option Bool → Shared → Prop}
    (h : ∀ h' es' ep' t', Heap.SameBut a s.heap h' → SetT prog w h' a ss es' ep' t' → es'.size = es1.size → R (some true) { s with heap := h' }) :
    wpAny (model prog w) A (do
        storeSet a es1 t2
        if (!wasDummy && t2.tooFull) = true then do
            g (relayAll t2 es1 (SetTable.grown es1.size)).2.2
            storeSet a (relayAll t2 es1 (SetTable.grown es1.size)).1 (relayAll t2 es1 (SetTable.grown es1.size)).2.1
            pure (some true)
          else pure (some true)) R E s := by
  refine wpAny_bind (wpAny_storeSet_of ho rfl ?_ (fits_of_scanBound hb1))
  have ho1 := store_get (es' := es1) (t' := t2) ho
  have hsb1 := Heap.SameBut.update s.heap a (Obj.putSet es1 t2)
  split
  · have hp := relayAll_perm t2 es1 (SetTable.grown es1.size)
    have hfr := relayAll_fits t2 es1 (SetTable.grown es1.size)
    have hld := relayAll_led t2 es1 (SetTable.grown es1.size)
    generalize hRl : relayAll t2 es1 (SetTable.grown es1.size) = Rl at hp hfr hld ⊢
    obtain ⟨es2, t3, gave2⟩ := Rl
    dsimp only at hp hfr hld ⊢
    have hel2 : ElemsOf (strKind prog w) es2.toList := hel1.perm hp
    have hsz : es2.size = es1.size := by rw [← Array.length_toList, hp.length_eq, Array.length_toList]
    have hb2 : es2.size < scanBound := by rw [hsz]; exact hb1
    refine wpAny_bind (hg _ _ _ ?_)
    refine wpAny_bind (wpAny_storeSet_of ho1 rfl ?_ (fits_of_scanBound hb2))
    exact wpAny_pure (h _ es2 _ t3 (hsb1.trans (Heap.SameBut.update _ a _)) ⟨store_get ho1, hel2, (hp.map _).trans hpm, hb2, hfr, .inr (hld.2 hp2), fun z => hld.1.trans (hl2 z)⟩ hsz)
  · exact wpAny_pure (h _ es1 _ t2 hsb1 ⟨ho1, hel1, hpm, hb1, hf2, .inr hp2, hl2⟩ rfl)
theorem add_ok {a : Addr} {ss : List Str} {es : Array (Int × Value)} {ep : Nat} {t : SetTable} {x : Str} {tk : Tok} {Q : Bool → Shared → Prop} (hS : SetT prog w s.heap a ss es ep t) (hroom : es.size + 1 < scanBound)
    (h : ∀ h' es' ep' t' b, Heap.SameBut a s.heap h' → SetT prog w h' a (if x ∈ ss then ss else ss ++ [x]) es' ep' t' → es'.size ≤ es.size + 1 → Q b { s with heap := h' }) :
    wpAny (model prog w) A (setAddHashed a (.str x tk) (hashStr w x)) Q E s := by
  obtain ⟨ho, hel, hpm, hb, hf, hpl, hld⟩ := id hS
  have hkey : (strKind prog w).is x (.str x tk) = true := by simp [strKind, Value.isStrOf]
  have hsc : (Value.str x tk).scannable = true := rfl
  show wpAny (model prog w) A (setAddHashed a (.str x tk) ((strKind prog w).hash x)) Q E s
  unfold setAddHashed setAddHashedIn
  refine wpAny_holding (wpAny_bind (wpAny_setState_of ho rfl hf ?_))
  dsimp only
  rw [byScan_of hsc hb hel]
  simp only [↓reduceIte]
  unfold setAddByScan
  refine wpAny_bind ?_
  refine wpAny_bind (wpAny_rule ?_)
  refine wpAny_bind (wpAny_setScan_of hkey ho rfl hf hel ?_)
  cases hr : List.findIdx? (fun e => (strKind prog w).is x e.2) es.toList with
  | some j =>
    dsimp only
    obtain ⟨hj, hpj, _⟩ := List.findIdx?_eq_some_iff_getElem.mp hr
    have hm : x ∈ ss := hpm.mem_iff.mp (List.mem_map.mpr ⟨es.toList[j], List.getElem_mem hj, txt_of hpj⟩)
    refine wpAny_pure (wpAny_pure ?_)
    have e : s = { s with heap := s.heap } := by cases s; rfl
    rw [e]
    refine h s.heap es ep t _ (Heap.SameBut.refl a s.heap) ?_ (Nat.le_succ _)
    rw [if_pos hm]; exact hS
  | none =>
    dsimp only
    have hm : x ∉ ss := fun z => by
      obtain ⟨e, he, e1⟩ := List.mem_map.mp (hpm.mem_iff.mpr z)
      obtain ⟨⟨k, hk, _⟩, _⟩ := hel e he
      have := List.findIdx?_eq_none_iff.mp hr e he
      rw [txt_of hk] at e1; subst e1
      rw [hk] at this; exact Bool.noConfusion this
    have hgw : ∀ (b : Bool) {s₁ : Shared} {Q' : Unit → Shared → Prop}, Q' () s₁ → wpAny (model prog w) A (match b with | true => rule "set.scan.the-table-gave-way" | false => pure ()) Q' E s₁ :=
      fun b s₁ Q' hq => by cases b <;> first | exact wpAny_pure hq | exact wpAny_rule hq
    have hperm := layNew_perm t es ((strKind prog w).hash x) (.str x tk)
    have hfits := layNew_fits t es ((strKind prog w).hash x) (.str x tk)
    have hled := layNew_led t es ((strKind prog w).hash x) (.str x tk)
    generalize hL : layNew t es ((strKind prog w).hash x) (.str x tk) = L at hperm hfits hled ⊢
    obtain ⟨es1, t1, wasDummy, gave⟩ := L
    dsimp only at hperm hfits hled ⊢
    rw [Array.toList_push] at hperm
    have hel1 : ElemsOf (strKind prog w) es1.toList := (hel.push hkey hsc).perm hperm
    have hpm1 : (es1.toList.map (fun e => txt e.2)).Perm (ss ++ [x]) := by
      refine (hperm.map _).trans ?_
      rw [List.map_append]
      exact hpm.append_right _
    have hsz1 : es1.size = es.size + 1 := by rw [← Array.length_toList, hperm.length_eq, List.length_append, Array.length_toList]; rfl
    have hb1' : es1.size < scanBound := by rw [hsz1]; exact hroom
    refine wpAny_bind (hgw _ ?_)
    have hend : ∀ h' es' ep' t', Heap.SameBut a s.heap h' → SetT prog w h' a (ss ++ [x]) es' ep' t' → es'.size = es1.size → Q true { s with heap := h' } := by
      intro h' es' ep' t' hsb hS' hz
      refine h h' es' ep' t' _ hsb ?_ (by omega)
      rw [if_neg hm]; exact hS'
    split
    · refine wpAny_bind ?_
      rw [hashByValue_scannable 8 hsc]
      refine wpAny_pure ?_
      refine tail_ok ?_ ho hel1 hpm1 hb1' ?_ ?_ ?_ ?_
      · intro b s₁ Q' hq; cases b <;> first | exact wpAny_pure hq | exact wpAny_rule hq
      · exact SetTable.fits_plain_off hfits
      · rfl
      · exact fun z => hled.trans (hld z)
      · intro h' es' ep' t' hsb hS' hz; dsimp only; exact wpAny_pure (hend h' es' ep' t' hsb hS' hz)
    · rename_i hnp
      refine wpAny_bind (wpAny_pure ?_)
      simp only [↓reduceIte]
      refine tail_ok ?_ ho hel1 hpm1 hb1' hfits ?_ ?_ ?_
      · intro b s₁ Q' hq; cases b <;> first | exact wpAny_pure hq | exact wpAny_rule hq
      · simpa using hnp
      · exact fun z => hled.trans (hld z)
      · intro h' es' ep' t' hsb hS' hz; dsimp only; exact wpAny_pure (hend h' es' ep' t' hsb hS' hz)
end
end NwS
namespace NwS
open PySem
open Sem (wp)
theorem slot_si_next : Slot "set_iterator" "__next__" "set_iterator.__next__" :=
  .of (owner := "set_iterator") (n := "__next__") (by rw [typeLookup_type, builtinLookup_eq_fast]; kernel_rfl) (by decide +kernel) (by decide +kernel) (by decide +kernel)
    (by first | exact .inl (by decide +kernel) | exact .inr (by decide +kernel)) (by rw [isSubtype_type]; kernel_rfl)
theorem slot_si_iter : Slot "set_iterator" "__iter__" "set_iterator.__iter__" :=
  .of (owner := "set_iterator") (n := "__iter__") (by rw [typeLookup_type, builtinLookup_eq_fast]; kernel_rfl) (by decide +kernel) (by decide +kernel) (by decide +kernel)
    (by first | exact .inl (by decide +kernel) | exact .inr (by decide +kernel)) (by rw [isSubtype_type]; kernel_rfl)
theorem entry_si_next : entryFor table "set_iterator.__next__" = some Builtin.«set_iterator.__next__» := entryFor_of_fast (by kernel_rfl)
theorem entry_si_iter : entryFor table "set_iterator.__iter__" = some Builtin.«dict_keyiterator.__iter__» :=
  entryFor_alias (id' := "dict_keyiterator.__iter__") (by kernel_rfl) rfl (by decide +kernel) (by kernel_rfl)
theorem args_si_next (a : Value) : argsOk "set_iterator.__next__" ⟨[a], []⟩ := by unfold argsOk; kernel_rfl
theorem args_si_iter (a : Value) : argsOk "set_iterator.__iter__" ⟨[a], []⟩ := by unfold argsOk; kernel_rfl
theorem entry_set_iter : entryFor table "set.__iter__" = some Builtin.«frozenset.__iter__» :=
  entryFor_alias (id' := "frozenset.__iter__") (by kernel_rfl) rfl (by decide +kernel) (by kernel_rfl)
def SIter (h : Heap) (I a : Addr) (first : Value) (i n ep : Nat) : Prop :=
  ∃ o, h.get? I = some o ∧ o.cls = .type "set_iterator" ∧ o.data = .fields #[first, .int i 0, .ref a, .int n 0, .int ep 0]
theorem perm_erase {α : Type} {l : List α} {i : Nat} (h : i < l.length) : (l[i] :: l.eraseIdx i).Perm l := by
  have e : l = l.take i ++ l[i] :: l.drop (i + 1) := by
    rw [List.getElem_cons_drop h, List.take_append_drop]
  rw [List.eraseIdx_eq_take_drop_succ]
  conv => rhs; rw [e]
  exact List.perm_middle.symm
theorem perm_pick {α : Type} (next : Nat → Nat) : ∀ (n k : Nat) (left : List α) (out : Array α), n = left.length → (pickOrder.go next n k left out).toList.Perm (out.toList ++ left)
  | 0, k, left, out, h => by
    have : left = [] := List.length_eq_zero_iff.mp h.symm
    subst this
    simp [pickOrder.go]
  | n + 1, k, left, out, h => by
    have hl : next k % left.length < left.length := Nat.mod_lt _ (by omega)
    unfold pickOrder.go
    rw [List.getElem?_eq_getElem hl]
    dsimp only
    refine (perm_pick next n (k + 1) _ _ (by rw [List.length_eraseIdx_of_lt hl]; omega)).trans ?_
    rw [Array.toList_push, List.append_assoc]
    exact (perm_erase hl).append_left _
theorem perm_pickOrder {α : Type} (next : Nat → Nat) (xs : Array α) : (pickOrder next xs).toList.Perm xs.toList := by
  have := perm_pick next xs.size 0 xs.toList #[] (by simp)
  simpa [pickOrder] using this
section
variable {prog : Program} {w : World} {A : Around} {E : Value → Shared → Prop} {s : Shared}
theorem wpAny_choose' {M : Model} {src : Source} {n : Nat} {Q : Nat → Shared → Prop} (hn : n ≠ 0) (h : ∀ i d, i < n → Q i { s with drawn := d }) : wpAny M A (choose src n) Q E s := fun Γ p hΓ => by
  unfold choose
  rw [Sem.wp_choose]
  exact ⟨hn, by simpa using h _ _ (Nat.mod_lt _ (Nat.pos_of_ne_zero hn))⟩
theorem drawOrder_ok {α : Type} {M : Model} : ∀ (n : Nat) (xs : List α) {s : Shared} {Q : List α → Shared → Prop}, n = xs.length → (∀ ys d, ys.Perm xs → Q ys { s with drawn := d }) → wpAny M A (drawOrder n xs) Q E s
  | 0, xs, s, Q, h, hQ => by
    have : xs = [] := List.length_eq_zero_iff.mp h.symm
    subst this
    unfold drawOrder
    exact wpAny_pure (hQ [] s.drawn .nil)
  | n + 1, [], s, Q, h, hQ => by simp at h
  | n + 1, x :: xs, s, Q, h, hQ => by
    unfold drawOrder
    refine wpAny_bind (wpAny_choose' (by simp) fun i d hi => ?_)
    rw [List.getElem?_eq_getElem hi]
    dsimp only
    refine wpAny_bind (drawOrder_ok n _ (by rw [List.length_eraseIdx_of_lt hi]; simp at h ⊢; omega) fun ys d' hp => ?_)
    exact wpAny_pure (hQ _ d' ((hp.cons _).trans (perm_erase hi)))
theorem SIter.typeIs {I a : Addr} {f : Value} {i n ep : Nat} (h : SIter s.heap I a f i n ep) : s.TypeIs (.ref I) "set_iterator" := let ⟨o, ho, hc, _⟩ := h; ⟨o, ho, hc⟩
theorem SIter.at {h h' : Heap} {I a : Addr} {f : Value} {i n ep : Nat} (x : SIter h I a f i n ep) (e : ∀ o, h.get? I = some o → h'.get? I = some o) : SIter h' I a f i n ep := let ⟨o, ho, r⟩ := x; ⟨o, e _ ho, r⟩
theorem iter_self {I a : Addr} {f : Value} {i n ep : Nat} {Q : Value → Shared → Prop} (hit : SIter s.heap I a f i n ep) (h : Q (.ref I) s) : wpAny (model prog w) A (pyIter (.ref I)) Q E s := by
  refine wpAny_pyIter_slot hit.typeIs slot_si_iter (wpAny_call_entry slot_si_iter hit.typeIs entry_si_iter ?_ (args_si_iter _))
  show wpAny _ _ (ret (.ref I)) _ _ s
  exact wpAny_pure ⟨_, rfl, "set_iterator", _, hit.typeIs, slot_si_next.lookup, h⟩
theorem next_drawn {I a T : Addr} {i p : Nat} {es : Array (Int × Value)} {ep : Nat} {t : SetTable} {ps : List Nat} {e : Int × Value} {Q : Option Value → Shared → Prop}
    (hs : s.heap.get? a = some (setObj es ep t)) (hf : t.fits es.size = true) (hit : SIter s.heap I a (.ref T) i es.size ep)
    (hT : s.heap.get? T = some { cls := .type "tuple", data := .seq (ps.map fun (p : Nat) => rawInt p).toArray }) (hp : ps[i]? = some p) (he : es[p]? = some e)
    (hQ : ∀ h', SIter h' I a (.ref T) (i + 1) es.size ep → Heap.SameBut I s.heap h' → Q (some e.2) { s with heap := h' }) :
    wpAny (model prog w) A (pyNext (.ref I)) Q E s := by
  obtain ⟨o, ho, hc, hd⟩ := id hit
  unfold pyNext
  refine wpAny_bind (wpAny_attempt (wpAny_callSpecial?_slot (name := Str.ofString "__next__") hit.typeIs slot_si_next
    (wpAny_call_entry slot_si_next hit.typeIs entry_si_next ?_ (args_si_next _))))
  unfold Builtin.«set_iterator.__next__»
  refine wpAny_bind (wpAny_pure ?_)
  refine wpAny_bind (wpAny_fieldsOf ho hd ?_)
  dsimp only
  refine wpAny_bind (wpAny_setEntries_of hs rfl hf ?_)
  rw [if_neg (by simp)]
  refine wpAny_bind (wpAny_seqItems hT rfl ?_)
  dsimp only
  have e1 : (ps.map fun (p : Nat) => rawInt p).toArray[((i : Nat) : Int).toNat]? = some (rawInt p) := by
    simp [hp]
  rw [e1]
  dsimp only [rawInt]
  refine wpAny_bind ?_
  unfold setNextDrawn
  refine wpAny_bind (wpAny_setState_of hs rfl hf ?_)
  dsimp only
  rw [if_neg (by simp)]
  simp only [Int.toNat_natCast, he]
  refine wpAny_pure ?_
  refine wpAny_bind (wpAny_setField ho hd (by simp) ?_)
  have hit' : SIter (s.heap.update I (Obj.mapFields (·.setIfInBounds 1 (rawInt ((i : Int) + 1))))) I a (.ref T) (i + 1) es.size ep :=
    ⟨_, Heap.get?_update_self _ ho (Obj.isFreed_of_fields (Obj.data_mapFields hd _)), (Obj.cls_mapFields ..).trans hc, by rw [Obj.data_mapFields hd]; simp [rawInt]⟩
  exact wpAny_pure ⟨_, rfl, wpAny_pure (hQ _ hit' (Heap.SameBut.update ..))⟩
theorem stop_ok {h : Heap} {R : Fin → Shared → Prop} {Q : Option Value → Shared → Prop} (hh : A.handled = none) (hQ : ∀ h', (∀ b o, h.get? b = some o → h'.get? b = some o) → Q none { s with heap := h' }) :
    wpAny (model prog w) A.in1 (newExc (.type "StopIteration") [] >>= fun e => (raiseNew e : Sem Fin)) R (fun e s' => wpAny (model prog w) A (isInstance e (.type "StopIteration") >>= fun b => if b = true then pure none else throw e) Q E s') { s with heap := h } := by
  refine wpAny_bind ?_
  simp only [newExc, newTuple]
  refine wpAny_bind (wpAny_newObj_type ?_ (by size_fits))
  refine wpAny_bind (m := firstArgMember _ _) (wpAny_of_eq (a := Value.none) (by first | rfl | (simp only [firstArgMember]; rfl)) ?_)
  refine wpAny_newObj_type ?_ (by size_fits)
  simp only [raiseNew]
  refine wpAny_bind (wpAny_handled ?_)
  rw [show A.in1.handled = none from hh]
  refine wpAny_bind (wpAny_pure (wpAny_throw ?_))
  refine wpAny_bind (wpAny_isInstance (T := "StopIteration") (b := true) ⟨_, Heap.get?_push_size _ rfl, rfl⟩ isSubtype_stop ?_)
  exact wpAny_pure (hQ _ fun b o e => Heap.get?_push_of_some _ (Heap.get?_push_of_some _ e))
theorem end_drawn {I a T : Addr} {i : Nat} {es : Array (Int × Value)} {ep : Nat} {t : SetTable} {ps : List Nat} {Q : Option Value → Shared → Prop} (hh : A.handled = none)
    (hs : s.heap.get? a = some (setObj es ep t)) (hf : t.fits es.size = true) (hit : SIter s.heap I a (.ref T) i es.size ep)
    (hT : s.heap.get? T = some { cls := .type "tuple", data := .seq (ps.map fun (p : Nat) => rawInt p).toArray }) (hp : ps[i]? = none)
    (hQ : ∀ h', (∀ b o, b ≠ I → s.heap.get? b = some o → h'.get? b = some o) → Q none { s with heap := h' }) :
    wpAny (model prog w) A (pyNext (.ref I)) Q E s := by
  obtain ⟨o, ho, hc, hd⟩ := id hit
  unfold pyNext
  refine wpAny_bind (wpAny_attempt (wpAny_callSpecial?_slot (name := Str.ofString "__next__") hit.typeIs slot_si_next
    (wpAny_call_entry slot_si_next hit.typeIs entry_si_next ?_ (args_si_next _))))
  unfold Builtin.«set_iterator.__next__»
  refine wpAny_bind (wpAny_pure ?_)
  refine wpAny_bind (wpAny_fieldsOf ho hd ?_)
  dsimp only
  refine wpAny_bind (wpAny_setEntries_of hs rfl hf ?_)
  rw [if_neg (by simp)]
  refine wpAny_bind (wpAny_seqItems hT rfl ?_)
  dsimp only
  have e1 : (ps.map fun (p : Nat) => rawInt p).toArray[((i : Nat) : Int).toNat]? = none := by
    simp [hp]
  rw [e1]
  dsimp only
  refine wpAny_bind (wpAny_setField ho hd (by simp) ?_)
  refine wpAny_bind (wpAny_setField (Heap.get?_update_self _ ho (Obj.isFreed_of_fields (Obj.data_mapFields hd _))) (Obj.data_mapFields hd _) (by simp) ?_)
  refine stop_ok hh fun h' hk => hQ h' fun b o' hb e => hk b o' ?_
  exact (Heap.get?_update_other _ _ (Ne.symm hb)).trans ((Heap.get?_update_other _ _ (Ne.symm hb)).trans e)
theorem next_int {I a : Addr} {i sl nx : Nat} {es : Array (Int × Value)} {ep : Nat} {t : SetTable} {v : Value} {Q : Option Value → Shared → Prop}
    (hs : s.heap.get? a = some (setObj es ep t)) (hf : t.fits es.size = true) (hit : SIter s.heap I a (.int sl 0) i es.size ep)
    (hn : ∀ (E' : Value → Shared → Prop) (Q' : Option (Value × Nat) → Shared → Prop), Q' (some (v, nx)) s → wpAny (model prog w) A.in1 (setNext a sl i ep) Q' E' s)
    (hQ : ∀ h', SIter h' I a (.int nx 0) (i + 1) es.size ep → Heap.SameBut I s.heap h' → Q (some v) { s with heap := h' }) :
    wpAny (model prog w) A (pyNext (.ref I)) Q E s := by
  obtain ⟨o, ho, hc, hd⟩ := id hit
  unfold pyNext
  refine wpAny_bind (wpAny_attempt (wpAny_callSpecial?_slot (name := Str.ofString "__next__") hit.typeIs slot_si_next
    (wpAny_call_entry slot_si_next hit.typeIs entry_si_next ?_ (args_si_next _))))
  unfold Builtin.«set_iterator.__next__»
  refine wpAny_bind (wpAny_pure ?_)
  refine wpAny_bind (wpAny_fieldsOf ho hd ?_)
  dsimp only
  refine wpAny_bind (wpAny_setEntries_of hs rfl hf ?_)
  rw [if_neg (by simp)]
  simp only [Int.toNat_natCast]
  refine wpAny_bind (hn _ _ ?_)
  dsimp only
  refine wpAny_bind (wpAny_setField ho hd (by simp) ?_)
  have hd1 := Obj.data_mapFields hd (fun vs : Array Value => vs.setIfInBounds 0 (rawInt (nx : Int)))
  have ho1 := Heap.get?_update_self (Obj.mapFields fun vs : Array Value => vs.setIfInBounds 0 (rawInt (nx : Int))) ho (Obj.isFreed_of_fields hd1)
  refine wpAny_bind (wpAny_setField ho1 hd1 (by simp) ?_)
  have hit' : SIter ((s.heap.update I (Obj.mapFields (·.setIfInBounds 0 (rawInt (nx : Int))))).update I (Obj.mapFields (·.setIfInBounds 1 (rawInt ((i : Int) + 1))))) I a (.int nx 0) (i + 1) es.size ep :=
    ⟨_, Heap.get?_update_self _ ho1 (Obj.isFreed_of_fields (Obj.data_mapFields hd1 _)), (Obj.cls_mapFields ..).trans ((Obj.cls_mapFields ..).trans hc), by rw [Obj.data_mapFields hd1]; simp [rawInt]⟩
  exact wpAny_pure ⟨_, rfl, wpAny_pure (hQ _ hit' ((Heap.SameBut.update ..).trans (Heap.SameBut.update ..)))⟩
theorem end_int {I a : Addr} {i sl : Nat} {es : Array (Int × Value)} {ep : Nat} {t : SetTable} {Q : Option Value → Shared → Prop} (hh : A.handled = none)
    (hs : s.heap.get? a = some (setObj es ep t)) (hf : t.fits es.size = true) (hit : SIter s.heap I a (.int sl 0) i es.size ep)
    (hn : ∀ (E' : Value → Shared → Prop) (Q' : Option (Value × Nat) → Shared → Prop), Q' none s → wpAny (model prog w) A.in1 (setNext a sl i ep) Q' E' s)
    (hQ : ∀ h', (∀ b o, b ≠ I → s.heap.get? b = some o → h'.get? b = some o) → Q none { s with heap := h' }) :
    wpAny (model prog w) A (pyNext (.ref I)) Q E s := by
  obtain ⟨o, ho, hc, hd⟩ := id hit
  unfold pyNext
  refine wpAny_bind (wpAny_attempt (wpAny_callSpecial?_slot (name := Str.ofString "__next__") hit.typeIs slot_si_next
    (wpAny_call_entry slot_si_next hit.typeIs entry_si_next ?_ (args_si_next _))))
  unfold Builtin.«set_iterator.__next__»
  refine wpAny_bind (wpAny_pure ?_)
  refine wpAny_bind (wpAny_fieldsOf ho hd ?_)
  dsimp only
  refine wpAny_bind (wpAny_setEntries_of hs rfl hf ?_)
  rw [if_neg (by simp)]
  simp only [Int.toNat_natCast]
  refine wpAny_bind (hn _ _ ?_)
  dsimp only
  refine wpAny_bind (wpAny_setField ho hd (by simp) ?_)
  refine stop_ok hh fun h' hk => hQ h' fun b o' hb e => hk b o' ?_
  exact (Heap.get?_update_other _ _ (Ne.symm hb)).trans e
end
end NwS
namespace NwS
open PySem
open Sem (wp)
section
variable {prog : Program} {w : World} {A : Around} {E : Value → Shared → Prop} {s : Shared}
theorem sbt_ok {Q : Bool → Shared → Prop} (h : Q (byText w) s) : wpAny (model prog w) A setsByText Q E s := by
  unfold setsByText
  exact wpAny_bind (wpAny_askSetting (wpAny_pure h))
theorem setNext_text {a : Addr} {sl i ep : Nat} {es : Array (Int × Value)} {t : SetTable} {Q : Option (Value × Nat) → Shared → Prop} (hb : byText w = true)
    (hs : s.heap.get? a = some (setObj es ep t)) (hf : t.fits es.size = true)
    (h : Q (((pickOrder (w.params.setOrder a ep) es)[i]?).map fun e => (e.2, sl)) s) : wpAny (model prog w) A (setNext a sl i ep) Q E s := by
  unfold setNext
  refine wpAny_bind (wpAny_setState_of hs rfl hf ?_)
  refine wpAny_bind (sbt_ok ?_)
  rw [hb, if_pos rfl]
  rw [if_neg (by simp)]
  refine wpAny_bind ?_
  unfold setWalk
  refine wpAny_bind (wpAny_setState_of hs rfl hf ?_)
  refine wpAny_bind (sbt_ok ?_)
  rw [hb, if_pos rfl]
  refine wpAny_bind (wpAny_askSetting (wpAny_pure ?_))
  exact wpAny_pure h
theorem setNext_one {a : Addr} {sl i ep : Nat} {es : Array (Int × Value)} {t : SetTable} {Q : Option (Value × Nat) → Shared → Prop} (hb : byText w = false)
    (hs : s.heap.get? a = some (setObj es ep t)) (hf : t.fits es.size = true) (hl : t.led = true) (h1 : es.size ≤ 1)
    (h : Q (match es[SetTable.below t.place sl]?, t.place[SetTable.below t.place sl]? with
      | some (_, x), some j => some (x, j + 1)
      | _, _ => none) s) : wpAny (model prog w) A (setNext a sl i ep) Q E s := by
  unfold setNext
  refine wpAny_bind (wpAny_setState_of hs rfl hf ?_)
  refine wpAny_bind (sbt_ok ?_)
  rw [hb, if_neg (by simp)]
  show wpAny _ _ (if (!t.plain && decide (es.size > 1)) = true then _ else _) _ _ _
  rw [if_neg (by simp; omega)]
  show wpAny _ _ ((if (!t.led && !es.isEmpty) = true then unsupported "set:maker-not-led" else pure ()) >>= _) _ _ _
  rw [hl, if_neg (by simp)]
  exact wpAny_bind (wpAny_pure (wpAny_pure h))
theorem below_zero (xs : Array Nat) (h : xs.size ≤ 1) : SetTable.below xs 0 = 0 := by
  unfold SetTable.below
  rcases Nat.le_one_iff_eq_zero_or_eq_one.mp h with e | e <;> rw [e] <;> simp [SetTable.below.go]
theorem below_one (xs : Array Nat) (h : xs.size = 1) : SetTable.below xs (xs.getD 0 0 + 1) = 1 := by
  unfold SetTable.below
  rw [h]
  have e : xs.getD 0 (xs.getD 0 0 + 1) = xs.getD 0 0 := by simp [Array.getD, h]
  show (if (0 : Nat) < 1 then (if xs.getD ((0 + 1) / 2) (xs.getD 0 0 + 1) < xs.getD 0 0 + 1 then (0 + 1) / 2 + 1 else 0) else 0) = 1
  rw [show (0 + 1) / 2 = 0 from rfl, e, if_pos (by omega), if_pos (by omega)]
theorem walks_text (hh : A.handled = none) (hb : byText w = true) {I a : Addr} (hne : a ≠ I) {es : Array (Int × Value)} {ep : Nat} {t : SetTable} (hf : t.fits es.size = true) :
    Walks prog w A I [I, a] [I] es.size (fun i v => ((pickOrder (w.params.setOrder a ep) es)[i]?).map (·.2) = some v)
      (fun i h => SIter h I a (.int (0 : Nat) 0) i es.size ep ∧ h.get? a = some (setObj es ep t)) where
  sub := fun b hb => by simp at hb; simp [hb]
  frame := fun _ _ _ st hk => ⟨st.1.at fun o e => hk I (by simp) o e, hk a (by simp) _ st.2⟩
  item := fun i s Q E hi st hQ => by
    have hz : (pickOrder (w.params.setOrder a ep) es).size = es.size := by
      rw [← Array.length_toList, (perm_pickOrder _ es).length_eq, Array.length_toList]
    obtain ⟨e, he⟩ : ∃ e, (pickOrder (w.params.setOrder a ep) es)[i]? = some e := ⟨_, Array.getElem?_eq_getElem (by omega)⟩
    refine next_int (v := e.2) (nx := 0) st.2 hf st.1 (fun E' Q' q => setNext_text hb st.2 hf (by rw [he]; exact q)) fun h' hit' hsb => ?_
    exact hQ _ h' s.toks (by rw [he]; rfl) ⟨hit', (hsb.2 a hne).trans st.2⟩ fun b o hb e => (hsb.2 b (fun z => hb (by simp [z]))).trans e
  done := fun s Q E st hQ => by
    have hz : (pickOrder (w.params.setOrder a ep) es).size = es.size := by
      rw [← Array.length_toList, (perm_pickOrder _ es).length_eq, Array.length_toList]
    have he : (pickOrder (w.params.setOrder a ep) es)[es.size]? = none := Array.getElem?_eq_none (by omega)
    refine end_int hh st.2 hf st.1 (fun E' Q' q => setNext_text hb st.2 hf (by rw [he]; exact q)) fun h' hk => ?_
    exact hQ h' s.toks fun b o hb e => hk b o (fun z => hb (by simp [z])) e
  self := fun _ _ _ _ st hQ => iter_self st.1 hQ
theorem walks_drawn (hh : A.handled = none) {I a T : Addr} (hne : a ≠ I) (hTI : T ≠ I) {es : Array (Int × Value)} {ep : Nat} {t : SetTable} (hf : t.fits es.size = true) {ps : List Nat} (hps : ps.Perm (List.range es.size)) :
    Walks prog w A I [I, a, T] [I] es.size (fun i v => ∃ p e, ps[i]? = some p ∧ es[p]? = some e ∧ v = e.2)
      (fun i h => SIter h I a (.ref T) i es.size ep ∧ h.get? a = some (setObj es ep t) ∧ h.get? T = some { cls := .type "tuple", data := .seq (ps.map fun (p : Nat) => rawInt p).toArray }) where
  sub := fun b hb => by simp at hb; simp [hb]
  frame := fun _ _ _ st hk => ⟨st.1.at fun o e => hk I (by simp) o e, hk a (by simp) _ st.2.1, hk T (by simp) _ st.2.2⟩
  item := fun i s Q E hi st hQ => by
    have hz : ps.length = es.size := by rw [hps.length_eq, List.length_range]
    have hp : ps[i]? = some (ps[i]'(by omega)) := List.getElem?_eq_getElem (by omega)
    have hm : ps[i]'(by omega) < es.size := List.mem_range.mp (hps.mem_iff.mp (List.getElem_mem _))
    have he : es[ps[i]'(by omega)]? = some (es[ps[i]'(by omega)]'hm) := Array.getElem?_eq_getElem hm
    refine next_drawn st.2.1 hf st.1 st.2.2 hp he fun h' hit' hsb => ?_
    exact hQ _ h' s.toks ⟨_, _, hp, he, rfl⟩ ⟨hit', (hsb.2 a hne).trans st.2.1, (hsb.2 T hTI).trans st.2.2⟩ fun b o hb e => (hsb.2 b (fun z => hb (by simp [z]))).trans e
  done := fun s Q E st hQ => by
    have hz : ps.length = es.size := by rw [hps.length_eq, List.length_range]
    refine end_drawn hh st.2.1 hf st.1 st.2.2 (List.getElem?_eq_none (by omega)) fun h' hk => ?_
    exact hQ h' s.toks fun b o hb e => hk b o (fun z => hb (by simp [z])) e
  self := fun _ _ _ _ st hQ => iter_self st.1 hQ
theorem walks_one (hh : A.handled = none) (hb : byText w = false) {I a : Addr} (hne : a ≠ I) {es : Array (Int × Value)} {ep : Nat} {t : SetTable} (hf : t.fits es.size = true) (hl : t.led = true) (h1 : es.size ≤ 1) :
    Walks prog w A I [I, a] [I] es.size (fun i v => (es[i]?).map (·.2) = some v)
      (fun i h => SIter h I a (.int (if i = 0 then 0 else t.place.getD 0 0 + 1 : Nat) 0) i es.size ep ∧ h.get? a = some (setObj es ep t)) where
  sub := fun b hb => by simp at hb; simp [hb]
  frame := fun _ _ _ st hk => ⟨st.1.at fun o e => hk I (by simp) o e, hk a (by simp) _ st.2⟩
  item := fun i s Q E hi st hQ => by
    have hpz : t.place.size = es.size := by simp [SetTable.fits] at hf; exact hf.1
    have i0 : i = 0 := by omega
    subst i0
    have e1 : es.size = 1 := by omega
    have he : es[0]? = some (es[0]'(by omega)) := Array.getElem?_eq_getElem (by omega)
    have hp : t.place[0]? = some (t.place[0]'(by omega)) := Array.getElem?_eq_getElem (by omega)
    have hg : t.place.getD 0 0 = t.place[0]'(by omega) := by simp [Array.getD, hpz, e1]
    refine next_int (v := (es[0]'(by omega)).2) (nx := t.place[0]'(by omega) + 1) st.2 hf st.1 (fun E' Q' q => setNext_one hb st.2 hf hl h1 ?_) fun h' hit' hsb => ?_
    · rw [if_pos rfl, below_zero _ (by omega), he, hp]; exact q
    · refine hQ _ h' s.toks (by rw [he]; rfl) ⟨?_, (hsb.2 a hne).trans st.2⟩ fun b o hb e => (hsb.2 b (fun z => hb (by simp [z]))).trans e
      rw [if_neg (by omega), hg]; exact hit'
  done := fun s Q E st hQ => by
    have hpz : t.place.size = es.size := by simp [SetTable.fits] at hf; exact hf.1
    refine end_int hh st.2 hf st.1 (fun E' Q' q => setNext_one hb st.2 hf hl h1 ?_) fun h' hk => ?_
    · rcases Nat.le_one_iff_eq_zero_or_eq_one.mp h1 with e | e
      · rw [if_pos e, below_zero _ (by omega), Array.getElem?_eq_none (by omega)]; exact q
      · rw [if_neg (by omega), below_one _ (by omega), Array.getElem?_eq_none (by omega)]; exact q
    · exact hQ h' s.toks fun b o hb e => hk b o (fun z => hb (by simp [z])) e
  self := fun _ _ _ _ st hQ => iter_self st.1 hQ
theorem items_text {w : World} {a : Addr} {ep : Nat} {es : Array (Int × Value)} {acc : Array Value} (h : ItemsOf (fun i v => ((pickOrder (w.params.setOrder a ep) es)[i]?).map (·.2) = some v) acc es.size) :
    acc.toList.Perm (es.toList.map (·.2)) := by
  have e : acc.toList = (pickOrder (w.params.setOrder a ep) es).toList.map (·.2) := by
    apply List.ext_getElem?
    intro i
    rw [List.getElem?_map, Array.getElem?_toList, Array.getElem?_toList]
    by_cases hi : i < acc.size
    · have := h.2 i acc[i] (Array.getElem?_eq_getElem hi)
      rw [Array.getElem?_eq_getElem hi]; exact this.symm
    · rw [Array.getElem?_eq_none (by omega), Array.getElem?_eq_none (by rw [← Array.length_toList, (perm_pickOrder _ es).length_eq, Array.length_toList]; have := h.1; omega)]; rfl
  rw [e]
  exact (perm_pickOrder _ es).map _
theorem items_one {es : Array (Int × Value)} {acc : Array Value} (h : ItemsOf (fun i v => (es[i]?).map (·.2) = some v) acc es.size) :
    acc.toList.Perm (es.toList.map (·.2)) := by
  have e : acc.toList = es.toList.map (·.2) := by
    apply List.ext_getElem?
    intro i
    rw [List.getElem?_map, Array.getElem?_toList, Array.getElem?_toList]
    by_cases hi : i < acc.size
    · have := h.2 i acc[i] (Array.getElem?_eq_getElem hi)
      rw [Array.getElem?_eq_getElem hi]; exact this.symm
    · rw [Array.getElem?_eq_none (by omega), Array.getElem?_eq_none (by have := h.1; omega)]; rfl
  rw [e]
theorem items_drawn {es : Array (Int × Value)} {acc : Array Value} {ps : List Nat} (hps : ps.Perm (List.range es.size)) (h : ItemsOf (fun i v => ∃ p e, ps[i]? = some p ∧ es[p]? = some e ∧ v = e.2) acc es.size) :
    acc.toList.Perm (es.toList.map (·.2)) := by
  have hz : ps.length = es.size := by rw [hps.length_eq, List.length_range]
  have e : acc.toList = (ps.filterMap (fun i => es[i]?)).map (·.2) := by
    have e0 : ps.filterMap (fun i => es[i]?) = ps.map (fun i => (es[i]?).getD default) := by
      have hall : ∀ i ∈ ps, i < es.size := fun i hi => List.mem_range.mp (hps.mem_iff.mp hi)
      clear hz h hps
      induction ps with
      | nil => rfl
      | cons q qs ih =>
        have hq : q < es.size := hall q (by simp)
        rw [List.filterMap_cons_some (b := es[q]) (by simp [hq]), ih fun i hi => hall i (by simp [hi])]
        simp [hq]
    rw [e0, List.map_map]
    apply List.ext_getElem?
    intro i
    rw [List.getElem?_map, Array.getElem?_toList]
    by_cases hi : i < acc.size
    · obtain ⟨p, e, h1, h2, h3⟩ := h.2 i acc[i] (Array.getElem?_eq_getElem hi)
      rw [Array.getElem?_eq_getElem hi, h1, h3]
      simp [h2]
    · rw [Array.getElem?_eq_none (by omega), List.getElem?_eq_none (by have := h.1; omega)]; rfl
  rw [e]
  refine List.Perm.map _ ((hps.filterMap _).trans ?_)
  rw [filterMap_getElem?_range]
end
end NwS
namespace NwS
open PySem
open Sem (wp)
section
variable {prog : Program} {w : World} {A : Around} {E : Value → Shared → Prop} {s : Shared}
theorem drawn_ok {a : Addr} {es : Array (Int × Value)} {ep : Nat} {t : SetTable} {Q : Bool → Shared → Prop} (hs : s.heap.get? a = some (setObj es ep t)) (hf : t.fits es.size = true)
    (h : Q (!byText w && (!t.plain && decide (es.size > 1))) s) : wpAny (model prog w) A (setDrawn a) Q E s := by
  unfold setDrawn
  refine wpAny_bind (wpAny_setState_of hs rfl hf ?_)
  refine wpAny_bind (sbt_ok ?_)
  exact wpAny_pure h
theorem iter_ok {a : Addr} {es : Array (Int × Value)} {ep : Nat} {t : SetTable} {ss : List Str} (hS : SetT prog w s.heap a ss es ep t) {Q : Value → Shared → Prop}
    (hQ : ∀ I fp P St h' d, (∀ A' : Around, A'.handled = none → Walks prog w A' I fp [I] es.size P St) → St 0 h' → (∀ b ∈ fp, b < h'.objs.size) → I ∈ fp → s.heap.objs.size ≤ I → (∀ b ∈ fp, b = a ∨ s.heap.objs.size ≤ b) →
      (∀ b o, s.heap.get? b = some o → h'.get? b = some o) → (∀ acc, ItemsOf P acc es.size → acc.toList.Perm (es.toList.map (·.2))) → Q (.ref I) { s with heap := h', drawn := d }) :
    wpAny (model prog w) A (pyIter (.ref a)) Q E s := by
  obtain ⟨ho, hel, hpm, hb, hf, hpl, hld⟩ := id hS
  have hT : s.TypeIs (.ref a) "set" := ⟨_, ho, rfl⟩
  have hlt : a < s.heap.objs.size := Heap.lt_size ho
  refine wpAny_pyIter_slot hT F.slot_set_iter (wpAny_call_entry F.slot_set_iter hT entry_set_iter ?_ (F.args_set_iter_1 _))
  unfold Builtin.«frozenset.__iter__» Builtin.Frozenset.slot0 Builtin.Frozenset.sizeOf
  refine wpAny_bind (wpAny_bind (wpAny_pure (wpAny_pure ?_)))
  refine wpAny_bind (wpAny_bind (wpAny_setEntries_of ho rfl hf (wpAny_pure ?_)))
  refine wpAny_bind (drawn_ok ho hf ?_)
  have plain : ∀ (P : Nat → Value → Prop) (St : Nat → Heap → Prop), (∀ A' : Around, A'.handled = none → Walks prog w A' s.heap.objs.size [s.heap.objs.size, a] [s.heap.objs.size] es.size P St) →
      (∀ h', SIter h' s.heap.objs.size a (.int (0 : Nat) 0) 0 es.size ep → h'.get? a = some (setObj es ep t) → St 0 h') → (∀ acc, ItemsOf P acc es.size → acc.toList.Perm (es.toList.map (·.2))) →
      Q (.ref s.heap.objs.size) { s with heap := s.heap.push { cls := .type "set_iterator", data := .fields #[.int (0 : Nat) 0, .int (0 : Nat) 0, .ref a, .int es.size 0, .int ep 0] } } := by
    intro P St W st it
    refine hQ _ _ P St _ s.drawn W (st _ ⟨_, Heap.get?_push_size _ rfl, rfl, rfl⟩ (Heap.get?_push_of_some _ ho)) (fun b hb' => ?_) (by simp) (Nat.le_refl _) (fun b hb' => ?_) (fun b o e => Heap.get?_push_of_some _ e) it
    · rw [Heap.size_push]
      rcases List.mem_cons.mp hb' with e | e
      · rw [e]; exact Nat.lt_succ_self _
      · rw [List.mem_singleton.mp e]; exact Nat.lt_succ_of_lt hlt
    · rcases List.mem_cons.mp hb' with e | e
      · exact .inr (by rw [e]; exact Nat.le_refl _)
      · exact .inl (List.mem_singleton.mp e)
  have hne : a ≠ s.heap.objs.size := Nat.ne_of_lt hlt
  have fin : ∀ {Q' : Value → Shared → Prop}, Q (.ref s.heap.objs.size) { s with heap := s.heap.push { cls := .type "set_iterator", data := .fields #[.int (0 : Nat) 0, .int (0 : Nat) 0, .ref a, .int es.size 0, .int ep 0] } } →
      wpAny (model prog w) A.in1 (setEpoch a >>= fun e => newFields "set_iterator" [rawInt 0, rawInt 0, .ref a, rawInt es.size, rawInt e] >>= fun v => ret v)
        (fun fin s' => ∃ r, fin = .done (.ret r) ∧ ∃ T m, s'.TypeIs r T ∧ typeLookup (.type T) "__next__" = pure (some m) ∧ Q r s') E s := by
    intro Q' q
    refine wpAny_bind (wpAny_setEpoch_of ho rfl hf ?_)
    refine wpAny_bind (wpAny_newObj_type (wpAny_pure ⟨_, rfl, "set_iterator", _, ⟨_, Heap.get?_push_size _ rfl, rfl⟩, slot_si_next.lookup, ?_⟩))
    exact q
  cases hbt : byText w with
  | true =>
    rw [if_neg (by simp)]
    refine wpAny_bind (wpAny_pure ?_)
    exact fin (Q' := Q) (plain _ _ (fun A' hh => walks_text hh hbt hne hf) (fun h' a1 a2 => ⟨a1, a2⟩) fun acc q => items_text q)
  | false =>
    by_cases h1 : es.size ≤ 1
    · rw [if_neg (by simp; omega)]
      refine wpAny_bind (wpAny_pure ?_)
      exact fin (Q' := Q) (plain _ _ (fun A' hh => walks_one hh hbt hne hf (hld hbt) h1) (fun h' a1 a2 => ⟨a1, a2⟩) fun acc q => items_one q)
    · have hp : t.plain = false := hpl.resolve_left (by omega)
      rw [if_pos (by simp [hp]; omega)]
      refine wpAny_bind (drawOrder_ok es.size (List.range es.size) (List.length_range).symm fun ps d hps => ?_)
      have hlen : ps.length = es.size := by rw [hps.length_eq, List.length_range]
      refine wpAny_bind (wpAny_newObj_type ?_ (by have := fits_of_scanBound hb; show (List.map (fun (i : Nat) => rawInt i) ps).toArray.size ≤ _; rw [List.size_toArray, List.length_map, hlen]; omega))
      refine wpAny_bind (wpAny_setEpoch_of (Heap.get?_push_of_some _ ho) rfl hf ?_)
      refine wpAny_bind (wpAny_newObj_type (wpAny_pure ⟨_, rfl, "set_iterator", _, ⟨_, Heap.get?_push_size _ rfl, rfl⟩, slot_si_next.lookup, ?_⟩))
      have hz : (s.heap.push { cls := .type "tuple", data := .seq (ps.map fun (i : Nat) => rawInt i).toArray }).objs.size = s.heap.objs.size + 1 := Heap.size_push _ _
      have hTI : s.heap.objs.size ≠ (s.heap.push { cls := .type "tuple", data := .seq (ps.map fun (i : Nat) => rawInt i).toArray }).objs.size := by rw [hz]; omega
      have hneI : a ≠ (s.heap.push { cls := .type "tuple", data := .seq (ps.map fun (i : Nat) => rawInt i).toArray }).objs.size := by rw [hz]; exact Nat.ne_of_lt (Nat.lt_succ_of_lt hlt)
      refine hQ _ _ _ _ _ d (fun A' hh => walks_drawn (T := s.heap.objs.size) hh hneI hTI hf hps) ⟨⟨_, Heap.get?_push_size _ rfl, rfl, rfl⟩, Heap.get?_push_of_some _ (Heap.get?_push_of_some _ ho), Heap.get?_push_of_some _ (Heap.get?_push_size _ rfl)⟩
        (fun b hb' => ?_) (by simp) (by rw [hz]; omega) (fun b hb' => ?_) (fun b o e => Heap.get?_push_of_some _ (Heap.get?_push_of_some _ e)) fun acc q => items_drawn hps q
      · rw [Heap.size_push, Heap.size_push]
        rw [hz] at hb'
        simp only [List.mem_cons, List.not_mem_nil, or_false] at hb'
        rcases hb' with e | e | e
        · rw [e]; exact Nat.lt_succ_self _
        · rw [e]; exact Nat.lt_succ_of_lt (Nat.lt_succ_of_lt hlt)
        · rw [e]; exact Nat.lt_succ_of_lt (Nat.lt_succ_self _)
      · rw [hz] at hb'
        simp only [List.mem_cons, List.not_mem_nil, or_false] at hb'
        rcases hb' with e | e | e
        · exact .inr (by rw [e]; exact Nat.le_succ _)
        · exact .inl e
        · exact .inr (by rw [e]; exact Nat.le_refl _)
theorem collect_set {a : Addr} {es : Array (Int × Value)} {ep : Nat} {t : SetTable} {ss : List Str} (hh : A.handled = none) (hS : SetT prog w s.heap a ss es ep t) {Q : List Value → Shared → Prop}
    (hQ : ∀ vs h' d tk, vs.Perm (es.toList.map (·.2)) → (∀ b o, s.heap.get? b = some o → h'.get? b = some o) → Q vs { s with heap := h', drawn := d, toks := tk }) :
    wpAny (model prog w) A (collect (.ref a)) Q E s := by
  have ho := hS.obj
  have hlt : a < s.heap.objs.size := Heap.lt_size ho
  have hSa : s.heap.objs.size ≠ a := Nat.ne_of_gt hlt
  have hn : es.size ≤ sizeLine := fits_of_scanBound hS.bd
  unfold collect
  refine wpAny_bind (wpAny_runValue (codeAny_builtin F.entry_proto_collect ?_))
  rw [Around.under_plainId F.plain_proto_collect _]
  show wpAny _ A.in1 (newList [] >>= fun l => again (.builtin "list.__iadd__" ⟨[l, .ref a], []⟩)) _ _ s
  refine wpAny_bind (wpAny_newObj_type ?_)
  refine wpAny_pure ⟨plainId_quiet F.plain_list_iadd _, codeAny_builtin F.entry_list_iadd ?_⟩
  rw [Around.under_plainId F.plain_list_iadd _]
  have hS1 : SetT prog w (s.heap.push { cls := .type "list", data := .seq ([] : List Value).toArray }) a ss es ep t := { hS with obj := Heap.get?_push_of_some _ ho }
  have hT1 : Shared.TypeIs { s with heap := s.heap.push { cls := .type "list", data := .seq ([] : List Value).toArray } } (.ref a) "set" := ⟨_, hS1.obj, rfl⟩
  show wpAny _ A.in1 (Builtin.List.listExtendWith (.ref s.heap.objs.size) (.ref a) (.ref s.heap.objs.size)) _ _ _
  unfold Builtin.List.listExtendWith
  refine wpAny_bind (wpAny_typeOf hT1 ?_)
  have h1 : Builtin.List.listSameRef (.ref s.heap.objs.size) (.ref a) = false := by simp [Builtin.List.listSameRef, hSa]
  have h2 : (Value.type "set" == Value.type "list") = false := by decide
  have h3 : (Value.type "set" == Value.type "tuple") = false := by decide
  simp only [h1, h2, h3, Bool.or_false, Bool.false_eq_true, if_false]
  refine wpAny_bind (iter_ok hS1 fun I fp P St h' d W st0 hfp hI hIf hfa hk items => ?_)
  have hS2 : SetT prog w h' a ss es ep t := { hS1 with obj := hk _ _ hS1.obj }
  have hT2 : Shared.TypeIs { s with heap := h', drawn := d } (.ref a) "set" := ⟨_, hS2.obj, rfl⟩
  refine wpAny_bind (wpAny_holding ?_)
  unfold Builtin.List.listLengthHint
  refine wpAny_bind (wpAny_specialOf hT2 F.slot_set_len.lookup ?_)
  (generalize hid : ("set.__len__" : String) = id0; (fail_if_success (clear hid id0)); dsimp only; rw [show splitId id0 = some ("set", "__len__") from by subst hid; decide +kernel]; subst hid)
  refine wpAny_bind (wpAny_isInstance (b := true) hT2 (by rw [isSubtype_type]; kernel_rfl) ?_)
  refine wpAny_bind (wpAny_typeOf hT2 ?_)
  refine wpAny_pure ?_
  show wpAny _ A.in1 (rule "list.extend.makes-room" >>= fun _ => Builtin.List.listTouch (.ref s.heap.objs.size) >>= fun _ =>
    again (.builtin "list.extend.loop" ⟨[.ref s.heap.objs.size, .ref I, .ref s.heap.objs.size], []⟩)) _ _ _
  refine wpAny_bind (wpAny_rule ?_)
  have hSf : s.heap.objs.size ∉ fp := fun hm => by
    rcases hfa _ hm with e | e
    · exact hSa e
    · rw [Heap.size_push] at e; omega
  have hS₁ : h'.get? s.heap.objs.size = some { cls := .type "list", data := .seq ([] : List Value).toArray } := hk _ _ (Heap.get?_push_size _ rfl)
  refine wpAny_bind ?_
  show wpAny _ A.in1 (updateSeq s.heap.objs.size (·.push .none) >>= fun _ => updateSeq s.heap.objs.size (·.pop)) _ _ _
  refine wpAny_bind (wpAny_updateSeq hS₁ rfl ?_)
  have hS₂ := Heap.get?_update_self (Obj.mapSeq (·.push Value.none)) hS₁ rfl
  refine wpAny_updateSeq hS₂ rfl ?_
  have hS₃ := Heap.get?_update_self (Obj.mapSeq (·.pop)) hS₂ rfl
  have oth : ∀ b o, b ≠ s.heap.objs.size → h'.get? b = some o →
      ((h'.update s.heap.objs.size (Obj.mapSeq (·.push Value.none))).update s.heap.objs.size (Obj.mapSeq (·.pop))).get? b = some o :=
    fun b o hb e => (Heap.get?_update_other _ _ (Ne.symm hb)).trans ((Heap.get?_update_other _ _ (Ne.symm hb)).trans e)
  have WS := (W A.in1.in1 hh).toS
  refine wpAny_pure ⟨plainId_quiet F.plain_extend_loop _, codeAny_extend_loopS (A := A) (W A.in1 hh).toS hn _ hSf _ es.size 0 _ _ _ rfl (Nat.zero_le _)
    (WS.frame 0 ({ s with heap := h', drawn := d } : Shared) _ s.toks st0 (Nat.le_refl _) fun b hb o e => oth b o (fun h => hSf (h ▸ hb)) e) hS₃ (ItemsOf.nil P) fun s' acc' c' hm hS' hacc => ?_⟩
  obtain ⟨h4, g4, d4, tk4, os4⟩ := s'
  have eg : g4 = s.gens := hm.gens
  have ed : d4 = d := hm.drawn
  have eo : os4 = s.os := hm.os
  subst eg; subst ed; subst eo
  show wpAny _ A (load s.heap.objs.size >>= _) _ _ _
  refine wpAny_bind (wpAny_load hS' ?_)
  refine wpAny_pure (hQ _ h4 d4 tk4 (items _ hacc) fun b o e => ?_)
  have hlb : b < s.heap.objs.size := Heap.lt_size e
  refine hm.heap b o (fun hm' => ?_) (oth b o (Nat.ne_of_lt hlb) (hk b o (Heap.get?_push_of_some _ e)))
  rcases List.mem_cons.mp hm' with z | z
  · exact absurd z (Nat.ne_of_lt hlb)
  · have z := List.mem_singleton.mp z
    have hIf' : s.heap.objs.size + 1 ≤ I := by rw [← Heap.size_push s.heap { cls := .type "list", data := .seq ([] : List Value).toArray }]; exact hIf
    exact absurd (Nat.lt_trans hlb hIf') (by rw [z]; exact Nat.lt_irrefl _)
end
end NwS
namespace NwS
open PySem PySem.Spec PyProof.Rows
open Sem (wp)
def addT (ss : List Str) (x : Str) : List Str := if x ∈ ss then ss else ss ++ [x]
def metT (val : Nat → Str) : Nat → List Str
  | 0 => []
  | i + 1 => addT (metT val i) (val i)
theorem metT_length (val : Nat → Str) : ∀ i, (metT val i).length ≤ i
  | 0 => Nat.le_refl _
  | i + 1 => by
    have := metT_length val i
    show (addT _ _).length ≤ _
    unfold addT; split
    · omega
    · rw [List.length_append, List.length_singleton]; omega
theorem metT_nodup (val : Nat → Str) : ∀ i, (metT val i).Nodup
  | 0 => .nil
  | i + 1 => by
    have := metT_nodup val i
    show (addT _ _).Nodup
    unfold addT; split
    · exact this
    · rename_i h
      rw [List.nodup_append]
      refine ⟨this, by simp, fun a ha b hb => ?_⟩
      rw [List.mem_singleton.mp hb]
      exact fun e => h (e ▸ ha)
theorem metT_mem (val : Nat → Str) (x : Str) : ∀ i, x ∈ metT val i ↔ ∃ j, j < i ∧ val j = x
  | 0 => by simp [metT]
  | i + 1 => by
    have ih := metT_mem val x i
    have e : x ∈ metT val (i + 1) ↔ x ∈ metT val i ∨ x = val i := by
      show x ∈ addT _ _ ↔ _
      unfold addT; split
      · rename_i h
        exact ⟨.inl, fun z => z.elim id fun e => e ▸ h⟩
      · rw [List.mem_append, List.mem_singleton]
    rw [e, ih]
    constructor
    · rintro (⟨j, h1, h2⟩ | e)
      · exact ⟨j, by omega, h2⟩
      · exact ⟨i, by omega, e.symm⟩
    · rintro ⟨j, h1, h2⟩
      by_cases h : j = i
      · subst h; exact .inr h2.symm
      · exact .inl ⟨j, by omega, h2⟩
section
variable {prog : Program} {w : World} {A : Around} {R : Result → Shared → Prop} {I : Addr} {fp wr : List Addr} {G : Array GenState → Array GenState → Prop} {n : Nat} {P : Nat → Value → Prop} {St : Nat → Shared → Prop}
theorem loop_set (W : WalksS prog w A.in1 I fp wr G n P St) (S : Addr) (hSf : S ∉ fp)
    (val : Nat → Str) (hval : ∀ i v, P i v → ∃ t, v = .str (val i) t) (hb : n + 1 < scanBound) :
    ∀ (k i : Nat) (s : Shared), n - i = k → i ≤ n → St i s →
      (∃ es ep t, SetT prog w s.heap S (metT val i) es ep t) →
      (∀ s', Moved (S :: wr) G s s' → (∃ es ep t, SetT prog w s'.heap S (metT val n) es ep t) → R (.ok (.ret .none)) s') →
      codeAny (model prog w) A (.builtin "set.update.loop" ⟨[.ref S, .ref I], []⟩) R s := by
  have hSw : S ∉ wr := fun h => hSf (W.sub _ h)
  have hsub : ∀ b ∈ wr, b ∈ S :: wr := fun b hb => List.mem_cons_of_mem _ hb
  intro k
  induction k with
  | zero =>
    intro i s hk hi hst hS hR
    have hin : i = n := by omega
    subst hin
    refine codeAny_builtin F.entry_set_update_loop ?_
    rw [Around.under_plainId F.plain_set_update_loop _]
    show wpAny _ A.in1 (pyNext (.ref I) >>= _) _ _ s
    refine wpAny_bind (W.done s _ _ hst fun s' hm => ?_)
    show wpAny _ A.in1 (ret Value.none) _ _ s'
    obtain ⟨es, ep, t, hS⟩ := hS
    exact wpAny_pure (hR s' (hm.mono hsub) ⟨es, ep, t, { hS with obj := hm.heap S _ hSw hS.obj }⟩)
  | succ k ih =>
    intro i s hk hi hst hS hR
    have hlt : i < n := by omega
    refine codeAny_builtin F.entry_set_update_loop ?_
    rw [Around.under_plainId F.plain_set_update_loop _]
    show wpAny _ A.in1 (pyNext (.ref I) >>= _) _ _ s
    refine wpAny_bind (W.item i s _ _ hlt hst fun v s' hP hst' hm => ?_)
    obtain ⟨t, rfl⟩ := hval i v hP
    obtain ⟨es, ep, tb, hS⟩ := hS
    have hS' : SetT prog w s'.heap S (metT val i) es ep tb := { hS with obj := hm.heap S _ hSw hS.obj }
    show wpAny _ A.in1 (holding [Value.str (val i) t] (setAdd S (.str (val i) t)) >>= _) _ _ s'
    refine wpAny_bind (wpAny_holding ?_)
    unfold setAdd
    refine wpAny_holding ?_
    refine wpAny_bind ((strKind prog w).pyHash (k := val i) (strKind_is _ _ _ _) ?_)
    have hsz : es.size = (metT val i).length := by rw [← hS.pm.length_eq, List.length_map, Array.length_toList]
    have hroom : es.size + 1 < scanBound := by have := metT_length val i; omega
    refine add_ok (s := { s' with toks := s'.toks + 1 }) hS' hroom fun h' es' ep' t' b hsb hS2 _ => ?_
    have hSi : SetT prog w h' S (metT val (i + 1)) es' ep' t' := hS2
    refine wpAny_pure ⟨plainId_quiet F.plain_set_update_loop _, ih (i + 1) _ (by omega) hlt (W.frame _ s' _ _ hst' (Nat.le_succ _) fun b hb o e => ?_) ⟨_, _, _, hSi⟩ fun s'' hm'' hS'' => ?_⟩
    · rw [hsb.2 b (fun h : b = S => hSf (by rw [← h]; exact hb))]; exact e
    · refine hR s'' (Moved.trans W.gtrans ((hm.mono hsub).then_heap (Nat.le_succ _) fun b o hb e => ?_) hm'') hS''
      rw [hsb.2 b (fun h : b = S => hb (by rw [h]; exact List.mem_cons_self))]; exact e
end
section
variable {prog : Program} {w : World} {A : Around} {E : Value → Shared → Prop} {s : Shared}
theorem new_set (a : Value) {Q₁ : Value → Shared → Prop}
    (h : Q₁ (.ref s.heap.objs.size) { s with heap := s.heap.push { cls := .type "set", dict := none, data := .set #[] 0 (.fresh 0 0 (!byText w)) } }) :
    codeAny (model prog w) A (.call (.builtin "set.__new__") ⟨[.type "set", a], []⟩) (wants Q₁ E) s := by
  refine codeAny_of_tree ?_
  show wpAny _ A.in1 (do checkBuiltinCall "set.__new__" ⟨[.type "set", a], []⟩; again (.builtin "set.__new__" ⟨[.type "set", a], []⟩)) _ _ s
  refine wpAny_bind (wpAny_of_eq (F.newCall_set_1 a) (wpAny_pure ⟨plainId_quiet F.plain_set_new _, codeAny_builtin F.entry_set_new ?_⟩))
  rw [Around.under_plainId F.plain_set_new _]
  unfold Builtin.«set.__new__» Builtin.Frozenset.newClass
  have hsub := sub_set_self
  obtain ⟨hp, g, d, tk, os⟩ := s
  dsimp only
  wp_walk
  refine wpAny_askSetting (wpAny_pure ?_)
  dsimp only
  simp only [newObj]
  refine wpAny_bind (wpAny_alloc (wpAny_pure ?_))
  exact wpAny_pure h
set_option maxRecDepth 100000 in
set_option maxHeartbeats 3200000 in
theorem call_set_strs {l : Addr} {items : Array Value} {xs : List Str} {Q : Value → Shared → Prop}
    (hh : A.handled = none) (hl : s.heap.IsList l items) (hi : StrsAre items.toList xs) (hb : items.size + 1 < scanBound)
    (h : ∀ (h' : Heap) (tk : Nat), (∃ es ep t, SetT prog w h' s.heap.objs.size (metT (fun i => xs.getD i ⟨#[]⟩) items.size) es ep t) →
      (∀ b o, b < s.heap.objs.size → s.heap.get? b = some o → h'.get? b = some o) → Q (.ref s.heap.objs.size) { s with heap := h', toks := tk }) :
    wpAny (model prog w) A (call (.type "set") [.ref l]) Q E s := by
  obtain ⟨c, tl, hmro⟩ := F.called_set.mro
  have hmade := F.called_set.made
  have hsub := F.called_set.sub
  refine wpAny_call (codeAny_of_tree ?_)
  show wpAny _ _ (callAny (.type "set") _) _ _ _
  refine wpAny_pure ⟨Code.quiet_builtin _ (by decide +kernel), codeAny_builtin F.entry_type_call ?_⟩
  rw [Around.under_plain (weight_type_call_type "set" [.ref l] []) rfl]
  have h1 := F.called_set.notType
  have h2 := F.called_set.canCreate
  have hct := F.typeCall_set_1 (.ref l)
  repeat (any_goals (first | assumption | wp_step))
  refine codeAny_mono (new_set (.ref l) (E := E) (Q₁ := fun obj s₁ => obj = .ref s.heap.objs.size ∧ s₁ = { s with heap := s.heap.push { cls := .type "set", dict := none, data := .set #[] 0 (.fresh 0 0 (!byText w)) } }) ⟨rfl, rfl⟩) fun r s₁ hr => ?_
  cases r with
  | error e => exact hr
  | ok fl =>
    cases fl with
    | ret obj =>
      obtain ⟨rfl, rfl⟩ := hr
      have hS : (s.heap.push { cls := .type "set", dict := none, data := .set #[] 0 (.fresh 0 0 (!byText w)) }).get? s.heap.objs.size = some { cls := .type "set", dict := none, data := .set #[] 0 (.fresh 0 0 (!byText w)) } := Heap.get?_push_size _ rfl
      have hT : Shared.TypeIs { s with heap := s.heap.push { cls := .type "set", dict := none, data := .set #[] 0 (.fresh 0 0 (!byText w)) } } (.ref s.heap.objs.size) "set" := ⟨_, hS, rfl⟩
      have hli := F.called_set.init.lookup
      have hbi := F.called_set.init.bind (.ref s.heap.objs.size)
      repeat (any_goals (first | assumption | wp_step))
      refine codeAny_mono (codeAny_call_builtin (R := wants (fun r s₂ => r = .none ∧ ∃ h' tk, s₂ = { s with heap := h', toks := tk } ∧
          (∃ es ep t, SetT prog w h' s.heap.objs.size (metT (fun i => xs.getD i ⟨#[]⟩) items.size) es ep t) ∧
          (∀ b o, b < s.heap.objs.size → s.heap.get? b = some o → h'.get? b = some o)) E) F.called_set.init.plain F.entry_set_init (check_set_init_1 hT ?_)) fun r₂ s₂ hr₂ => ?_
      · obtain ⟨ol, hol, hcl, nl, hdl⟩ := hl
        obtain ⟨ocls, odict, odata, oslots⟩ := ol
        simp only at hcl hdl
        subst hcl; subst hdl
        have hol' : (s.heap.push { cls := .type "set", dict := none, data := .set #[] 0 (.fresh 0 0 (!byText w)) }).get? l = some { cls := .type "list", dict := odict, data := .seq items nl, slots := oslots } := Heap.get?_push_of_some _ hol
        have hsls := F.sub_list_set
        have hslf := F.sub_list_frozenset
        have hne : (Value.type "list" == Value.type "dict") = false := by decide
        have hl1 : (s.heap.push { cls := .type "set", dict := none, data := .set #[] 0 (.fresh 0 0 (!byText w)) }).IsList l items := ⟨_, hol', rfl, nl, rfl⟩
        unfold Builtin.«set.__init__» noKeywords Builtin.Frozenset.updateFrom
        generalize hPI : pyIter = PI
        wp_walk
        subst hPI
        refine wpAny_pyIter_list hl1 ?_
        refine wpAny_bind (wpAny_runValue ?_)
        have hlS : l < s.heap.objs.size := Heap.lt_size hol
        have hh3 : A.in1.in1.in1.handled = none := by simp [hh]
        have hneI : l ≠ (s.heap.push { cls := .type "set", dict := none, data := .set #[] 0 (.fresh 0 0 (!byText w)) }).objs.size := by
          rw [Heap.size_push]; exact Nat.ne_of_lt (Nat.lt_succ_of_lt hlS)
        have hSf : s.heap.objs.size ∉ [(s.heap.push { cls := .type "set", dict := none, data := .set #[] 0 (.fresh 0 0 (!byText w)) }).objs.size, l] := by
          rw [Heap.size_push]; simp only [List.mem_cons, List.mem_singleton, List.not_mem_nil, or_false, not_or]
          exact ⟨Nat.ne_of_lt (Nat.lt_succ_self _), Nat.ne_of_gt hlS⟩
        have hval : ∀ (i : Nat) (v : Value), items[i]? = some v → ∃ t, v = .str ((fun i => xs.getD i ⟨#[]⟩) i) t := fun i v hv => by
          have hv' : items.toList[i]? = some v := by rw [Array.getElem?_toList]; exact hv
          obtain ⟨x, t, e⟩ := hi.all v (List.mem_of_getElem? hv')
          have e2 : xs[i]? = some (strOf v) := by rw [← hi.strs, List.getElem?_map, hv']; rfl
          refine ⟨t, ?_⟩
          show v = .str (xs.getD i ⟨#[]⟩) t
          rw [List.getD_eq_getElem?_getD, e2, e]; rfl
        refine loop_set ((Walks.list hh3 _ l hneI items).toS) s.heap.objs.size
          hSf (fun i => xs.getD i ⟨#[]⟩) hval hb (items.size - 0) 0 _ (by omega) (Nat.zero_le _)
          ⟨⟨_, Heap.get?_push_size _ rfl, rfl, rfl⟩, (hl1.push _)⟩ ?hS0 ?hR
        case hS0 =>
          have hget : ((s.heap.push { cls := .type "set", dict := none, data := .set #[] 0 (.fresh 0 0 (!byText w)) }).push { cls := .type "list_iterator", data := .fields #[.ref l, .int 0 0] }).get? s.heap.objs.size
              = some { cls := .type "set", dict := none, data := .set #[] 0 (.fresh 0 0 (!byText w)) } := Heap.get?_push_of_some _ hS
          exact ⟨#[], 0, _, hget, fun e he => by simp at he, .nil, by decide, rfl, .inl rfl, fun z => by show (!byText w) = true; rw [z]; rfl⟩
        case hR =>
          intro s' hm hS'
          obtain ⟨h', g', d', tk', os'⟩ := s'
          have eg : g' = s.gens := hm.gens
          have ed : d' = s.drawn := hm.drawn
          have eo : os' = s.os := hm.os
          subst eg; subst ed; subst eo
          show wpAny _ _ _ _ _ _
          refine wpAny_pure ?_
          show wpAny _ _ (ret Value.none) _ _ _
          refine wpAny_pure ⟨rfl, h', tk', rfl, hS', fun b o hb e => ?_⟩
          have hb1 : b ≠ s.heap.objs.size := Nat.ne_of_lt hb
          have hb2 : b ≠ (s.heap.push { cls := .type "set", dict := none, data := .set #[] 0 (.fresh 0 0 (!byText w)) }).objs.size := by
            rw [Heap.size_push]; exact Nat.ne_of_lt (Nat.lt_succ_of_lt hb)
          exact hm.heap b o (by simp only [List.mem_cons, List.mem_singleton, List.not_mem_nil, or_false, not_or]; exact ⟨hb1, hb2⟩) (Heap.get?_push_of_some _ (Heap.get?_push_of_some _ e))
      · cases r₂ with
        | error e => exact hr₂
        | ok fl₂ =>
          cases fl₂ with
          | ret r =>
            obtain ⟨rfl, h', tk, rfl, hS', hk'⟩ := hr₂
            repeat (any_goals (first | assumption | wp_step))
            exact h _ _ hS' hk'
          | _ => exact hr₂.elim
    | _ => exact hr.elim
theorem sorted_set {a : Addr} {ss : List Str} {es : Array (Int × Value)} {ep : Nat} {t : SetTable} {Q : Value → Shared → Prop} (hh : A.handled = none) (hS : SetT prog w s.heap a ss es ep t) (h64 : ss.length < 64)
    (h : ∀ (h1 h' : Heap) (d : Drawn) (tk n : Nat) (out : Array Value) (ss' : List Str), StrsAre out.toList ss' → ss'.Perm ss → ss'.Pairwise (fun a b => ltCps b.cps.toList a.cps.toList = false) →
      h'.get? h1.objs.size = some (seqObj "list" out n) → (∀ b o, s.heap.get? b = some o → h1.get? b = some o) → (∀ b o, h1.get? b = some o → h'.get? b = some o) → Q (.ref h1.objs.size) { s with heap := h', drawn := d, toks := tk }) :
    wpAny (model prog w) A (call (.builtin "sorted") [.ref a]) Q E s := by
  refine Calls.call_function_entry kind_sorted plain_sorted entry_sorted (args_sorted1 _) ?_
  unfold Builtin.«sorted»
  refine wpAny_bind (m := checkCount "sorted" 1 1 _) (wpAny_pure ?_)
  refine wpAny_bind (collect_set (A := A.in1) (show A.in1.handled = none from hh) hS fun vs h1 d tk hp hk => ?_)
  have hlen : vs.length = ss.length := by rw [hp.length_eq, List.length_map, ← hS.pm.length_eq, List.length_map]
  have hst : ∀ v, v ∈ vs → ∃ x t, v = .str x t := fun v hv => by
    obtain ⟨e, he, rfl⟩ := List.mem_map.mp (hp.mem_iff.mp hv)
    obtain ⟨⟨k, hk', _⟩, _⟩ := hS.el e he
    obtain ⟨t, e1⟩ := Value.isStrOf_shape (x := k) (v := e.2) hk'
    exact ⟨k, t, e1⟩
  have hA := strsAre_map vs hst
  have hps : (vs.map strOf).Perm ss := by
    refine (hp.map strOf).trans ?_
    rw [List.map_map]
    refine List.Perm.trans (List.Perm.of_eq ?_) hS.pm
    apply List.map_congr_left
    intro e he
    obtain ⟨⟨k, hk', _⟩, _⟩ := hS.el e he
    obtain ⟨t, e1⟩ := Value.isStrOf_shape (x := k) (v := e.2) hk'
    show strOf e.2 = txt e.2
    rw [e1]; rfl
  refine wpAny_bind (wpAny_newList ?_ (by have := fits_of_scanBound hS.bd; rw [sizeLine_eq]; omega))
  have hoL : (h1.push (seqObj "list" vs.toArray 0)).get? h1.objs.size = some (seqObj "list" vs.toArray 0) := Heap.get?_push_size _ rfl
  refine wpAny_bind (wpAny_holding (wpAny_call_entry slot_list_sort ⟨_, hoL, rfl⟩ entry_list_sort (list_sort_treeK strKind_oneLt hoL hA.keysOf (fun v₁ v₂ rest e => keyKind_strs (by rw [← e]; exact hA)) (by omega) fun st' a1 a2 => ⟨_, rfl, ?_⟩) (args_list_sort _)))
  refine wpAny_pure ⟨_, rfl, ?_⟩
  have hl : (arrOf st').toList.Perm (vs.zip vs) := by rw [← pairsOf_toList]; exact Array.perm_iff_toList_perm.mp a1
  have hmem : ∀ p, p ∈ (arrOf st').toList → p.1 = p.2 ∧ p.1 ∈ vs := fun p hp' => mem_zip_self (hl.mem_iff.mp hp')
  obtain ⟨n, hn⟩ := sortedHeap_at (h := h1.push (seqObj "list" vs.toArray 0)) (vs := vs) (out := (arrOf st').map (·.2)) (n := 0) hoL
  refine h h1 _ d tk n _ ((arrOf st').toList.map (fun p => strOf p.1)) ?_ ?_ ?_ hn hk fun b o e => ?_
  · have e : ((arrOf st').map (·.2)).toList = (arrOf st').toList.map (·.1) := by
      rw [Array.toList_map]; exact List.map_congr_left fun p hp' => (hmem p hp').1.symm
    rw [e]
    have h1 := strsAre_map ((arrOf st').toList.map (·.1)) (by
      intro v hv
      obtain ⟨p, hp', rfl⟩ := List.mem_map.mp hv
      exact hst _ (hmem p hp').2)
    rwa [List.map_map] at h1
  · have h2 := hl.map (fun p => strOf p.1)
    have e2 : (vs.zip vs).map (fun p => strOf p.1) = vs.map strOf := by
      have : (vs.zip vs).map (fun p => strOf p.1) = ((vs.zip vs).map Prod.fst).map strOf := by rw [List.map_map]; rfl
      rw [this, List.map_fst_zip (Nat.le_refl _)]
    rw [e2] at h2
    exact h2.trans hps
  · rw [List.pairwise_iff_getElem]
    intro i j hi hj hij
    have hi' : i < (arrOf st').size := by simpa using hi
    have hj' : j < (arrOf st').size := by simpa using hj
    have h1 := a2 i j (Nat.le_of_lt hij) (by rw [← a1.size_eq]; exact hj')
    obtain ⟨x, t, ex⟩ := hst _ (hmem (arrOf st')[i] (by simp)).2
    obtain ⟨y, u, ey⟩ := hst _ (hmem (arrOf st')[j] (by simp)).2
    rw [KK_str hi' (x := x) (t := t) (q := (arrOf st')[i].2) (Prod.ext ex rfl), KK_str hj' (x := y) (t := u) (q := (arrOf st')[j].2) (Prod.ext ey rfl)] at h1
    change decide (y.cps.toList < x.cps.toList) = false at h1
    simp only [List.getElem_map, Array.getElem_toList]
    rw [show strOf (arrOf st')[i].1 = x by rw [ex]; rfl, show strOf (arrOf st')[j].1 = y by rw [ey]; rfl, ltCps_eq]
    exact h1
  · have hlt : b < h1.objs.size := Heap.lt_size e
    rw [sortedHeap_old (Nat.ne_of_lt hlt) (by rw [Heap.size_push]; exact Nat.lt_succ_of_lt hlt), Heap.get?_push_ne _ _ _ (Nat.ne_of_lt hlt)]
    exact e
end
end NwS
namespace L2
open PySem PySem.Spec PyProof.Rows
def leS (a b : Str) : Prop := ltCps b.cps.toList a.cps.toList = false
structure IsNorm (ts out : List Str) : Prop where
  nd : out.Nodup
  le : out.Pairwise leS
  mem : ∀ x, x ∈ out ↔ x ∈ ts
  len : out.length ≤ ts.length
theorem leS_anti {a b : Str} (h1 : leS a b) (h2 : leS b a) : a = b := by
  unfold leS at h1 h2
  have e : a.cps.toList = b.cps.toList := strKind.total _ _ (by rw [ltCps_eq] at h2; exact h2) (by rw [ltCps_eq] at h1; exact h1)
  cases a; cases b
  exact congrArg Str.mk (Array.toList_inj.mp e)
theorem IsNorm.uniq {ts ts' a b : List Str} (h : IsNorm ts a) (h' : IsNorm ts' b) (e : ∀ x, x ∈ ts ↔ x ∈ ts') : a = b :=
  List.Perm.eq_of_pairwise (fun _ _ _ _ h1 h2 => leS_anti h1 h2) h.le h'.le ((List.perm_ext_iff_of_nodup h.nd h'.nd).mpr fun x => ((h.mem x).trans (e x)).trans (h'.mem x).symm)
theorem IsNorm.nil : IsNorm [] [] := ⟨.nil, .nil, fun _ => Iff.rfl, Nat.le_refl _⟩
theorem IsNorm.one (x : Str) : IsNorm [x] [x] := ⟨by simp, by simp, fun _ => Iff.rfl, Nat.le_refl _⟩
theorem IsNorm.cat {a b oa ob out : List Str} (h1 : IsNorm a oa) (h2 : IsNorm b ob) (h : IsNorm (oa ++ ob) out) : IsNorm (a ++ b) out :=
  ⟨h.nd, h.le, fun x => (h.mem x).trans (by rw [List.mem_append, List.mem_append, h1.mem, h2.mem]), by have := h.len; have := h1.len; have := h2.len; rw [List.length_append] at *; omega⟩
section
variable {X : Cx}
def SetO (X : Cx) (a : Addr) (ss : List Str) : HO := HO.ext fun h => ∃ es ep t, NwS.SetT X.prog X.w h a ss es ep t
theorem strs_of_vals : ∀ {ts : List Str} {its : List Value}, Vals (ts.map V.str) its → StrsAre its ts
  | [], its, h => by
    rw [List.map_nil] at h
    rw [h.nil_iff.mpr rfl]; exact .nil
  | b :: bs, its, h => by
    rw [List.map_cons] at h
    cases h with
    | cons r1 r2 =>
      obtain ⟨t, e⟩ := r1
      rw [e]
      exact .cons _ _ (strs_of_vals r2)
theorem strs_vals : ∀ {ts : List Str} {its : List Value}, StrsAre its ts → Vals (ts.map V.str) its
  | _, _, .nil => .nil
  | _, _, .cons x t h => .cons ⟨t, rfl⟩ (strs_vals h)
def metS (ts : List Str) : List Str := NwS.metT (fun i => ts.getD i ⟨#[]⟩) ts.length
theorem metS_mem (ts : List Str) (x : Str) : x ∈ metS ts ↔ x ∈ ts := by
  unfold metS
  rw [NwS.metT_mem, List.mem_iff_getElem?]
  constructor
  · rintro ⟨j, h1, h2⟩
    refine ⟨j, ?_⟩
    rw [List.getD_eq_getElem?_getD, List.getElem?_eq_getElem h1] at h2
    rw [List.getElem?_eq_getElem h1, ← h2]; rfl
  · rintro ⟨j, h⟩
    have hj : j < ts.length := by
      rcases Nat.lt_or_ge j ts.length with h' | h'
      · exact h'
      · rw [List.getElem?_eq_none h'] at h; cases h
    exact ⟨j, hj, by rw [List.getD_eq_getElem?_getD, h]; rfl⟩
theorem metS_nodup (ts : List Str) : (metS ts).Nodup := NwS.metT_nodup _ _
theorem metS_length (ts : List Str) : (metS ts).length ≤ ts.length := NwS.metT_length _ _
theorem IsNorm.of_met {ts out : List Str} (h : IsNorm (metS ts) out) : IsNorm ts out := ⟨h.nd, h.le, fun x => (h.mem x).trans (metS_mem ts x), Nat.le_trans h.len (metS_length ts)⟩
theorem call_setS (hc : X.calm = true) : CallR X (.type "set") (fun xs H Q => ∃ (p : Addr) (ts : List Str), xs = [.ref p] ∧ SqL X.K H p (ts.map V.str) ∧ ts.length + 1 < scanBound ∧ ∀ l, H l = none → Q (.ref l) (upd H l (SetO X l (metS ts)))) := by
  intro pins s σ H xs us Q I r h
  obtain ⟨p, ts, rfl, hx, hb, q⟩ := h
  obtain ⟨u, rfl, ru⟩ := vals1 r
  cases ru
  obtain ⟨its, rv, ht, hz⟩ := I.list hx
  have hlen : its.length = ts.length := by have := rv.length; rw [List.length_map] at this; exact this.symm
  refine NwS.call_set_strs (I.ok.hd hc) ht.isList (xs := ts) (by simpa using strs_of_vals rv) (by simp only [List.size_toArray]; omega) fun h' tk hS hk => ?_
  have e : its.toArray.size = ts.length := by rw [List.size_toArray, hlen]
  rw [e] at hS
  refine ⟨.ref s.heap.objs.size, _, I.laid (fun b o e => hk b o (Heap.lt_size e) e) (Nat.le_refl _) (show ObjOk X.prog X.w _ h' _ (SetO X s.heap.objs.size (metS ts)) from ?_), rfl, q _ (I.hok.fresh (Nat.le_refl _))⟩
  refine ⟨hS, ?_, fun h1 h2 p k => ?_⟩
  · obtain ⟨es, ep, t, hS⟩ := hS; exact ⟨_, hS.obj⟩
  · obtain ⟨es, ep, t, p⟩ := p; exact ⟨es, ep, t, { p with obj := k _ p.obj }⟩
theorem call_sortedS (hc : X.calm = true) : CallR X (.builtin "sorted") (fun xs H Q => ∃ (p : Addr) (ss : List Str), xs = [.ref p] ∧ H p = some (SetO X p ss) ∧ ss.Nodup ∧ ss.length < 64 ∧ ∀ l out, H l = none → IsNorm ss out → Q (.ref l) (upd H l (.lst (out.map V.str)))) := by
  intro pins s σ H xs us Q I r h
  obtain ⟨p, ss, rfl, hx, hnd, hb, q⟩ := h
  obtain ⟨u, rfl, ru⟩ := vals1 r
  cases ru
  obtain ⟨⟨es, ep, t, hS⟩, _, _⟩ := I.hok p _ hx
  refine NwS.sorted_set (I.ok.hd hc) hS hb fun h1 h' d tk n out ss' a1 a2 a3 a4 a5 a6 => ?_
  have I1 : Inv X pins σ H { s with heap := h1, toks := tk } := I.kept a5
  have I2 : Inv X pins σ (upd H h1.objs.size (.lst (ss'.map V.str))) { s with heap := h', toks := tk } :=
    I1.laid (t' := tk) a6 (Nat.le_refl _) (show ObjOk X.prog X.w _ _ _ (.lst (ss'.map V.str)) from ⟨by rw [List.length_map, a2.length_eq]; rw [sizeLine_eq]; omega, out.toList, n, strs_vals a1, a4⟩)
  have I3 : Inv X pins σ (upd H h1.objs.size (.lst (ss'.map V.str))) { s with heap := h', drawn := d, toks := tk } :=
    ⟨I2.ok, I2.os, I2.bare, I2.base, I2.loc, I2.cell, I2.free, I2.freeC, I2.pin, I2.hok, I2.len⟩
  exact ⟨.ref h1.objs.size, _, I3, rfl, q _ _ (I1.hok.fresh (Nat.le_refl _)) ⟨a2.nodup_iff.mpr hnd, a3, fun x => a2.mem_iff, Nat.le_of_eq a2.length_eq⟩⟩
end
end L2
namespace NwI
open PySem
end NwI
namespace L2
open PySem PySem.Spec PyProof.Rows
section
variable {X : Cx}
end
end L2
namespace L2
open PySem PySem.Spec PyProof.Rows
section
variable {X : Cx}
def rStarts : V → List V → Hp → VK → Prop := fun x vs H Q => ∃ z y : Str, x = .str z ∧ vs = [.str y] ∧ Q (.bl (Txt.startswith z y)) H
theorem mt_starts : MtR X "str.startswith" rStarts := by
  intro pins s σ H x vs v us Q I rx rv h
  obtain ⟨z, y, rfl, rfl, q⟩ := h
  obtain ⟨t, rfl⟩ := rx
  obtain ⟨u, rfl, ru⟩ := vals1 rv
  obtain ⟨t', rfl⟩ := ru
  exact SC.startswith ⟨.bl _, H, I, rfl, q⟩
def rRstrip : V → List V → Hp → VK → Prop := fun x vs H Q => ∃ z y : Str, x = .str z ∧ vs = [.str y] ∧ z.length ≤ sizeLine ∧ Q (.str (Txt.rstripChars z y)) H
theorem mt_rstrip : MtR X "str.rstrip" rRstrip := by
  intro pins s σ H x vs v us Q I rx rv h
  obtain ⟨z, y, rfl, rfl, hz, q⟩ := h
  obtain ⟨t, rfl⟩ := rx
  obtain ⟨u, rfl, ru⟩ := vals1 rv
  obtain ⟨t', rfl⟩ := ru
  exact SC.rstripChars (fun t' k => ⟨.str _, H, I.tok k, ⟨t', rfl⟩, q⟩) hz
theorem call_int_text : CallR X (.type "int") (fun xs H Q => ∃ (x : Str) (n : Int), xs = [.str x] ∧ intText? x = some n ∧ x.length ≤ 640 ∧ Q (.int n) H) := by
  intro pins s σ H xs us Q I r h
  obtain ⟨x, n, rfl, hn, hl, q⟩ := h
  obtain ⟨u, rfl, t, rfl⟩ := vals1 r
  exact W.KIN.call_text hn hl ⟨.int n, H, I.tok _, ⟨_, rfl⟩, q⟩
def repS (z : Str) (n : Nat) : Str := ⟨(List.replicate n z.cps).foldl (· ++ ·) #[]⟩
theorem repS_one (z : Str) : repS z 1 = z := by
  show (⟨#[] ++ z.cps⟩ : Str) = z
  rw [Array.empty_append]
theorem foldl_none (n : Nat) : (List.replicate n (#[] : Array Nat)).foldl (· ++ ·) #[] = #[] := by
  induction n with
  | zero => rfl
  | succ n ih => rw [List.replicate_succ, List.foldl_cons]; exact ih
theorem repS_none {z : Str} (h : z.length = 0) (n : Nat) : repS z n = z := by
  have e : z.cps = #[] := Array.eq_empty_of_size_eq_zero h
  unfold repS
  rw [e, foldl_none]
  cases z; cases e; rfl
theorem op_repS : OpR X (binaryOp .Mult) (fun x y H Q => ∃ (z : Str) (n : Nat), x = .str z ∧ y = .int n ∧ n ≤ 1000 ∧ z.length ≤ 1000 ∧ Q (.str (repS z n)) H) := by
  intro pins s σ H x y v u Q I rx ry h
  obtain ⟨z, n, rfl, rfl, hn, hz, q⟩ := h
  obtain ⟨t, rfl⟩ := rx
  obtain ⟨t', rfl⟩ := ry
  have hm : z.length * n ≤ 1000000 := Nat.le_trans (Nat.mul_le_mul hz hn) (by decide)
  have hl : Builtin.Str.tooLong (z.length * (n : Int).toNat) = false := by
    rw [Int.toNat_natCast]
    unfold Builtin.Str.tooLong
    refine decide_eq_false ?_
    have := sizeLine_eq
    omega
  refine P.mul_str ?_ (fun h1 _ h2 => ?_) (fun _ _ => hl) ?_
  · rw [Bool.or_eq_false_iff]
    exact ⟨decide_eq_false (by omega), decide_eq_false (by omega)⟩
  · have h5 : (1000 : Int) ≤ (2 ^ 63 - 1) / (n : Int) := Int.le_ediv_of_mul_le (by omega) (by omega)
    omega
  · by_cases h1 : (n : Int) < 1
    · have : n = 0 := by omega
      subst this
      rw [if_pos h1]
      exact ⟨by decide, ⟨.str _, H, I.tok _, ⟨_, rfl⟩, q⟩⟩
    · rw [if_neg h1]
      by_cases h2 : ((n : Int) == 1 || z.length == 0) = true
      · rw [if_pos h2]
        have e : repS z n = z := by
          rcases Bool.or_eq_true_iff.mp h2 with h | h
          · have : n = 1 := by have := eq_of_beq h; omega
            rw [this, repS_one]
          · exact repS_none (eq_of_beq h) n
        rw [e] at q
        exact ⟨.str z, H, I, ⟨t, rfl⟩, q⟩
      · rw [if_neg h2]
        exact ⟨fits_reps hl, ⟨.str _, H, I.tok _, ⟨_, rfl⟩, q⟩⟩
def Itc (x : Str) : It := ⟨fun i _ => i < x.cps.size, fun i H v H' => H' = H ∧ ∃ c, x.cps[i]? = some c ∧ v = .str ⟨#[c]⟩, fun i _ => x.cps.size ≤ i⟩
theorem turn_str {P : Program} {w : World} {K : PySem.W.Frag} {tg : Expr} (x : Str) (t : Tok) (it : Addr) : Turn P w K tg (Itc x) [it] it (fun i h => h.IsStrIter it "str_ascii_iterator" x t i) where
  mem := by simp
  obj := fun i h st b hb => by
    have e : b = it := by simpa using hb
    subst e
    obtain ⟨o, e, c, d⟩ := st
    exact ⟨o, e, fun v z => by rw [d] at z; cases z⟩
  keep := fun i h h' st k => by
    obtain ⟨o, ho, r⟩ := st
    exact ⟨o, k it (by simp) o ho, r⟩
  item := by
    intro X hP hw hK hc i pins s σ H E I hf st hg
    subst hP hw hK
    obtain ⟨c, hx⟩ : ∃ c, x.cps[i]? = some c := ⟨x.cps[i]'hg, Array.getElem?_eq_getElem hg⟩
    obtain ⟨f0, f1, f2, f3, f4, f5⟩ := hf it (by simp)
    refine wpAny_pyNext_ascii_item st hx fun h' st' sb => ?_
    have I1 : Inv X pins σ H { s with heap := h', toks := s.toks + 1 } := I.turned (t' := s.toks + 1) (fun b o hb e => (sb.2 b hb).trans e) f0 f1 f3 f4 f5
    obtain ⟨o, e, c', d⟩ := id st'
    exact ⟨.str ⟨#[c]⟩ s.toks, rfl, go_of (s := { s with heap := h', toks := s.toks + 1 }) e c' d (by decide) ⟨.str ⟨#[c]⟩, H, I1, ⟨_, rfl⟩, ⟨rfl, c, hx, rfl⟩, st', fun b hb => (hf b hb).1⟩⟩
  done := by
    intro X hP hw hK hc i pins s σ H E I hf st hg
    subst hP hw hK
    obtain ⟨f0, f1, f2, f3, f4, f5⟩ := hf it (by simp)
    exact wpAny_pyNext_ascii_end (I.ok.hd hc) st (by rw [Array.getElem?_eq_none]; exact hg) fun h' eb => ⟨rfl, I.turned (t' := s.toks) (fun b o hb e => eb b o hb e) f0 f1 f3 f4 f5⟩
  self := fun _ _ _ _ _ st h => wpAny_pyIter_striter_ascii st h
def iStr (te : TE) : TI := fun σ H R => te σ H fun v H1 => ∃ x, v = .str x ∧ x.cps.all (· < 128) = true ∧ R (Itc x) H1
theorem pi_str {l tg : Expr} {tl : TE} (hl : PE X l tl) : PI X tg l (iStr tl) := by
  intro pins s σ H R I h
  refine thn (hl pins s σ H _ I h) fun v s1 ⟨x, H1, I1, r1, q1⟩ => ?_
  obtain ⟨x, e, ha, q⟩ := q1
  subst e
  obtain ⟨t, rfl⟩ := r1
  refine wpAny_pyIter_ascii ha ?_
  refine ⟨s1.heap.objs.size, [s1.heap.objs.size], _, _, H1, rfl, I1.kept (t' := s1.toks) fun b o e => Heap.get?_push_of_some _ e, turn_str x t _, ⟨_, Heap.get?_push_size _ rfl, rfl, rfl⟩, fun b hb => ?_, q⟩
  have e : b = s1.heap.objs.size := by simpa using hb
  subst e
  exact I1.fpOk (Nat.le_refl _) (I1.hok.fresh (Nat.le_refl _))
theorem comp_str {x : Str} {B : V → List V → (List V → Hp → Prop) → Hp → Prop} {Z : List V → Hp → Prop} {H : Hp} (Pv : Nat → List V → Hp → Prop) (h0 : Pv 0 [] H)
    (hy : ∀ i ys H, i < x.cps.size → Pv i ys H → ys.length < sizeLine) (hs : ∀ i c ys H, x.cps[i]? = some c → Pv i ys H → B (.str ⟨#[c]⟩) ys (Pv (i + 1)) H) (hd : ∀ ys H, Pv x.cps.size ys H → Z ys H) :
    ∃ W : Nat → Nat → List V → Hp → Prop, (∃ m, W 0 m [] H) ∧ ∀ i m ys H, W i m ys H →
      ((Itc x).stop i H ∧ Z ys H) ∨ ((Itc x).go i H ∧ ys.length < sizeLine ∧ ∃ N : List V → Hp → Prop, (∀ ys' H', N ys' H' → ∃ m', m' < m ∧ W (i + 1) m' ys' H') ∧ ∀ v H', (Itc x).yld i H v H' → B v ys N H') := by
  refine ⟨fun i m ys H => m = x.cps.size - i ∧ i ≤ x.cps.size ∧ Pv i ys H, ⟨x.cps.size, by simp, Nat.zero_le _, h0⟩, ?_⟩
  rintro i m ys H ⟨rfl, hi, p⟩
  by_cases hlt : i < x.cps.size
  · refine .inr ⟨hlt, hy i ys H hlt p, Pv (i + 1), fun ys' H' p' => ⟨x.cps.size - (i + 1), by omega, rfl, hlt, p'⟩, fun v H' y => ?_⟩
    obtain ⟨e, c, hc, rfl⟩ := y
    subst e
    exact hs i c ys _ hc p
  · have e : i = x.cps.size := by omega
    subst e
    exact .inl ⟨Nat.le_refl _, hd ys H p⟩
end
end L2
namespace Nw
open PySem L2
theorem cps_app (a b : Str) : (a ++ b).cps.toList = a.cps.toList ++ b.cps.toList := by
  show (a.cps ++ b.cps).toList = _
  rw [Array.toList_append]
theorem str_of_cps {a b : Str} (h : a.cps.toList = b.cps.toList) : a = b := by
  cases a; cases b
  exact congrArg Str.mk (Array.toList_inj.mp h)
theorem cut_inj {c : Nat} : ∀ {a b r s : List Nat}, c ∉ a → c ∉ b → a ++ c :: r = b ++ c :: s → a = b ∧ r = s
  | [], [], r, s, _, _, h => ⟨rfl, by injection h⟩
  | [], y :: b, r, s, _, hb, h => by
    injection h with h1 h2
    exact absurd (by rw [h1]; exact List.mem_cons_self) hb
  | x :: a, [], r, s, ha, _, h => by
    injection h with h1 h2
    exact absurd (by rw [h1]; exact List.mem_cons_self) ha
  | x :: a, y :: b, r, s, ha, hb, h => by
    injection h with h1 h2
    obtain ⟨e1, e2⟩ := cut_inj (fun z => ha (List.mem_cons_of_mem _ z)) (fun z => hb (List.mem_cons_of_mem _ z)) h2
    exact ⟨by rw [h1, e1], e2⟩
theorem join_inj {c : Nat} : ∀ {ps qs : List Str}, ps ≠ [] → qs ≠ [] → (∀ p ∈ ps, c ∉ p.cps.toList) → (∀ p ∈ qs, c ∉ p.cps.toList) → Str.join ⟨#[c]⟩ ps = Str.join ⟨#[c]⟩ qs → ps = qs
  | [], _, h, _, _, _, _ => absurd rfl h
  | _ :: _, [], _, h, _, _, _ => absurd rfl h
  | [p], [q], _, _, _, _, h => by rw [show p = q from h]
  | [p], q :: q2 :: qs, _, _, hp, _, h => by
    have h : p = q ++ ⟨#[c]⟩ ++ Str.join ⟨#[c]⟩ (q2 :: qs) := h
    refine absurd ?_ (hp p List.mem_cons_self)
    rw [h, cps_app, cps_app]
    simp
  | p :: p2 :: ps, [q], _, _, _, hq, h => by
    have h : p ++ ⟨#[c]⟩ ++ Str.join ⟨#[c]⟩ (p2 :: ps) = q := h
    refine absurd ?_ (hq q List.mem_cons_self)
    rw [← h, cps_app, cps_app]
    simp
  | p :: p2 :: ps, q :: q2 :: qs, _, _, hp, hq, h => by
    have h : p ++ ⟨#[c]⟩ ++ Str.join ⟨#[c]⟩ (p2 :: ps) = q ++ ⟨#[c]⟩ ++ Str.join ⟨#[c]⟩ (q2 :: qs) := h
    have h2 := congrArg (fun x : Str => x.cps.toList) h
    simp only [cps_app, List.append_assoc] at h2
    obtain ⟨e1, e2⟩ := cut_inj (hp p List.mem_cons_self) (hq q List.mem_cons_self) (by simpa using h2)
    rw [str_of_cps e1, join_inj (List.cons_ne_nil _ _) (List.cons_ne_nil _ _) (fun x hx => hp x (List.mem_cons_of_mem _ hx)) (fun x hx => hq x (List.mem_cons_of_mem _ hx)) (str_of_cps e2)]
theorem split_ne (x y : Str) : Txt.split x y ≠ [] := by
  unfold Txt.split
  split
  · exact List.cons_ne_nil _ _
  · split
    · exact List.cons_ne_nil _ _
    · rw [StrLaws.partsBetween_eq]
      obtain ⟨p, r, e⟩ := StrLaws.partsFrom_ne x y.length 0 (Builtin.Str.occurrences x y 0 x.length (x.length + 1))
      rw [e]
      exact List.cons_ne_nil _ _
theorem split_join {c : Nat} {ps : List Str} (h : ps ≠ []) (hp : ∀ p ∈ ps, c ∉ p.cps.toList) : Txt.split (Str.join ⟨#[c]⟩ ps) ⟨#[c]⟩ = ps :=
  join_inj (split_ne _ _) h (fun p hp => StrLaws.split_free _ c p hp) hp (StrLaws.join_split _ _)
theorem join_app {s : Str} : ∀ {ps qs : List Str}, ps ≠ [] → qs ≠ [] → Str.join s (ps ++ qs) = Str.join s ps ++ s ++ Str.join s qs
  | [], _, h, _ => absurd rfl h
  | [p], q :: qs, _, _ => rfl
  | [p], [], _, h => absurd rfl h
  | p :: p2 :: ps, qs, _, hq => by
    show p ++ s ++ Str.join s (p2 :: ps ++ qs) = p ++ s ++ Str.join s (p2 :: ps) ++ s ++ Str.join s qs
    rw [join_app (List.cons_ne_nil _ _) hq]
    simp only [Str.append_assoc]
theorem parts_len (t : Str) : (Builtin.Str.partsBetween t (Builtin.Str.occurrences t " " 0 t.length (t.length + 1)) (" " : Str).length).length ≤ t.length + 2 := by
  rw [Builtin.Str.partsBetween]
  simp only [List.length_map, List.length_zip, List.length_cons, List.length_append]
  have := StrLaws.occ_length_le t " " 0 t.length (t.length + 1)
  simp
  omega
theorem split_len (t : Str) : (Txt.split t " ").length ≤ t.length + 2 := by
  unfold Txt.split
  split
  · simp
  · split
    · simp
    · exact parts_len t
theorem split_app (s u : Str) (c : Nat) : Txt.split (s ++ ⟨#[c]⟩ ++ u) ⟨#[c]⟩ = Txt.split s ⟨#[c]⟩ ++ Txt.split u ⟨#[c]⟩ := by
  have h1 := StrLaws.join_split s ⟨#[c]⟩
  have h2 := StrLaws.join_split u ⟨#[c]⟩
  have h3 := join_app (s := ⟨#[c]⟩) (split_ne s ⟨#[c]⟩) (split_ne u ⟨#[c]⟩)
  rw [h1, h2] at h3
  rw [← h3]
  refine split_join (fun z => split_ne s ⟨#[c]⟩ (List.append_eq_nil_iff.mp z).1) fun p hp => ?_
  rcases List.mem_append.mp hp with hp | hp
  · exact StrLaws.split_free s c p hp
  · exact StrLaws.split_free u c p hp
theorem split_one {x : Str} {c : Nat} (h : c ∉ x.cps.toList) : Txt.split x ⟨#[c]⟩ = [x] :=
  split_join (ps := [x]) (List.cons_ne_nil _ _) (fun p hp => by rw [List.mem_singleton.mp hp]; exact h)
theorem blank_is : (" " : Str) = ⟨#[32]⟩ := by decide +kernel
def piecesOf (t : Str) : List Str := (Txt.split t " ").filter fun x => !decide (V.str x = V.str "")
theorem pieces_app (s u : Str) : piecesOf (s ++ " " ++ u) = piecesOf s ++ piecesOf u := by
  unfold piecesOf
  rw [blank_is, split_app, List.filter_append]
theorem pieces_none : piecesOf "" = [] := by decide +kernel
theorem app_none (s : Str) : s ++ ("" : Str) = s := by
  cases s
  exact congrArg Str.mk Array.append_empty
theorem pieces_blank (s : Str) : piecesOf (s ++ " ") = piecesOf s := by
  have h := pieces_app s ""
  rw [app_none, pieces_none, List.append_nil] at h
  exact h
theorem pieces_one {x : Str} (h : 32 ∉ x.cps.toList) (n : x ≠ "") : piecesOf x = [x] := by
  unfold piecesOf
  rw [blank_is, split_one h, List.filter_cons, if_pos (by rw [decide_eq_false (fun z => n (V.str.inj z))]; rfl)]
  rfl
def Blk (s : Str) : Prop := s = "" ∨ ∃ s0, s = s0 ++ " "
theorem pieces_next {s x : Str} (h : Blk s) (hx : 32 ∉ x.cps.toList) (n : x ≠ "") : piecesOf (s ++ x) = piecesOf s ++ [x] := by
  rcases h with rfl | ⟨s0, rfl⟩
  · have e : ("" : Str) ++ x = x := by
      cases x
      exact congrArg Str.mk (Array.empty_append)
    rw [e, pieces_none, pieces_one hx n]
    rfl
  · rw [pieces_app, pieces_blank, pieces_one hx n]
theorem repS_succ (z : Str) (n : Nat) : repS z (n + 1) = z ++ repS z n := by
  unfold repS
  have h : ∀ (l : List (Array Nat)) (a : Array Nat), l.foldl (· ++ ·) a = a ++ l.foldl (· ++ ·) #[] := by
    intro l
    induction l with
    | nil => intro a; simp
    | cons b l ih => intro a; rw [List.foldl_cons, List.foldl_cons, ih, ih (#[] ++ b), Array.empty_append, Array.append_assoc]
  rw [List.replicate_succ, List.foldl_cons, h, Array.empty_append]
  rfl
theorem repS_zero (z : Str) : repS z 0 = "" := rfl
theorem pieces_reps (s : Str) : ∀ n, piecesOf (s ++ repS " " n) = piecesOf s
  | 0 => by rw [repS_zero, app_none]
  | n + 1 => by rw [repS_succ, ← Str.append_assoc, pieces_reps (s ++ " ") n, pieces_blank]
theorem blk_reps (s : Str) : ∀ n, 1 ≤ n → Blk (s ++ repS " " n)
  | 0, h => by omega
  | 1, _ => .inr ⟨s, by rw [repS_one]⟩
  | n + 2, _ => by
    rw [repS_succ, ← Str.append_assoc]
    exact blk_reps (s ++ " ") (n + 1) (by omega)
end Nw
namespace Nw
open PySem L2
theorem reps_list : ∀ k, (repS " " k).cps.toList = List.replicate k 32
  | 0 => rfl
  | k + 1 => by
    rw [repS_succ, cps_app, reps_list k, List.replicate_succ, blank_is]
    rfl
theorem mem_tw {goes : Nat → Bool} {c : Nat} : ∀ {l : List Nat}, c ∈ l.takeWhile goes → goes c = true
  | [], h => by simp at h
  | x :: l, h => by
    rw [List.takeWhile_cons] at h
    split at h
    · rename_i hx
      rcases List.mem_cons.mp h with rfl | h
      · exact hx
      · exact mem_tw h
    · simp at h
theorem tail_same (goes : Nat → Bool) (hg : ∀ c, goes c = true → c = 32) (l : List Nat) :
    l = l.take (l.length - (l.reverse.takeWhile goes).length) ++ List.replicate (l.reverse.takeWhile goes).length 32 := by
  have h1 : l.reverse = l.reverse.takeWhile goes ++ l.reverse.dropWhile goes := (List.takeWhile_append_dropWhile).symm
  have h2 : l.reverse.takeWhile goes = List.replicate (l.reverse.takeWhile goes).length 32 := by
    refine List.eq_replicate_iff.mpr ⟨rfl, fun c hc => ?_⟩
    exact hg c (mem_tw hc)
  generalize l.reverse.takeWhile goes = a at h1 h2
  generalize l.reverse.dropWhile goes = b at h1
  have h3 : l = b.reverse ++ a.reverse := by rw [← List.reverse_append, ← h1, List.reverse_reverse]
  have h4 : a.reverse = List.replicate a.length 32 := by
    conv => lhs; rw [h2]
    rw [List.reverse_replicate]
  rw [h4] at h3
  have h5 : l.length - a.length = b.reverse.length := by
    rw [h3, List.length_append, List.length_replicate]
    omega
  rw [h5]
  conv => lhs; rw [h3]
  rw [h3, List.take_left]
theorem rstrip_is (s : Str) : ∃ k, s = Txt.rstripChars s " " ++ repS " " k := by
  have hg : ∀ c, (" " : Str).cps.contains c = true → c = 32 := by
    intro c hc
    rw [blank_is] at hc
    simpa using hc
  show ∃ k, s = Txt.stripBy (" " : Str).cps.contains false true s ++ repS " " k
  unfold Txt.stripBy
  split
  · exact ⟨0, by rw [repS_zero, app_none]⟩
  · refine ⟨(s.cps.toList.reverse.takeWhile (" " : Str).cps.contains).length, str_of_cps ?_⟩
    rw [cps_app, reps_list]
    have e : (stripped (" " : Str).cps.contains false true s).cps.toList = s.cps.toList.take (s.cps.toList.length - (s.cps.toList.reverse.takeWhile (" " : Str).cps.contains).length) := by
      show (Builtin.Str.strSub s 0 (s.length - ((s.cps.toList.drop 0).reverse.takeWhile (" " : Str).cps.contains).length)).cps.toList = _
      rw [StrLaws.strSub_toList, List.drop_zero, Nat.sub_zero]
      rfl
    rw [e]
    exact tail_same _ hg _
theorem pieces_rstrip (s : Str) : piecesOf (Txt.rstripChars s " ") = piecesOf s := by
  obtain ⟨k, e⟩ := rstrip_is s
  have h := pieces_reps (Txt.rstripChars s " ") k
  rw [← e] at h
  exact h.symm
theorem rstrip_len (s : Str) : (Txt.rstripChars s " ").length ≤ s.length := by
  obtain ⟨k, e⟩ := rstrip_is s
  have h := congrArg (fun x : Str => x.cps.toList.length) e
  simp only [cps_app, List.length_append, reps_list, List.length_replicate] at h
  have h1 : (Txt.rstripChars s " ").cps.toList.length = (Txt.rstripChars s " ").length := Array.length_toList
  have h2 : s.cps.toList.length = s.length := Array.length_toList
  omega
end Nw
namespace Nw
open PySem L2
def top (i : Nat) : Stmt := PySem.Challenge.pw_nearerwork_k06_sums_and_sayings_read.main.body.getD i (.Pass ⟨0, 0, 0, 0⟩)
abbrev sWords : Stmt := top 14
abbrev sIsWord : Stmt := top 15
abbrev sIsNum : Stmt := top 16
abbrev sIsNam : Stmt := top 17
abbrev sIsFar : Stmt := top 18
abbrev sMade : Stmt := top 19
abbrev sOpen : Stmt := top 20
abbrev sReaI : Stmt := inClass (top 22) 0
abbrev sReaA : Stmt := inClass (top 22) 1
abbrev sReaT : Stmt := inClass (top 22) 2
abbrev sReaW : Stmt := inClass (top 22) 3
abbrev sReaE : Stmt := inClass (top 22) 6
abbrev sNumI : Stmt := inClass (top 28) 0
abbrev sNumS : Stmt := inClass (top 28) 2
abbrev sNamI : Stmt := inClass (top 29) 0
abbrev sNamS : Stmt := inClass (top 29) 3
abbrev sNamN : Stmt := inClass (top 29) 2
abbrev sTwoI : Stmt := inClass (top 30) 0
abbrev sTwoN : Stmt := inClass (top 30) 1
abbrev sPluS : Stmt := inClass (top 31) 1
abbrev sMinS : Stmt := inClass (top 32) 1
abbrev sTimS : Stmt := inClass (top 33) 1
abbrev sSumN : Stmt := inClass (top 27) 1
abbrev sTwoO : Stmt := top 26
abbrev sCmp : Stmt := top 35
abbrev sNumW : Stmt := inClass (top 28) 1
abbrev sNamW : Stmt := inClass (top 29) 1
abbrev sPluW : Stmt := inClass (top 31) 0
abbrev sMinW : Stmt := inClass (top 32) 0
abbrev sTimW : Stmt := inClass (top 33) 0
abbrev sSayS : Stmt := inClass (top 38) 2
abbrev sSayN : Stmt := inClass (top 38) 1
abbrev sSayH : Stmt := inClass (top 38) 0
abbrev sPaiI : Stmt := inClass (top 39) 0
abbrev sPaiN : Stmt := inClass (top 39) 1
abbrev sLesS : Stmt := inClass (top 40) 1
abbrev sAtmS : Stmt := inClass (top 41) 1
abbrev sEquS : Stmt := inClass (top 42) 1
abbrev sUnlS : Stmt := inClass (top 43) 1
abbrev sBotS : Stmt := inClass (top 44) 1
abbrev sEitS : Stmt := inClass (top 45) 1
abbrev sNotI : Stmt := inClass (top 46) 0
abbrev sNotS : Stmt := inClass (top 46) 3
abbrev sNotN : Stmt := inClass (top 46) 2
abbrev sLesH : Stmt := inClass (top 40) 0
abbrev sAtmH : Stmt := inClass (top 41) 0
abbrev sEquH : Stmt := inClass (top 42) 0
abbrev sUnlH : Stmt := inClass (top 43) 0
abbrev sBotH : Stmt := inClass (top 44) 0
abbrev sEitH : Stmt := inClass (top 45) 0
abbrev sNotH : Stmt := inClass (top 46) 1
abbrev sReadS : Stmt := top 48
abbrev sReadY : Stmt := top 49
abbrev sSumIn : Stmt := top 50
abbrev sBraIn : Stmt := top 51
abbrev sSayIn : Stmt := top 52
abbrev sCmpIn : Stmt := top 53
abbrev sBrsIn : Stmt := top 54
abbrev sDenIn : Stmt := top 55
abbrev sCell : Stmt := top 57
abbrev sMix : Stmt := top 58
abbrev sOwn : Stmt := top 59
abbrev sPool : Stmt := top 60
abbrev sLeaf : Stmt := top 61
abbrev sSum : Stmt := top 62
abbrev sText : Stmt := top 63
abbrev sWorth : Stmt := top 64
abbrev sSaying : Stmt := top 65
abbrev sTxy : Stmt := top 66
abbrev sHolds : Stmt := top 67
abbrev sVals : Stmt := top 68
abbrev sSpaced : Stmt := top 69
abbrev sLaw : Stmt := top 70
abbrev sBra : Stmt := top 24
abbrev sBrs : Stmt := top 36
structure Bl (mg : Str → Option Value) : Prop where
  len : mg "len" = none
  range : mg "range" = none
  isinstance : mg "isinstance" = none
  str : mg "str" = none
  int : mg "int" = none
  list : mg "list" = none
  tuple : mg "tuple" = none
  bool : mg "bool" = none
  dict : mg "dict" = none
  sorted : mg "sorted" = none
  set : mg "set" = none
  max : mg "max" = none
  all : mg "all" = none
theorem hu60 {A : Around} {k : Nat} (hr : Room k A) : A.units + 60 < cLine := by have := hr.un; omega
theorem same_new {H : Hp} {p : Addr} (h : H p = none) (o : HO) : Same H (upd H p o) := fun b u q => by rw [upd_ne (ne_of_none q h)]; exact q
def cps (l : List Nat) : Str := ⟨l.toArray⟩
theorem cps_length (l : List Nat) : (cps l).length = l.length := by show l.toArray.size = l.length; simp
theorem str_len (x y : Str) : (x ++ y).length = x.length + y.length := by
  show (x.cps ++ y.cps).size = x.cps.size + y.cps.size
  simp
theorem alpha : ("abcdefghijklmnopqrstuvwxyz" : Str) = cps ((List.range 26).map (97 + ·)) := by decide +kernel
theorem letter_at {i : Int} (h0 : 0 ≤ i) (h1 : i < 26) : atI (("abcdefghijklmnopqrstuvwxyz" : Str).cps.toList) i = some (97 + i.toNat) := by
  rw [alpha]
  obtain ⟨k, rfl⟩ : ∃ k : Nat, i = k := ⟨i.toNat, by omega⟩
  refine atI_nat ?_
  show (((List.range 26).map (97 + ·)).toArray.toList)[k]? = _
  have hi : k < 26 := by omega
  simp [hi]
theorem letter_ix : ∀ i : _root_.Fin 26, Builtin.Str.occurrences ("abcdefghijklmnopqrstuvwxyz" : Str) ⟨#[97 + i.val]⟩ 0 ("abcdefghijklmnopqrstuvwxyz" : Str).length 1 = [i.val] := by decide +kernel
theorem join_signs : ∀ cs : List Nat, Str.join ⟨#[]⟩ (cs.map fun c => (⟨#[c]⟩ : Str)) = cps cs
  | [] => rfl
  | c :: cs => by
    rw [List.map_cons, PyProof.Rows.join_nil_cons, join_signs cs]
    show (⟨#[c] ++ cs.toArray⟩ : Str) = ⟨(c :: cs).toArray⟩
    simp
theorem join_eq (sep : Str) (l : List Str) : Txt.join sep l = Str.join sep l := eq_of_beq (PyProof.Rows.join_plain_closes sep l)
section
variable {P : Program} {w : World} {K : PySem.W.Frag} {mg : Str → Option Value} {base : Heap}
def spCell (K : PySem.W.Frag) : Sp := fun vs H Q _ => ∃ (a : Addr) (ns : List Int) (k : Int), vs = [.ref a, .int k] ∧ SqL K H a (ns.map V.int) ∧ ns.length ≤ 63 ∧ 0 ≤ k ∧ k ≤ 100 ∧ ∀ (r : Int) (H' : Hp), Same H H' → Q (.int r) H'
theorem scCell : FnScope ["_law_script", "_law_k"] ["_law_script", "_law_k"] (defScope sCell) := ⟨rfl, rfl, rfl, by decide +kernel, rfl, by decide +kernel, by decide +kernel⟩
theorem ok_cell {f : Addr} {fd : FuncData} (B : Bl mg) (F : Fun K "_law_cell_at" "_law_cell_at" sCell f fd) : FnOk P w K mg base CX0 1 f fd ["_law_script", "_law_k"] (spCell K) := by
  refine F.ok scCell (fun vs H Q E h => ?_) (fun cdv A outer s H vs Q E hr h => ?_)
  · obtain ⟨a, ns, k, rfl, _⟩ := h
    rfl
  obtain ⟨a, ns, k, rfl, hS, hl, k0, k1, q⟩ := h
  refine ⟨_, (@pss_cons _ _ _ _ _ (@ps_if _ _ _ _ _ _ _ _ (@pt_cmpR _ _ _ _ _ _ _ _ op_lt (pv 1) (pe_callB call_len_seq (by rfl) B.len PySem.boot_len (@pa_cons _ _ _ _ _ (pv 0) pa_nil (by rfl))) (nomark _)) (@pss_one _ _ _ (@ps_ret _ _ _ _ (@pe_ix _ _ _ _ _ _ (rIxL K) ix_list (pv 0) (pv 1) (fun _ _ => rfl)))) pss_nil) (@pss_one _ _ _ (@ps_ret _ _ _ _ (@pe_op _ _ _ _ _ _ _ _ op_mod (@pe_op _ _ _ _ _ _ _ _ op_mul (@pe_op _ _ _ _ _ _ _ _ op_add (@pe_op _ _ _ _ _ _ _ _ op_mod (@pe_ix _ _ _ _ _ _ (rIxL K) ix_list (@pe_op _ _ _ _ _ _ _ _ op_catL (pv 0) (@pe_lst _ _ _ _ (@pa_cons _ _ _ _ _ pe_int pa_nil (by rfl)))) pe_int (fun _ _ => rfl)) pe_int) pe_int) (@pe_op _ _ _ _ _ _ _ _ op_add (@pe_op _ _ _ _ _ _ _ _ op_mul (pv 1) (pv 1)) pe_int)) pe_int)))), ?_⟩
  refine ⟨_, rfl, _, rfl, a, _, rfl, .inl hS, _, _, rfl, rfl, _, rfl, ?_⟩
  refine ite2 (fun c => ?_) (fun c => ?_)
  · have c' : k < (((ns.map V.int).length : Nat) : Int) := of_decide_eq_true c
    rw [List.length_map] at c'
    obtain ⟨j, rfl⟩ : ∃ j : Nat, k = j := ⟨k.toNat, by omega⟩
    have hj : j < ns.length := by omega
    exact ⟨_, rfl, _, rfl, a, _, _, _, rfl, rfl, hS, atI_nat (by rw [List.getElem?_map, List.getElem?_eq_getElem hj]; rfl), q _ H (Same.refl H)⟩
  · refine ⟨_, rfl, by decide, fun p hp => ⟨a, p, _, _, rfl, rfl, (same_new hp _).seq hS, SqL.of upd_same, ?_, fun z hz => ?_⟩⟩
    · rw [List.length_map]
      exact Nat.le_of_lt (small1000 (by show ns.length + 1 ≤ 1000; omega))
    have hat : ∃ x : Int, atI (ns.map V.int ++ [V.int 0]) 0 = some (.int x) := by
      cases ns with
      | nil => exact ⟨0, atI_nat (j := 0) rfl⟩
      | cons n r => exact ⟨n, atI_nat (j := 0) rfl⟩
    obtain ⟨x, hx⟩ := hat
    have b1 := Int.emod_nonneg x (b := 1000003) (by decide)
    have b2 := Int.emod_lt_of_pos x (b := 1000003) (by decide)
    have kk : 0 ≤ k * k ∧ k * k ≤ 10000 := ⟨Int.mul_nonneg k0 k0, by
      calc k * k ≤ 100 * k := Int.mul_le_mul_of_nonneg_right k1 k0
        _ ≤ 100 * 100 := Int.mul_le_mul_of_nonneg_left k1 (by decide)
        _ ≤ 10000 := by decide⟩
    refine ⟨z, _, _, _, rfl, rfl, SqL.of upd_same, hx, _, _, rfl, rfl, (by show (0 : Int) < 1000003; decide), _, _, rfl, rfl, _, rfl, _, rfl, _, _, rfl, rfl, .inl ⟨by omega, by omega⟩, _, _, rfl, rfl, _, _, rfl, rfl, .inl ⟨?_, ?_⟩, _, _, rfl, rfl, (by show (0 : Int) < 2147483647; decide), ?_⟩
    · show -(2 ^ 64) < x % 1000003 + 7; omega
    · show x % 1000003 + 7 < 2 ^ 64; omega
    exact q _ _ ((same_new hp _).trans (same_new hz _))
def spMix : Sp := fun vs H Q _ => ∃ (c k : Int), vs = [.int c, .int k] ∧ 0 ≤ k ∧ k ≤ 100 ∧ ∀ r : Int, 0 ≤ r → r < 2147483647 → Q (.int r) H
theorem scMix : FnScope ["_law_cell", "_law_k", "_law_number", "_law_j"] ["_law_cell", "_law_k"] (defScope sMix) := ⟨rfl, rfl, rfl, by decide +kernel, rfl, by decide +kernel, by decide +kernel⟩
theorem ok_mix {f : Addr} {fd : FuncData} (B : Bl mg) (F : Fun K "_law_mix" "_law_mix" sMix f fd) : FnOk P w K mg base CX0 1 f fd ["_law_cell", "_law_k"] spMix := by
  refine F.ok scMix (fun vs H Q E h => ?_) (fun cdv A outer s H vs Q E hr h => ?_)
  · obtain ⟨c, k, rfl, _⟩ := h
    rfl
  obtain ⟨c, k, rfl, k0, k1, q⟩ := h
  refine ⟨_, (@pss_cons _ _ _ _ _ (@ps_if _ _ _ _ _ _ _ _ (@pt_cmpR _ _ _ _ _ _ _ _ op_eq (@pe_op _ _ _ _ _ _ _ _ op_mod (pv 0) pe_int) pe_int (nomark _)) (@pss_cons _ _ _ _ _ (@ps_set _ _ 2 _ _ _ _ scMix.nd rfl (Or.inl rfl) (@pe_op _ _ _ _ _ _ _ _ op_fdiv (pv 0) pe_int) rfl (Or.inl rfl)) (@pss_cons _ _ _ _ _ (@ps_for _ _ _ _ _ _ _ _ PassesOwn.never rfl (pi_range1 rfl B.range (@pa_cons _ _ _ _ _ (pv 1) pa_nil (by rfl))) (pg_name (i := 3) scMix.nd rfl (Or.inl rfl)) (@pss_one _ _ _ (@ps_set _ _ 2 _ _ _ _ scMix.nd rfl (Or.inl rfl) (@pe_op _ _ _ _ _ _ _ _ op_fdiv (pv 2) pe_int) rfl (Or.inl rfl))) (by intro _; rfl)) (@pss_one _ _ _ (@ps_ret _ _ _ _ (@pe_op _ _ _ _ _ _ _ _ op_mod (pv 2) pe_int))))) pss_nil) (@pss_cons _ _ _ _ _ (@ps_set _ _ 2 _ _ _ _ scMix.nd rfl (Or.inl rfl) (@pe_op _ _ _ _ _ _ _ _ op_mod (@pe_op _ _ _ _ _ _ _ _ op_mul (@pe_op _ _ _ _ _ _ _ _ op_add (@pe_op _ _ _ _ _ _ _ _ op_add (@pe_op _ _ _ _ _ _ _ _ op_mod (pv 0) pe_int) (@pe_op _ _ _ _ _ _ _ _ op_mul pe_int (pv 1))) pe_int) pe_int) pe_int) rfl (Or.inl rfl)) (@pss_one _ _ _ (@ps_ret _ _ _ _ (@pe_op _ _ _ _ _ _ _ _ op_mod (@pe_op _ _ _ _ _ _ _ _ op_mul (@pe_op _ _ _ _ _ _ _ _ op_add (@pe_op _ _ _ _ _ _ _ _ op_mod (@pe_op _ _ _ _ _ _ _ _ op_mul (pv 2) (pv 2)) pe_int) (@pe_op _ _ _ _ _ _ _ _ op_mul pe_int (pv 1))) pe_int) pe_int))))), ?_⟩
  refine ⟨_, rfl, _, _, rfl, rfl, (by show (0 : Int) < 2; decide), rfl, _, rfl, ite2 (fun _ => ?_) (fun _ => ?_)⟩
  · refine ⟨_, rfl, _, _, rfl, rfl, ⟨by decide, by decide⟩, ?_⟩
    refine ⟨_, rfl, k, rfl, by omega, by omega, for_range (n := k.toNat) (fun i σ H2 => ∃ (n : Int) (v : Option V), σ = [some (.int c), some (.int k), some (.int n), v] ∧ H2 = H) ⟨_, _, rfl, rfl⟩ ?_ ?_⟩
    · rintro i σ H2 hi ⟨n, v, rfl, rfl⟩
      exact ⟨_, rfl, _, _, rfl, rfl, ⟨by decide, by decide⟩, _, _, rfl, rfl⟩
    · rintro σ H2 ⟨n, v, rfl, rfl⟩
      refine ⟨_, rfl, _, _, rfl, rfl, (by show (0 : Int) < 1009; decide), q _ (Int.emod_nonneg _ (by decide)) (Int.lt_trans (Int.emod_lt_of_pos _ (by decide)) (by decide))⟩
  · have b1 := Int.emod_nonneg c (b := 1000000007) (by decide)
    have b2 := Int.emod_lt_of_pos c (b := 1000000007) (by decide)
    refine ⟨_, rfl, _, _, rfl, rfl, (by show (0 : Int) < 1000000007; decide), _, rfl, _, _, rfl, rfl, .inl ⟨by decide, by decide⟩, _, _, rfl, rfl, _, _, rfl, rfl, _, _, rfl, rfl, .inl ⟨?_, ?_⟩, _, _, rfl, rfl, (by show (0 : Int) < 2147483647; decide), ?_⟩
    · show -(2 ^ 64) < c % 1000000007 + 11 * k + 5; omega
    · show c % 1000000007 + 11 * k + 5 < 2 ^ 64; omega
    have f0 : ∀ x : Int, 0 ≤ x % 2147483647 ∧ x % 2147483647 < 2147483647 := fun x => ⟨Int.emod_nonneg _ (by decide), Int.emod_lt_of_pos _ (by decide)⟩
    have f1 : ∀ x : Int, 0 ≤ x % 2147483629 ∧ x % 2147483629 < 2147483629 := fun x => ⟨Int.emod_nonneg _ (by decide), Int.emod_lt_of_pos _ (by decide)⟩
    refine ⟨_, rfl, _, rfl, _, _, rfl, rfl, .inl ⟨Int.lt_of_lt_of_le (by decide) (f0 _).1, Int.lt_trans (f0 _).2 (by decide)⟩, _, _, rfl, rfl, (by show (0 : Int) < 2147483629; decide), _, rfl, _, _, rfl, rfl, .inl ⟨by decide, by decide⟩, _, _, rfl, rfl, _, _, rfl, rfl, .inr ⟨by decide, by decide⟩, _, _, rfl, rfl, (by show (0 : Int) < 2147483587; decide), ?_⟩
    exact q _ (Int.emod_nonneg _ (by decide)) (Int.lt_trans (Int.emod_lt_of_pos _ (by decide)) (by decide))
def ownW : List Str := ["name", "from", "to", "at", "keep", "deed", "when", "do", "any", "and", "or", "not", "yes", "tie", "step", "for", "none", "falls"]
def spOwn : Sp := fun vs H Q _ => vs = [] ∧ ∀ (p : Addr) (H' : Hp), Same H H' → H p = none → H' p = some (.lst (ownW.map V.str)) → Q (.ref p) H'
theorem scOwn : FnScope ["_law_own_here"] [] (defScope sOwn) := ⟨rfl, rfl, rfl, by decide +kernel, rfl, by decide +kernel, by decide +kernel⟩
theorem own_eq : ([V.str "name", V.str "from", V.str "to", V.str "at", V.str "keep", V.str "deed", V.str "when", V.str "do", V.str "any", V.str "and", V.str "or", V.str "not", V.str "yes", V.str "tie", V.str "step"] ++ [V.str "for", V.str "none", V.str "falls"]) = ownW.map V.str := by
  simp only [ownW, List.map_cons, List.map_nil, List.cons_append, List.nil_append]
theorem ok_own {f : Addr} {fd : FuncData} (F : Fun K "_law_own" "_law_own" sOwn f fd) : FnOk P w K mg base CX0 1 f fd [] spOwn := by
  refine F.ok scOwn (fun vs H Q E h => ?_) (fun cdv A outer s H vs Q E hr h => ?_)
  · rw [h.1]
    rfl
  obtain ⟨rfl, k⟩ := h
  refine ⟨_, (@pss_cons _ _ _ _ _ (@ps_set _ _ 0 _ _ _ _ scOwn.nd rfl (Or.inl rfl) (@pe_lst _ _ _ _ (@pa_strs _ _ ["name", "from", "to", "at", "keep", "deed", "when", "do", "any", "and", "or", "not", "yes", "tie", "step"] rfl)) rfl (Or.inl rfl)) (@pss_one _ _ _ (@ps_ret _ _ _ _ (@pe_op _ _ _ _ _ _ _ _ op_cat (pv 0) (@pe_lst _ _ _ _ (@pa_cons _ _ _ _ _ pe_str (@pa_cons _ _ _ _ _ pe_str (@pa_cons _ _ _ _ _ pe_str pa_nil (by rfl)) (by rfl)) (by rfl))))))), ?_⟩
  refine ⟨by decide, fun p1 hp1 => ⟨_, rfl, by decide, fun p2 hp2 => ⟨p1, p2, _, _, rfl, rfl, by rw [upd_ne (ne_of_none upd_same hp2), upd_same], upd_same, by decide, fun p3 hp3 => ?_⟩⟩⟩
  have s2 := (same_new hp1 _).trans (same_new hp2 (.lst [V.str "for", V.str "none", V.str "falls"]))
  exact k p3 _ (s2.trans (same_new hp3 _)) (s2.free hp3) (by rw [upd_same]; exact congrArg (fun l => some (HO.lst l)) own_eq)
end
end Nw
namespace Nw
open PySem L2
theorem sl_to {cs : List Nat} {j : Int} (h0 : 0 ≤ j) (h1 : j ≤ cs.length) : Txt.slice (cps cs) none (some j) = cps (cs.take j.toNat) := by
  show StrLaws.sliceText (cps cs) none (some j) = _
  rw [StrLaws.sliceText_to ⟨h0, by show j ≤ (cs.toArray.toList.length : Int); simpa using h1⟩]
  show (⟨_⟩ : Str) = ⟨_⟩
  simp [cps]
theorem sl_from {cs : List Nat} {j : Int} (h0 : 0 ≤ j) (h1 : j ≤ cs.length) : Txt.slice (cps cs) (some j) none = cps (cs.drop j.toNat) := by
  show StrLaws.sliceText (cps cs) (some j) none = _
  rw [StrLaws.sliceText_from ⟨h0, by show j ≤ (cs.toArray.toList.length : Int); simpa using h1⟩]
  show (⟨((cs.toArray.toList.drop j.toNat).take ((cs.toArray.toList.length : Int) - j).toNat).toArray⟩ : Str) = ⟨(cs.drop j.toNat).toArray⟩
  rw [List.toList_toArray, List.take_of_length_le (by rw [List.length_drop]; omega)]
structure PName (x : Str) : Prop where
  signs : ∃ cs : List Nat, x = cps cs ∧ cs ≠ [] ∧ cs.length ≤ 8 ∧ ∀ c ∈ cs, 97 ≤ c ∧ c ≤ 122
  other : x ∉ ownW
theorem PName.le30 {x : Str} (h : PName x) : x.length ≤ 30 := by
  obtain ⟨cs, rfl, _, h8, _⟩ := h.signs
  rw [cps_length]; omega
theorem cps_cat (a b : List Nat) : cps a ++ cps b = cps (a ++ b) := by
  show (⟨a.toArray ++ b.toArray⟩ : Str) = ⟨(a ++ b).toArray⟩
  rw [List.append_toArray]
theorem own_z : ∀ y ∈ ownW, y ++ ("z" : Str) ∉ ownW ∧ (y ++ ("z" : Str)).length ≤ 8 := by decide +kernel
theorem pool_name {cs : List Nat} (hc : ∀ c ∈ cs, ∃ j : _root_.Fin 26, c = 97 + j.val) (l8 : cs.length ≤ 8) {a : Int} (a0 : 0 ≤ a) (a1 : a < cs.length) {d : Nat} (hd : d < 26) :
    ∃ ds, (Txt.slice (cps cs) none (some a) ++ ⟨#[97 + d]⟩ ++ Txt.slice (cps cs) (some (a + 1)) none) = cps ds ∧ ds ≠ [] ∧ ds.length ≤ 8 ∧ ∀ c ∈ ds, 97 ≤ c ∧ c ≤ 122 := by
  have hl : ∀ c ∈ cs, 97 ≤ c ∧ c ≤ 122 := fun c h => by
    obtain ⟨j, rfl⟩ := hc c h
    have := j.isLt
    omega
  refine ⟨cs.take a.toNat ++ [97 + d] ++ cs.drop (a + 1).toNat, ?_, by simp, ?_, fun c h => ?_⟩
  · rw [sl_to a0 (by omega), sl_from (by omega) (by omega), ← cps_cat, ← cps_cat]
    rfl
  · rw [List.length_append, List.length_append, List.length_take, List.length_drop, List.length_singleton]
    omega
  · rcases List.mem_append.mp h with h | h
    · rcases List.mem_append.mp h with h | h
      · exact hl c (List.mem_of_mem_take h)
      · rw [List.mem_singleton] at h; omega
    · exact hl c (List.mem_of_mem_drop h)
theorem name_own {x : Str} {ds : List Nat} (e : x = cps ds) (n : ds ≠ []) (h : ∀ c ∈ ds, 97 ≤ c ∧ c ≤ 122) (o : x ∈ ownW) : PName (x ++ "z") := by
  obtain ⟨o1, o2⟩ := own_z x o
  have ez : x ++ ("z" : Str) = cps (ds ++ [122]) := by rw [e, ← cps_cat]; rfl
  refine ⟨⟨ds ++ [122], ez, by simp, ?_, fun c hc => ?_⟩, o1⟩
  · rw [ez, cps_length] at o2; exact o2
  · rcases List.mem_append.mp hc with hc | hc
    · exact h c hc
    · rw [List.mem_singleton] at hc; omega
theorem name_notE {x : Str} (h : ∃ ds, x = cps ds ∧ ds ≠ [] ∧ ds.length ≤ 8 ∧ ∀ c ∈ ds, 97 ≤ c ∧ c ≤ 122) (o : x ∉ ownW) : PName x := ⟨h, o⟩
theorem name_ownE {x : Str} (h : ∃ ds, x = cps ds ∧ ds ≠ [] ∧ ds.length ≤ 8 ∧ ∀ c ∈ ds, 97 ≤ c ∧ c ≤ 122) (o : x ∈ ownW) : PName (x ++ "z") := by
  obtain ⟨ds, e, n, _, l⟩ := h
  exact name_own e n l o
theorem in_own (x : Str) : ∀ l : List Str, inV (.str x) (l.map V.str) = decide (x ∈ l)
  | [] => by simp [inV]
  | y :: l => by
    have q := in_own x l
    unfold inV at q ⊢
    rw [List.map_cons, List.any_cons, q]
    have e : eqV (.str y) (.str x) = decide (y = x) := by
      by_cases h : y = x
      · subst h; simp [eqV]
      · simp [eqV, h]
    rw [e]
    by_cases h : y = x
    · subst h; simp
    · simp [h, Ne.symm h]
section
variable {P : Program} {w : World} {K : PySem.W.Frag} {mg : Str → Option Value} {base : Heap}
theorem flat_strs : ∀ l : List Str, (l.map V.str).all flatV = true
  | [] => rfl
  | y :: l => by rw [List.map_cons, List.all_cons, flat_strs l]; rfl
theorem sum_ones : ∀ cs : List Nat, ((cs.map fun c => (⟨#[c]⟩ : Str)).map (·.length)).sum = cs.length
  | [] => rfl
  | c :: cs => by
    rw [List.map_cons, List.map_cons, List.sum_cons, sum_ones cs, List.length_cons]
    show 1 + cs.length = cs.length + 1
    omega
def spPool : Sp := fun vs H Q _ => ∃ (c o : Int), vs = [.int c, .int o] ∧ ∀ (p : Addr) (H' : Hp) (l : List Str), Same H H' → H p = none → H' p = some (.lst (l.map V.str)) → l.length = 3 → (∀ x ∈ l, x.length ≤ 30) → (∀ x ∈ l, PName x) → Q (.ref p) H'
theorem scPool : FnScope ["_law_cell", "_law_other", "_law_letters", "_law_size", "_law_base", "_law_at", "_law_pool_here", "_law_k", "_law_turned", "_law_name"] ["_law_cell", "_law_other"] (defScope sPool) := ⟨rfl, rfl, rfl, by decide +kernel, rfl, by decide +kernel, by decide +kernel⟩
theorem nd_scPool1 : (["_law_cell", "_law_other", "_law_letters", "_law_size", "_law_base", "_law_at", "_law_pool_here", "_law_k", "_law_turned", "_law_name"] : List Str).Nodup := by decide +kernel
theorem ok_pool {f fM fO : Addr} {fd fdM fdO : FuncData} (B : Bl mg) (F : Fun K "_law_pool" "_law_pool" sPool f fd) (FM : Fun K "_law_mix" "_law_mix" sMix fM fdM) (bM : Binds K fdM ["_law_cell", "_law_k"] []) (mM : mg "_law_mix" = some (.ref fM))
    (FO : Fun K "_law_own" "_law_own" sOwn fO fdO) (bO : Binds K fdO [] []) (mO : mg "_law_own" = some (.ref fO)) : FnOk P w K mg base CX0 2 f fd ["_law_cell", "_law_other"] spPool := by
  have GM : FnOk P w K mg base CX0 1 fM fdM ["_law_cell", "_law_k"] spMix := ok_mix B FM
  have GO : FnOk P w K mg base CX0 1 fO fdO [] spOwn := ok_own FO
  refine F.ok scPool (fun vs H Q E h => ?_) (fun cdv A outer s H vs Q E hr h => ?_)
  · obtain ⟨c, o, rfl, _⟩ := h
    rfl
  obtain ⟨c, o, rfl, q⟩ := h
  refine ⟨_, (@pss_cons _ _ _ _ _ (@ps_set _ _ 2 _ _ _ _ scPool.nd rfl (Or.inr rfl) pe_str rfl (Or.inl rfl)) (@pss_cons _ _ _ _ _ (@ps_set _ _ 3 _ _ _ _ scPool.nd rfl (Or.inl rfl) (@pe_op _ _ _ _ _ _ _ _ op_add pe_int (@pe_op _ _ _ _ _ _ _ _ op_mod (pv 0) pe_int)) rfl (Or.inl rfl)) (@pss_cons _ _ _ _ _ (@ps_set _ _ 4 _ _ _ _ scPool.nd rfl (Or.inl rfl) (pe_bm (r := rJoin K) PySem.F.plainAttrs_str PySem.F.slot_str_join PySem.F.type_str_join mt_join pe_str (@pa_cons _ _ _ _ _ (pe_comp (NX := ["_law_cell", "_law_other", "_law_letters", "_law_size", "_law_base", "_law_at", "_law_pool_here", "_law_k", "_law_turned", "_law_name"]) (N := ["_law_cell", "_law_other", "_law_letters", "_law_size", "_law_base", "_law_at", "_law_pool_here", "_law_k", "_law_turned", "_law_name"]) (ms := [true, true, true, true, true, true, true, false, true, true]) (ks := [7]) (out := defScope sPool) (by exact ⟨rfl, by decide +kernel, by decide +kernel, by decide +kernel, by decide +kernel, by decide +kernel⟩) rfl rfl rfl (pi_range1 rfl B.range (@pa_cons _ _ _ _ _ (pv 3) pa_nil (by rfl))) (@sets_name 7) (by decide) (fun C ex s H => (pg_name (i := 7) nd_scPool1 rfl (Or.inl rfl))) (fun C ex s H => pts_nil) (fun C ex s H => (@pe_ix _ _ _ _ _ _ _ ix_str (pv 2) (@pe_op _ _ _ _ _ _ _ _ op_mod (pe_call GM hr (by rfl) mM FM.kp bM .nil pass0 (@pa_cons _ _ _ _ _ (pv 0) (@pa_cons _ _ _ _ _ (@pe_op _ _ _ _ _ _ _ _ op_add (pv 7) pe_int) pa_nil (by rfl)) (by rfl))) pe_int) (fun _ _ => rfl)))) pa_nil (by rfl))) rfl (Or.inl rfl)) (@pss_cons _ _ _ _ _ (@ps_set _ _ 5 _ _ _ _ scPool.nd rfl (Or.inl rfl) (@pe_op _ _ _ _ _ _ _ _ op_mod (pv 1) (pv 3)) rfl (Or.inl rfl)) (@pss_cons _ _ _ _ _ (@ps_set _ _ 6 _ _ _ _ scPool.nd rfl (Or.inl rfl) (@pe_lst _ _ _ _ pa_nil) rfl (Or.inl rfl)) (@pss_cons _ _ _ _ _ (@ps_for _ _ _ _ _ _ _ _ PassesOwn.never rfl (pi_range1 rfl B.range (@pa_cons _ _ _ _ _ pe_int pa_nil (by rfl))) (pg_name (i := 7) scPool.nd rfl (Or.inl rfl)) (@pss_cons _ _ _ _ _ (@ps_set _ _ 8 _ _ _ _ scPool.nd rfl (Or.inl rfl) (@pe_op _ _ _ _ _ _ _ _ op_mod (@pe_op _ _ _ _ _ _ _ _ op_add (pe_bm PySem.F.plainAttrs_str PySem.F.slot_str_index PySem.F.type_str_index mt_indexS (pv 2) (@pa_cons _ _ _ _ _ (@pe_ix _ _ _ _ _ _ _ ix_str (pv 4) (pv 5) (fun _ _ => rfl)) pa_nil (by rfl))) (@pe_op _ _ _ _ _ _ _ _ op_mul (pv 7) (@pe_op _ _ _ _ _ _ _ _ op_add pe_int (@pe_op _ _ _ _ _ _ _ _ op_mod (@pe_op _ _ _ _ _ _ _ _ op_fdiv (pv 1) pe_int) pe_int)))) pe_int) rfl (Or.inl rfl)) (@pss_cons _ _ _ _ _ (@ps_set _ _ 9 _ _ _ _ scPool.nd rfl (Or.inl rfl) (@pe_op _ _ _ _ _ _ _ _ op_add_str (@pe_op _ _ _ _ _ _ _ _ op_add_str (@pe_slice _ _ _ _ _ _ _ _ _ _ sl_str (pv 4) po_none (@po_some _ _ _ (pv 5))) (@pe_ix _ _ _ _ _ _ _ ix_str (pv 2) (pv 8) (fun _ _ => rfl))) (@pe_slice _ _ _ _ _ _ _ _ _ _ sl_str (pv 4) (@po_some _ _ _ (@pe_op _ _ _ _ _ _ _ _ op_add (pv 5) pe_int)) po_none)) rfl (Or.inl rfl)) (@pss_cons _ _ _ _ _ (@ps_cut _ _ _ (@ps_if _ _ _ _ _ _ _ _ (@pt_cmpR _ _ _ _ _ _ _ _ op_in_seq (pv 9) (pe_call0 GO hr (by rfl) mO FO.kp bO .nil pass0) (by with_unfolding_all rfl)) (@pss_one _ _ _ (@ps_set _ _ 9 _ _ _ _ scPool.nd rfl (Or.inl rfl) (@pe_op _ _ _ _ _ _ _ _ op_add_str (pv 9) pe_str) rfl (Or.inl rfl))) pss_nil)) (@pss_one _ _ _ (@ps_expr _ _ _ _ (pe_bm PySem.F.plainAttrs_list PySem.F.slot_list_append PySem.F.type_list_append mt_append (pv 6) (@pa_cons _ _ _ _ _ (pv 9) pa_nil (by rfl))) (by rfl)))))) (by intro _; rfl)) (@pss_one _ _ _ (@ps_ret _ _ _ _ (pv 6))))))))), ?_⟩
  have b1 := Int.emod_nonneg c (b := 8) (by decide)
  have b2 := Int.emod_lt_of_pos c (b := 8) (by decide)
  refine ⟨_, rfl, _, _, rfl, rfl, (by show (0 : Int) < 8; decide), _, _, rfl, rfl, ?_⟩
  refine ⟨rfl, _, rfl, 1 + c % 8, rfl, by omega, by omega, comp_range (n := (1 + c % 8).toNat) (fun i ys H' => ∃ cs : List Nat, ys = (cs.map fun c => (⟨#[c]⟩ : Str)).map V.str ∧ cs.length = i ∧ (∀ c ∈ cs, ∃ j : _root_.Fin 26, c = 97 + j.val) ∧ H' = H) ⟨[], rfl, rfl, by simp, rfl⟩ (fun i ys H' hi ⟨cs, e1, e2, _⟩ => by rw [e1, List.length_map, List.length_map, e2]; exact small1000 (by omega)) ?_ ?_⟩
  · rintro i ys H' hi ⟨cs, rfl, e2, e3, rfl⟩
    refine ⟨_, rfl, _, rfl, _, rfl, _, _, rfl, rfl, c, _, rfl, by omega, by omega, fun r r0 r1 => ?_⟩
    have d1 := Int.emod_nonneg r (b := 26) (by decide)
    have d2 := Int.emod_lt_of_pos r (b := 26) (by decide)
    refine ⟨_, _, rfl, rfl, (by show (0 : Int) < 26; decide), _, _, _, rfl, rfl, by decide, letter_at d1 d2, ?_⟩
    refine ⟨cs ++ [97 + (r % 26).toNat], by rw [List.map_append, List.map_append]; rfl, by rw [List.length_append, e2]; rfl, fun x hx => ?_, rfl⟩
    rcases List.mem_append.mp hx with z | z
    · exact e3 x z
    · rw [List.mem_singleton.mp z]
      exact ⟨⟨(r % 26).toNat, by omega⟩, rfl⟩
  · rintro ys H' ⟨cs, rfl, e2, e3, rfl⟩ D hD
    refine ⟨_, D, cs.map fun c => (⟨#[c]⟩ : Str), rfl, rfl, SqL.of upd_same, ?_, ?_⟩
    · rw [sum_ones, List.length_map]
      show cs.length + cs.length * 0 ≤ 16777216
      omega
    rw [join_eq, show ("" : Str) = ⟨#[]⟩ from rfl, join_signs]
    have s1 := same_new hD (.lst ((cs.map fun c => (⟨#[c]⟩ : Str)).map V.str))
    have a1 := Int.emod_nonneg o (b := 1 + c % 8) (by omega)
    have a2 := Int.emod_lt_of_pos o (b := 1 + c % 8) (by omega)
    have hcs : (o % (1 + c % 8)).toNat < cs.length := by omega
    have lcs : cs.length ≤ 8 := by omega
    have lb : (cps cs).length ≤ sizeLine := by rw [cps_length]; exact Nat.le_of_lt (small1000 (by omega))
    obtain ⟨j, hj⟩ := e3 _ (List.getElem_mem hcs)
    have hat : atI (cps cs).cps.toList (o % (1 + c % 8)) = some (97 + j.val) := by
      have ea : o % (1 + c % 8) = (((o % (1 + c % 8)).toNat : Nat) : Int) := by omega
      rw [ea]
      refine atI_nat ?_
      show cs.toArray.toList[_]? = _
      rw [List.toList_toArray, List.getElem?_eq_getElem hcs, hj]
    refine ⟨_, rfl, _, rfl, _, _, rfl, rfl, (by show (0 : Int) < 1 + c % 8; omega), ?_⟩
    refine ⟨by decide, fun pl hpl => ?_⟩
    have s2 := s1.trans (same_new hpl (.lst []))
    have npl : H' pl = none := s1.free hpl
    refine ⟨3, rfl, by decide, by decide, for_range (n := 3) (fun i σ H2 => ∃ (v1 v2 v3 : Option V) (l : List Str), σ = [some (.int c), some (.int o), some (.str "abcdefghijklmnopqrstuvwxyz"), some (.int (1 + c % 8)), some (.str (cps cs)), some (.int (o % (1 + c % 8))), some (.ref pl), v1, v2, v3] ∧ l.length = i ∧ (∀ x ∈ l, PName x) ∧ Same H' H2 ∧ H2 pl = some (.lst (l.map V.str))) ⟨none, none, none, [], rfl, rfl, by simp, s2, upd_same⟩ ?_ ?_⟩
    · rintro i σ H2 hi ⟨v1, v2, v3, l, rfl, f1, f2, f3, f4⟩
      refine ⟨_, rfl, rfl, _, rfl, _, rfl, _, _, _, rfl, rfl, lb, hat, _, _, _, _, rfl, rfl, letter_ix j, ?_⟩
      have d1 := Int.emod_nonneg (o / 8) (b := 8) (by decide)
      have d2 := Int.emod_lt_of_pos (o / 8) (b := 8) (by decide)
      refine ⟨_, rfl, _, rfl, _, _, rfl, rfl, ⟨by decide, by decide⟩, _, _, rfl, rfl, (by show (0 : Int) < 8; decide), _, _, rfl, rfl, _, _, rfl, rfl, .inl ⟨by omega, by omega⟩, _, _, rfl, rfl, _, _, rfl, rfl, (by show (0 : Int) < 26; decide), ?_⟩
      have f26 : ∀ x : Int, 0 ≤ x % 26 ∧ x % 26 < 26 := fun x => ⟨Int.emod_nonneg _ (by decide), Int.emod_lt_of_pos _ (by decide)⟩
      have pn : ∀ x : Int, ∃ ds, (Txt.slice (cps cs) none (some (o % (1 + c % 8))) ++ ⟨#[97 + (x % 26).toNat]⟩ ++ Txt.slice (cps cs) (some (o % (1 + c % 8) + 1)) none) = cps ds ∧ ds ≠ [] ∧ ds.length ≤ 8 ∧ ∀ c ∈ ds, 97 ≤ c ∧ c ≤ 122 := fun x => pool_name e3 lcs a1 (by omega) (by have := f26 x; omega)
      have l1 := Txt.slice_le (cps cs) none (some (o % (1 + c % 8)))
      have l2 := Txt.slice_le (cps cs) (some (o % (1 + c % 8) + 1)) none
      rw [cps_length] at l1 l2
      refine ⟨_, rfl, _, rfl, _, rfl, _, rfl, lb, _, rfl, _, rfl, _, _, _, rfl, rfl, by decide, letter_at (f26 _).1 (f26 _).2, _, _, rfl, rfl, ?_, ?_⟩
      · exact Nat.le_of_lt (small1000 (by show _ + 1 ≤ 1000; omega))
      refine ⟨_, rfl, _, rfl, _, _, rfl, rfl, _, rfl, _, rfl, lb, _, _, rfl, rfl, ?_, ?_⟩
      · rw [str_len]
        exact Nat.le_of_lt (small1000 (by show _ + 1 + _ ≤ 1000; omega))
      refine ⟨fun σ' H3 => ∃ (v1 v2 : Option V) (nm : Str), σ' = [some (.int c), some (.int o), some (.str "abcdefghijklmnopqrstuvwxyz"), some (.int (1 + c % 8)), some (.str (cps cs)), some (.int (o % (1 + c % 8))), some (.ref pl), v1, v2, some (.str nm)] ∧ PName nm ∧ Same H' H3 ∧ H3 pl = some (.lst (l.map V.str)), ?_, ?_⟩
      · refine ⟨_, rfl, rfl, fun po Ho so no eo => ⟨po, _, rfl, .inl (SqL.of eo), rfl, flat_strs _, _, rfl, ite2 (fun co => ?_) (fun co => ?_)⟩⟩
        · refine ⟨_, rfl, _, _, rfl, rfl, ?_, ?_⟩
          · rw [str_len, str_len]
            exact Nat.le_of_lt (small1000 (by show _ + 1 + _ + 1 ≤ 1000; omega))
          · refine ⟨_, _, _, rfl, ?_, f3.trans so, so _ _ f4⟩
            exact name_ownE (pn _) (of_decide_eq_true (by rw [← in_own]; exact co))
        · refine ⟨_, _, _, rfl, ?_, f3.trans so, so _ _ f4⟩
          exact name_notE (pn _) (fun z => co (by rw [show _ = inV _ _ from rfl, in_own]; exact decide_eq_true z))
      · rintro σ' H3 ⟨v1, v2, nm, rfl, g1, g2, g3⟩
        refine ⟨_, rfl, .inl ⟨rfl, _, SqL.of g3⟩, _, rfl, pl, _, _, rfl, rfl, g3, by rw [List.length_map]; exact small1000 (by omega), ?_⟩
        refine ⟨_, _, _, l ++ [nm], rfl, by rw [List.length_append, f1]; rfl, fun x hx => ?_, fun b u e => ?_, by rw [upd_same, List.map_append]; rfl⟩
        · rcases List.mem_append.mp hx with z | z
          · exact f2 x z
          · rw [List.mem_singleton.mp z]; exact g1
        · rw [upd_ne (ne_of_none e npl)]
          exact g2 b u e
    · rintro σ H2 ⟨v1, v2, v3, l, rfl, f1, f2, f3, f4⟩
      exact ⟨_, rfl, q pl H2 l f3 npl f4 f1 (fun x hx => (f2 x hx).le30) f2⟩
end
end Nw
namespace Nw
open PySem L2
inductive Sg where
  | plus | minus | times
inductive Tr where
  | num (n : Int) | nam (x : Str) | op (s : Sg) (l r : Tr)
def sgS : Sg → Str
  | .plus => "+"
  | .minus => "-"
  | .times => "*"
def trD : Tr → Dt
  | .num n => .tup [.str "number", .int n]
  | .nam x => .tup [.str "name", .str x]
  | .op s l r => .tup [.str (sgS s), trD l, trD r]
def lv : Tr → Nat
  | .num _ => 1
  | .nam _ => 1
  | .op _ l r => lv l + lv r
def dp : Tr → Nat
  | .num _ => 0
  | .nam _ => 0
  | .op _ l r => max (dp l) (dp r) + 1
theorem lv_pos : ∀ t : Tr, 0 < lv t
  | .num _ => Nat.one_pos
  | .nam _ => Nat.one_pos
  | .op _ l r => Nat.add_pos_left (lv_pos l) _
theorem dp_lt : ∀ t : Tr, dp t < lv t
  | .num _ => Nat.one_pos
  | .nam _ => Nat.one_pos
  | .op _ l r => by
    have h1 := dp_lt l
    have h2 := dp_lt r
    show max (dp l) (dp r) + 1 < lv l + lv r
    omega
def Fits (l : List Str) : Tr → Prop
  | .num n => 0 ≤ n ∧ n ≤ 99
  | .nam x => ∃ y ∈ l, x = ("" : Str) ++ y ∨ x = ("@" : Str) ++ y
  | .op _ a b => Fits l a ∧ Fits l b
def Sb (d : Addr) (H H' : Hp) : Prop := ∀ b o, b ≠ d → H b = some o → H' b = some o
theorem Sb.trans {d : Addr} {H H1 H2 : Hp} (a : Sb d H H1) (b : Sb d H1 H2) : Sb d H H2 := fun c o hc e => b c o hc (a c o hc e)
theorem Sb.of {d : Addr} {H H' : Hp} (s : Same H H') : Sb d H H' := fun b o _ e => s b o e
theorem Sb.upd (d : Addr) (H : Hp) (o : HO) : Sb d H (upd H d o) := fun b u hb e => by rw [upd_ne hb]; exact e
theorem SqT.sb {K : PySem.W.Frag} {a r : Addr} {H H' : Hp} {xs ys : List V} (h : SqT K H r xs) (ha : H a = some (.lst ys)) (s : Sb a H H') : SqT K H' r xs := by
  rcases h with (h | ⟨o, h⟩) | h
  · exact .inl (.inl (s _ _ (ne_of h ha (by intro z; cases z)) h))
  · exact .inl (.inr ⟨o, s _ _ (ne_of h ha (by intro z; cases z)) h⟩)
  · exact .inr h
theorem tr_sb {K : PySem.W.Frag} {a : Addr} {H H' : Hp} {ys : List V} (ha : H a = some (.lst ys)) (s : Sb a H H') : ∀ {t : Tr} {v : V}, Is K H (trD t) v → Is K H' (trD t) v
  | .num n, v, h => by
    rw [trD, Is] at h ⊢
    obtain ⟨p, xs, e, h1, h2⟩ := h
    refine ⟨p, xs, e, SqT.sb h1 ha s, ?_⟩
    simp only [Iss, Is] at h2 ⊢
    exact h2
  | .nam n, v, h => by
    rw [trD, Is] at h ⊢
    obtain ⟨p, xs, e, h1, h2⟩ := h
    refine ⟨p, xs, e, SqT.sb h1 ha s, ?_⟩
    simp only [Iss, Is] at h2 ⊢
    exact h2
  | .op g l r, v, h => by
    rw [trD, Is] at h ⊢
    obtain ⟨p, xs, e, h1, h2⟩ := h
    refine ⟨p, xs, e, SqT.sb h1 ha s, ?_⟩
    simp only [Iss] at h2 ⊢
    obtain ⟨v1, r1, e1, i1, v2, r2, e2, i2, v3, r3, e3, i3, e4⟩ := h2
    refine ⟨v1, r1, e1, ?_, v2, r2, e2, tr_sb ha s i2, v3, r3, e3, tr_sb ha s i3, e4⟩
    rw [Is] at i1 ⊢
    exact i1
theorem is_num {K : PySem.W.Frag} {H : Hp} {n : Int} {v : V} (h : Is K H (trD (.num n)) v) : ∃ p, v = .ref p ∧ SqT K H p [.str "number", .int n] := by
  rw [trD, Is] at h
  obtain ⟨p, xs, e, h1, h2⟩ := h
  simp only [Iss, Is] at h2
  obtain ⟨v1, r1, rfl, rfl, v2, r2, rfl, rfl, rfl⟩ := h2
  exact ⟨p, e, h1⟩
theorem is_nam {K : PySem.W.Frag} {H : Hp} {n : Str} {v : V} (h : Is K H (trD (.nam n)) v) : ∃ p, v = .ref p ∧ SqT K H p [.str "name", .str n] := by
  rw [trD, Is] at h
  obtain ⟨p, xs, e, h1, h2⟩ := h
  simp only [Iss, Is] at h2
  obtain ⟨v1, r1, rfl, rfl, v2, r2, rfl, rfl, rfl⟩ := h2
  exact ⟨p, e, h1⟩
theorem is_op {K : PySem.W.Frag} {H : Hp} {g : Sg} {l r : Tr} {v : V} (h : Is K H (trD (.op g l r)) v) : ∃ p a b, v = .ref p ∧ SqT K H p [.str (sgS g), a, b] ∧ Is K H (trD l) a ∧ Is K H (trD r) b := by
  rw [trD, Is] at h
  obtain ⟨p, xs, e, h1, h2⟩ := h
  simp only [Iss] at h2
  obtain ⟨v1, r1, rfl, i1, v2, r2, rfl, i2, v3, r3, rfl, i3, rfl⟩ := h2
  rw [Is] at i1
  subst i1
  exact ⟨p, v2, v3, e, h1, i2, i3⟩
theorem four_at {x k : Int} (h0 : 0 ≤ x) (h1 : x ≤ 99) (k0 : 0 ≤ k) (k1 : k < 4) : ∃ n : Int, atI [V.int 0, V.int 1, V.int 99, V.int x] k = some (.int n) ∧ 0 ≤ n ∧ n ≤ 99 := by
  have : k = 0 ∨ k = 1 ∨ k = 2 ∨ k = 3 := by omega
  rcases this with rfl | rfl | rfl | rfl
  · exact ⟨0, atI_nat (j := 0) rfl, by decide, by decide⟩
  · exact ⟨1, atI_nat (j := 1) rfl, by decide, by decide⟩
  · exact ⟨99, atI_nat (j := 2) rfl, by decide, by decide⟩
  · exact ⟨x, atI_nat (j := 3) rfl, h0, h1⟩
theorem two_at {k : Int} (k0 : 0 ≤ k) (k1 : k < 2) : ∃ s : Str, atI [V.str "", V.str "@"] k = some (.str s) ∧ (s = "" ∨ s = "@") ∧ s.length ≤ 1 := by
  have : k = 0 ∨ k = 1 := by omega
  rcases this with rfl | rfl
  · exact ⟨"", atI_nat (j := 0) rfl, .inl rfl, by decide⟩
  · exact ⟨"@", atI_nat (j := 1) rfl, .inr rfl, by decide⟩
theorem sign_at {k : Int} (k0 : 0 ≤ k) (k1 : k < 3) : ∃ g : Sg, atI [V.str "+", V.str "-", V.str "*"] k = some (.str (sgS g)) := by
  have : k = 0 ∨ k = 1 ∨ k = 2 := by omega
  rcases this with rfl | rfl | rfl
  · exact ⟨.plus, atI_nat (j := 0) rfl⟩
  · exact ⟨.minus, atI_nat (j := 1) rfl⟩
  · exact ⟨.times, atI_nat (j := 2) rfl⟩
section
variable {P : Program} {w : World} {K : PySem.W.Frag} {mg : Str → Option Value} {base : Heap}
structure PoolAt (H : Hp) (b : Addr) (l : List Str) : Prop where
  at_ : H b = some (.lst (l.map V.str))
  len : l.length = 3
  few : ∀ x ∈ l, x.length ≤ 30
theorem PoolAt.same {H H' : Hp} {b : Addr} {l : List Str} (T : PoolAt H b l) (s : Same H H') : PoolAt H' b l := ⟨s _ _ T.at_, T.len, T.few⟩
theorem PoolAt.sb {H H' : Hp} {a b : Addr} {l : List Str} (T : PoolAt H b l) (hab : b ≠ a) (s : Sb a H H') : PoolAt H' b l := ⟨s _ _ hab T.at_, T.len, T.few⟩
theorem PoolAt.get {H : Hp} {b : Addr} {l : List Str} (T : PoolAt H b l) {k : Int} (k0 : 0 ≤ k) (k1 : k < 3) : ∃ y ∈ l, atI (l.map V.str) k = some (.str y) ∧ y.length ≤ 30 := by
  obtain ⟨j, rfl⟩ : ∃ j : Nat, k = j := ⟨k.toNat, by omega⟩
  have hj : j < l.length := by rw [T.len]; omega
  exact ⟨l[j], List.getElem_mem hj, atI_nat (by rw [List.getElem?_map, List.getElem?_eq_getElem hj]; rfl), T.few _ (List.getElem_mem hj)⟩
def spLeaf (K : PySem.W.Frag) : Sp := fun vs H Q _ => ∃ (c : Int) (b : Addr) (l : List Str), vs = [.int c, .ref b] ∧ PoolAt H b l ∧ ∀ (p : Addr) (H' : Hp) (t : Tr), Same H H' → Is K H' (trD t) (.ref p) → Fits l t → lv t = 1 → Q (.ref p) H'
theorem scLeaf : FnScope ["_law_cell", "_law_pool_here"] ["_law_cell", "_law_pool_here"] (defScope sLeaf) := ⟨rfl, rfl, rfl, by decide +kernel, rfl, by decide +kernel, by decide +kernel⟩
theorem ok_leaf {f : Addr} {fd : FuncData} (B : Bl mg) (F : Fun K "_law_leaf" "_law_leaf" sLeaf f fd) : FnOk P w K mg base CX0 1 f fd ["_law_cell", "_law_pool_here"] (spLeaf K) := by
  refine F.ok scLeaf (fun vs H Q E h => ?_) (fun cdv A outer s H vs Q E hr h => ?_)
  · obtain ⟨c, b, l, rfl, _⟩ := h
    rfl
  obtain ⟨c, b, l, rfl, T, q⟩ := h
  refine ⟨_, (@pss_cons _ _ _ _ _ (@ps_if _ _ _ _ _ _ _ _ (@pt_cmpR _ _ _ _ _ _ _ _ op_eq (@pe_op _ _ _ _ _ _ _ _ op_mod (pv 0) pe_int) pe_int (nomark _)) (@pss_one _ _ _ (@ps_ret _ _ _ _ (@pe_tup _ _ _ _ _ (@pa_cons _ _ _ _ _ pe_str (@pa_cons _ _ _ _ _ (@pe_ix _ _ _ _ _ _ (rIxL K) ix_list (@pe_lst _ _ _ _ (@pa_cons _ _ _ _ _ pe_int (@pa_cons _ _ _ _ _ pe_int (@pa_cons _ _ _ _ _ pe_int (@pa_cons _ _ _ _ _ (@pe_op _ _ _ _ _ _ _ _ op_mod (@pe_op _ _ _ _ _ _ _ _ op_fdiv (pv 0) pe_int) pe_int) pa_nil (by rfl)) (by rfl)) (by rfl)) (by rfl))) (@pe_op _ _ _ _ _ _ _ _ op_mod (@pe_op _ _ _ _ _ _ _ _ op_fdiv (pv 0) pe_int) pe_int) (fun _ _ => rfl)) pa_nil (by rfl)) (by rfl))))) pss_nil) (@pss_one _ _ _ (@ps_ret _ _ _ _ (@pe_tup _ _ _ _ _ (@pa_cons _ _ _ _ _ pe_str (@pa_cons _ _ _ _ _ (@pe_op _ _ _ _ _ _ _ _ op_add_str (@pe_ix _ _ _ _ _ _ (rIxL K) ix_list (@pe_lst _ _ _ _ (@pa_cons _ _ _ _ _ pe_str (@pa_cons _ _ _ _ _ pe_str pa_nil (by rfl)) (by rfl))) (@pe_op _ _ _ _ _ _ _ _ op_fdiv (@pe_op _ _ _ _ _ _ _ _ op_mod (@pe_op _ _ _ _ _ _ _ _ op_fdiv (pv 0) pe_int) pe_int) pe_int) (fun _ _ => rfl)) (@pe_ix _ _ _ _ _ _ (rIxL K) ix_list (pv 1) (@pe_op _ _ _ _ _ _ _ _ op_mod (@pe_op _ _ _ _ _ _ _ _ op_fdiv (pv 0) pe_int) (pe_callB call_len_seq (by rfl) B.len PySem.boot_len (@pa_cons _ _ _ _ _ (pv 1) pa_nil (by rfl)))) (fun _ _ => rfl))) pa_nil (by rfl)) (by rfl)))))), ?_⟩
  have m100 : ∀ x : Int, 0 ≤ x % 100 ∧ x % 100 < 100 := fun x => ⟨Int.emod_nonneg _ (by decide), Int.emod_lt_of_pos _ (by decide)⟩
  have m4 : ∀ x : Int, 0 ≤ x % 4 ∧ x % 4 < 4 := fun x => ⟨Int.emod_nonneg _ (by decide), Int.emod_lt_of_pos _ (by decide)⟩
  refine ⟨_, rfl, _, _, rfl, rfl, (by show (0 : Int) < 2; decide), rfl, _, rfl, ite2 (fun _ => ?_) (fun _ => ?_)⟩
  · refine ⟨_, rfl, _, _, rfl, rfl, ⟨by decide, by decide⟩, _, _, rfl, rfl, (by show (0 : Int) < 100; decide), by show 4 ≤ sizeLine; decide, fun z hz => ?_⟩
    obtain ⟨n, hn, n0, n1⟩ := four_at (m100 (c / 8)).1 (Int.le_of_lt_add_one (m100 (c / 8)).2) (m4 (c / 2)).1 (m4 (c / 2)).2
    refine ⟨_, rfl, _, _, rfl, rfl, ⟨by decide, by decide⟩, _, _, rfl, rfl, (by show (0 : Int) < 4; decide), z, _, _, _, rfl, rfl, SqL.of upd_same, hn, by show 2 ≤ sizeLine; decide, fun p hp => ?_⟩
    refine q p _ (.num n) ((same_new hz _).trans (same_new hp _)) ?_ ⟨n0, n1⟩ rfl
    rw [trD, Is]
    exact ⟨p, _, rfl, SqT.of upd_same, .cons (by rw [Is]) (.cons (by rw [Is]) .nil)⟩
  · have d3 : 0 ≤ c / 2 % 4 / 3 ∧ c / 2 % 4 / 3 < 2 := by have := m4 (c / 2); omega
    obtain ⟨s', hs', hs2, hs3⟩ := two_at d3.1 d3.2
    refine ⟨by show 2 ≤ sizeLine; decide, fun z hz => ?_⟩
    have T' := T.same (same_new hz (.lst [V.str "", V.str "@"]))
    have m3 : 0 ≤ c / 8 % 3 ∧ c / 8 % 3 < 3 := ⟨Int.emod_nonneg _ (by decide), Int.emod_lt_of_pos _ (by decide)⟩
    obtain ⟨y, hy, hy2, hy3⟩ := T'.get m3.1 m3.2
    refine ⟨_, rfl, _, _, rfl, rfl, ⟨by decide, by decide⟩, _, _, rfl, rfl, (by show (0 : Int) < 4; decide), _, _, rfl, rfl, ⟨by decide, by decide⟩, z, _, _, _, rfl, rfl, SqL.of upd_same, hs', ?_⟩
    have el : (((l.map V.str).length : Nat) : Int) = 3 := by rw [List.length_map, T.len]; rfl
    refine ⟨_, rfl, _, rfl, _, _, rfl, rfl, ⟨by decide, by decide⟩, _, rfl, b, _, rfl, .inl (SqL.of T'.at_), _, _, rfl, rfl, (by show (0 : Int) < (((l.map V.str).length : Nat) : Int); rw [el]; decide), b, _, _, _, rfl, rfl, SqL.of T'.at_, (by rw [el]; exact hy2), _, _, rfl, rfl, ?_, by show 2 ≤ sizeLine; decide, fun p hp => ?_⟩
    · exact Nat.le_of_lt (small1000 (by omega))
    refine q p _ (.nam (s' ++ y)) ((same_new hz _).trans (same_new hp _)) ?_ ⟨y, hy, ?_⟩ rfl
    · rw [trD, Is]
      exact ⟨p, _, rfl, SqT.of upd_same, .cons (by rw [Is]) (.cons (by rw [Is]) .nil)⟩
    · rcases hs2 with e | e
      · rw [e]; exact .inl rfl
      · rw [e]; exact .inr rfl
end
end Nw
namespace Nw
open PySem L2
theorem is_ints {K : PySem.W.Frag} {H : Hp} {a : Addr} {cs : List Int} (h : H a = some (.lst (cs.map V.int))) : Is K H (.lst (cs.map Dt.int)) (.ref a) := by
  rw [Is]
  exact ⟨a, _, rfl, SqL.of h, .ints cs⟩
theorem is_nil {K : PySem.W.Frag} {H : Hp} {a : Addr} (h : H a = some (.lst [])) : Is K H (.lst []) (.ref a) := by
  rw [Is]
  exact ⟨a, _, rfl, SqL.of h, .nil⟩
theorem dep_ints (cs : List Int) : dep (.lst (cs.map Dt.int)) ≤ 50 := by
  have : ∀ cs : List Int, deps (cs.map Dt.int) = 0 := by
    intro cs
    induction cs with
    | nil => rfl
    | cons c cs ih =>
      rw [List.map_cons, deps, ih, dep]
      · rfl
      · intro l z; cases z
      · intro l z; cases z
  rw [dep, this]
  decide
theorem dEq_nil (cs : List Int) : dEq (.lst (cs.map Dt.int)) (.lst []) = cs.isEmpty := by
  cases cs with
  | nil => rw [List.map_nil, dEq, dEqs]; rfl
  | cons c cs =>
    rw [List.map_cons, dEq, dEqs]
    · rfl
    · intro h; cases h
    · intro _ _ _ _ _ z; cases z
section
variable {P : Program} {w : World} {K : PySem.W.Frag} {mg : Str → Option Value} {base : Heap}
def spSum (K : PySem.W.Frag) (n : Nat) : Sp := fun vs H Q _ => ∃ (a b : Addr) (cs : List Int) (l : List Str), vs = [.ref a, .ref b] ∧ H a = some (.lst (cs.map V.int)) ∧ b ≠ a ∧ PoolAt H b l ∧ 0 < cs.length ∧ cs.length ≤ n ∧
  ∀ (p : Addr) (H' : Hp) (t : Tr) (cs' : List Int), Sb a H H' → H' a = some (.lst (cs'.map V.int)) → Is K H' (trD t) (.ref p) → Fits l t → cs'.length + lv t ≤ cs.length → Q (.ref p) H'
theorem scSum : FnScope ["_law_cells", "_law_pool_here", "_law_cell", "_law_one", "_law_other"] ["_law_cells", "_law_pool_here"] (defScope sSum) := ⟨rfl, rfl, rfl, by decide +kernel, rfl, by decide +kernel, by decide +kernel⟩
theorem ok_sum {f fL : Addr} {fd fdL : FuncData} (B : Bl mg) (F : Fun K "_law_sum" "_law_sum" sSum f fd) (bS : Binds K fd ["_law_cells", "_law_pool_here"] []) (mS : mg "_law_sum" = some (.ref f))
    (FL : Fun K "_law_leaf" "_law_leaf" sLeaf fL fdL) (bL : Binds K fdL ["_law_cell", "_law_pool_here"] []) (mL : mg "_law_leaf" = some (.ref fL)) : ∀ n : Nat, FnOk P w K mg base CX0 (n + 1) f fd ["_law_cells", "_law_pool_here"] (spSum K n)
  | 0 => ⟨fun vs H Q E h => by obtain ⟨a, b, cs, l, _, _, _, _, h1, h2, _⟩ := h; omega, fun _ _ _ _ _ _ _ _ _ _ _ _ _ h => by obtain ⟨a, b, cs, l, _, _, _, _, h1, h2, _⟩ := h; omega⟩
  | n + 1 => by
    have GL : FnOk P w K mg base CX0 1 fL fdL ["_law_cell", "_law_pool_here"] (spLeaf K) := ok_leaf B FL
    have GS := ok_sum B F bS mS FL bL mL n
    refine F.ok scSum (fun vs H Q E h => ?_) (fun cdv A outer s H vs Q E hr h => ?_)
    · obtain ⟨a, b, cs, l, rfl, _⟩ := h
      rfl
    obtain ⟨a, b, cs, l, rfl, ha, hab, T, h1, h2, q⟩ := h
    have hrL := hr.mono (Nat.le_add_left 1 n)
    have hu := hu60 hr
    refine ⟨_, (@pss_cons _ _ _ _ _ (@ps_set _ _ 2 _ _ _ _ scSum.nd rfl (Or.inl rfl) (pe_bm PySem.F.plainAttrs_list PySem.F.slot_list_pop PySem.F.type_list_pop mt_popAt (pv 0) (@pa_cons _ _ _ _ _ pe_int pa_nil (by rfl))) rfl (Or.inl rfl)) (@pss_cons _ _ _ _ _ (@ps_if _ _ _ _ _ _ _ _ ((@pw_or _ _ _ _ _ _ _ (@pt_cmpR _ _ _ _ _ _ _ _ (@op_eqD _ hu) (pv 0) (@pe_lst _ _ _ _ pa_nil) (nomark _)) (pw_or1 (@pt_cmpR _ _ _ _ _ _ _ _ op_lt (@pe_op _ _ _ _ _ _ _ _ op_mod (pv 2) pe_int) pe_int (nomark _))))).pt (@pss_one _ _ _ (@ps_ret _ _ _ _ (pe_call GL hrL (by rfl) mL FL.kp bL .nil pass0 (@pa_cons _ _ _ _ _ (@pe_op _ _ _ _ _ _ _ _ op_fdiv (pv 2) pe_int) (@pa_cons _ _ _ _ _ (pv 1) pa_nil (by rfl)) (by rfl))))) pss_nil) (@pss_cons _ _ _ _ _ (@ps_set _ _ 3 _ _ _ _ scSum.nd rfl (Or.inl rfl) (pe_call GS hr (by rfl) mS F.kp bS .nil pass0 (@pa_cons _ _ _ _ _ (pv 0) (@pa_cons _ _ _ _ _ (pv 1) pa_nil (by rfl)) (by rfl))) rfl (Or.inl rfl)) (@pss_cons _ _ _ _ _ (@ps_set _ _ 4 _ _ _ _ scSum.nd rfl (Or.inl rfl) (pe_call GL hrL (by rfl) mL FL.kp bL .nil pass0 (@pa_cons _ _ _ _ _ (@pe_op _ _ _ _ _ _ _ _ op_fdiv (pv 2) pe_int) (@pa_cons _ _ _ _ _ (pv 1) pa_nil (by rfl)) (by rfl))) rfl (Or.inl rfl)) (@pss_cons _ _ _ _ _ (@ps_cut _ _ _ (@ps_if _ _ _ _ _ _ _ _ (@pt_cmpR _ _ _ _ _ _ _ _ (@op_neD _ hu) (pv 0) (@pe_lst _ _ _ _ pa_nil) (nomark _)) (@pss_one _ _ _ (@ps_set _ _ 4 _ _ _ _ scSum.nd rfl (Or.inl rfl) (pe_call GS hr (by rfl) mS F.kp bS .nil pass0 (@pa_cons _ _ _ _ _ (pv 0) (@pa_cons _ _ _ _ _ (pv 1) pa_nil (by rfl)) (by rfl))) rfl (Or.inl rfl))) pss_nil)) (@pss_one _ _ _ (@ps_ret _ _ _ _ (@pe_tup _ _ _ _ _ (@pa_cons _ _ _ _ _ (@pe_ix _ _ _ _ _ _ (rIxL K) ix_list (@pe_lst _ _ _ _ (@pa_cons _ _ _ _ _ pe_str (@pa_cons _ _ _ _ _ pe_str (@pa_cons _ _ _ _ _ pe_str pa_nil (by rfl)) (by rfl)) (by rfl))) (@pe_op _ _ _ _ _ _ _ _ op_sub (@pe_op _ _ _ _ _ _ _ _ op_mod (pv 2) pe_int) pe_int) (fun _ _ => rfl)) (@pa_cons _ _ _ _ _ (pv 3) (@pa_cons _ _ _ _ _ (pv 4) pa_nil (by rfl)) (by rfl)) (by rfl)))))))))), ?_⟩
    obtain ⟨c, cs, rfl⟩ : ∃ c cs', cs = c :: cs' := by
      cases cs with
      | nil => cases h1
      | cons c cs => exact ⟨c, cs, rfl⟩
    have ix0 : seqIndex? 0 ((c :: cs).map V.int).length = some 0 := by
      rw [List.length_map, List.length_cons]
      unfold seqIndex?
      have e1 : ((0 : Int) < 0) = False := by simp
      simp only [e1, if_false]
      rw [if_pos]
      · rfl
      · rw [Bool.and_eq_true]
        exact ⟨rfl, decide_eq_true (by omega)⟩
    refine ⟨_, rfl, .inl ⟨rfl, _, SqL.of ha⟩, a, _, (0 : Int), 0, _, rfl, rfl, ha, by decide, by decide, ix0, rfl, ?_⟩
    have s1 : Sb a H (upd H a (.lst (cs.map V.int))) := Sb.upd a H _
    have a1 : upd H a (.lst (cs.map V.int)) a = some (.lst (cs.map V.int)) := upd_same
    have T1 := T.sb hab s1
    refine ⟨_, rfl, Nat.zero_le _, fun z hz => ⟨_, _, is_ints ((same_new hz _) _ _ a1), is_nil upd_same, rfl, rfl, dep_ints cs, _, rfl, ?_⟩⟩
    have s2 := s1.trans (.of (same_new hz (.lst [])))
    have a2 := (same_new hz (.lst [])) _ _ a1
    have T2 := T1.same (same_new hz (.lst []))
    refine ite2 (fun g => ?_) (fun g => ?_)
    · refine ⟨_, rfl, _, _, rfl, rfl, ⟨by decide, by decide⟩, _, rfl, c / 5, b, l, rfl, T2, fun p H' t sm it ft lt => ?_⟩
      refine q p H' t cs (s2.trans (.of sm)) (sm _ _ a2) it ft ?_
      rw [lt]
      exact Nat.le_refl _
    rw [dEq_nil] at g
    have hne : 0 < cs.length := by
      cases cs with
      | nil => exact absurd rfl g
      | cons _ _ => exact Nat.succ_pos _
    refine ⟨_, rfl, _, _, rfl, rfl, (by show (0 : Int) < 5; decide), _, _, rfl, rfl, _, rfl, ite2 (fun g2 => ?_) (fun g2 => ?_)⟩
    · refine ⟨_, rfl, _, _, rfl, rfl, ⟨by decide, by decide⟩, _, rfl, c / 5, b, l, rfl, T2, fun p H' t sm it ft lt => ?_⟩
      refine q p H' t cs (s2.trans (.of sm)) (sm _ _ a2) it ft ?_
      rw [lt]
      exact Nat.le_refl _
    have g3 : 2 ≤ c % 5 := by
      have := of_decide_eq_false (Bool.eq_false_iff.mpr g2)
      omega
    refine ⟨_, rfl, _, rfl, a, b, cs, l, rfl, a2, hab, T2, hne, by have h2 : cs.length + 1 ≤ n + 1 := h2; omega, fun p1 H1 t1 cs1 b1 c1 i1 f1 l1 => ?_⟩
    have s3 := s2.trans b1
    have T3 := T2.sb hab b1
    refine ⟨_, rfl, _, _, rfl, rfl, ⟨by decide, by decide⟩, _, rfl, c / 15, b, l, rfl, T3, fun p2 H2 t2 b2 i2 f2 l2 => ?_⟩
    have s4 := s3.trans (.of b2)
    have T4 := T3.same b2
    have c2 := b2 _ _ c1
    have i1' := i1.same b2
    have hh : c % 5 - 2 = 0 ∨ True := .inr trivial
    obtain ⟨g, hg⟩ := sign_at (k := c % 5 - 2) (by omega) (by omega)
    refine ⟨fun σ H' => ∃ (p3 : Addr) (t3 : Tr) (cs3 : List Int), σ = [some (.ref a), some (.ref b), some (.int c), some (.ref p1), some (.ref p3)] ∧ Sb a H H' ∧ H' a = some (.lst (cs3.map V.int)) ∧ Is K H' (trD t1) (.ref p1) ∧ Is K H' (trD t3) (.ref p3) ∧ Fits l t3 ∧ cs3.length + (lv t1 + lv t3) ≤ cs.length + 1, ?_, ?_⟩
    · refine ⟨_, rfl, Nat.zero_le _, fun y hy => ⟨_, _, is_ints ((same_new hy _) _ _ c2), is_nil upd_same, rfl, rfl, dep_ints cs1, _, rfl, ?_⟩⟩
      have s5 := s4.trans (.of (same_new hy (.lst [])))
      have c3 := (same_new hy (.lst [])) _ _ c2
      have T5 := T4.same (same_new hy (.lst []))
      have i3 := i1'.same (same_new hy (.lst []))
      rw [dEq_nil]
      refine ite2 (fun g4 => ?_) (fun g4 => ?_)
      · have hn1 : 0 < cs1.length := by
          cases cs1 with
          | nil => cases g4
          | cons _ _ => exact Nat.succ_pos _
        have l0 := lv_pos t1
        refine ⟨_, rfl, _, rfl, a, b, cs1, l, rfl, c3, hab, T5, hn1, by have h2 : cs.length + 1 ≤ n + 1 := h2; omega, fun p3 H3 t3 cs3 b3 c4 i4 f4 l4 => ?_⟩
        exact ⟨p3, t3, cs3, rfl, s5.trans b3, c4, tr_sb c3 b3 i3, i4, f4, by omega⟩
      · exact ⟨p2, t2, cs1, rfl, s5, c3, i3, i2.same (same_new hy (.lst [])), f2, by omega⟩
    · rintro σ' H3 ⟨p3, t3, cs3, rfl, e1, e2, e3, e4, e5, e6⟩
      refine ⟨by show 3 ≤ sizeLine; decide, fun y hy => ?_⟩
      refine ⟨_, rfl, _, _, rfl, rfl, (by show (0 : Int) < 5; decide), _, _, rfl, rfl, y, _, _, _, rfl, rfl, SqL.of upd_same, hg, _, rfl, _, rfl, by show 3 ≤ sizeLine; decide, fun p hp => ?_⟩
      have sy := same_new hy (.lst [V.str "+", V.str "-", V.str "*"])
      have sp := same_new hp (.tup [V.str (sgS g), .ref p1, .ref p3])
      have sm := sy.trans sp
      refine q p _ (.op g t1 t3) cs3 (e1.trans (.of sm)) (sm _ _ e2) ?_ ⟨f1, e5⟩ e6
      rw [trD, Is]
      exact ⟨p, _, rfl, SqT.of upd_same, .cons (by rw [Is]) (.cons (e3.same sm) (.cons (e4.same sm) .nil))⟩
end
end Nw
namespace Nw
open PySem L2
theorem fn_none {P : Program} {w : World} {K : PySem.W.Frag} {mg : Str → Option Value} {base : Heap} {f : Addr} {fd : FuncData} {ps : List Str} {k : Nat} {sp : Sp} (h : ∀ vs H Q E, ¬ sp vs H Q E) : FnOk P w K mg base CX0 k f fd ps sp := ⟨fun vs H Q E q => absurd q (h _ _ _ _), fun _ _ _ _ _ _ _ _ _ _ _ _ _ q => absurd q (h _ _ _ _)⟩
theorem same_put {H H' : Hp} {p : Addr} (s : Same H H') (h : H p = none) (o : HO) : Same H (upd H' p o) := fun b u q => by rw [upd_ne (ne_of_none q h)]; exact s b u q
theorem inV_strs (x : Str) : ∀ l : List Str, inV (.str x) (l.map V.str) = decide (x ∈ l)
  | [] => rfl
  | y :: l => by
    have q := inV_strs x l
    unfold inV at q ⊢
    rw [List.map_cons, List.any_cons, q]
    by_cases e : x = y
    · subst e
      simp [eqV]
    · have e' : ¬ y = x := fun z => e z.symm
      simp [eqV, e, e']
theorem deps_strs : ∀ ns : List Str, deps (ns.map Dt.str) = 0
  | [] => by simp [deps]
  | n :: ns => by simp [deps, dep, deps_strs ns]
def txt : Tr → Str
  | .num n => (toString n : String)
  | .nam x => x
  | .op g a b => "( " ++ txt a ++ " " ++ sgS g ++ " " ++ txt b ++ " )"
def nmT : Tr → List Str
  | .num _ => []
  | .nam x => [x]
  | .op _ a b => nmT a ++ nmT b
theorem nmT_len : ∀ t : Tr, (nmT t).length ≤ lv t
  | .num _ => Nat.zero_le _
  | .nam _ => Nat.le_refl _
  | .op _ a b => by
    have h1 := nmT_len a
    have h2 := nmT_len b
    show (nmT a ++ nmT b).length ≤ lv a + lv b
    rw [List.length_append]; omega
theorem num2 : ∀ k : Fin 100, ((toString ((k.val : Nat) : Int) : String) : Str).length ≤ 2 := by decide +kernel
theorem num_len {n : Int} (h : 0 ≤ n ∧ n ≤ 99) : ((toString n : String) : Str).length ≤ 2 := by
  have := num2 ⟨n.toNat, by omega⟩
  have e : ((n.toNat : Nat) : Int) = n := by omega
  simp only [e] at this
  exact this
theorem sg_len (g : Sg) : (sgS g).length = 1 := by cases g <;> decide +kernel
theorem sp_len : (" " : Str).length = 1 ∧ ("( " : Str).length = 2 ∧ (" )" : Str).length = 2 := by decide +kernel
theorem txt_len {l : List Str} (hl : ∀ x ∈ l, x.length ≤ 30) : ∀ {t : Tr}, Fits l t → (txt t).length + 7 ≤ 47 * lv t
  | .num n, h => by
    have := num_len h
    show ((toString n : String) : Str).length + 7 ≤ 47 * 1
    omega
  | .nam x, h => by
    obtain ⟨y, hy, e⟩ := h
    have := hl y hy
    have e1 : ("" : Str).length = 0 := by decide +kernel
    have e2 : ("@" : Str).length = 1 := by decide +kernel
    show x.length + 7 ≤ 47 * 1
    rcases e with e | e <;> rw [e, str_len] <;> omega
  | .op g a b, h => by
    obtain ⟨h1, h2⟩ : Fits l a ∧ Fits l b := h
    have i1 := txt_len hl h1
    have i2 := txt_len hl h2
    have s1 := sg_len g
    obtain ⟨s2, s3, s4⟩ := sp_len
    show ("( " ++ txt a ++ " " ++ sgS g ++ " " ++ txt b ++ " )" : Str).length + 7 ≤ 47 * (lv a + lv b)
    simp only [str_len, s1, s2, s3, s4]
    omega
theorem small9 {n : Nat} (h : n ≤ 9000) : n ≤ sizeLine := by rw [sizeLine_eq]; omega
section
variable {P : Program} {w : World} {K : PySem.W.Frag} {mg : Str → Option Value} {base : Heap}
theorem hu1_of {A : Around} {k : Nat} (hr : Room k A) : A.units + 1 < cLine := by have := hr.un; omega
def spText (K : PySem.W.Frag) (n : Nat) : Sp := fun vs H Q _ => ∃ (v : V) (t : Tr) (l : List Str), vs = [v] ∧ Is K H (trD t) v ∧ (∀ x ∈ l, x.length ≤ 30) ∧ Fits l t ∧ lv t ≤ 100 ∧ dp t < n ∧ Q (.str (txt t)) H
theorem scText : FnScope ["_law_some"] ["_law_some"] (defScope sText) := ⟨rfl, rfl, rfl, by decide +kernel, rfl, by decide +kernel, by decide +kernel⟩
theorem ok_text {f : Addr} {fd : FuncData} (B : Bl mg) (F : Fun K "_law_sum_text" "_law_sum_text" sText f fd) (bT : Binds K fd ["_law_some"] []) (mT : mg "_law_sum_text" = some (.ref f)) : ∀ n : Nat, FnOk P w K mg base CX0 (n + 1) f fd ["_law_some"] (spText K n)
  | 0 => fn_none fun vs H Q E h => by obtain ⟨v, t, l, _, _, _, _, _, h1, _⟩ := h; omega
  | n + 1 => by
    have GT := ok_text B F bT mT n
    refine F.ok scText (fun vs H Q E h => ?_) (fun cdv A outer s H vs Q E hr h => ?_)
    · obtain ⟨v, t, l, rfl, _⟩ := h
      rfl
    obtain ⟨v, t, l, rfl, it, hl, ft, l100, hn, q⟩ := h
    refine ⟨_, (@pss_cons _ _ _ _ _ (@ps_if _ _ _ _ _ _ _ _ (@pt_cmpR _ _ _ _ _ _ _ _ op_eq (@pe_ix _ _ _ _ _ _ (rIxT K) ix_tup (pv 0) pe_int (fun _ _ => rfl)) pe_str (nomark _)) (@pss_one _ _ _ (@ps_ret _ _ _ _ (pe_callTy call_str_int (by rfl) B.str PyProof.Rows.boot_str (@pa_cons _ _ _ _ _ (@pe_ix _ _ _ _ _ _ (rIxT K) ix_tup (pv 0) pe_int (fun _ _ => rfl)) pa_nil (by rfl))))) pss_nil) (@pss_cons _ _ _ _ _ (@ps_if _ _ _ _ _ _ _ _ (@pt_cmpR _ _ _ _ _ _ _ _ op_eq (@pe_ix _ _ _ _ _ _ (rIxT K) ix_tup (pv 0) pe_int (fun _ _ => rfl)) pe_str (nomark _)) (@pss_one _ _ _ (@ps_ret _ _ _ _ (@pe_ix _ _ _ _ _ _ (rIxT K) ix_tup (pv 0) pe_int (fun _ _ => rfl)))) pss_nil) (@pss_one _ _ _ (@ps_ret _ _ _ _ (@pe_op _ _ _ _ _ _ _ _ op_add_str (@pe_op _ _ _ _ _ _ _ _ op_add_str (@pe_op _ _ _ _ _ _ _ _ op_add_str (@pe_op _ _ _ _ _ _ _ _ op_add_str (@pe_op _ _ _ _ _ _ _ _ op_add_str (@pe_op _ _ _ _ _ _ _ _ op_add_str pe_str (pe_call GT hr (by rfl) mT F.kp bT .nil pass0 (@pa_cons _ _ _ _ _ (@pe_ix _ _ _ _ _ _ (rIxT K) ix_tup (pv 0) pe_int (fun _ _ => rfl)) pa_nil (by rfl)))) pe_str) (@pe_ix _ _ _ _ _ _ (rIxT K) ix_tup (pv 0) pe_int (fun _ _ => rfl))) pe_str) (pe_call GT hr (by rfl) mT F.kp bT .nil pass0 (@pa_cons _ _ _ _ _ (@pe_ix _ _ _ _ _ _ (rIxT K) ix_tup (pv 0) pe_int (fun _ _ => rfl)) pa_nil (by rfl)))) pe_str))))), ?_⟩
    cases t with
    | num m =>
      obtain ⟨p, rfl, ht⟩ := is_num it
      obtain ⟨m0, m1⟩ : 0 ≤ m ∧ m ≤ 99 := ft
      refine ⟨_, rfl, p, _, _, _, rfl, rfl, ht, atI_nat (j := 0) rfl, rfl, _, rfl, ite2 (fun _ => ?_) (fun c => absurd (decide_eq_true rfl) c)⟩
      exact ⟨_, rfl, p, _, _, _, rfl, rfl, ht, atI_nat (j := 1) rfl, m, rfl, Nat.lt_of_le_of_lt (Nat.log2_le_self _) (by omega), q⟩
    | nam x =>
      obtain ⟨p, rfl, ht⟩ := is_nam it
      refine ⟨_, rfl, p, _, _, _, rfl, rfl, ht, atI_nat (j := 0) rfl, rfl, _, rfl, ite2 (fun c => absurd (of_decide_eq_true c) (by decide +kernel)) (fun _ => ?_)⟩
      refine ⟨_, rfl, p, _, _, _, rfl, rfl, ht, atI_nat (j := 0) rfl, rfl, _, rfl, ite2 (fun _ => ?_) (fun c => absurd (decide_eq_true rfl) c)⟩
      exact ⟨_, rfl, p, _, _, _, rfl, rfl, ht, atI_nat (j := 1) rfl, q⟩
    | op g a b =>
      obtain ⟨p, va, vb, rfl, ht, ia, ib⟩ := is_op it
      obtain ⟨fa, fb⟩ : Fits l a ∧ Fits l b := ft
      have hn : max (dp a) (dp b) + 1 < n + 1 := hn
      have l100 : lv a + lv b ≤ 100 := l100
      have n1 : ¬ V.str (sgS g) = V.str "number" := by cases g <;> decide +kernel
      have n2 : ¬ V.str (sgS g) = V.str "name" := by cases g <;> decide +kernel
      have i1 := txt_len hl fa
      have i2 := txt_len hl fb
      have s1 := sg_len g
      obtain ⟨s2, s3, s4⟩ := sp_len
      refine ⟨_, rfl, p, _, _, _, rfl, rfl, ht, atI_nat (j := 0) rfl, rfl, _, rfl, ite2 (fun c => absurd (of_decide_eq_true c) n1) (fun _ => ?_)⟩
      refine ⟨_, rfl, p, _, _, _, rfl, rfl, ht, atI_nat (j := 0) rfl, rfl, _, rfl, ite2 (fun c => absurd (of_decide_eq_true c) n2) (fun _ => ?_)⟩
      refine ⟨_, rfl, p, _, _, _, rfl, rfl, ht, atI_nat (j := 1) rfl, va, a, l, rfl, ia, hl, fa, by omega, by omega, ?_⟩
      refine ⟨_, _, rfl, rfl, small9 (by rw [s3]; omega), _, _, rfl, rfl, small9 (by simp only [str_len, s2, s3]; omega), _, rfl, p, _, _, _, rfl, rfl, ht, atI_nat (j := 0) rfl, _, _, rfl, rfl, small9 (by simp only [str_len, s1, s2, s3]; omega), _, _, rfl, rfl, small9 (by simp only [str_len, s1, s2, s3]; omega), ?_⟩
      refine ⟨_, rfl, p, _, _, _, rfl, rfl, ht, atI_nat (j := 2) rfl, vb, b, l, rfl, ib, hl, fb, by omega, by omega, ?_⟩
      exact ⟨_, _, rfl, rfl, small9 (by simp only [str_len, s1, s2, s3]; omega), _, _, rfl, rfl, small9 (by simp only [str_len, s1, s2, s3, s4]; omega), q⟩
end
end Nw
namespace Nw
open PySem L2
def val (vf : Str → Int) : Tr → Int
  | .num n => n
  | .nam x => vf x
  | .op .plus l r => val vf l + val vf r
  | .op .minus l r => val vf l - val vf r
  | .op .times l r => val vf l * val vf r
structure ValsOk (kvs : List (Key × V)) (l : List Str) (vf : Str → Int) : Prop where
  nd : (kvs.map (·.1)).Nodup
  flat : ∀ p ∈ kvs, flatV p.2 = true
  get : ∀ y ∈ l, ∀ x : Str, (x = ("" : Str) ++ y ∨ x = ("@" : Str) ++ y) → valV kvs (.inr x) = some (.int (vf x)) ∧ (vf x).natAbs < 2 ^ 110
theorem pow_sum {x y : Nat} (hx : 0 < x) (hy : 0 < y) : 2 ^ x + 2 ^ y ≤ 2 ^ (x + y) := by
  rw [Nat.pow_add]
  have h1 : 2 ≤ 2 ^ x := by
    have := Nat.pow_le_pow_right (n := 2) (by decide) hx
    simpa using this
  have h2 : 2 ≤ 2 ^ y := by
    have := Nat.pow_le_pow_right (n := 2) (by decide) hy
    simpa using this
  generalize 2 ^ x = a at *
  generalize 2 ^ y = b at *
  have e1 := Nat.mul_le_mul_right b h1
  have e2 := Nat.mul_le_mul_left a h2
  omega
theorem val_lt {kvs : List (Key × V)} {l : List Str} {vf : Str → Int} (O : ValsOk kvs l vf) : ∀ {t : Tr}, Fits l t → (val vf t).natAbs < 2 ^ (110 * lv t)
  | .num n, h => by
    obtain ⟨h1, h2⟩ : 0 ≤ n ∧ n ≤ 99 := h
    show n.natAbs < 2 ^ 110
    exact Nat.lt_of_le_of_lt (show n.natAbs ≤ 99 by omega) (by decide)
  | .nam x, h => by
    obtain ⟨y, hy, hx⟩ := h
    exact (O.get y hy x hx).2
  | .op g a b, h => by
    obtain ⟨h1, h2⟩ : Fits l a ∧ Fits l b := h
    have i1 := val_lt O h1
    have i2 := val_lt O h2
    have p1 := lv_pos a
    have p2 := lv_pos b
    have ps := pow_sum (x := 110 * lv a) (y := 110 * lv b) (by omega) (by omega)
    show (val vf (.op g a b)).natAbs < 2 ^ (110 * (lv a + lv b))
    rw [Nat.mul_add]
    cases g with
    | plus =>
      show (val vf a + val vf b).natAbs < _
      omega
    | minus =>
      show (val vf a - val vf b).natAbs < _
      omega
    | times =>
      show (val vf a * val vf b).natAbs < _
      rw [Int.natAbs_mul, Nat.pow_add]
      exact Nat.mul_lt_mul'' i1 i2
section
variable {P : Program} {w : World} {K : PySem.W.Frag} {mg : Str → Option Value} {base : Heap}
def spWorth (K : PySem.W.Frag) (n : Nat) : Sp := fun vs H Q _ => ∃ (v : V) (d : Addr) (t : Tr) (kvs : List (Key × V)) (l : List Str) (vf : Str → Int), vs = [v, .ref d] ∧ Is K H (trD t) v ∧ H d = some (.dK kvs) ∧ ValsOk kvs l vf ∧ Fits l t ∧ lv t ≤ 100 ∧ dp t < n ∧ Q (.int (val vf t)) H
theorem scWorth : FnScope ["_law_some", "_law_values_here", "_law_one", "_law_other"] ["_law_some", "_law_values_here"] (defScope sWorth) := ⟨rfl, rfl, rfl, by decide +kernel, rfl, by decide +kernel, by decide +kernel⟩
theorem ok_worth {f : Addr} {fd : FuncData} (B : Bl mg) (F : Fun K "_law_worth" "_law_worth" sWorth f fd) (bW : Binds K fd ["_law_some", "_law_values_here"] []) (mW : mg "_law_worth" = some (.ref f)) : ∀ n : Nat, FnOk P w K mg base CX0 (n + 1) f fd ["_law_some", "_law_values_here"] (spWorth K n)
  | 0 => ⟨fun vs H Q E h => by obtain ⟨v, d, t, kvs, l, vf, _, _, _, _, _, _, h1, _⟩ := h; omega, fun _ _ _ _ _ _ _ _ _ _ _ _ _ h => by obtain ⟨v, d, t, kvs, l, vf, _, _, _, _, _, _, h1, _⟩ := h; omega⟩
  | n + 1 => by
    have GW := ok_worth B F bW mW n
    refine F.ok scWorth (fun vs H Q E h => ?_) (fun cdv A outer s H vs Q E hr h => ?_)
    · obtain ⟨v, d, t, kvs, l, vf, rfl, _⟩ := h
      rfl
    obtain ⟨v, d, t, kvs, l, vf, rfl, it, hd, O, ft, l100, hn, q⟩ := h
    have hu1 := hu1_of hr
    refine ⟨_, (@pss_cons _ _ _ _ _ (@ps_if _ _ _ _ _ _ _ _ (@pt_cmpR _ _ _ _ _ _ _ _ op_eq (@pe_ix _ _ _ _ _ _ (rIxT K) ix_tup (pv 0) pe_int (fun _ _ => rfl)) pe_str (nomark _)) (@pss_one _ _ _ (@ps_ret _ _ _ _ (@pe_ix _ _ _ _ _ _ (rIxT K) ix_tup (pv 0) pe_int (fun _ _ => rfl)))) pss_nil) (@pss_cons _ _ _ _ _ (@ps_if _ _ _ _ _ _ _ _ (@pt_cmpR _ _ _ _ _ _ _ _ op_eq (@pe_ix _ _ _ _ _ _ (rIxT K) ix_tup (pv 0) pe_int (fun _ _ => rfl)) pe_str (nomark _)) (@pss_one _ _ _ (@ps_ret _ _ _ _ (@pe_dget _ _ _ _ _ _ hu1 (pv 1) (@pe_ix _ _ _ _ _ _ (rIxT K) ix_tup (pv 0) pe_int (fun _ _ => rfl)) (fun _ _ => rfl)))) pss_nil) (@pss_cons _ _ _ _ _ (@ps_set _ _ 2 _ _ _ _ scWorth.nd rfl (Or.inl rfl) (pe_call GW hr (by rfl) mW F.kp bW .nil pass0 (@pa_cons _ _ _ _ _ (@pe_ix _ _ _ _ _ _ (rIxT K) ix_tup (pv 0) pe_int (fun _ _ => rfl)) (@pa_cons _ _ _ _ _ (pv 1) pa_nil (by rfl)) (by rfl))) rfl (Or.inl rfl)) (@pss_cons _ _ _ _ _ (@ps_set _ _ 3 _ _ _ _ scWorth.nd rfl (Or.inl rfl) (pe_call GW hr (by rfl) mW F.kp bW .nil pass0 (@pa_cons _ _ _ _ _ (@pe_ix _ _ _ _ _ _ (rIxT K) ix_tup (pv 0) pe_int (fun _ _ => rfl)) (@pa_cons _ _ _ _ _ (pv 1) pa_nil (by rfl)) (by rfl))) rfl (Or.inl rfl)) (@pss_cons _ _ _ _ _ (@ps_if _ _ _ _ _ _ _ _ (@pt_cmpR _ _ _ _ _ _ _ _ op_eq (@pe_ix _ _ _ _ _ _ (rIxT K) ix_tup (pv 0) pe_int (fun _ _ => rfl)) pe_str (nomark _)) (@pss_one _ _ _ (@ps_ret _ _ _ _ (@pe_op _ _ _ _ _ _ _ _ op_add (pv 2) (pv 3)))) pss_nil) (@pss_cons _ _ _ _ _ (@ps_if _ _ _ _ _ _ _ _ (@pt_cmpR _ _ _ _ _ _ _ _ op_eq (@pe_ix _ _ _ _ _ _ (rIxT K) ix_tup (pv 0) pe_int (fun _ _ => rfl)) pe_str (nomark _)) (@pss_one _ _ _ (@ps_ret _ _ _ _ (@pe_op _ _ _ _ _ _ _ _ op_sub (pv 2) (pv 3)))) pss_nil) (@pss_one _ _ _ (@ps_ret _ _ _ _ (@pe_op _ _ _ _ _ _ _ _ op_mulB (pv 2) (pv 3)))))))))), ?_⟩
    cases t with
    | num m =>
      obtain ⟨p, rfl, ht⟩ := is_num it
      refine ⟨_, rfl, p, _, _, _, rfl, rfl, ht, atI_nat (j := 0) rfl, rfl, _, rfl, ite2 (fun _ => ?_) (fun c => absurd (decide_eq_true rfl) c)⟩
      exact ⟨_, rfl, p, _, _, _, rfl, rfl, ht, atI_nat (j := 1) rfl, q⟩
    | nam x =>
      obtain ⟨p, rfl, ht⟩ := is_nam it
      refine ⟨_, rfl, p, _, _, _, rfl, rfl, ht, atI_nat (j := 0) rfl, rfl, _, rfl, ite2 (fun c => absurd (of_decide_eq_true c) (by decide +kernel)) (fun _ => ?_)⟩
      refine ⟨_, rfl, p, _, _, _, rfl, rfl, ht, atI_nat (j := 0) rfl, rfl, _, rfl, ite2 (fun _ => ?_) (fun c => absurd (decide_eq_true rfl) c)⟩
      obtain ⟨y, hy, hx⟩ := ft
      obtain ⟨g1, g2⟩ := O.get y hy x hx
      exact ⟨_, rfl, _, rfl, p, _, _, _, rfl, rfl, ht, atI_nat (j := 1) rfl, d, _, rfl, g1 ▸ DGet.k (k := .inr x) hd, q⟩
    | op g a b =>
      obtain ⟨p, va, vb, rfl, ht, ia, ib⟩ := is_op it
      obtain ⟨fa, fb⟩ : Fits l a ∧ Fits l b := ft
      have hn : max (dp a) (dp b) + 1 < n + 1 := hn
      have l100 : lv a + lv b ≤ 100 := l100
      have n1 : ¬ V.str (sgS g) = V.str "number" := by cases g <;> decide +kernel
      have n2 : ¬ V.str (sgS g) = V.str "name" := by cases g <;> decide +kernel
      refine ⟨_, rfl, p, _, _, _, rfl, rfl, ht, atI_nat (j := 0) rfl, rfl, _, rfl, ite2 (fun c => absurd (of_decide_eq_true c) n1) (fun _ => ?_)⟩
      refine ⟨_, rfl, p, _, _, _, rfl, rfl, ht, atI_nat (j := 0) rfl, rfl, _, rfl, ite2 (fun c => absurd (of_decide_eq_true c) n2) (fun _ => ?_)⟩
      refine ⟨_, rfl, p, _, _, _, rfl, rfl, ht, atI_nat (j := 1) rfl, _, rfl, va, d, a, kvs, l, vf, rfl, ia, hd, O, fa, by omega, by omega, ?_⟩
      refine ⟨_, rfl, p, _, _, _, rfl, rfl, ht, atI_nat (j := 2) rfl, _, rfl, vb, d, b, kvs, l, vf, rfl, ib, hd, O, fb, by omega, by omega, ?_⟩
      cases g with
      | plus =>
        refine ⟨_, rfl, p, _, _, _, rfl, rfl, ht, atI_nat (j := 0) rfl, rfl, _, rfl, ite2 (fun _ => ?_) (fun c => absurd (decide_eq_true rfl) c)⟩
        exact ⟨_, rfl, _, rfl, _, _, rfl, rfl, q⟩
      | minus =>
        refine ⟨_, rfl, p, _, _, _, rfl, rfl, ht, atI_nat (j := 0) rfl, rfl, _, rfl, ite2 (fun c => absurd (of_decide_eq_true c) (by decide +kernel)) (fun _ => ?_)⟩
        refine ⟨_, rfl, p, _, _, _, rfl, rfl, ht, atI_nat (j := 0) rfl, rfl, _, rfl, ite2 (fun _ => ?_) (fun c => absurd (decide_eq_true rfl) c)⟩
        exact ⟨_, rfl, _, rfl, _, _, rfl, rfl, q⟩
      | times =>
        refine ⟨_, rfl, p, _, _, _, rfl, rfl, ht, atI_nat (j := 0) rfl, rfl, _, rfl, ite2 (fun c => absurd (of_decide_eq_true c) (by decide +kernel)) (fun _ => ?_)⟩
        refine ⟨_, rfl, p, _, _, _, rfl, rfl, ht, atI_nat (j := 0) rfl, rfl, _, rfl, ite2 (fun c => absurd (of_decide_eq_true c) (by decide +kernel)) (fun _ => ?_)⟩
        exact ⟨_, rfl, _, rfl, _, _, rfl, rfl, ⟨110 * lv a, 110 * lv b, by omega, by omega, val_lt O fa, val_lt O fb⟩, q⟩
end
end Nw
namespace Nw
open PySem L2
theorem keys_put {κ : Type} [DecidableEq κ] {kvs : List (κ × V)} (k : κ) (v : V) (hn : (kvs.map (·.1)).Nodup) : ((putK kvs k v).map (·.1)).Nodup := by
  by_cases h : valV kvs k = none
  · exact nd_putK v hn h
  · unfold putK
    have a : (kvs.any fun kv => decide (kv.1 = k)) = true := by
      rw [valV_any]
      cases e : valV kvs k with
      | none => exact absurd e h
      | some _ => rfl
    rw [if_pos a, List.map_map]
    have : ((fun kv : κ × V => kv.1) ∘ fun kv => if kv.1 = k then (kv.1, v) else kv) = fun kv => kv.1 := by
      funext kv
      show (if kv.1 = k then (kv.1, v) else kv).1 = kv.1
      split <;> rfl
    rw [this]
    exact hn
theorem mem_put {κ : Type} [DecidableEq κ] {kvs : List (κ × V)} {k : κ} {v : V} {p : κ × V} (h : p ∈ putK kvs k v) : p ∈ kvs ∨ p.2 = v := by
  unfold putK at h
  split at h
  · obtain ⟨q, hq, e⟩ := List.mem_map.mp h
    split at e
    · rw [← e]; exact .inr rfl
    · rw [← e]; exact .inl hq
  · rcases List.mem_append.mp h with z | z
    · exact .inl z
    · rw [List.mem_singleton.mp z]; exact .inr rfl
def keyAt (l : List Str) (i : Nat) : Str := (if i < 3 then ("" : Str) else "@") ++ l[i % 3]!
structure Filled (l : List Str) (kvs : List (Key × V)) (j : Nat) : Prop where
  nd : (kvs.map (·.1)).Nodup
  nums : ∀ p ∈ kvs, ∃ i : Int, p.2 = .int i ∧ i.natAbs < 2 ^ 110
  len : kvs.length ≤ j
  got : ∀ i, i < j → ∃ v, valV kvs (.inr (keyAt l i)) = some v
  keys : ∀ x : Str, (∃ v, valV kvs (.inr x : Key) = some v) → ∃ i, x = keyAt l i
theorem valV_memP {κ : Type} [DecidableEq κ] : ∀ {kvs : List (κ × V)} {k : κ} {v : V}, valV kvs k = some v → (k, v) ∈ kvs
  | [], k, v, h => by rw [valV_nil] at h; cases h
  | p :: r, k, v, h => by
    by_cases e : p.1 = k
    · rw [valV_pos e] at h
      cases h
      rw [← e]
      exact List.mem_cons_self
    · rw [valV_neg e] at h
      exact List.mem_cons_of_mem _ (valV_memP h)
def vfOf (kvs : List (Key × V)) (x : Str) : Int := match valV kvs (.inr x) with
  | some (.int i) => i
  | _ => 0
theorem Filled.ok {l : List Str} {kvs : List (Key × V)} (hl : l.length = 3) (F : Filled l kvs 6) : ValsOk kvs l (vfOf kvs) := by
  refine ⟨F.nd, fun p hp => ?_, fun y hy x hx => ?_⟩
  · obtain ⟨i, e, _⟩ := F.nums p hp
    rw [e]
    rfl
  · have key : ∃ i, i < 6 ∧ keyAt l i = x := by
      obtain ⟨i, hi, e⟩ := List.getElem_of_mem hy
      have hi3 : i < 3 := by rw [hl] at hi; exact hi
      rcases hx with z | z
      · refine ⟨i, by omega, ?_⟩
        unfold keyAt
        rw [if_pos hi3, Nat.mod_eq_of_lt hi3, z, ← e, getElem!_pos l i hi]
      · refine ⟨i + 3, by omega, ?_⟩
        unfold keyAt
        have e3 : (i + 3) % 3 = i := by omega
        rw [if_neg (by omega), e3, z, ← e, getElem!_pos l i hi]
    obtain ⟨i, hi, e⟩ := key
    obtain ⟨v, hv⟩ := F.got i hi
    rw [e] at hv
    obtain ⟨m, em, hm⟩ := F.nums _ (valV_memP hv)
    have em : v = .int m := em
    subst em
    have ev : vfOf kvs x = m := by
      unfold vfOf
      rw [hv]
    rw [ev]
    exact ⟨hv, hm⟩
theorem Filled.put {l : List Str} {kvs : List (Key × V)} {j : Nat} (F : Filled l kvs j) {m : Int} (hm : m.natAbs < 2 ^ 110) : Filled l (putK kvs (.inr (keyAt l j)) (.int m)) (j + 1) := by
  refine ⟨keys_put _ _ F.nd, fun p hp => ?_, Nat.le_trans (length_putK _ _ _) (Nat.add_le_add_right F.len 1), fun i hi => ?_, fun x hx => ?_⟩
  · rcases mem_put hp with z | z
    · exact F.nums p z
    · exact ⟨m, z, hm⟩
  · rw [valV_put]
    by_cases e : (Sum.inr (keyAt l i) : Key) = .inr (keyAt l j)
    · exact ⟨_, if_pos e⟩
    · rw [if_neg e]
      refine F.got i ?_
      have : i ≠ j := fun z => e (by rw [z])
      omega
  · rw [valV_put] at hx
    by_cases e : (Sum.inr x : Key) = .inr (keyAt l j)
    · exact ⟨j, Sum.inr.inj e⟩
    · rw [if_neg e] at hx
      exact F.keys x hx
theorem Filled.names {l : List Str} {kvs : List (Key × V)} (hl : l.length = 3) {n : Nat} (F : Filled l kvs n) : ∀ x : Str, (valV kvs (.inr x : Key)).isSome = true → ∃ y ∈ l, x = ("" : Str) ++ y ∨ x = ("@" : Str) ++ y := fun x hx => by
  obtain ⟨i, rfl⟩ := F.keys x (Option.isSome_iff_exists.mp hx)
  have h3 : i % 3 < l.length := by rw [hl]; omega
  refine ⟨l[i % 3], List.getElem_mem h3, ?_⟩
  unfold keyAt
  rw [getElem!_pos l _ h3]
  by_cases h : i < 3
  · rw [if_pos h]; exact .inl rfl
  · rw [if_neg h]; exact .inr rfl
section
variable {P : Program} {w : World} {K : PySem.W.Frag} {mg : Str → Option Value} {base : Heap}
def spVals : Sp := fun vs H Q _ => ∃ (a b : Addr) (cs : List Int) (l : List Str), vs = [.ref a, .ref b] ∧ H a = some (.lst (cs.map V.int)) ∧ 0 < cs.length ∧ cs.length ≤ 100 ∧ PoolAt H b l ∧
  ∀ (p : Addr) (H' : Hp) (kvs : List (Key × V)) (vf : Str → Int), Same H H' → H' p = some (.dK kvs) → ValsOk kvs l vf → (∀ x : Str, (valV kvs (.inr x : Key)).isSome = true → ∃ y ∈ l, x = ("" : Str) ++ y ∨ x = ("@" : Str) ++ y) → Q (.ref p) H'
theorem scVals : FnScope ["_law_cells", "_law_pool_here", "_law_values_here", "_law_k", "_law_cell", "_law_number"] ["_law_cells", "_law_pool_here"] (defScope sVals) := ⟨rfl, rfl, rfl, by decide +kernel, rfl, by decide +kernel, by decide +kernel⟩
theorem ok_vals {f fM : Addr} {fd fdM : FuncData} (B : Bl mg) (F : Fun K "_law_values" "_law_values" sVals f fd) (FM : Fun K "_law_mix" "_law_mix" sMix fM fdM) (bM : Binds K fdM ["_law_cell", "_law_k"] []) (mM : mg "_law_mix" = some (.ref fM)) :
    FnOk P w K mg base CX0 2 f fd ["_law_cells", "_law_pool_here"] spVals := by
  have GM : FnOk P w K mg base CX0 1 fM fdM ["_law_cell", "_law_k"] spMix := ok_mix B FM
  refine F.ok scVals (fun vs H Q E h => ?_) (fun cdv A outer s H vs Q E hr h => ?_)
  · obtain ⟨a, b, cs, l, rfl, _⟩ := h
    rfl
  obtain ⟨a, b, cs, l, rfl, ha, c0, c1, T, q⟩ := h
  have hu1 := hu1_of hr
  refine ⟨_, (@pss_cons _ _ _ _ _ (@ps_set _ _ 2 _ _ _ _ scVals.nd rfl (Or.inl rfl) pe_dnewK rfl (Or.inl rfl)) (@pss_cons _ _ _ _ _ (@ps_for _ _ _ _ _ _ _ _ PassesOwn.never rfl (pi_range1 rfl B.range (@pa_cons _ _ _ _ _ (@pe_op _ _ _ _ _ _ _ _ op_mul pe_int (pe_callB call_len_seq (by rfl) B.len PySem.boot_len (@pa_cons _ _ _ _ _ (pv 1) pa_nil (by rfl)))) pa_nil (by rfl))) (pg_name (i := 3) scVals.nd rfl (Or.inl rfl)) (@pss_cons _ _ _ _ _ (@ps_set _ _ 4 _ _ _ _ scVals.nd rfl (Or.inl rfl) (@pe_ix _ _ _ _ _ _ (rIxL K) ix_list (pv 0) (@pe_op _ _ _ _ _ _ _ _ op_mod (pv 3) (pe_callB call_len_seq (by rfl) B.len PySem.boot_len (@pa_cons _ _ _ _ _ (pv 0) pa_nil (by rfl)))) (fun _ _ => rfl)) rfl (Or.inl rfl)) (@pss_cons _ _ _ _ _ (@ps_set _ _ 5 _ _ _ _ scVals.nd rfl (Or.inl rfl) (@pe_op _ _ _ _ _ _ _ _ op_sub (@pe_op _ _ _ _ _ _ _ _ op_mod (pe_call GM hr (by rfl) mM FM.kp bM .nil pass0 (@pa_cons _ _ _ _ _ (pv 4) (@pa_cons _ _ _ _ _ (pv 3) pa_nil (by rfl)) (by rfl))) pe_int) pe_int) rfl (Or.inl rfl)) (@pss_cons _ _ _ _ _ (@ps_cut _ _ _ (@ps_if _ _ _ _ _ _ _ _ (@pt_cmpR _ _ _ _ _ _ _ _ op_eq (@pe_op _ _ _ _ _ _ _ _ op_mod (pe_call GM hr (by rfl) mM FM.kp bM .nil pass0 (@pa_cons _ _ _ _ _ (pv 4) (@pa_cons _ _ _ _ _ (@pe_op _ _ _ _ _ _ _ _ op_add (pv 3) pe_int) pa_nil (by rfl)) (by rfl))) pe_int) pe_int (nomark _)) (@pss_one _ _ _ (@ps_set _ _ 5 _ _ _ _ scVals.nd rfl (Or.inl rfl) (@pe_op _ _ _ _ _ _ _ _ op_add (@pe_op _ _ _ _ _ _ _ _ op_sub (@pe_op _ _ _ _ _ _ _ _ op_mod (pv 4) (@pe_op _ _ _ _ _ _ _ _ op_mul pe_int (@pe_op _ _ _ _ _ _ _ _ op_pow pe_int pe_int))) (@pe_op _ _ _ _ _ _ _ _ op_pow pe_int pe_int)) (pv 3)) rfl (Or.inl rfl))) pss_nil)) (@pss_one _ _ _ (@ps_dput _ _ _ _ _ _ _ _ _ hu1 (pv 2) (@pe_op _ _ _ _ _ _ _ _ op_add_str (@pe_ix _ _ _ _ _ _ (rIxL K) ix_list (@pe_lst _ _ _ _ (@pa_cons _ _ _ _ _ pe_str (@pa_cons _ _ _ _ _ pe_str pa_nil (by rfl)) (by rfl))) (@pe_op _ _ _ _ _ _ _ _ op_fdiv (pv 3) (pe_callB call_len_seq (by rfl) B.len PySem.boot_len (@pa_cons _ _ _ _ _ (pv 1) pa_nil (by rfl)))) (fun _ _ => rfl)) (@pe_ix _ _ _ _ _ _ (rIxL K) ix_list (pv 1) (@pe_op _ _ _ _ _ _ _ _ op_mod (pv 3) (pe_callB call_len_seq (by rfl) B.len PySem.boot_len (@pa_cons _ _ _ _ _ (pv 1) pa_nil (by rfl)))) (fun _ _ => rfl))) (pv 5) rfl))))) (by intro _; rfl)) (@pss_one _ _ _ (@ps_ret _ _ _ _ (pv 2))))), ?_⟩
  refine fun pd hpd => ?_
  have el : (((l.map V.str).length : Nat) : Int) = 3 := by rw [List.length_map, T.len]; rfl
  have T1 := T.same (same_new hpd (.dK []))
  have n0 : a ≠ pd := ne_of_none ha hpd
  have nb : b ≠ pd := ne_of_none T.at_ hpd
  refine ⟨_, rfl, b, _, rfl, .inl (SqL.of T1.at_), _, _, rfl, rfl, .inl ⟨by decide, by decide⟩, 6, ?_, by decide, by decide, for_range (n := 6) (fun i σ H2 => ∃ (v1 v2 v3 : Option V) (kvs : List (Key × V)), σ = [some (.ref a), some (.ref b), some (.ref pd), v1, v2, v3] ∧ Same H H2 ∧ H2 pd = some (.dK kvs) ∧ Filled l kvs i) ⟨none, none, none, [], rfl, same_new hpd _, upd_same, ⟨List.nodup_nil, by simp, Nat.le_refl _, fun i hi => absurd hi (Nat.not_lt_zero i), fun x hx => by obtain ⟨v, hv⟩ := hx; rw [valV_nil] at hv; cases hv⟩⟩ ?_ ?_⟩
  · show [V.int (2 * (((l.map V.str).length : Nat) : Int))] = [V.int 6]
    rw [el]
    rfl
  · rintro i σ H2 hi ⟨v1, v2, v3, kvs, rfl, s1, k1, Fi⟩
    have T2 := T.same s1
    have a2 := s1 _ _ ha
    have ec : (((cs.map V.int).length : Nat) : Int) = (cs.length : Int) := by rw [List.length_map]
    obtain ⟨c, hc⟩ : ∃ c : Int, atI (cs.map V.int) ((0 + (i : Int)) % (((cs.map V.int).length : Nat) : Int)) = some (.int c) := by
      rw [ec]
      have h1 := Int.emod_nonneg (0 + (i : Int)) (b := (cs.length : Int)) (by omega)
      have h2 := Int.emod_lt_of_pos (0 + (i : Int)) (b := (cs.length : Int)) (by omega)
      generalize (0 + (i : Int)) % (cs.length : Int) = m at h1 h2
      obtain ⟨j, rfl⟩ : ∃ j : Nat, m = j := ⟨m.toNat, by omega⟩
      have hj : j < cs.length := by omega
      exact ⟨cs[j], atI_nat (by rw [List.getElem?_map, List.getElem?_eq_getElem hj]; rfl)⟩
    refine ⟨_, rfl, _, rfl, _, rfl, a, _, rfl, .inl (SqL.of a2), _, _, rfl, rfl, (by show (0 : Int) < (((cs.map V.int).length : Nat) : Int); rw [ec]; omega), a, _, _, _, rfl, rfl, SqL.of a2, hc, ?_⟩
    refine ⟨_, rfl, _, rfl, c, _, rfl, by omega, by omega, fun r r0 r1 => ⟨_, _, rfl, rfl, (by show (0 : Int) < 7; decide), _, _, rfl, rfl, ?_⟩⟩
    have b110 : (2 : Nat) ^ 110 = 1298074214633706907132624082305024 := by decide
    refine ⟨fun σ' H' => ∃ m : Int, σ' = [some (.ref a), some (.ref b), some (.ref pd), some (.int (0 + (i : Int))), some (.int c), some (.int m)] ∧ m.natAbs < 2 ^ 110 ∧ H' = H2, ?_, ?_⟩
    · refine ⟨_, rfl, _, rfl, _, _, rfl, rfl, c, _, rfl, by omega, by omega, fun r2 _ _ => ⟨_, _, rfl, rfl, (by show (0 : Int) < 4; decide), rfl, _, rfl, ite2 (fun _ => ?_) (fun _ => ?_)⟩⟩
      · refine ⟨_, rfl, _, _, rfl, rfl, ⟨by decide, by decide, by decide⟩, _, _, rfl, rfl, .inl ⟨by decide, by decide⟩, _, _, rfl, rfl, (by show (0 : Int) < 2 * 10 ^ (30 : Int).toNat; decide), _, _, rfl, rfl, ⟨by decide, by decide, by decide⟩, _, _, rfl, rfl, _, rfl, _, _, rfl, rfl, _, rfl, ?_, rfl⟩
        have e10 : (10 : Int) ^ (30 : Int).toNat = 1000000000000000000000000000000 := by decide
        rw [e10, b110]
        have h1 := Int.emod_nonneg c (b := 2 * 1000000000000000000000000000000) (by decide)
        have h2 := Int.emod_lt_of_pos c (b := 2 * 1000000000000000000000000000000) (by decide)
        omega
      · refine ⟨_, rfl, ?_, rfl⟩
        have h1 := Int.emod_nonneg r (b := 7) (by decide)
        have h2 := Int.emod_lt_of_pos r (b := 7) (by decide)
        rw [b110]
        omega
    · rintro σ' H' ⟨m, rfl, hm, rfl⟩
      have hs : atI [V.str "", V.str "@"] ((0 + (i : Int)) / (((l.map V.str).length : Nat) : Int)) = some (.str (if i < 3 then ("" : Str) else "@")) := by
        rw [el, show (0 + (i : Int)) / 3 = ((i / 3 : Nat) : Int) by omega]
        refine atI_nat ?_
        by_cases h3 : i < 3
        · rw [show i / 3 = 0 by omega, if_pos h3]
          rfl
        · rw [show i / 3 = 1 by omega, if_neg h3]
          rfl
      have hl3 : i % 3 < l.length := by rw [T.len]; omega
      have hy : atI (l.map V.str) ((0 + (i : Int)) % (((l.map V.str).length : Nat) : Int)) = some (.str l[i % 3]!) := by
        rw [el, show (0 + (i : Int)) % 3 = ((i % 3 : Nat) : Int) by omega]
        refine atI_nat ?_
        rw [List.getElem?_map, List.getElem?_eq_getElem hl3, getElem!_pos l _ hl3]
        rfl
      have hy3 : (l[i % 3]!).length ≤ 30 := by rw [getElem!_pos l _ hl3]; exact T.few _ (List.getElem_mem hl3)
      have hs3 : (if i < 3 then ("" : Str) else "@").length ≤ 1 := by split <;> decide
      refine ⟨_, rfl, _, rfl, by show 2 ≤ sizeLine; decide, fun z hz => ?_⟩
      have sz := same_new hz (.lst [V.str "", V.str "@"])
      have T3 := T2.same sz
      refine ⟨_, rfl, _, rfl, b, _, rfl, .inl (SqL.of T3.at_), _, _, rfl, rfl, ⟨(by show (0 : Int) < (((l.map V.str).length : Nat) : Int); rw [el]; decide), (by show (((l.map V.str).length : Nat) : Int) < _; rw [el]; decide)⟩, z, _, _, _, rfl, rfl, SqL.of upd_same, hs, ?_⟩
      refine ⟨_, rfl, _, rfl, _, rfl, b, _, rfl, .inl (SqL.of T3.at_), _, _, rfl, rfl, (by show (0 : Int) < (((l.map V.str).length : Nat) : Int); rw [el]; decide), b, _, _, _, rfl, rfl, SqL.of T3.at_, hy, _, _, rfl, rfl, Nat.le_of_lt (small1000 (by omega)), ?_⟩
      refine ⟨pd, _, rfl, DPut.k (k := .inr (keyAt l i)) (sz _ _ k1) (small1000 (by have := Fi.len; omega)), _, _, _, _, rfl, fun x u e => ?_, upd_same, Fi.put hm⟩
      rw [upd_ne (ne_of_none e hpd)]
      exact sz _ _ (s1 _ _ e)
  · rintro σ H2 ⟨v1, v2, v3, kvs, rfl, s1, k1, Fi⟩
    exact ⟨_, rfl, q pd H2 kvs _ s1 k1 (Fi.ok T.len) (Fi.names T.len)⟩
end
end Nw
namespace Nw
open PySem L2
section
variable (P : Program) (w : World) (K : PySem.W.Frag) (mg : Str → Option Value) (base : Heap) (r : Nat)
def ShownBy (H : Hp) (v : V) (x : Str) : Prop := ∃ (a C dx : Addr) (fs : List (Str × V)) (sp : Sp), v = .ref a ∧ H a = some (.ins C dx fs) ∧ fs.lookup ("shown" : Str) = none ∧ MOk P w K mg base r C "shown" sp ∧
  ∀ (H' : Hp) (Q : VK), Same H H' → (∀ H'', Same H' H'' → Q (.str x) H'') → sp [.ref a] H' Q E0
def NamedBy (H : Hp) (v : V) (ts : List Str) : Prop := ∃ (a C dx : Addr) (fs : List (Str × V)) (sp : Sp), v = .ref a ∧ H a = some (.ins C dx fs) ∧ fs.lookup ("named" : Str) = none ∧ MOk P w K mg base r C "named" sp ∧
  ∀ (H' : Hp) (Q : VK), Same H H' → (∀ (p : Addr) (H'' : Hp) (out : List Str), Same H' H'' → H' p = none → IsNorm ts out → H'' p = some (.lst (out.map V.str)) → Q (.ref p) H'') → sp [.ref a] H' Q E0
end
section
variable {P : Program} {w : World} {K : PySem.W.Frag} {mg : Str → Option Value} {base : Heap} {r : Nat}
theorem str_assoc (a b c : Str) : a ++ b ++ c = a ++ (b ++ c) := by
  cases a; cases b; cases c
  exact congrArg Str.mk (Array.append_assoc)
theorem join5 (a b c : Str) : Txt.join " " ["(", a, b, c, ")"] = "( " ++ a ++ " " ++ b ++ " " ++ c ++ " )" := by
  rw [join_eq]
  show "(" ++ " " ++ (a ++ " " ++ (b ++ " " ++ (c ++ " " ++ ")"))) = _
  have e1 : ("(" : Str) ++ " " = "( " := by decide +kernel
  have e2 : (" " : Str) ++ ")" = " )" := by decide +kernel
  rw [e1, str_assoc c, e2]
  simp only [str_assoc]
theorem join5s (a b c : Str) : Txt.join " " ["[", a, b, c, "]"] = "[ " ++ a ++ " " ++ b ++ " " ++ c ++ " ]" := by
  rw [join_eq]
  show "[" ++ " " ++ (a ++ " " ++ (b ++ " " ++ (c ++ " " ++ "]"))) = _
  have e1 : ("[" : Str) ++ " " = "[ " := by decide +kernel
  have e2 : (" " : Str) ++ "]" = " ]" := by decide +kernel
  rw [e1, str_assoc c, e2]
  simp only [str_assoc]
theorem join4 (a : Str) : Txt.join " " ["[", "not", a, "]"] = "[ not " ++ a ++ " ]" := by
  rw [join_eq]
  show "[" ++ " " ++ ("not" ++ " " ++ (a ++ " " ++ "]")) = _
  have e1 : ("[" : Str) ++ " " ++ ("not" ++ " ") = "[ not " := by decide +kernel
  have e2 : (" " : Str) ++ "]" = " ]" := by decide +kernel
  rw [← e1, ← e2]
  simp only [str_assoc]
theorem join3 (a b c : Str) : Txt.join " " [a, b, c] = a ++ " " ++ b ++ " " ++ c := by
  rw [join_eq]
  show a ++ " " ++ (b ++ " " ++ c) = _
  simp only [str_assoc]
def spBra (P : Program) (w : World) (K : PySem.W.Frag) (mg : Str → Option Value) (base : Heap) (r : Nat) (o c : Str) : Sp := fun vs H Q _ => ∃ (va vb : V) (x s y : Str), vs = [va, .str s, vb] ∧ ShownBy P w K mg base r H va x ∧ ShownBy P w K mg base r H vb y ∧ x.length + s.length + y.length ≤ 2000000 ∧ ∀ H', Same H H' → Q (.str (o ++ x ++ " " ++ s ++ " " ++ y ++ c)) H'
theorem scBra : FnScope ["one", "sign", "other"] ["one", "sign", "other"] (defScope sBra) := ⟨rfl, rfl, rfl, by decide +kernel, rfl, by decide +kernel, by decide +kernel⟩
theorem ok_bra {f : Addr} {fd : FuncData} (F : Fun K "bracketed" "bracketed" sBra f fd) : FnOk P w K mg base CX0 (r + 1) f fd ["one", "sign", "other"] (spBra P w K mg base r "( " " )") := by
  refine F.ok scBra (fun vs H Q E h => ?_) (fun cdv A outer s H vs Q E hr h => ?_)
  · obtain ⟨va, vb, x, sg, y, rfl, _⟩ := h
    rfl
  obtain ⟨va, vb, x, sg, y, rfl, ⟨pa, Ca, dxa, fsa, spa, rfl, ha, la, Ma, qa⟩, ⟨pb, Cb, dxb, fsb, spb, rfl, hb, lb, Mb, qb⟩, hl, q⟩ := h
  refine ⟨_, (@pss_one _ _ _ (@ps_ret _ _ _ _ (pe_bm (r := rJoin K) PySem.F.plainAttrs_str PySem.F.slot_str_join PySem.F.type_str_join mt_join pe_str (@pa_cons _ _ _ _ _ (@pe_lst _ _ _ _ (@pa_cons _ _ _ _ _ pe_str (@pa_cons _ _ _ _ _ (pe_methP0 (pv 0) hr) (@pa_cons _ _ _ _ _ (pv 1) (@pa_cons _ _ _ _ _ (pe_methP0 (pv 2) hr) (@pa_cons _ _ _ _ _ pe_str pa_nil (by rfl)) (by rfl)) (by rfl)) (by rfl)) (by rfl))) pa_nil (by rfl))))), ?_⟩
  refine ⟨rfl, _, rfl, pa, _, dxa, fsa, _, rfl, ha, la, Ma, qa _ _ (Same.refl _) fun H1 t1 => ?_⟩
  refine ⟨_, rfl, _, rfl, pb, _, dxb, fsb, _, rfl, t1 _ _ hb, lb, Mb, qb _ _ t1 fun H2 t2 => ?_⟩
  refine ⟨by show 5 ≤ sizeLine; decide, fun z hz => ⟨_, z, ["(", x, sg, y, ")"], rfl, rfl, SqL.of upd_same, ?_, ?_⟩⟩
  · have e1 : ("(" : Str).length = 1 := by decide +kernel
    have e2 : (")" : Str).length = 1 := by decide +kernel
    have e3 := sp_len.1
    simp only [List.map_cons, List.map_nil, List.sum_cons, List.sum_nil, List.length_cons, List.length_nil, e1, e2, e3]
    omega
  · rw [join5]
    exact q _ (t1.trans (t2.trans (same_new hz _)))
theorem scBrs : FnScope ["one", "word", "other"] ["one", "word", "other"] (defScope sBrs) := ⟨rfl, rfl, rfl, by decide +kernel, rfl, by decide +kernel, by decide +kernel⟩
theorem ok_brs {f : Addr} {fd : FuncData} (F : Fun K "bracketed" "bracketed" sBrs f fd) : FnOk P w K mg base CX0 (r + 1) f fd ["one", "word", "other"] (spBra P w K mg base r "[ " " ]") := by
  refine F.ok scBrs (fun vs H Q E h => ?_) (fun cdv A outer s H vs Q E hr h => ?_)
  · obtain ⟨va, vb, x, sg, y, rfl, _⟩ := h
    rfl
  obtain ⟨va, vb, x, sg, y, rfl, ⟨pa, Ca, dxa, fsa, spa, rfl, ha, la, Ma, qa⟩, ⟨pb, Cb, dxb, fsb, spb, rfl, hb, lb, Mb, qb⟩, hl, q⟩ := h
  refine ⟨_, (@pss_one _ _ _ (@ps_ret _ _ _ _ (pe_bm (r := rJoin K) PySem.F.plainAttrs_str PySem.F.slot_str_join PySem.F.type_str_join mt_join pe_str (@pa_cons _ _ _ _ _ (@pe_lst _ _ _ _ (@pa_cons _ _ _ _ _ pe_str (@pa_cons _ _ _ _ _ (pe_methP0 (pv 0) hr) (@pa_cons _ _ _ _ _ (pv 1) (@pa_cons _ _ _ _ _ (pe_methP0 (pv 2) hr) (@pa_cons _ _ _ _ _ pe_str pa_nil (by rfl)) (by rfl)) (by rfl)) (by rfl)) (by rfl))) pa_nil (by rfl))))), ?_⟩
  refine ⟨rfl, _, rfl, pa, _, dxa, fsa, _, rfl, ha, la, Ma, qa _ _ (Same.refl _) fun H1 t1 => ?_⟩
  refine ⟨_, rfl, _, rfl, pb, _, dxb, fsb, _, rfl, t1 _ _ hb, lb, Mb, qb _ _ t1 fun H2 t2 => ?_⟩
  refine ⟨by show 5 ≤ sizeLine; decide, fun z hz => ⟨_, z, ["[", x, sg, y, "]"], rfl, rfl, SqL.of upd_same, ?_, ?_⟩⟩
  · have e1 : ("[" : Str).length = 1 := by decide +kernel
    have e2 : ("]" : Str).length = 1 := by decide +kernel
    have e3 := sp_len.1
    simp only [List.map_cons, List.map_nil, List.sum_cons, List.sum_nil, List.length_cons, List.length_nil, e1, e2, e3]
    omega
  · rw [join5s]
    exact q _ (t1.trans (t2.trans (same_new hz _)))
def spCmp (P : Program) (w : World) (K : PySem.W.Frag) (mg : Str → Option Value) (base : Heap) (r : Nat) : Sp := fun vs H Q _ => ∃ (va vb : V) (x s y : Str), vs = [va, .str s, vb] ∧ ShownBy P w K mg base r H va x ∧ ShownBy P w K mg base r H vb y ∧ x.length + s.length + y.length ≤ 2000000 ∧ ∀ H', Same H H' → Q (.str (x ++ " " ++ s ++ " " ++ y)) H'
theorem scCmp : FnScope ["one", "sign", "other"] ["one", "sign", "other"] (defScope sCmp) := ⟨rfl, rfl, rfl, by decide +kernel, rfl, by decide +kernel, by decide +kernel⟩
theorem ok_cmp {f : Addr} {fd : FuncData} (F : Fun K "compared" "compared" sCmp f fd) : FnOk P w K mg base CX0 (r + 1) f fd ["one", "sign", "other"] (spCmp P w K mg base r) := by
  refine F.ok scCmp (fun vs H Q E h => ?_) (fun cdv A outer s H vs Q E hr h => ?_)
  · obtain ⟨va, vb, x, sg, y, rfl, _⟩ := h
    rfl
  obtain ⟨va, vb, x, sg, y, rfl, ⟨pa, Ca, dxa, fsa, spa, rfl, ha, la, Ma, qa⟩, ⟨pb, Cb, dxb, fsb, spb, rfl, hb, lb, Mb, qb⟩, hl, q⟩ := h
  refine ⟨_, (@pss_one _ _ _ (@ps_ret _ _ _ _ (pe_bm (r := rJoin K) PySem.F.plainAttrs_str PySem.F.slot_str_join PySem.F.type_str_join mt_join pe_str (@pa_cons _ _ _ _ _ (@pe_lst _ _ _ _ (@pa_cons _ _ _ _ _ (pe_methP0 (pv 0) hr) (@pa_cons _ _ _ _ _ (pv 1) (@pa_cons _ _ _ _ _ (pe_methP0 (pv 2) hr) pa_nil (by rfl)) (by rfl)) (by rfl))) pa_nil (by rfl))))), ?_⟩
  refine ⟨rfl, _, rfl, pa, _, dxa, fsa, _, rfl, ha, la, Ma, qa _ _ (Same.refl _) fun H1 t1 => ?_⟩
  refine ⟨_, rfl, _, rfl, pb, _, dxb, fsb, _, rfl, t1 _ _ hb, lb, Mb, qb _ _ t1 fun H2 t2 => ?_⟩
  refine ⟨by show 3 ≤ sizeLine; decide, fun z hz => ⟨_, z, [x, sg, y], rfl, rfl, SqL.of upd_same, ?_, ?_⟩⟩
  · have e3 := sp_len.1
    simp only [List.map_cons, List.map_nil, List.sum_cons, List.sum_nil, List.length_cons, List.length_nil, e3]
    omega
  · rw [join3]
    exact q _ (t1.trans (t2.trans (same_new hz _)))
def spTwo (P : Program) (w : World) (K : PySem.W.Frag) (mg : Str → Option Value) (base : Heap) (r : Nat) : Sp := fun vs H Q _ => ∃ (va vb : V) (ta tb : List Str), vs = [va, vb] ∧ NamedBy P w K mg base r H va ta ∧ NamedBy P w K mg base r H vb tb ∧ ta.length + tb.length ≤ 60 ∧ ∀ (p : Addr) (H' : Hp) (out : List Str), Same H H' → H p = none → IsNorm (ta ++ tb) out → H' p = some (.lst (out.map V.str)) → Q (.ref p) H'
theorem scTwoO : FnScope ["one", "other"] ["one", "other"] (defScope sTwoO) := ⟨rfl, rfl, rfl, by decide +kernel, rfl, by decide +kernel, by decide +kernel⟩
theorem ok_twoO {f : Addr} {fd : FuncData} (B : Bl mg) (F : Fun K "names_of_two" "names_of_two" sTwoO f fd) : FnOk P w K mg base CX0 (r + 1) f fd ["one", "other"] (spTwo P w K mg base r) := by
  refine F.ok scTwoO (fun vs H Q E h => ?_) (fun cdv A outer s H vs Q E hr h => ?_)
  · obtain ⟨va, vb, ta, tb, rfl, _⟩ := h
    rfl
  obtain ⟨va, vb, ta, tb, rfl, ⟨pa, Ca, dxa, fsa, spa, rfl, ha, la, Ma, qa⟩, ⟨pb, Cb, dxb, fsb, spb, rfl, hb, lb, Mb, qb⟩, hl, q⟩ := h
  refine ⟨_, (@pss_one _ _ _ (@ps_ret _ _ _ _ (pe_callB (call_sortedS rfl) (by rfl) B.sorted rfl (@pa_cons _ _ _ _ _ (pe_callTy (call_setS rfl) (by rfl) B.set rfl (@pa_cons _ _ _ _ _ (@pe_op _ _ _ _ _ _ _ _ op_catL (pe_methP0 (pv 0) hr) (pe_methP0 (pv 1) hr)) pa_nil (by rfl))) pa_nil (by rfl))))), ?_⟩
  refine ⟨_, rfl, pa, _, dxa, fsa, _, rfl, ha, la, Ma, qa _ _ (Same.refl _) fun q1 H1 o1 t1 f1 n1 e1 => ?_⟩
  refine ⟨_, rfl, pb, _, dxb, fsb, _, rfl, t1 _ _ hb, lb, Mb, qb _ _ t1 fun q2 H2 o2 t2 f2 n2 e2 => ?_⟩
  have k1 := n1.len
  have k2 := n2.len
  refine ⟨q1, q2, _, _, rfl, rfl, SqL.of (t2 _ _ e1), SqL.of e2, small9 (by rw [List.length_map, List.length_map]; omega), fun q3 h3 => ?_⟩
  have t3 := same_new h3 (.lst (o1.map V.str ++ o2.map V.str))
  have e3 : upd H2 q3 (.lst (o1.map V.str ++ o2.map V.str)) q3 = some (.lst ((o1 ++ o2).map V.str)) := by rw [upd_same, List.map_append]
  generalize upd H2 q3 (.lst (o1.map V.str ++ o2.map V.str)) = H3 at t3 e3 ⊢
  refine ⟨q3, o1 ++ o2, rfl, SqL.of e3, by rw [List.length_append]; unfold scanBound; omega, fun q4 h4 => ?_⟩
  have k3 := metS_length (o1 ++ o2)
  rw [List.length_append] at k3
  refine ⟨q4, _, rfl, upd_same, metS_nodup _, by omega, fun q5 out h5 n5 => ?_⟩
  have f5 := (same_new h4 _).free h5
  refine q q5 _ out ?_ (t1.free (t2.free (t3.free f5))) (n1.cat n2 n5.of_met) upd_same
  exact t1.trans (t2.trans (t3.trans (same_put (same_new h4 _) f5 _)))
end
end Nw
namespace Nw
open PySem L2
inductive Kd where
  | num | nam | op (g : Sg)
def kd : Tr → Kd
  | .num _ => .num
  | .nam _ => .nam
  | .op g _ _ => .op g
def ckOf (CN CM CP CI CX : Addr) : Kd → Addr
  | .num => CN
  | .nam => CM
  | .op .plus => CP
  | .op .minus => CI
  | .op .times => CX
def numF (v : V) : List (Str × V) := putF "number" v []
def namF (v : V) : List (Str × V) := putF "name" v []
def twoF (a b : V) : List (Str × V) := putF "other" b (putF "one" a [])
theorem num_at (v : V) : (numF v).lookup ("number" : Str) = some v := by unfold numF; rw [lookup_putF, if_pos rfl]
theorem nam_at (v : V) : (namF v).lookup ("name" : Str) = some v := by unfold namF; rw [lookup_putF, if_pos rfl]
theorem two_one (a b : V) : (twoF a b).lookup ("one" : Str) = some a := by unfold twoF; rw [lookup_putF, if_neg (by decide +kernel), lookup_putF, if_pos rfl]
theorem two_oth (a b : V) : (twoF a b).lookup ("other" : Str) = some b := by unfold twoF; rw [lookup_putF, if_pos rfl]
theorem num_s (v : V) : (numF v).lookup ("shown" : Str) = none := by unfold numF; rw [lookup_putF, if_neg (by decide +kernel)]; rfl
theorem nam_s (v : V) : (namF v).lookup ("shown" : Str) = none := by unfold namF; rw [lookup_putF, if_neg (by decide +kernel)]; rfl
theorem two_s (a b : V) : (twoF a b).lookup ("shown" : Str) = none := by unfold twoF; rw [lookup_putF, if_neg (by decide +kernel), lookup_putF, if_neg (by decide +kernel)]; rfl
theorem num_n (v : V) : (numF v).lookup ("named" : Str) = none := by unfold numF; rw [lookup_putF, if_neg (by decide +kernel)]; rfl
theorem nam_n (v : V) : (namF v).lookup ("named" : Str) = none := by unfold namF; rw [lookup_putF, if_neg (by decide +kernel)]; rfl
theorem two_n (a b : V) : (twoF a b).lookup ("named" : Str) = none := by unfold twoF; rw [lookup_putF, if_neg (by decide +kernel), lookup_putF, if_neg (by decide +kernel)]; rfl
structure ClsA (K : PySem.W.Frag) (CK : Kd → Addr) : Prop where
  cl : ∀ k, Cls K (CK k)
  num : NoAttr K (CK .num) "number"
  nam : NoAttr K (CK .nam) "name"
  one : ∀ g, NoAttr K (CK (.op g)) "one"
  oth : ∀ g, NoAttr K (CK (.op g)) "other"
def Obj (CK : Kd → Addr) (H : Hp) : Tr → V → Prop
  | .num n, v => ∃ p dx, v = .ref p ∧ H p = some (.ins (CK .num) dx (numF (.int n)))
  | .nam x, v => ∃ p dx, v = .ref p ∧ H p = some (.ins (CK .nam) dx (namF (.str x)))
  | .op g l r, v => ∃ p dx a b, v = .ref p ∧ H p = some (.ins (CK (.op g)) dx (twoF a b)) ∧ Obj CK H l a ∧ Obj CK H r b
theorem Obj.same {CK : Kd → Addr} {H H' : Hp} (s : Same H H') : ∀ {t : Tr} {v : V}, Obj CK H t v → Obj CK H' t v
  | .num n, v, h => by
    obtain ⟨p, dx, e, h⟩ := h
    exact ⟨p, dx, e, s _ _ h⟩
  | .nam n, v, h => by
    obtain ⟨p, dx, e, h⟩ := h
    exact ⟨p, dx, e, s _ _ h⟩
  | .op g l r, v, h => by
    obtain ⟨p, dx, a, b, e, h, h1, h2⟩ := h
    exact ⟨p, dx, a, b, e, s _ _ h, h1.same s, h2.same s⟩
theorem Obj.at_ {CK : Kd → Addr} {H : Hp} : ∀ {t : Tr} {v : V}, Obj CK H t v → ∃ p dx fs, v = .ref p ∧ H p = some (.ins (CK (kd t)) dx fs) ∧ fs.lookup ("shown" : Str) = none ∧ fs.lookup ("named" : Str) = none
  | .num n, v, h => by
    obtain ⟨p, dx, e, h⟩ := h
    exact ⟨p, dx, _, e, h, num_s _, num_n _⟩
  | .nam n, v, h => by
    obtain ⟨p, dx, e, h⟩ := h
    exact ⟨p, dx, _, e, h, nam_s _, nam_n _⟩
  | .op g l r, v, h => by
    obtain ⟨p, dx, a, b, e, h, _⟩ := h
    exact ⟨p, dx, _, e, h, two_s _ _, two_n _ _⟩
section
variable {P : Program} {w : World} {K : PySem.W.Frag} {mg : Str → Option Value} {base : Heap} {CK : Kd → Addr}
def spS (CK : Kd → Addr) (n : Nat) (k : Kd) : Sp := fun vs H Q _ => ∃ (v : V) (t : Tr) (l : List Str), vs = [v] ∧ kd t = k ∧ Obj CK H t v ∧ (∀ x ∈ l, x.length ≤ 30) ∧ Fits l t ∧ lv t ≤ 60 ∧ dp t < n ∧ ∀ H', Same H H' → Q (.str (txt t)) H'
theorem spS_none (k : Kd) : ∀ vs H Q E, ¬ spS CK 0 k vs H Q E := fun vs H Q E h => by
  obtain ⟨v, t, l, _, _, _, _, _, _, h1, _⟩ := h
  omega
theorem scNumS : FnScope ["self"] ["self"] (defScope sNumS) := ⟨rfl, rfl, rfl, by decide +kernel, rfl, by decide +kernel, by decide +kernel⟩
theorem ok_numS {f : Addr} {fd : FuncData} (B : Bl mg) (c : ClsA K CK) (F : Fun K "shown" "Number.shown" sNumS f fd) (n : Nat) : FnOk P w K mg base CX0 1 f fd ["self"] (spS CK n .num) := by
  refine F.ok scNumS (fun vs H Q E h => ?_) (fun cdv A outer s H vs Q E hr h => ?_)
  · obtain ⟨v, t, l, rfl, _⟩ := h
    rfl
  obtain ⟨v, t, l, rfl, kt, ob, hl, ft, l100, hn, q⟩ := h
  refine ⟨_, (@pss_one _ _ _ (@ps_ret _ _ _ _ (pe_callTy call_str_int (by rfl) B.str PyProof.Rows.boot_str (@pa_cons _ _ _ _ _ (@pe_fld _ _ _ _ _ (pv 0) rfl) pa_nil (by rfl))))), ?_⟩
  cases t with
  | num m =>
    obtain ⟨p, dx, rfl, hp⟩ := ob
    obtain ⟨m0, m1⟩ : 0 ≤ m ∧ m ≤ 99 := ft
    exact ⟨_, rfl, p, _, dx, _, _, rfl, hp, c.cl _, c.num, num_at _, m, rfl, Nat.lt_of_le_of_lt (Nat.log2_le_self _) (by omega), q _ (Same.refl _)⟩
  | _ => cases kt
theorem scNamS : FnScope ["self"] ["self"] (defScope sNamS) := ⟨rfl, rfl, rfl, by decide +kernel, rfl, by decide +kernel, by decide +kernel⟩
theorem ok_namS {f : Addr} {fd : FuncData} (c : ClsA K CK) (F : Fun K "shown" "Named.shown" sNamS f fd) (n : Nat) : FnOk P w K mg base CX0 1 f fd ["self"] (spS CK n .nam) := by
  refine F.ok scNamS (fun vs H Q E h => ?_) (fun cdv A outer s H vs Q E hr h => ?_)
  · obtain ⟨v, t, l, rfl, _⟩ := h
    rfl
  obtain ⟨v, t, l, rfl, kt, ob, hl, ft, l100, hn, q⟩ := h
  refine ⟨_, (@pss_one _ _ _ (@ps_ret _ _ _ _ (@pe_fld _ _ _ _ _ (pv 0) rfl))), ?_⟩
  cases t with
  | nam x =>
    obtain ⟨p, dx, rfl, hp⟩ := ob
    exact ⟨_, rfl, p, _, dx, _, _, rfl, hp, c.cl _, c.nam, nam_at _, q _ (Same.refl _)⟩
  | _ => cases kt
theorem Obj.shownBy {H : Hp} {t : Tr} {v : V} {l : List Str} {n r : Nat} (W : ∀ k, MOk P w K mg base r (CK k) "shown" (spS CK n k)) (ob : Obj CK H t v) (hl : ∀ x ∈ l, x.length ≤ 30) (ft : Fits l t) (hv : lv t ≤ 60) (hd : dp t < n) : ShownBy P w K mg base r H v (txt t) := by
  obtain ⟨p, dx, fs, rfl, hp, ls, _⟩ := ob.at_
  exact ⟨p, _, dx, fs, _, rfl, hp, ls, W _, fun H' Q s k => ⟨.ref p, t, l, rfl, rfl, ob.same s, hl, ft, hv, hd, k⟩⟩
theorem scPluS : FnScope ["self"] ["self"] (defScope sPluS) := ⟨rfl, rfl, rfl, by decide +kernel, rfl, by decide +kernel, by decide +kernel⟩
theorem ok_pluS {f fB : Addr} {fd dB : FuncData} (c : ClsA K CK) (F : Fun K "shown" "Plus.shown" sPluS f fd) (FB : Fun K "bracketed" "bracketed" sBra fB dB) (bB : Binds K dB ["one", "sign", "other"] []) (mB : mg "bracketed_sums" = some (.ref fB)) (n : Nat) (W : ∀ k, MOk P w K mg base (2 * n + 1) (CK k) "shown" (spS CK n k)) : FnOk P w K mg base CX0 (2 * (n + 1) + 1) f fd ["self"] (spS CK (n + 1) (.op .plus)) := by
  have GB : FnOk P w K mg base CX0 (2 * n + 2) fB dB ["one", "sign", "other"] (spBra P w K mg base (2 * n + 1) "( " " )") := ok_bra FB
  refine F.ok scPluS (fun vs H Q E h => ?_) (fun cdv A outer s H vs Q E hr h => ?_)
  · obtain ⟨v, t, l, rfl, _⟩ := h
    rfl
  obtain ⟨v, t, l, rfl, kt, ob, hl, ft, l100, hn, q⟩ := h
  have hrB := hr.mono (show 2 * n + 2 ≤ 2 * (n + 1) by omega)
  refine ⟨_, (@pss_one _ _ _ (@ps_ret _ _ _ _ (pe_call GB hrB (by rfl) mB FB.kp bB .nil pass0 (@pa_cons _ _ _ _ _ (@pe_fld _ _ _ _ _ (pv 0) rfl) (@pa_cons _ _ _ _ _ pe_str (@pa_cons _ _ _ _ _ (@pe_fld _ _ _ _ _ (pv 0) rfl) pa_nil (by rfl)) (by rfl)) (by rfl))))), ?_⟩
  cases t with
  | op g a b =>
    cases kt
    obtain ⟨p, dx, va, vb, rfl, hp, oa, ob⟩ := ob
    obtain ⟨fa, fb⟩ : Fits l a ∧ Fits l b := ft
    have hn : max (dp a) (dp b) + 1 < n + 1 := hn
    have l100 : lv a + lv b ≤ 60 := l100
    have i1 := txt_len hl fa
    have i2 := txt_len hl fb
    have s1 := sg_len .plus
    refine ⟨_, rfl, p, _, dx, _, _, rfl, hp, c.cl _, c.one _, two_one _ _, _, rfl, p, _, dx, _, _, rfl, hp, c.cl _, c.oth _, two_oth _ _, ?_⟩
    exact ⟨va, vb, txt a, sgS .plus, txt b, rfl, oa.shownBy W hl fa (by omega) (by omega), ob.shownBy W hl fb (by omega) (by omega), by omega, q⟩
  | _ => cases kt
theorem scMinS : FnScope ["self"] ["self"] (defScope sMinS) := ⟨rfl, rfl, rfl, by decide +kernel, rfl, by decide +kernel, by decide +kernel⟩
theorem ok_minS {f fB : Addr} {fd dB : FuncData} (c : ClsA K CK) (F : Fun K "shown" "Minus.shown" sMinS f fd) (FB : Fun K "bracketed" "bracketed" sBra fB dB) (bB : Binds K dB ["one", "sign", "other"] []) (mB : mg "bracketed_sums" = some (.ref fB)) (n : Nat) (W : ∀ k, MOk P w K mg base (2 * n + 1) (CK k) "shown" (spS CK n k)) : FnOk P w K mg base CX0 (2 * (n + 1) + 1) f fd ["self"] (spS CK (n + 1) (.op .minus)) := by
  have GB : FnOk P w K mg base CX0 (2 * n + 2) fB dB ["one", "sign", "other"] (spBra P w K mg base (2 * n + 1) "( " " )") := ok_bra FB
  refine F.ok scMinS (fun vs H Q E h => ?_) (fun cdv A outer s H vs Q E hr h => ?_)
  · obtain ⟨v, t, l, rfl, _⟩ := h
    rfl
  obtain ⟨v, t, l, rfl, kt, ob, hl, ft, l100, hn, q⟩ := h
  have hrB := hr.mono (show 2 * n + 2 ≤ 2 * (n + 1) by omega)
  refine ⟨_, (@pss_one _ _ _ (@ps_ret _ _ _ _ (pe_call GB hrB (by rfl) mB FB.kp bB .nil pass0 (@pa_cons _ _ _ _ _ (@pe_fld _ _ _ _ _ (pv 0) rfl) (@pa_cons _ _ _ _ _ pe_str (@pa_cons _ _ _ _ _ (@pe_fld _ _ _ _ _ (pv 0) rfl) pa_nil (by rfl)) (by rfl)) (by rfl))))), ?_⟩
  cases t with
  | op g a b =>
    cases kt
    obtain ⟨p, dx, va, vb, rfl, hp, oa, ob⟩ := ob
    obtain ⟨fa, fb⟩ : Fits l a ∧ Fits l b := ft
    have hn : max (dp a) (dp b) + 1 < n + 1 := hn
    have l100 : lv a + lv b ≤ 60 := l100
    have i1 := txt_len hl fa
    have i2 := txt_len hl fb
    have s1 := sg_len .minus
    refine ⟨_, rfl, p, _, dx, _, _, rfl, hp, c.cl _, c.one _, two_one _ _, _, rfl, p, _, dx, _, _, rfl, hp, c.cl _, c.oth _, two_oth _ _, ?_⟩
    exact ⟨va, vb, txt a, sgS .minus, txt b, rfl, oa.shownBy W hl fa (by omega) (by omega), ob.shownBy W hl fb (by omega) (by omega), by omega, q⟩
  | _ => cases kt
theorem scTimS : FnScope ["self"] ["self"] (defScope sTimS) := ⟨rfl, rfl, rfl, by decide +kernel, rfl, by decide +kernel, by decide +kernel⟩
theorem ok_timS {f fB : Addr} {fd dB : FuncData} (c : ClsA K CK) (F : Fun K "shown" "Times.shown" sTimS f fd) (FB : Fun K "bracketed" "bracketed" sBra fB dB) (bB : Binds K dB ["one", "sign", "other"] []) (mB : mg "bracketed_sums" = some (.ref fB)) (n : Nat) (W : ∀ k, MOk P w K mg base (2 * n + 1) (CK k) "shown" (spS CK n k)) : FnOk P w K mg base CX0 (2 * (n + 1) + 1) f fd ["self"] (spS CK (n + 1) (.op .times)) := by
  have GB : FnOk P w K mg base CX0 (2 * n + 2) fB dB ["one", "sign", "other"] (spBra P w K mg base (2 * n + 1) "( " " )") := ok_bra FB
  refine F.ok scTimS (fun vs H Q E h => ?_) (fun cdv A outer s H vs Q E hr h => ?_)
  · obtain ⟨v, t, l, rfl, _⟩ := h
    rfl
  obtain ⟨v, t, l, rfl, kt, ob, hl, ft, l100, hn, q⟩ := h
  have hrB := hr.mono (show 2 * n + 2 ≤ 2 * (n + 1) by omega)
  refine ⟨_, (@pss_one _ _ _ (@ps_ret _ _ _ _ (pe_call GB hrB (by rfl) mB FB.kp bB .nil pass0 (@pa_cons _ _ _ _ _ (@pe_fld _ _ _ _ _ (pv 0) rfl) (@pa_cons _ _ _ _ _ pe_str (@pa_cons _ _ _ _ _ (@pe_fld _ _ _ _ _ (pv 0) rfl) pa_nil (by rfl)) (by rfl)) (by rfl))))), ?_⟩
  cases t with
  | op g a b =>
    cases kt
    obtain ⟨p, dx, va, vb, rfl, hp, oa, ob⟩ := ob
    obtain ⟨fa, fb⟩ : Fits l a ∧ Fits l b := ft
    have hn : max (dp a) (dp b) + 1 < n + 1 := hn
    have l100 : lv a + lv b ≤ 60 := l100
    have i1 := txt_len hl fa
    have i2 := txt_len hl fb
    have s1 := sg_len .times
    refine ⟨_, rfl, p, _, dx, _, _, rfl, hp, c.cl _, c.one _, two_one _ _, _, rfl, p, _, dx, _, _, rfl, hp, c.cl _, c.oth _, two_oth _ _, ?_⟩
    exact ⟨va, vb, txt a, sgS .times, txt b, rfl, oa.shownBy W hl fa (by omega) (by omega), ob.shownBy W hl fb (by omega) (by omega), by omega, q⟩
  | _ => cases kt
def spN (CK : Kd → Addr) (n : Nat) (k : Kd) : Sp := fun vs H Q _ => ∃ (v : V) (t : Tr), vs = [v] ∧ kd t = k ∧ Obj CK H t v ∧ lv t ≤ 60 ∧ dp t < n ∧ ∀ (p : Addr) (H' : Hp) (out : List Str), Same H H' → H p = none → IsNorm (nmT t) out → H' p = some (.lst (out.map V.str)) → Q (.ref p) H'
theorem spN_none (k : Kd) : ∀ vs H Q E, ¬ spN CK 0 k vs H Q E := fun vs H Q E h => by
  obtain ⟨v, t, _, _, _, _, h1, _⟩ := h
  omega
theorem scSumN : FnScope ["self"] ["self"] (defScope sSumN) := ⟨rfl, rfl, rfl, by decide +kernel, rfl, by decide +kernel, by decide +kernel⟩
theorem ok_sumN {f : Addr} {fd : FuncData} (F : Fun K "named" "Sum.named" sSumN f fd) (n : Nat) : FnOk P w K mg base CX0 1 f fd ["self"] (spN CK n .num) := by
  refine F.ok scSumN (fun vs H Q E h => ?_) (fun cdv A outer s H vs Q E hr h => ?_)
  · obtain ⟨v, t, rfl, _⟩ := h
    rfl
  obtain ⟨v, t, rfl, kt, ob, l60, hn, q⟩ := h
  refine ⟨_, (@pss_one _ _ _ (@ps_ret _ _ _ _ (@pe_lst _ _ _ _ pa_nil))), ?_⟩
  cases t with
  | num m => exact ⟨Nat.zero_le _, fun z hz => q z _ [] (same_new hz _) hz IsNorm.nil upd_same⟩
  | _ => cases kt
theorem scNamN : FnScope ["self"] ["self"] (defScope sNamN) := ⟨rfl, rfl, rfl, by decide +kernel, rfl, by decide +kernel, by decide +kernel⟩
theorem ok_namN {f : Addr} {fd : FuncData} (c : ClsA K CK) (F : Fun K "named" "Named.named" sNamN f fd) (n : Nat) : FnOk P w K mg base CX0 1 f fd ["self"] (spN CK n .nam) := by
  refine F.ok scNamN (fun vs H Q E h => ?_) (fun cdv A outer s H vs Q E hr h => ?_)
  · obtain ⟨v, t, rfl, _⟩ := h
    rfl
  obtain ⟨v, t, rfl, kt, ob, l60, hn, q⟩ := h
  refine ⟨_, (@pss_one _ _ _ (@ps_ret _ _ _ _ (@pe_lst _ _ _ _ (@pa_cons _ _ _ _ _ (@pe_fld _ _ _ _ _ (pv 0) rfl) pa_nil (by rfl))))), ?_⟩
  cases t with
  | nam x =>
    obtain ⟨p, dx, rfl, hp⟩ := ob
    exact ⟨_, rfl, p, _, dx, _, _, rfl, hp, c.cl _, c.nam, nam_at _, by show 1 ≤ sizeLine; decide, fun z hz => q z _ [x] (same_new hz _) hz (IsNorm.one x) upd_same⟩
  | _ => cases kt
theorem Obj.namedBy {H : Hp} {t : Tr} {v : V} {n r : Nat} (W : ∀ k, MOk P w K mg base r (CK k) "named" (spN CK n k)) (ob : Obj CK H t v) (hv : lv t ≤ 60) (hd : dp t < n) : NamedBy P w K mg base r H v (nmT t) := by
  obtain ⟨p, dx, fs, rfl, hp, _, ls⟩ := ob.at_
  exact ⟨p, _, dx, fs, _, rfl, hp, ls, W _, fun H' Q s k => ⟨.ref p, t, rfl, rfl, ob.same s, hv, hd, k⟩⟩
theorem scTwoN : FnScope ["self"] ["self"] (defScope sTwoN) := ⟨rfl, rfl, rfl, by decide +kernel, rfl, by decide +kernel, by decide +kernel⟩
theorem ok_twoN {f fB : Addr} {fd dB : FuncData} (B : Bl mg) (c : ClsA K CK) (F : Fun K "named" "Twofold.named" sTwoN f fd) (FB : Fun K "names_of_two" "names_of_two" sTwoO fB dB) (bB : Binds K dB ["one", "other"] []) (mB : mg "names_of_two" = some (.ref fB)) (n : Nat) (W : ∀ k, MOk P w K mg base (2 * n + 1) (CK k) "named" (spN CK n k)) (g : Sg) : FnOk P w K mg base CX0 (2 * (n + 1) + 1) f fd ["self"] (spN CK (n + 1) (.op g)) := by
  have GB : FnOk P w K mg base CX0 (2 * n + 2) fB dB ["one", "other"] (spTwo P w K mg base (2 * n + 1)) := ok_twoO B FB
  refine F.ok scTwoN (fun vs H Q E h => ?_) (fun cdv A outer s H vs Q E hr h => ?_)
  · obtain ⟨v, t, rfl, _⟩ := h
    rfl
  obtain ⟨v, t, rfl, kt, ob, l60, hn, q⟩ := h
  have hrB := hr.mono (show 2 * n + 2 ≤ 2 * (n + 1) by omega)
  refine ⟨_, (@pss_one _ _ _ (@ps_ret _ _ _ _ (pe_call GB hrB (by rfl) mB FB.kp bB .nil pass0 (@pa_cons _ _ _ _ _ (@pe_fld _ _ _ _ _ (pv 0) rfl) (@pa_cons _ _ _ _ _ (@pe_fld _ _ _ _ _ (pv 0) rfl) pa_nil (by rfl)) (by rfl))))), ?_⟩
  cases t with
  | op g' a b =>
    cases kt
    obtain ⟨p, dx, va, vb, rfl, hp, oa, ob⟩ := ob
    have hn : max (dp a) (dp b) + 1 < n + 1 := hn
    have l60 : lv a + lv b ≤ 60 := l60
    have m1 := nmT_len a
    have m2 := nmT_len b
    refine ⟨_, rfl, p, _, dx, _, _, rfl, hp, c.cl _, c.one _, two_one _ _, _, rfl, p, _, dx, _, _, rfl, hp, c.cl _, c.oth _, two_oth _ _, ?_⟩
    exact ⟨va, vb, nmT a, nmT b, rfl, oa.namedBy W (by omega) (by omega), ob.namedBy W (by omega) (by omega), by omega, q⟩
  | _ => cases kt
end
end Nw
namespace Nw
open PySem L2
theorem num_w (v : V) : (numF v).lookup ("worth" : Str) = none := by unfold numF; rw [lookup_putF, if_neg (by decide +kernel)]; rfl
theorem nam_w (v : V) : (namF v).lookup ("worth" : Str) = none := by unfold namF; rw [lookup_putF, if_neg (by decide +kernel)]; rfl
theorem two_w (a b : V) : (twoF a b).lookup ("worth" : Str) = none := by unfold twoF; rw [lookup_putF, if_neg (by decide +kernel), lookup_putF, if_neg (by decide +kernel)]; rfl
theorem Obj.atW {CK : Kd → Addr} {H : Hp} : ∀ {t : Tr} {v : V}, Obj CK H t v → ∃ p dx fs, v = .ref p ∧ H p = some (.ins (CK (kd t)) dx fs) ∧ fs.lookup ("worth" : Str) = none
  | .num n, v, h => by
    obtain ⟨p, dx, e, h⟩ := h
    exact ⟨p, dx, _, e, h, num_w _⟩
  | .nam n, v, h => by
    obtain ⟨p, dx, e, h⟩ := h
    exact ⟨p, dx, _, e, h, nam_w _⟩
  | .op g l r, v, h => by
    obtain ⟨p, dx, a, b, e, h, _⟩ := h
    exact ⟨p, dx, _, e, h, two_w _ _⟩
section
variable {P : Program} {w : World} {K : PySem.W.Frag} {mg : Str → Option Value} {base : Heap} {CK : Kd → Addr}
def spW (CK : Kd → Addr) (n : Nat) (k : Kd) : Sp := fun vs H Q _ => ∃ (v : V) (d : Addr) (t : Tr) (kvs : List (Key × V)) (l : List Str) (vf : Str → Int), vs = [v, .ref d] ∧ kd t = k ∧ Obj CK H t v ∧ H d = some (.dK kvs) ∧ ValsOk kvs l vf ∧ Fits l t ∧ lv t ≤ 100 ∧ dp t < n ∧ Q (.int (val vf t)) H
theorem scNumW : FnScope ["self", "values"] ["self", "values"] (defScope sNumW) := ⟨rfl, rfl, rfl, by decide +kernel, rfl, by decide +kernel, by decide +kernel⟩
theorem ok_numW {f : Addr} {fd : FuncData} (c : ClsA K CK) (F : Fun K "worth" "Number.worth" sNumW f fd) (n : Nat) : FnOk P w K mg base CX0 1 f fd ["self", "values"] (spW CK n .num) := by
  refine F.ok scNumW (fun vs H Q E h => ?_) (fun cdv A outer s H vs Q E hr h => ?_)
  · obtain ⟨v, d, t, kvs, l, vf, rfl, _⟩ := h
    rfl
  obtain ⟨v, d, t, kvs, l, vf, rfl, kt, ob, hd, O, ft, l100, hn, q⟩ := h
  refine ⟨_, (@pss_one _ _ _ (@ps_ret _ _ _ _ (@pe_fld _ _ _ _ _ (pv 0) rfl))), ?_⟩
  cases t with
  | num m =>
    obtain ⟨p, dx, rfl, hp⟩ := ob
    exact ⟨_, rfl, p, _, dx, _, _, rfl, hp, c.cl _, c.num, num_at _, q⟩
  | _ => cases kt
theorem scNamW : FnScope ["self", "values"] ["self", "values"] (defScope sNamW) := ⟨rfl, rfl, rfl, by decide +kernel, rfl, by decide +kernel, by decide +kernel⟩
theorem ok_namW {f : Addr} {fd : FuncData} (c : ClsA K CK) (F : Fun K "worth" "Named.worth" sNamW f fd) (n : Nat) : FnOk P w K mg base CX0 1 f fd ["self", "values"] (spW CK n .nam) := by
  refine F.ok scNamW (fun vs H Q E h => ?_) (fun cdv A outer s H vs Q E hr h => ?_)
  · obtain ⟨v, d, t, kvs, l, vf, rfl, _⟩ := h
    rfl
  obtain ⟨v, d, t, kvs, l, vf, rfl, kt, ob, hd, O, ft, l100, hn, q⟩ := h
  have hu1 := hu1_of hr
  refine ⟨_, (@pss_one _ _ _ (@ps_ret _ _ _ _ (@pe_dget _ _ _ _ _ _ hu1 (pv 1) (@pe_fld _ _ _ _ _ (pv 0) rfl) (fun _ _ => rfl)))), ?_⟩
  cases t with
  | nam x =>
    obtain ⟨p, dx, rfl, hp⟩ := ob
    obtain ⟨y, hy, hx⟩ := ft
    obtain ⟨g1, g2⟩ := O.get y hy x hx
    exact ⟨_, rfl, _, rfl, p, _, dx, _, _, rfl, hp, c.cl _, c.nam, nam_at _, d, _, rfl, g1 ▸ DGet.k (k := .inr x) hd, q⟩
  | _ => cases kt
theorem scPluW : FnScope ["self", "values"] ["self", "values"] (defScope sPluW) := ⟨rfl, rfl, rfl, by decide +kernel, rfl, by decide +kernel, by decide +kernel⟩
theorem scMinW : FnScope ["self", "values"] ["self", "values"] (defScope sMinW) := ⟨rfl, rfl, rfl, by decide +kernel, rfl, by decide +kernel, by decide +kernel⟩
theorem scTimW : FnScope ["self", "values"] ["self", "values"] (defScope sTimW) := ⟨rfl, rfl, rfl, by decide +kernel, rfl, by decide +kernel, by decide +kernel⟩
theorem spW_none (k : Kd) : ∀ vs H Q E, ¬ spW CK 0 k vs H Q E := fun vs H Q E h => by
  obtain ⟨v, d, t, kvs, l, vf, _, _, _, _, _, _, _, h1, _⟩ := h
  omega
theorem ok_pluW {f : Addr} {fd : FuncData} (c : ClsA K CK) (F : Fun K "worth" "Plus.worth" sPluW f fd) (n : Nat) (W : ∀ k, MOk P w K mg base (n + 1) (CK k) "worth" (spW CK n k)) : FnOk P w K mg base CX0 (n + 2) f fd ["self", "values"] (spW CK (n + 1) (.op .plus)) := by
  refine F.ok scPluW (fun vs H Q E h => ?_) (fun cdv A outer s H vs Q E hr h => ?_)
  · obtain ⟨v, d, t, kvs, l, vf, rfl, _⟩ := h
    rfl
  obtain ⟨v, d, t, kvs, l, vf, rfl, kt, ob, hd, O, ft, l100, hn, q⟩ := h
  refine ⟨_, (@pss_one _ _ _ (@ps_ret _ _ _ _ (@pe_op _ _ _ _ _ _ _ _ op_add (pe_methP (@pe_fld _ _ _ _ _ (pv 0) rfl) hr (@pa_cons _ _ _ _ _ (pv 1) pa_nil (by rfl))) (pe_methP (@pe_fld _ _ _ _ _ (pv 0) rfl) hr (@pa_cons _ _ _ _ _ (pv 1) pa_nil (by rfl)))))), ?_⟩
  cases t with
  | op g a b =>
    cases kt
    obtain ⟨p, dx, va, vb, rfl, hp, oa, ob⟩ := ob
    obtain ⟨fa, fb⟩ : Fits l a ∧ Fits l b := ft
    have hn : max (dp a) (dp b) + 1 < n + 1 := hn
    have l100 : lv a + lv b ≤ 100 := l100
    obtain ⟨pa, dxa, fsa, rfl, ha, la⟩ := oa.atW
    obtain ⟨pb, dxb, fsb, rfl, hb, lb⟩ := ob.atW
    refine ⟨_, rfl, p, _, dx, _, _, rfl, hp, c.cl _, c.one _, two_one _ _, pa, _, dxa, fsa, _, rfl, ha, la, W _, _, rfl, _, d, a, kvs, l, vf, rfl, rfl, oa, hd, O, fa, by omega, by omega, ?_⟩
    refine ⟨_, rfl, p, _, dx, _, _, rfl, hp, c.cl _, c.oth _, two_oth _ _, pb, _, dxb, fsb, _, rfl, hb, lb, W _, _, rfl, _, d, b, kvs, l, vf, rfl, rfl, ob, hd, O, fb, by omega, by omega, ?_⟩
    exact ⟨_, _, rfl, rfl, q⟩
  | _ => cases kt
theorem ok_minW {f : Addr} {fd : FuncData} (c : ClsA K CK) (F : Fun K "worth" "Minus.worth" sMinW f fd) (n : Nat) (W : ∀ k, MOk P w K mg base (n + 1) (CK k) "worth" (spW CK n k)) : FnOk P w K mg base CX0 (n + 2) f fd ["self", "values"] (spW CK (n + 1) (.op .minus)) := by
  refine F.ok scMinW (fun vs H Q E h => ?_) (fun cdv A outer s H vs Q E hr h => ?_)
  · obtain ⟨v, d, t, kvs, l, vf, rfl, _⟩ := h
    rfl
  obtain ⟨v, d, t, kvs, l, vf, rfl, kt, ob, hd, O, ft, l100, hn, q⟩ := h
  refine ⟨_, (@pss_one _ _ _ (@ps_ret _ _ _ _ (@pe_op _ _ _ _ _ _ _ _ op_sub (pe_methP (@pe_fld _ _ _ _ _ (pv 0) rfl) hr (@pa_cons _ _ _ _ _ (pv 1) pa_nil (by rfl))) (pe_methP (@pe_fld _ _ _ _ _ (pv 0) rfl) hr (@pa_cons _ _ _ _ _ (pv 1) pa_nil (by rfl)))))), ?_⟩
  cases t with
  | op g a b =>
    cases kt
    obtain ⟨p, dx, va, vb, rfl, hp, oa, ob⟩ := ob
    obtain ⟨fa, fb⟩ : Fits l a ∧ Fits l b := ft
    have hn : max (dp a) (dp b) + 1 < n + 1 := hn
    have l100 : lv a + lv b ≤ 100 := l100
    obtain ⟨pa, dxa, fsa, rfl, ha, la⟩ := oa.atW
    obtain ⟨pb, dxb, fsb, rfl, hb, lb⟩ := ob.atW
    refine ⟨_, rfl, p, _, dx, _, _, rfl, hp, c.cl _, c.one _, two_one _ _, pa, _, dxa, fsa, _, rfl, ha, la, W _, _, rfl, _, d, a, kvs, l, vf, rfl, rfl, oa, hd, O, fa, by omega, by omega, ?_⟩
    refine ⟨_, rfl, p, _, dx, _, _, rfl, hp, c.cl _, c.oth _, two_oth _ _, pb, _, dxb, fsb, _, rfl, hb, lb, W _, _, rfl, _, d, b, kvs, l, vf, rfl, rfl, ob, hd, O, fb, by omega, by omega, ?_⟩
    exact ⟨_, _, rfl, rfl, q⟩
  | _ => cases kt
theorem ok_timW {f : Addr} {fd : FuncData} (c : ClsA K CK) (F : Fun K "worth" "Times.worth" sTimW f fd) (n : Nat) (W : ∀ k, MOk P w K mg base (n + 1) (CK k) "worth" (spW CK n k)) : FnOk P w K mg base CX0 (n + 2) f fd ["self", "values"] (spW CK (n + 1) (.op .times)) := by
  refine F.ok scTimW (fun vs H Q E h => ?_) (fun cdv A outer s H vs Q E hr h => ?_)
  · obtain ⟨v, d, t, kvs, l, vf, rfl, _⟩ := h
    rfl
  obtain ⟨v, d, t, kvs, l, vf, rfl, kt, ob, hd, O, ft, l100, hn, q⟩ := h
  refine ⟨_, (@pss_one _ _ _ (@ps_ret _ _ _ _ (@pe_op _ _ _ _ _ _ _ _ op_mulB (pe_methP (@pe_fld _ _ _ _ _ (pv 0) rfl) hr (@pa_cons _ _ _ _ _ (pv 1) pa_nil (by rfl))) (pe_methP (@pe_fld _ _ _ _ _ (pv 0) rfl) hr (@pa_cons _ _ _ _ _ (pv 1) pa_nil (by rfl)))))), ?_⟩
  cases t with
  | op g a b =>
    cases kt
    obtain ⟨p, dx, va, vb, rfl, hp, oa, ob⟩ := ob
    obtain ⟨fa, fb⟩ : Fits l a ∧ Fits l b := ft
    have hn : max (dp a) (dp b) + 1 < n + 1 := hn
    have l100 : lv a + lv b ≤ 100 := l100
    obtain ⟨pa, dxa, fsa, rfl, ha, la⟩ := oa.atW
    obtain ⟨pb, dxb, fsb, rfl, hb, lb⟩ := ob.atW
    refine ⟨_, rfl, p, _, dx, _, _, rfl, hp, c.cl _, c.one _, two_one _ _, pa, _, dxa, fsa, _, rfl, ha, la, W _, _, rfl, _, d, a, kvs, l, vf, rfl, rfl, oa, hd, O, fa, by omega, by omega, ?_⟩
    refine ⟨_, rfl, p, _, dx, _, _, rfl, hp, c.cl _, c.oth _, two_oth _ _, pb, _, dxb, fsb, _, rfl, hb, lb, W _, _, rfl, _, d, b, kvs, l, vf, rfl, rfl, ob, hd, O, fb, by omega, by omega, ?_⟩
    exact ⟨_, _, rfl, rfl, ⟨110 * lv a, 110 * lv b, by omega, by omega, val_lt O fa, val_lt O fb⟩, q⟩
  | _ => cases kt
end
end Nw
namespace Nw
open PySem L2
section
variable {P : Program} {w : World} {K : PySem.W.Frag} {mg : Str → Option Value} {base : Heap} {CK : Kd → Addr}
def spNumI (C : Addr) : Sp := fun vs H Q _ => ∃ (x dx : Addr) (v : V), vs = [.ref x, v] ∧ H x = some (.ins C dx []) ∧ Q .non (upd H x (.ins C dx (numF v)))
theorem scNumI : FnScope ["self", "number"] ["self", "number"] (defScope sNumI) := ⟨rfl, rfl, rfl, by decide +kernel, rfl, by decide +kernel, by decide +kernel⟩
theorem ok_numI {f : Addr} {fd : FuncData} (c : ClsA K CK) (F : Fun K "__init__" "Number.__init__" sNumI f fd) : FnOk P w K mg base CX0 1 f fd ["self", "number"] (spNumI (CK .num)) := by
  refine F.ok scNumI (fun vs H Q E h => ?_) (fun cdv A outer s H vs Q E hr h => ?_)
  · obtain ⟨x, dx, v, rfl, _⟩ := h
    rfl
  obtain ⟨x, dx, v, rfl, hx, k⟩ := h
  refine ⟨_, (@pss_one _ _ _ (@ps_fld _ _ _ _ _ _ _ _ (pv 0) (pv 1) rfl)), ?_⟩
  exact ⟨_, rfl, _, rfl, x, _, dx, _, rfl, hx, c.cl _, c.num, (by show 0 < 1000; decide), k⟩
def spNamI (C : Addr) : Sp := fun vs H Q _ => ∃ (x dx : Addr) (v : V), vs = [.ref x, v] ∧ H x = some (.ins C dx []) ∧ Q .non (upd H x (.ins C dx (namF v)))
theorem scNamI : FnScope ["self", "name"] ["self", "name"] (defScope sNamI) := ⟨rfl, rfl, rfl, by decide +kernel, rfl, by decide +kernel, by decide +kernel⟩
theorem ok_namI {f : Addr} {fd : FuncData} (c : ClsA K CK) (F : Fun K "__init__" "Named.__init__" sNamI f fd) : FnOk P w K mg base CX0 1 f fd ["self", "name"] (spNamI (CK .nam)) := by
  refine F.ok scNamI (fun vs H Q E h => ?_) (fun cdv A outer s H vs Q E hr h => ?_)
  · obtain ⟨x, dx, v, rfl, _⟩ := h
    rfl
  obtain ⟨x, dx, v, rfl, hx, k⟩ := h
  refine ⟨_, (@pss_one _ _ _ (@ps_fld _ _ _ _ _ _ _ _ (pv 0) (pv 1) rfl)), ?_⟩
  exact ⟨_, rfl, _, rfl, x, _, dx, _, rfl, hx, c.cl _, c.nam, (by show 0 < 1000; decide), k⟩
def spTwoI (C : Addr) : Sp := fun vs H Q _ => ∃ (x dx : Addr) (a b : V), vs = [.ref x, a, b] ∧ H x = some (.ins C dx []) ∧ ∀ H', H' x = some (.ins C dx (twoF a b)) → (∀ b, b ≠ x → H' b = H b) → Q .non H'
theorem scTwoI : FnScope ["self", "one", "other"] ["self", "one", "other"] (defScope sTwoI) := ⟨rfl, rfl, rfl, by decide +kernel, rfl, by decide +kernel, by decide +kernel⟩
theorem ok_twoI {f : Addr} {fd : FuncData} (c : ClsA K CK) (F : Fun K "__init__" "Twofold.__init__" sTwoI f fd) (g : Sg) : FnOk P w K mg base CX0 1 f fd ["self", "one", "other"] (spTwoI (CK (.op g))) := by
  refine F.ok scTwoI (fun vs H Q E h => ?_) (fun cdv A outer s H vs Q E hr h => ?_)
  · obtain ⟨x, dx, a, b, rfl, _⟩ := h
    rfl
  obtain ⟨x, dx, a, b, rfl, hx, k⟩ := h
  refine ⟨_, (@pss_cons _ _ _ _ _ (@ps_fld _ _ _ _ _ _ _ _ (pv 0) (pv 1) rfl) (@pss_one _ _ _ (@ps_fld _ _ _ _ _ _ _ _ (pv 0) (pv 2) rfl))), ?_⟩
  refine ⟨_, rfl, _, rfl, x, _, dx, _, rfl, hx, c.cl _, c.one g, (by show 0 < 1000; decide), ?_⟩
  refine ⟨_, rfl, _, rfl, x, _, dx, _, rfl, upd_same, c.cl _, c.oth g, Nat.lt_of_le_of_lt (length_putF _ _ _) (by show 1 < 1000; decide), ?_⟩
  exact k _ upd_same fun b hb => by rw [upd_ne hb, upd_ne hb]
structure Maker (K : PySem.W.Frag) (mg : Str → Option Value) (CK : Kd → Addr) (fN fM fT : Addr) (dN dM dT : FuncData) : Prop where
  cls : ClsA K CK
  mkN : Mk K (CK .num) fN
  mkM : Mk K (CK .nam) fM
  mkT : ∀ g, Mk K (CK (.op g)) fT
  gN : mg "Number" = some (.ref (CK .num))
  gM : mg "Named" = some (.ref (CK .nam))
  gP : mg "Plus" = some (.ref (CK (.op .plus)))
  gI : mg "Minus" = some (.ref (CK (.op .minus)))
  gX : mg "Times" = some (.ref (CK (.op .times)))
  FN : Fun K "__init__" "Number.__init__" sNumI fN dN
  FM : Fun K "__init__" "Named.__init__" sNamI fM dM
  FT : Fun K "__init__" "Twofold.__init__" sTwoI fT dT
  bN : Binds K dN ["self", "number"] []
  bM : Binds K dM ["self", "name"] []
  bT : Binds K dT ["self", "one", "other"] []
theorem same_made {H : Hp} {x dx : Addr} (hx : H x = none) (hd : H dx = none) (n : dx ≠ x) (o o' : HO) : Same H (upd (upd H dx o) x o') := by
  intro b u e
  rw [upd_ne (ne_of_none e hx), upd_ne (ne_of_none e hd)]
  exact e
end
end Nw
namespace Nw
open PySem L2
inductive Cm where
  | lt | le | eq | ne
inductive Bn where
  | and | or
inductive Sy where
  | yes | cmp (c : Cm) (l r : Tr) | neg (s : Sy) | bin (b : Bn) (l r : Sy)
def cmS : Cm → Str
  | .lt => "<"
  | .le => "<="
  | .eq => "="
  | .ne => "!="
def bnS : Bn → Str
  | .and => "and"
  | .or => "or"
def syD : Sy → Dt
  | .yes => .tup [.str "yes"]
  | .cmp c l r => .tup [.str (cmS c), trD l, trD r]
  | .neg s => .tup [.str "not", syD s]
  | .bin b l r => .tup [.str (bnS b), syD l, syD r]
def dps : Sy → Nat
  | .yes => 0
  | .cmp _ _ _ => 0
  | .neg s => dps s + 1
  | .bin _ l r => max (dps l) (dps r) + 1
def bd : Sy → Nat
  | .yes => 0
  | .cmp _ a b => max (dp a) (dp b)
  | .neg s => bd s + 1
  | .bin _ a b => max (bd a) (bd b) + 1
def tkn : Sy → Nat
  | .yes => 1
  | .cmp _ a b => 4 * lv a + 4 * lv b - 5
  | .neg s => tkn s + 3
  | .bin _ a b => tkn a + tkn b + 3
theorem dps_bd : ∀ t : Sy, dps t ≤ bd t
  | .yes => Nat.le_refl _
  | .cmp _ _ _ => Nat.zero_le _
  | .neg s => Nat.succ_le_succ (dps_bd s)
  | .bin _ a b => by
    have h1 := dps_bd a
    have h2 := dps_bd b
    show max (dps a) (dps b) + 1 ≤ max (bd a) (bd b) + 1
    omega
def lvs : Sy → Nat
  | .yes => 0
  | .cmp _ a b => lv a + lv b
  | .neg s => lvs s
  | .bin _ a b => lvs a + lvs b
def FitsS (l : List Str) : Sy → Prop
  | .yes => True
  | .cmp _ a b => Fits l a ∧ Fits l b ∧ lv a ≤ 9 ∧ lv b ≤ 9
  | .neg s => FitsS l s
  | .bin _ a b => FitsS l a ∧ FitsS l b
theorem is_yes {K : PySem.W.Frag} {H : Hp} {v : V} (h : Is K H (syD .yes) v) : ∃ p, v = .ref p ∧ SqT K H p [.str "yes"] := by
  rw [syD, Is] at h
  obtain ⟨p, xs, e, h1, h2⟩ := h
  simp only [Iss, Is] at h2
  obtain ⟨v1, r1, rfl, rfl, rfl⟩ := h2
  exact ⟨p, e, h1⟩
theorem is_cmp {K : PySem.W.Frag} {H : Hp} {g : Cm} {l r : Tr} {v : V} (h : Is K H (syD (.cmp g l r)) v) : ∃ p a b, v = .ref p ∧ SqT K H p [.str (cmS g), a, b] ∧ Is K H (trD l) a ∧ Is K H (trD r) b := by
  rw [syD, Is] at h
  obtain ⟨p, xs, e, h1, h2⟩ := h
  simp only [Iss] at h2
  obtain ⟨v1, r1, rfl, i1, v2, r2, rfl, i2, v3, r3, rfl, i3, rfl⟩ := h2
  rw [Is] at i1
  subst i1
  exact ⟨p, v2, v3, e, h1, i2, i3⟩
theorem is_neg {K : PySem.W.Frag} {H : Hp} {s : Sy} {v : V} (h : Is K H (syD (.neg s)) v) : ∃ p a, v = .ref p ∧ SqT K H p [.str "not", a] ∧ Is K H (syD s) a := by
  rw [syD, Is] at h
  obtain ⟨p, xs, e, h1, h2⟩ := h
  simp only [Iss] at h2
  obtain ⟨v1, r1, rfl, i1, v2, r2, rfl, i2, rfl⟩ := h2
  rw [Is] at i1
  subst i1
  exact ⟨p, v2, e, h1, i2⟩
theorem is_bin {K : PySem.W.Frag} {H : Hp} {g : Bn} {l r : Sy} {v : V} (h : Is K H (syD (.bin g l r)) v) : ∃ p a b, v = .ref p ∧ SqT K H p [.str (bnS g), a, b] ∧ Is K H (syD l) a ∧ Is K H (syD r) b := by
  rw [syD, Is] at h
  obtain ⟨p, xs, e, h1, h2⟩ := h
  simp only [Iss] at h2
  obtain ⟨v1, r1, rfl, i1, v2, r2, rfl, i2, v3, r3, rfl, i3, rfl⟩ := h2
  rw [Is] at i1
  subst i1
  exact ⟨p, v2, v3, e, h1, i2, i3⟩
theorem sy_yes {K : PySem.W.Frag} {H : Hp} {p : Addr} (h : SqT K H p [.str "yes"]) : Is K H (syD .yes) (.ref p) := by
  rw [syD, Is]
  exact ⟨p, _, rfl, h, .cons (by rw [Is]) .nil⟩
theorem sy_cmp {K : PySem.W.Frag} {H : Hp} {p : Addr} {g : Cm} {l r : Tr} {a b : V} (h : SqT K H p [.str (cmS g), a, b]) (h1 : Is K H (trD l) a) (h2 : Is K H (trD r) b) : Is K H (syD (.cmp g l r)) (.ref p) := by
  rw [syD, Is]
  exact ⟨p, _, rfl, h, .cons (by rw [Is]) (.cons h1 (.cons h2 .nil))⟩
theorem sy_neg {K : PySem.W.Frag} {H : Hp} {p : Addr} {s : Sy} {a : V} (h : SqT K H p [.str "not", a]) (h1 : Is K H (syD s) a) : Is K H (syD (.neg s)) (.ref p) := by
  rw [syD, Is]
  exact ⟨p, _, rfl, h, .cons (by rw [Is]) (.cons h1 .nil)⟩
theorem sy_bin {K : PySem.W.Frag} {H : Hp} {p : Addr} {g : Bn} {l r : Sy} {a b : V} (h : SqT K H p [.str (bnS g), a, b]) (h1 : Is K H (syD l) a) (h2 : Is K H (syD r) b) : Is K H (syD (.bin g l r)) (.ref p) := by
  rw [syD, Is]
  exact ⟨p, _, rfl, h, .cons (by rw [Is]) (.cons h1 (.cons h2 .nil))⟩
theorem sy_sb {K : PySem.W.Frag} {a : Addr} {H H' : Hp} {ys : List V} (ha : H a = some (.lst ys)) (s : Sb a H H') : ∀ {t : Sy} {v : V}, Is K H (syD t) v → Is K H' (syD t) v
  | .yes, v, h => by
    obtain ⟨p, rfl, h1⟩ := is_yes h
    exact sy_yes (SqT.sb h1 ha s)
  | .cmp g l r, v, h => by
    obtain ⟨p, x, y, rfl, h1, h2, h3⟩ := is_cmp h
    exact sy_cmp (SqT.sb h1 ha s) (tr_sb ha s h2) (tr_sb ha s h3)
  | .neg t, v, h => by
    obtain ⟨p, x, rfl, h1, h2⟩ := is_neg h
    exact sy_neg (SqT.sb h1 ha s) (sy_sb ha s h2)
  | .bin g l r, v, h => by
    obtain ⟨p, x, y, rfl, h1, h2, h3⟩ := is_bin h
    exact sy_bin (SqT.sb h1 ha s) (sy_sb ha s h2) (sy_sb ha s h3)
theorem cm_at {k : Int} (k0 : 0 ≤ k) (k1 : k < 4) : ∃ g : Cm, atI [V.str "<", V.str "<=", V.str "=", V.str "!="] k = some (.str (cmS g)) := by
  have : k = 0 ∨ k = 1 ∨ k = 2 ∨ k = 3 := by omega
  rcases this with rfl | rfl | rfl | rfl
  · exact ⟨.lt, atI_nat (j := 0) rfl⟩
  · exact ⟨.le, atI_nat (j := 1) rfl⟩
  · exact ⟨.eq, atI_nat (j := 2) rfl⟩
  · exact ⟨.ne, atI_nat (j := 3) rfl⟩
theorem bn_at {k : Int} (k0 : 0 ≤ k) (k1 : k < 2) : ∃ g : Bn, atI [V.str "and", V.str "or"] k = some (.str (bnS g)) := by
  have : k = 0 ∨ k = 1 := by omega
  rcases this with rfl | rfl
  · exact ⟨.and, atI_nat (j := 0) rfl⟩
  · exact ⟨.or, atI_nat (j := 1) rfl⟩
section
variable {P : Program} {w : World} {K : PySem.W.Frag} {mg : Str → Option Value} {base : Heap}
def spSay (K : PySem.W.Frag) (n : Nat) : Sp := fun vs H Q _ => ∃ (a b : Addr) (cs : List Int) (l : List Str), vs = [.ref a, .ref b] ∧ H a = some (.lst (cs.map V.int)) ∧ b ≠ a ∧ PoolAt H b l ∧ 0 < cs.length ∧ cs.length ≤ n ∧ cs.length ≤ 9 ∧
  ∀ (p : Addr) (H' : Hp) (t : Sy) (cs' : List Int), Sb a H H' → H' a = some (.lst (cs'.map V.int)) → Is K H' (syD t) (.ref p) → FitsS l t → cs'.length + bd t < cs.length → (2 * cs'.length + lvs t ≤ 2 * cs.length ∧ 4 * cs'.length + tkn t ≤ 4 * cs.length) → Q (.ref p) H'
theorem scSay : FnScope ["_law_cells", "_law_pool_here", "_law_cell", "_law_one", "_law_other"] ["_law_cells", "_law_pool_here"] (defScope sSaying) := ⟨rfl, rfl, rfl, by decide +kernel, rfl, by decide +kernel, by decide +kernel⟩
theorem ok_say {f fS fL : Addr} {fd fdS fdL : FuncData} (B : Bl mg) (F : Fun K "_law_saying" "_law_saying" sSaying f fd) (bY : Binds K fd ["_law_cells", "_law_pool_here"] []) (mY : mg "_law_saying" = some (.ref f))
    (FS : Fun K "_law_sum" "_law_sum" sSum fS fdS) (bS : Binds K fdS ["_law_cells", "_law_pool_here"] []) (mS : mg "_law_sum" = some (.ref fS))
    (FL : Fun K "_law_leaf" "_law_leaf" sLeaf fL fdL) (bL : Binds K fdL ["_law_cell", "_law_pool_here"] []) (mL : mg "_law_leaf" = some (.ref fL)) : ∀ n : Nat, FnOk P w K mg base CX0 (n + 11) f fd ["_law_cells", "_law_pool_here"] (spSay K n)
  | 0 => fn_none fun vs H Q E h => by obtain ⟨a, b, cs, l, _, _, _, _, h1, h2, _⟩ := h; omega
  | n + 1 => by
    have GL : FnOk P w K mg base CX0 1 fL fdL ["_law_cell", "_law_pool_here"] (spLeaf K) := ok_leaf B FL
    have GS : FnOk P w K mg base CX0 10 fS fdS ["_law_cells", "_law_pool_here"] (spSum K 9) := ok_sum B FS bS mS FL bL mL 9
    have GY := ok_say B F bY mY FS bS mS FL bL mL n
    refine F.ok scSay (fun vs H Q E h => ?_) (fun cdv A outer s H vs Q E hr h => ?_)
    · obtain ⟨a, b, cs, l, rfl, _⟩ := h
      rfl
    obtain ⟨a, b, cs, l, rfl, ha, hab, T, h1, h2, h9, q⟩ := h
    have hrL := hr.mono (show 1 ≤ n + 11 by omega)
    have hrS := hr.mono (show 10 ≤ n + 11 by omega)
    have hu := hu60 hr
    refine ⟨_, (@pss_cons _ _ _ _ _ (@ps_set _ _ 2 _ _ _ _ scSay.nd rfl (Or.inl rfl) (pe_bm PySem.F.plainAttrs_list PySem.F.slot_list_pop PySem.F.type_list_pop mt_popAt (pv 0) (@pa_cons _ _ _ _ _ pe_int pa_nil (by rfl))) rfl (Or.inl rfl)) (@pss_cons _ _ _ _ _ (@ps_if _ _ _ _ _ _ _ _ (@pt_cmpR _ _ _ _ _ _ _ _ op_eq (@pe_op _ _ _ _ _ _ _ _ op_mod (pv 2) pe_int) pe_int (nomark _)) (@pss_one _ _ _ (@ps_ret _ _ _ _ (@pe_tup _ _ _ _ _ (@pa_cons _ _ _ _ _ pe_str pa_nil (by rfl))))) pss_nil) (@pss_cons _ _ _ _ _ (@ps_if _ _ _ _ _ _ _ _ (@pt_cut _ _ _ ((@pw_or _ _ _ _ _ _ _ (@pt_cmpR _ _ _ _ _ _ _ _ op_lt (@pe_op _ _ _ _ _ _ _ _ op_mod (pv 2) pe_int) pe_int (nomark _)) (pw_or1 (@pt_cmpR _ _ _ _ _ _ _ _ op_lt (pe_callB call_len_seq (by rfl) B.len PySem.boot_len (@pa_cons _ _ _ _ _ (pv 0) pa_nil (by rfl))) pe_int (nomark _))))).pt) (@pss_cons _ _ _ _ _ (@ps_set _ _ 3 _ _ _ _ scSay.nd rfl (Or.inl rfl) (pe_call GL hrL (by rfl) mL FL.kp bL .nil pass0 (@pa_cons _ _ _ _ _ (@pe_op _ _ _ _ _ _ _ _ op_fdiv (pv 2) pe_int) (@pa_cons _ _ _ _ _ (pv 1) pa_nil (by rfl)) (by rfl))) rfl (Or.inl rfl)) (@pss_cons _ _ _ _ _ (@ps_set _ _ 4 _ _ _ _ scSay.nd rfl (Or.inl rfl) (pe_call GL hrL (by rfl) mL FL.kp bL .nil pass0 (@pa_cons _ _ _ _ _ (@pe_op _ _ _ _ _ _ _ _ op_fdiv (pv 2) pe_int) (@pa_cons _ _ _ _ _ (pv 1) pa_nil (by rfl)) (by rfl))) rfl (Or.inl rfl)) (@pss_cons _ _ _ _ _ (@ps_cut _ _ _ (@ps_if _ _ _ _ _ _ _ _ (@pt_cut _ _ _ ((@pw_and _ _ _ _ _ _ _ (@pt_cmpR _ _ _ _ _ _ _ _ (@op_neD _ hu) (pv 0) (@pe_lst _ _ _ _ pa_nil) (nomark _)) (pw_and1 (@pt_cmpR _ _ _ _ _ _ _ _ op_eq (@pe_op _ _ _ _ _ _ _ _ op_mod (pv 2) pe_int) pe_int (nomark _))))).pt) (@pss_one _ _ _ (@ps_set _ _ 3 _ _ _ _ scSay.nd rfl (Or.inl rfl) (pe_call GS hrS (by rfl) mS FS.kp bS .nil pass0 (@pa_cons _ _ _ _ _ (pv 0) (@pa_cons _ _ _ _ _ (pv 1) pa_nil (by rfl)) (by rfl))) rfl (Or.inl rfl))) pss_nil)) (@pss_cons _ _ _ _ _ (@ps_cut _ _ _ (@ps_if _ _ _ _ _ _ _ _ (@pt_cut _ _ _ ((@pw_and _ _ _ _ _ _ _ (@pt_cmpR _ _ _ _ _ _ _ _ (@op_neD _ hu) (pv 0) (@pe_lst _ _ _ _ pa_nil) (nomark _)) (pw_and1 (@pt_cmpR _ _ _ _ _ _ _ _ op_eq (@pe_op _ _ _ _ _ _ _ _ op_mod (pv 2) pe_int) pe_int (nomark _))))).pt) (@pss_one _ _ _ (@ps_set _ _ 4 _ _ _ _ scSay.nd rfl (Or.inl rfl) (pe_call GS hrS (by rfl) mS FS.kp bS .nil pass0 (@pa_cons _ _ _ _ _ (pv 0) (@pa_cons _ _ _ _ _ (pv 1) pa_nil (by rfl)) (by rfl))) rfl (Or.inl rfl))) pss_nil)) (@pss_one _ _ _ (@ps_ret _ _ _ _ (@pe_tup _ _ _ _ _ (@pa_cons _ _ _ _ _ (@pe_ix _ _ _ _ _ _ (rIxL K) ix_list (@pe_lst _ _ _ _ (@pa_strs _ _ ["<", "<=", "=", "!="] rfl)) (@pe_op _ _ _ _ _ _ _ _ op_mod (@pe_op _ _ _ _ _ _ _ _ op_fdiv (pv 2) pe_int) pe_int) (fun _ _ => rfl)) (@pa_cons _ _ _ _ _ (pv 3) (@pa_cons _ _ _ _ _ (pv 4) pa_nil (by rfl)) (by rfl)) (by rfl))))))))) pss_nil) (@pss_cons _ _ _ _ _ (@ps_if _ _ _ _ _ _ _ _ (@pt_cmpR _ _ _ _ _ _ _ _ op_eq (@pe_op _ _ _ _ _ _ _ _ op_mod (pv 2) pe_int) pe_int (nomark _)) (@pss_one _ _ _ (@ps_ret _ _ _ _ (@pe_tup _ _ _ _ _ (@pa_cons _ _ _ _ _ pe_str (@pa_cons _ _ _ _ _ (pe_call GY hr (by rfl) mY F.kp bY .nil pass0 (@pa_cons _ _ _ _ _ (pv 0) (@pa_cons _ _ _ _ _ (pv 1) pa_nil (by rfl)) (by rfl))) pa_nil (by rfl)) (by rfl))))) pss_nil) (@pss_cons _ _ _ _ _ (@ps_set _ _ 3 _ _ _ _ scSay.nd rfl (Or.inl rfl) (pe_call GY hr (by rfl) mY F.kp bY .nil pass0 (@pa_cons _ _ _ _ _ (pv 0) (@pa_cons _ _ _ _ _ (pv 1) pa_nil (by rfl)) (by rfl))) rfl (Or.inl rfl)) (@pss_cons _ _ _ _ _ (@ps_set _ _ 4 _ _ _ _ scSay.nd rfl (Or.inl rfl) (@pe_tup _ _ _ _ _ (@pa_cons _ _ _ _ _ pe_str pa_nil (by rfl))) rfl (Or.inl rfl)) (@pss_cons _ _ _ _ _ (@ps_cut _ _ _ (@ps_if _ _ _ _ _ _ _ _ (@pt_cmpR _ _ _ _ _ _ _ _ (@op_neD _ hu) (pv 0) (@pe_lst _ _ _ _ pa_nil) (nomark _)) (@pss_one _ _ _ (@ps_set _ _ 4 _ _ _ _ scSay.nd rfl (Or.inl rfl) (pe_call GY hr (by rfl) mY F.kp bY .nil pass0 (@pa_cons _ _ _ _ _ (pv 0) (@pa_cons _ _ _ _ _ (pv 1) pa_nil (by rfl)) (by rfl))) rfl (Or.inl rfl))) pss_nil)) (@pss_one _ _ _ (@ps_ret _ _ _ _ (@pe_tup _ _ _ _ _ (@pa_cons _ _ _ _ _ (@pe_ix _ _ _ _ _ _ (rIxL K) ix_list (@pe_lst _ _ _ _ (@pa_cons _ _ _ _ _ pe_str (@pa_cons _ _ _ _ _ pe_str pa_nil (by rfl)) (by rfl))) (@pe_op _ _ _ _ _ _ _ _ op_sub (@pe_op _ _ _ _ _ _ _ _ op_mod (pv 2) pe_int) pe_int) (fun _ _ => rfl)) (@pa_cons _ _ _ _ _ (pv 3) (@pa_cons _ _ _ _ _ (pv 4) pa_nil (by rfl)) (by rfl)) (by rfl)))))))))))), ?_⟩
    obtain ⟨c, cs, rfl⟩ : ∃ c cs', cs = c :: cs' := by
      cases cs with
      | nil => cases h1
      | cons c cs => exact ⟨c, cs, rfl⟩
    have h2 : cs.length + 1 ≤ n + 1 := h2
    have h9 : cs.length + 1 ≤ 9 := h9
    have ix0 : seqIndex? 0 ((c :: cs).map V.int).length = some 0 := by
      rw [List.length_map, List.length_cons]
      unfold seqIndex?
      have e1 : ((0 : Int) < 0) = False := by simp
      simp only [e1, if_false]
      rw [if_pos]
      · rfl
      · rw [Bool.and_eq_true]
        exact ⟨rfl, decide_eq_true (by omega)⟩
    refine ⟨_, rfl, .inl ⟨rfl, _, SqL.of ha⟩, a, _, (0 : Int), 0, _, rfl, rfl, ha, by decide, by decide, ix0, rfl, ?_⟩
    have s1 : Sb a H (upd H a (.lst (cs.map V.int))) := Sb.upd a H _
    have a1 : upd H a (.lst (cs.map V.int)) a = some (.lst (cs.map V.int)) := upd_same
    have T1 := T.sb hab s1
    have m9 : 0 ≤ c % 9 ∧ c % 9 < 9 := ⟨Int.emod_nonneg _ (by decide), Int.emod_lt_of_pos _ (by decide)⟩
    refine ⟨_, rfl, _, _, rfl, rfl, (by show (0 : Int) < 9; decide), rfl, _, rfl, ite2 (fun g => ?_) (fun g0 => ?_)⟩
    · refine ⟨by show 1 ≤ sizeLine; decide, fun p hp => ?_⟩
      have sp := same_new hp (.tup [V.str "yes"])
      exact q p _ .yes cs (s1.trans (.of sp)) (sp _ _ a1) (sy_yes (SqT.of upd_same)) trivial (Nat.lt_succ_self _) (by show 2 * cs.length + 0 ≤ 2 * (cs.length + 1) ∧ 4 * cs.length + 1 ≤ 4 * (cs.length + 1); omega)
    have ec : (((cs.map V.int).length : Nat) : Int) = (cs.length : Int) := by rw [List.length_map]
    refine ⟨fun b' H' => (b' = true ∨ (b' = false ∧ 6 ≤ c % 9 ∧ 2 ≤ cs.length)) ∧ H' = upd H a (.lst (cs.map V.int)), ?_, ?_⟩
    · refine ⟨_, rfl, _, _, rfl, rfl, (by show (0 : Int) < 9; decide), _, _, rfl, rfl, _, rfl, ite2 (fun _ => ⟨.inl rfl, rfl⟩) (fun g1 => ?_)⟩
      refine ⟨_, rfl, a, _, rfl, .inl (SqL.of a1), _, _, rfl, rfl, _, rfl, ?_, rfl⟩
      have g1' : 6 ≤ c % 9 := by
        have := of_decide_eq_false (Bool.eq_false_iff.mpr g1)
        omega
      rw [ec]
      by_cases g2 : (cs.length : Int) < 2
      · exact .inl (decide_eq_true g2)
      · exact .inr ⟨decide_eq_false g2, g1', by omega⟩
    rintro b' H' ⟨hb, rfl⟩
    refine ite2 (fun g1 => ?_) (fun g1 => ?_)
    · refine ⟨_, rfl, _, _, rfl, rfl, ⟨by decide, by decide⟩, _, rfl, c / 9, b, l, rfl, T1, fun p1 H1 t1 b1 i1 f1 l1 => ?_⟩
      refine ⟨_, rfl, _, _, rfl, rfl, ⟨by decide, by decide⟩, _, rfl, c / 45, b, l, rfl, T1.same b1, fun p2 H2 t2 b2 i2 f2 l2 => ?_⟩
      have b12 := b1.trans b2
      refine ⟨fun σ H' => ∃ (p3 : Addr) (t3 : Tr) (cs3 : List Int), σ = [some (.ref a), some (.ref b), some (.int c), some (.ref p3), some (.ref p2)] ∧ Sb a H H' ∧ H' a = some (.lst (cs3.map V.int)) ∧ Is K H' (trD t3) (.ref p3) ∧ Is K H' (trD t2) (.ref p2) ∧ Fits l t3 ∧ lv t3 ≤ 9 ∧ cs3.length ≤ cs.length ∧ (2 * cs3.length + lv t3 ≤ 2 * cs.length + 1 ∧ cs3.length + lv t3 ≤ cs.length + 1), ?_, ?_⟩
      · refine ⟨fun b' H' => Same H2 H' ∧ (b' = true → 0 < cs.length), ?_, ?_⟩
        · refine ⟨_, rfl, Nat.zero_le _, fun y hy => ⟨_, _, is_ints ((same_new hy _) _ _ (b12 _ _ a1)), is_nil upd_same, rfl, rfl, dep_ints cs, _, rfl, ?_⟩⟩
          rw [dEq_nil]
          refine ite2 (fun g4 => ?_) (fun g4 => ⟨same_new hy _, fun z => nomatch z⟩)
          refine ⟨_, rfl, _, _, rfl, rfl, (by show (0 : Int) < 9; decide), rfl, _, rfl, same_new hy _, fun _ => ?_⟩
          cases cs with
          | nil => cases g4
          | cons _ _ => exact Nat.succ_pos _
        · rintro b' H' ⟨sm, hp⟩
          have bm := b12.trans sm
          refine ite2 (fun g4 => ?_) (fun g4 => ?_)
          · refine ⟨_, rfl, _, rfl, a, b, cs, l, rfl, bm _ _ a1, hab, T1.same bm, hp g4, by omega, fun p3 H3 t3 cs3 b3 c3 i3 f3 l3 => ?_⟩
            exact ⟨p3, t3, cs3, rfl, (s1.trans (.of bm)).trans b3, c3, i3, tr_sb (bm _ _ a1) b3 (i2.same sm), f3, by omega, by omega, by omega⟩
          · exact ⟨p1, t1, cs, rfl, s1.trans (.of bm), bm _ _ a1, i1.same (b2.trans sm), i2.same sm, f1, by omega, Nat.le_refl _, by omega⟩
      rintro σ H3 ⟨p3, t3, cs3, rfl, e1, e2, e3, e4, e5, e6, e7, e8⟩
      have T3 := T.sb hab e1
      refine ⟨fun σ H' => ∃ (p4 : Addr) (t4 : Tr) (cs4 : List Int), σ = [some (.ref a), some (.ref b), some (.int c), some (.ref p3), some (.ref p4)] ∧ Sb a H H' ∧ H' a = some (.lst (cs4.map V.int)) ∧ Is K H' (trD t3) (.ref p3) ∧ Is K H' (trD t4) (.ref p4) ∧ Fits l t4 ∧ lv t4 ≤ 9 ∧ cs4.length ≤ cs.length ∧ (2 * cs4.length + lv t4 ≤ 2 * cs3.length + 1 ∧ cs4.length + lv t4 ≤ cs3.length + 1 ∧ cs4.length ≤ cs3.length), ?_, ?_⟩
      · refine ⟨fun b' H' => Same H3 H' ∧ (b' = true → 0 < cs3.length), ?_, ?_⟩
        · refine ⟨_, rfl, Nat.zero_le _, fun y hy => ⟨_, _, is_ints ((same_new hy _) _ _ e2), is_nil upd_same, rfl, rfl, dep_ints cs3, _, rfl, ?_⟩⟩
          rw [dEq_nil]
          refine ite2 (fun g4 => ?_) (fun g4 => ⟨same_new hy _, fun z => nomatch z⟩)
          refine ⟨_, rfl, _, _, rfl, rfl, (by show (0 : Int) < 9; decide), rfl, _, rfl, same_new hy _, fun _ => ?_⟩
          cases cs3 with
          | nil => cases g4
          | cons _ _ => exact Nat.succ_pos _
        · rintro b' H' ⟨sm, hp⟩
          refine ite2 (fun g4 => ?_) (fun g4 => ?_)
          · refine ⟨_, rfl, _, rfl, a, b, cs3, l, rfl, sm _ _ e2, hab, T3.same sm, hp g4, by omega, fun p4 H4 t4 cs4 b4 c4 i4 f4 l4 => ?_⟩
            exact ⟨p4, t4, cs4, rfl, (e1.trans (.of sm)).trans b4, c4, tr_sb (sm _ _ e2) b4 (e3.same sm), i4, f4, by omega, by omega, by omega⟩
          · exact ⟨p2, t2, cs3, rfl, e1.trans (.of sm), sm _ _ e2, e3.same sm, e4.same sm, f2, by omega, e7, by omega⟩
      rintro σ H4 ⟨p4, t4, cs4, rfl, g1, g2, g3, g4, g5, g6, g7, g8⟩
      obtain ⟨g, hg⟩ := cm_at (k := c / 9 % 4) (Int.emod_nonneg _ (by decide)) (Int.emod_lt_of_pos _ (by decide))
      refine ⟨by show 4 ≤ sizeLine; decide, fun y hy => ?_⟩
      refine ⟨_, rfl, _, _, rfl, rfl, ⟨by decide, by decide⟩, _, _, rfl, rfl, (by show (0 : Int) < 4; decide), y, _, _, _, rfl, rfl, SqL.of upd_same, hg, _, rfl, _, rfl, by show 3 ≤ sizeLine; decide, fun p hp => ?_⟩
      have sm := (same_new hy (.lst ([("<" : Str), "<=", "=", "!="].map V.str))).trans (same_new hp (.tup [V.str (cmS g), .ref p3, .ref p4]))
      exact q p _ (.cmp g t3 t4) cs4 (g1.trans (.of sm)) (sm _ _ g2) (sy_cmp (SqT.of upd_same) (g3.same sm) (g4.same sm)) ⟨e5, g5, e6, g6⟩ (by have := dp_lt t3; have := dp_lt t4; show cs4.length + max (dp t3) (dp t4) < cs.length + 1; omega) (by show 2 * cs4.length + (lv t3 + lv t4) ≤ 2 * (cs.length + 1) ∧ 4 * cs4.length + (4 * lv t3 + 4 * lv t4 - 5) ≤ 4 * (cs.length + 1); omega)
    have hb : 6 ≤ c % 9 ∧ 2 ≤ cs.length := by
      rcases hb with z | z
      · exact absurd z g1
      · exact z.2
    refine ⟨_, rfl, _, _, rfl, rfl, (by show (0 : Int) < 9; decide), rfl, _, rfl, ite2 (fun g => ?_) (fun g8 => ?_)⟩
    · refine ⟨_, rfl, _, rfl, a, b, cs, l, rfl, a1, hab, T1, by omega, by omega, by omega, fun p1 H1 t1 cs1 b1 c1 i1 f1 l1 k1 => ?_⟩
      refine ⟨by show 2 ≤ sizeLine; decide, fun p hp => ?_⟩
      have sp := same_new hp (.tup [V.str "not", .ref p1])
      exact q p _ (.neg t1) cs1 ((s1.trans b1).trans (.of sp)) (sp _ _ c1) (sy_neg (SqT.of upd_same) (i1.same sp)) f1 (by show cs1.length + (bd t1 + 1) < cs.length + 1; omega) (by show 2 * cs1.length + lvs t1 ≤ 2 * (cs.length + 1) ∧ 4 * cs1.length + (tkn t1 + 3) ≤ 4 * (cs.length + 1); omega)
    have n8 : c % 9 ≠ 8 := fun z => g8 (decide_eq_true (show V.int (c % 9) = V.int 8 by rw [z]))
    refine ⟨_, rfl, _, rfl, a, b, cs, l, rfl, a1, hab, T1, by omega, by omega, by omega, fun p1 H1 t1 cs1 b1 c1 i1 f1 l1 k1 => ?_⟩
    have s2 := s1.trans b1
    have T2 := T.sb hab s2
    refine ⟨by show 1 ≤ sizeLine; decide, fun p2 hp2 => ?_⟩
    have b2 := same_new hp2 (.tup [V.str "yes"])
    refine ⟨fun σ H' => ∃ (p3 : Addr) (t3 : Sy) (cs3 : List Int), σ = [some (.ref a), some (.ref b), some (.int c), some (.ref p1), some (.ref p3)] ∧ Sb a H H' ∧ H' a = some (.lst (cs3.map V.int)) ∧ Is K H' (syD t1) (.ref p1) ∧ Is K H' (syD t3) (.ref p3) ∧ FitsS l t3 ∧ cs3.length + max (bd t1) (bd t3) < cs.length ∧ (2 * cs3.length + (lvs t1 + lvs t3) ≤ 2 * cs.length ∧ 4 * cs3.length + (tkn t1 + tkn t3) ≤ 4 * cs.length + 1), ?_, ?_⟩
    · refine ⟨_, rfl, Nat.zero_le _, fun y hy => ⟨_, _, is_ints ((same_new hy _) _ _ (b2 _ _ c1)), is_nil upd_same, rfl, rfl, dep_ints cs1, _, rfl, ?_⟩⟩
      have sm := b2.trans (same_new hy (.lst []))
      rw [dEq_nil]
      refine ite2 (fun g4 => ?_) (fun g4 => ?_)
      · have hn1 : 0 < cs1.length := by
          cases cs1 with
          | nil => cases g4
          | cons _ _ => exact Nat.succ_pos _
        refine ⟨_, rfl, _, rfl, a, b, cs1, l, rfl, sm _ _ c1, hab, T2.same sm, hn1, by omega, by omega, fun p3 H3 t3 cs3 b3 c4 i4 f4 l4 k4 => ?_⟩
        exact ⟨p3, t3, cs3, rfl, (s2.trans (.of sm)).trans b3, c4, sy_sb (sm _ _ c1) b3 (i1.same sm), i4, f4, by omega, by omega⟩
      · exact ⟨p2, .yes, cs1, rfl, s2.trans (.of sm), sm _ _ c1, i1.same sm, (sy_yes (SqT.of upd_same)).same (same_new hy _), trivial, by show cs1.length + max (bd t1) 0 < cs.length; omega, by show 2 * cs1.length + (lvs t1 + 0) ≤ 2 * cs.length ∧ 4 * cs1.length + (tkn t1 + 1) ≤ 4 * cs.length + 1; omega⟩
    rintro σ H3 ⟨p3, t3, cs3, rfl, e1, e2, e3, e4, e5, e6, e7⟩
    obtain ⟨g, hg⟩ := bn_at (k := c % 9 - 6) (by omega) (by omega)
    refine ⟨by show 2 ≤ sizeLine; decide, fun y hy => ?_⟩
    refine ⟨_, rfl, _, _, rfl, rfl, (by show (0 : Int) < 9; decide), _, _, rfl, rfl, y, _, _, _, rfl, rfl, SqL.of upd_same, hg, _, rfl, _, rfl, by show 3 ≤ sizeLine; decide, fun p hp => ?_⟩
    have sm := (same_new hy (.lst [V.str "and", V.str "or"])).trans (same_new hp (.tup [V.str (bnS g), .ref p1, .ref p3]))
    exact q p _ (.bin g t1 t3) cs3 (e1.trans (.of sm)) (sm _ _ e2) (sy_bin (SqT.of upd_same) (e3.same sm) (e4.same sm)) ⟨f1, e5⟩ (by show cs3.length + (max (bd t1) (bd t3) + 1) < cs.length + 1; omega) (by show 2 * cs3.length + (lvs t1 + lvs t3) ≤ 2 * (cs.length + 1) ∧ 4 * cs3.length + (tkn t1 + tkn t3 + 3) ≤ 4 * (cs.length + 1); omega)
end
end Nw
namespace Nw
open PySem L2
def cmB : Cm → Int → Int → Bool
  | .lt, a, b => decide (a < b)
  | .le, a, b => decide (a ≤ b)
  | .eq, a, b => decide (a = b)
  | .ne, a, b => !decide (a = b)
def bnB : Bn → Bool → Bool → Bool
  | .and, a, b => a && b
  | .or, a, b => a || b
def hol (vf : Str → Int) : Sy → Bool
  | .yes => true
  | .cmp c l r => cmB c (val vf l) (val vf r)
  | .neg s => !hol vf s
  | .bin b l r => bnB b (hol vf l) (hol vf r)
section
variable {P : Program} {w : World} {K : PySem.W.Frag} {mg : Str → Option Value} {base : Heap}
def spHolds (K : PySem.W.Frag) (n : Nat) : Sp := fun vs H Q _ => ∃ (v : V) (d : Addr) (t : Sy) (kvs : List (Key × V)) (l : List Str) (vf : Str → Int), vs = [v, .ref d] ∧ Is K H (syD t) v ∧ H d = some (.dK kvs) ∧ ValsOk kvs l vf ∧ FitsS l t ∧ dps t < n ∧ ∀ H', Same H H' → Q (.bl (hol vf t)) H'
theorem scHolds : FnScope ["_law_some", "_law_values_here", "_law_truths", "_law_one", "_law_other"] ["_law_some", "_law_values_here"] (defScope sHolds) := ⟨rfl, rfl, rfl, by decide +kernel, rfl, by decide +kernel, by decide +kernel⟩
theorem ok_holds {f fW : Addr} {fd fdW : FuncData} (B : Bl mg) (F : Fun K "_law_holds" "_law_holds" sHolds f fd) (bH : Binds K fd ["_law_some", "_law_values_here"] []) (mH : mg "_law_holds" = some (.ref f))
    (FW : Fun K "_law_worth" "_law_worth" sWorth fW fdW) (bW : Binds K fdW ["_law_some", "_law_values_here"] []) (mW : mg "_law_worth" = some (.ref fW)) : ∀ n : Nat, FnOk P w K mg base CX0 (n + 11) f fd ["_law_some", "_law_values_here"] (spHolds K n)
  | 0 => fn_none fun vs H Q E h => by obtain ⟨v, d, t, kvs, l, vf, _, _, _, _, _, h1, _⟩ := h; omega
  | n + 1 => by
    have GW : FnOk P w K mg base CX0 10 fW fdW ["_law_some", "_law_values_here"] (spWorth K 9) := ok_worth B FW bW mW 9
    have GH := ok_holds B F bH mH FW bW mW n
    refine F.ok scHolds (fun vs H Q E h => ?_) (fun cdv A outer s H vs Q E hr h => ?_)
    · obtain ⟨v, d, t, kvs, l, vf, rfl, _⟩ := h
      rfl
    obtain ⟨v, d, t, kvs, l, vf, rfl, it, hd, O, ft, hn, q⟩ := h
    have hrW := hr.mono (show 10 ≤ n + 11 by omega)
    refine ⟨_, (@pss_cons _ _ _ _ _ (@ps_if _ _ _ _ _ _ _ _ (@pt_cmpR _ _ _ _ _ _ _ _ op_eq (@pe_ix _ _ _ _ _ _ (rIxT K) ix_tup (pv 0) pe_int (fun _ _ => rfl)) pe_str (nomark _)) (@pss_one _ _ _ (@ps_ret _ _ _ _ pe_bl)) pss_nil) (@pss_cons _ _ _ _ _ (@ps_if _ _ _ _ _ _ _ _ (@pt_cmpR _ _ _ _ _ _ _ _ op_eq (@pe_ix _ _ _ _ _ _ (rIxT K) ix_tup (pv 0) pe_int (fun _ _ => rfl)) pe_str (nomark _)) (@pss_one _ _ _ (@ps_ret _ _ _ _ (@pe_not _ _ _ _ (pe_call GH hr (by rfl) mH F.kp bH .nil pass0 (@pa_cons _ _ _ _ _ (@pe_ix _ _ _ _ _ _ (rIxT K) ix_tup (pv 0) pe_int (fun _ _ => rfl)) (@pa_cons _ _ _ _ _ (pv 1) pa_nil (by rfl)) (by rfl)))))) pss_nil) (@pss_cons _ _ _ _ _ (@ps_if _ _ _ _ _ _ _ _ (@pt_cmpR _ _ _ _ _ _ _ _ op_in_seq (@pe_ix _ _ _ _ _ _ (rIxT K) ix_tup (pv 0) pe_int (fun _ _ => rfl)) (@pe_lst _ _ _ _ (@pa_cons _ _ _ _ _ pe_str (@pa_cons _ _ _ _ _ pe_str pa_nil (by rfl)) (by rfl))) (by with_unfolding_all rfl)) (@pss_cons _ _ _ _ _ (@ps_set _ _ 2 _ _ _ _ scHolds.nd rfl (Or.inl rfl) (@pe_lst _ _ _ _ (@pa_cons _ _ _ _ _ (pe_call GH hr (by rfl) mH F.kp bH .nil pass0 (@pa_cons _ _ _ _ _ (@pe_ix _ _ _ _ _ _ (rIxT K) ix_tup (pv 0) pe_int (fun _ _ => rfl)) (@pa_cons _ _ _ _ _ (pv 1) pa_nil (by rfl)) (by rfl))) (@pa_cons _ _ _ _ _ (pe_call GH hr (by rfl) mH F.kp bH .nil pass0 (@pa_cons _ _ _ _ _ (@pe_ix _ _ _ _ _ _ (rIxT K) ix_tup (pv 0) pe_int (fun _ _ => rfl)) (@pa_cons _ _ _ _ _ (pv 1) pa_nil (by rfl)) (by rfl))) pa_nil (by rfl)) (by rfl))) rfl (Or.inl rfl)) (@pss_one _ _ _ (@ps_ret _ _ _ _ (@pe_cmpR _ _ _ _ _ _ _ _ op_ge (pe_bm PySem.F.plainAttrs_list PySem.F.slot_list_count PySem.F.type_list_count mt_count (pv 2) (@pa_cons _ _ _ _ _ pe_bl pa_nil (by rfl))) (pe_bm PySem.F.plainAttrs_list PySem.F.slot_list_index PySem.F.type_list_index mt_indexL (@pe_lst _ _ _ _ (@pa_cons _ _ _ _ _ pe_str (@pa_cons _ _ _ _ _ pe_str (@pa_cons _ _ _ _ _ pe_str pa_nil (by rfl)) (by rfl)) (by rfl))) (@pa_cons _ _ _ _ _ (@pe_ix _ _ _ _ _ _ (rIxT K) ix_tup (pv 0) pe_int (fun _ _ => rfl)) pa_nil (by rfl))) (nomark _))))) pss_nil) (@pss_cons _ _ _ _ _ (@ps_set _ _ 3 _ _ _ _ scHolds.nd rfl (Or.inl rfl) (pe_call GW hrW (by rfl) mW FW.kp bW .nil pass0 (@pa_cons _ _ _ _ _ (@pe_ix _ _ _ _ _ _ (rIxT K) ix_tup (pv 0) pe_int (fun _ _ => rfl)) (@pa_cons _ _ _ _ _ (pv 1) pa_nil (by rfl)) (by rfl))) rfl (Or.inl rfl)) (@pss_cons _ _ _ _ _ (@ps_set _ _ 4 _ _ _ _ scHolds.nd rfl (Or.inl rfl) (pe_call GW hrW (by rfl) mW FW.kp bW .nil pass0 (@pa_cons _ _ _ _ _ (@pe_ix _ _ _ _ _ _ (rIxT K) ix_tup (pv 0) pe_int (fun _ _ => rfl)) (@pa_cons _ _ _ _ _ (pv 1) pa_nil (by rfl)) (by rfl))) rfl (Or.inl rfl)) (@pss_cons _ _ _ _ _ (@ps_if _ _ _ _ _ _ _ _ (@pt_cmpR _ _ _ _ _ _ _ _ op_eq (pv 3) (pv 4) (nomark _)) (@pss_one _ _ _ (@ps_ret _ _ _ _ (@pe_cmpR _ _ _ _ _ _ _ _ op_in_seq (@pe_ix _ _ _ _ _ _ (rIxT K) ix_tup (pv 0) pe_int (fun _ _ => rfl)) (@pe_lst _ _ _ _ (@pa_cons _ _ _ _ _ pe_str (@pa_cons _ _ _ _ _ pe_str pa_nil (by rfl)) (by rfl))) (by with_unfolding_all rfl)))) pss_nil) (@pss_one _ _ _ (@ps_ret _ _ _ _ (@pe_or _ _ _ _ _ _ _ (@pe_cmpR _ _ _ _ _ _ _ _ op_eq (@pe_ix _ _ _ _ _ _ (rIxT K) ix_tup (pv 0) pe_int (fun _ _ => rfl)) pe_str (nomark _)) (@pe_one _ _ _ _ _ (@pe_and _ _ _ _ _ _ _ (@pe_cmpR _ _ _ _ _ _ _ _ op_lt (pv 3) (pv 4) (nomark _)) (@pe_one _ _ _ _ _ (@pe_cmpR _ _ _ _ _ _ _ _ op_in_seq (@pe_ix _ _ _ _ _ _ (rIxT K) ix_tup (pv 0) pe_int (fun _ _ => rfl)) (@pe_lst _ _ _ _ (@pa_cons _ _ _ _ _ pe_str (@pa_cons _ _ _ _ _ pe_str pa_nil (by rfl)) (by rfl))) (by with_unfolding_all rfl)))))))))))))), ?_⟩
    have fl2 : ∀ x y : Str, [V.str x, V.str y].all flatV = true := fun x y => rfl
    cases t with
    | yes =>
      obtain ⟨p, rfl, ht⟩ := is_yes it
      refine ⟨_, rfl, p, _, _, _, rfl, rfl, ht, atI_nat (j := 0) rfl, rfl, _, rfl, ite2 (fun _ => ?_) (fun c => absurd (decide_eq_true rfl) c)⟩
      exact q H (Same.refl H)
    | neg t =>
      obtain ⟨p, a, rfl, ht, ia⟩ := is_neg it
      have hn : dps t + 1 < n + 1 := hn
      refine ⟨_, rfl, p, _, _, _, rfl, rfl, ht, atI_nat (j := 0) rfl, rfl, _, rfl, ite2 (fun c => absurd (of_decide_eq_true c) (by decide +kernel)) (fun _ => ?_)⟩
      refine ⟨_, rfl, p, _, _, _, rfl, rfl, ht, atI_nat (j := 0) rfl, rfl, _, rfl, ite2 (fun _ => ?_) (fun c => absurd (decide_eq_true rfl) c)⟩
      exact ⟨_, rfl, p, _, _, _, rfl, rfl, ht, atI_nat (j := 1) rfl, _, rfl, a, d, t, kvs, l, vf, rfl, ia, hd, O, ft, by omega, fun H' sm => ⟨_, rfl, q H' sm⟩⟩
    | bin g a b =>
      obtain ⟨p, va, vb, rfl, ht, ia, ib⟩ := is_bin it
      obtain ⟨fa, fb⟩ : FitsS l a ∧ FitsS l b := ft
      have hn : max (dps a) (dps b) + 1 < n + 1 := hn
      have n1 : ¬ V.str (bnS g) = V.str "yes" := by cases g <;> decide +kernel
      have n2 : ¬ V.str (bnS g) = V.str "not" := by cases g <;> decide +kernel
      refine ⟨_, rfl, p, _, _, _, rfl, rfl, ht, atI_nat (j := 0) rfl, rfl, _, rfl, ite2 (fun c => absurd (of_decide_eq_true c) n1) (fun _ => ?_)⟩
      refine ⟨_, rfl, p, _, _, _, rfl, rfl, ht, atI_nat (j := 0) rfl, rfl, _, rfl, ite2 (fun c => absurd (of_decide_eq_true c) n2) (fun _ => ?_)⟩
      refine ⟨_, rfl, p, _, _, _, rfl, rfl, ht, atI_nat (j := 0) rfl, by show 2 ≤ sizeLine; decide, fun y hy => ?_⟩
      have sy := same_new hy (.lst [V.str "and", V.str "or"])
      refine ⟨y, _, rfl, .inl (SqL.of upd_same), rfl, rfl, _, rfl, ite2 (fun _ => ?_) (fun c => absurd (by cases g <;> decide +kernel) c)⟩
      refine ⟨_, rfl, p, _, _, _, rfl, rfl, sy.tup ht, atI_nat (j := 1) rfl, _, rfl, va, d, a, kvs, l, vf, rfl, ia.same sy, sy _ _ hd, O, fa, by omega, fun H1 s1 => ?_⟩
      have t1 := sy.trans s1
      refine ⟨_, rfl, p, _, _, _, rfl, rfl, t1.tup ht, atI_nat (j := 2) rfl, _, rfl, vb, d, b, kvs, l, vf, rfl, ib.same t1, t1 _ _ hd, O, fb, by omega, fun H2 s2 => ?_⟩
      have t2 := t1.trans s2
      refine ⟨by show 2 ≤ sizeLine; decide, fun z hz => ?_⟩
      have sz := same_new hz (.lst [V.bl (hol vf a), V.bl (hol vf b)])
      have tz := t2.trans sz
      cases g with
      | and =>
        refine ⟨_, rfl, .inl ⟨rfl, _, SqL.of upd_same⟩, z, _, _, rfl, rfl, upd_same, rfl, rfl, by show 3 ≤ sizeLine; decide, fun y2 hy2 => ?_⟩
        have s3 := same_new hy2 (.lst [V.str "", V.str "or", V.str "and"])
        refine ⟨.inl ⟨rfl, _, SqL.of upd_same⟩, _, rfl, p, _, _, _, rfl, rfl, (tz.trans s3).tup ht, atI_nat (j := 0) rfl, y2, _, _, 2, rfl, rfl, upd_same, rfl, rfl, by decide, ⟨_, rfl, by decide +kernel⟩, ?_, _, _, rfl, rfl, ?_⟩
        · intro m x hm hx
          have : m = 0 ∨ m = 1 := by omega
          rcases this with rfl | rfl
          · cases hx; decide +kernel
          · cases hx; decide +kernel
        · have q' := q _ (tz.trans s3)
          have e1 : hol vf (.bin .and a b) = decide (((2 : Nat) : Int) ≤ (([V.bl (hol vf a), V.bl (hol vf b)].countP fun z => eqV z (.bl true) : Nat) : Int)) := by
            show (hol vf a && hol vf b) = _
            cases hol vf a <;> cases hol vf b <;> rfl
          rw [e1] at q'
          exact q'
      | or =>
        refine ⟨_, rfl, .inl ⟨rfl, _, SqL.of upd_same⟩, z, _, _, rfl, rfl, upd_same, rfl, rfl, by show 3 ≤ sizeLine; decide, fun y2 hy2 => ?_⟩
        have s3 := same_new hy2 (.lst [V.str "", V.str "or", V.str "and"])
        refine ⟨.inl ⟨rfl, _, SqL.of upd_same⟩, _, rfl, p, _, _, _, rfl, rfl, (tz.trans s3).tup ht, atI_nat (j := 0) rfl, y2, _, _, 1, rfl, rfl, upd_same, rfl, rfl, by decide, ⟨_, rfl, by decide +kernel⟩, ?_, _, _, rfl, rfl, ?_⟩
        · intro m x hm hx
          have : m = 0 := by omega
          subst this
          cases hx
          decide +kernel
        · have q' := q _ (tz.trans s3)
          have e1 : hol vf (.bin .or a b) = decide (((1 : Nat) : Int) ≤ (([V.bl (hol vf a), V.bl (hol vf b)].countP fun z => eqV z (.bl true) : Nat) : Int)) := by
            show (hol vf a || hol vf b) = _
            cases hol vf a <;> cases hol vf b <;> rfl
          rw [e1] at q'
          exact q'
    | cmp g a b =>
      obtain ⟨p, va, vb, rfl, ht, ia, ib⟩ := is_cmp it
      obtain ⟨fa, fb, la, lb⟩ : Fits l a ∧ Fits l b ∧ lv a ≤ 9 ∧ lv b ≤ 9 := ft
      have da := dp_lt a
      have db := dp_lt b
      have n1 : ¬ V.str (cmS g) = V.str "yes" := by cases g <;> decide +kernel
      have n2 : ¬ V.str (cmS g) = V.str "not" := by cases g <;> decide +kernel
      refine ⟨_, rfl, p, _, _, _, rfl, rfl, ht, atI_nat (j := 0) rfl, rfl, _, rfl, ite2 (fun c => absurd (of_decide_eq_true c) n1) (fun _ => ?_)⟩
      refine ⟨_, rfl, p, _, _, _, rfl, rfl, ht, atI_nat (j := 0) rfl, rfl, _, rfl, ite2 (fun c => absurd (of_decide_eq_true c) n2) (fun _ => ?_)⟩
      refine ⟨_, rfl, p, _, _, _, rfl, rfl, ht, atI_nat (j := 0) rfl, by show 2 ≤ sizeLine; decide, fun y hy => ?_⟩
      have sy := same_new hy (.lst [V.str "and", V.str "or"])
      refine ⟨y, _, rfl, .inl (SqL.of upd_same), rfl, rfl, _, rfl, ite2 (fun c => absurd c (by cases g <;> decide +kernel)) (fun _ => ?_)⟩
      refine ⟨_, rfl, p, _, _, _, rfl, rfl, sy.tup ht, atI_nat (j := 1) rfl, _, rfl, va, d, a, kvs, l, vf, rfl, ia.same sy, sy _ _ hd, O, fa, by omega, by omega, ?_⟩
      refine ⟨_, rfl, p, _, _, _, rfl, rfl, sy.tup ht, atI_nat (j := 2) rfl, _, rfl, vb, d, b, kvs, l, vf, rfl, ib.same sy, sy _ _ hd, O, fb, by omega, by omega, ?_⟩
      refine ⟨_, rfl, _, rfl, rfl, _, rfl, ite2 (fun c => ?_) (fun c => ?_)⟩
      · have ce : val vf a = val vf b := V.int.inj (of_decide_eq_true c)
        refine ⟨_, rfl, p, _, _, _, rfl, rfl, sy.tup ht, atI_nat (j := 0) rfl, by show 2 ≤ sizeLine; decide, fun z hz => ?_⟩
        have sz := same_new hz (.lst [V.str "<=", V.str "="])
        refine ⟨z, _, rfl, .inl (SqL.of upd_same), rfl, rfl, ?_⟩
        have e1 : hol vf (.cmp g a b) = inV (.str (cmS g)) [V.str "<=", V.str "="] := by
          show cmB g (val vf a) (val vf b) = _
          rw [ce]
          cases g
          · exact (decide_eq_false (Int.lt_irrefl _)).trans (by decide +kernel)
          · exact (decide_eq_true (Int.le_refl _)).trans (by decide +kernel)
          · exact (decide_eq_true rfl).trans (by decide +kernel)
          · show (!decide (val vf b = val vf b)) = _
            rw [decide_eq_true rfl]
            decide +kernel
        have q' := q _ (sy.trans sz)
        rw [e1] at q'
        exact q'
      · have ce : val vf a ≠ val vf b := fun z => c (decide_eq_true (by rw [z]))
        refine ⟨_, rfl, p, _, _, _, rfl, rfl, sy.tup ht, atI_nat (j := 0) rfl, rfl, _, rfl, ite2 (fun c1 => ?_) (fun c1 => ?_)⟩
        · have e1 : hol vf (.cmp g a b) = true := by
            cases g with
            | ne => show (!decide (val vf a = val vf b)) = true; rw [decide_eq_false ce]; rfl
            | _ => exact absurd (of_decide_eq_true c1) (by decide +kernel)
          have q' := q _ sy
          rw [e1] at q'
          exact q'
        refine ⟨_, rfl, _, rfl, _, _, rfl, rfl, _, rfl, ite2 (fun c2 => ?_) (fun c2 => ?_)⟩
        · have lt : val vf a < val vf b := of_decide_eq_true c2
          refine ⟨_, rfl, p, _, _, _, rfl, rfl, sy.tup ht, atI_nat (j := 0) rfl, by show 2 ≤ sizeLine; decide, fun z hz => ?_⟩
          have sz := same_new hz (.lst [V.str "<", V.str "<="])
          refine ⟨z, _, rfl, .inl (SqL.of upd_same), rfl, rfl, ?_⟩
          have e1 : hol vf (.cmp g a b) = inV (.str (cmS g)) [V.str "<", V.str "<="] := by
            show cmB g (val vf a) (val vf b) = _
            cases g with
            | lt => exact (decide_eq_true lt).trans (by decide +kernel)
            | le => exact (decide_eq_true (Int.le_of_lt lt)).trans (by decide +kernel)
            | eq => exact (decide_eq_false ce).trans (by decide +kernel)
            | ne => exact absurd (decide_eq_true rfl) c1
          have q' := q _ (sy.trans sz)
          rw [e1] at q'
          exact q'
        · have nlt : ¬ val vf a < val vf b := fun z => c2 (decide_eq_true z)
          have e1 : hol vf (.cmp g a b) = false := by
            show cmB g (val vf a) (val vf b) = _
            cases g with
            | lt => exact decide_eq_false nlt
            | le => exact decide_eq_false (by omega)
            | eq => exact decide_eq_false ce
            | ne => exact absurd (decide_eq_true rfl) c1
          have q' := q _ sy
          rw [e1] at q'
          exact q'
end
end Nw
namespace Nw
open PySem L2
def txy : Sy → Str
  | .yes => "yes"
  | .cmp c a b => txt a ++ " " ++ cmS c ++ " " ++ txt b
  | .neg s => "[ not " ++ txy s ++ " ]"
  | .bin g a b => "[ " ++ txy a ++ " " ++ bnS g ++ " " ++ txy b ++ " ]"
def nmY : Sy → List Str
  | .yes => []
  | .cmp _ a b => nmT a ++ nmT b
  | .neg s => nmY s
  | .bin _ a b => nmY a ++ nmY b
theorem nmY_len : ∀ t : Sy, (nmY t).length ≤ lvs t
  | .yes => Nat.zero_le _
  | .cmp _ a b => by
    have h1 := nmT_len a
    have h2 := nmT_len b
    show (nmT a ++ nmT b).length ≤ lv a + lv b
    rw [List.length_append]; omega
  | .neg s => nmY_len s
  | .bin _ a b => by
    have h1 := nmY_len a
    have h2 := nmY_len b
    show (nmY a ++ nmY b).length ≤ lvs a + lvs b
    rw [List.length_append]; omega
theorem cm_len (c : Cm) : (cmS c).length ≤ 2 := by cases c <;> decide +kernel
theorem bn_len (c : Bn) : (bnS c).length ≤ 3 := by cases c <;> decide +kernel
theorem sq_len : ("yes" : Str).length = 3 ∧ ("[ not " : Str).length = 6 ∧ (" ]" : Str).length = 2 ∧ ("[ " : Str).length = 2 := by decide +kernel
theorem txy_len {l : List Str} (hl : ∀ x ∈ l, x.length ≤ 30) : ∀ {t : Sy}, FitsS l t → (txy t).length + 20 ≤ 1000 * 2 ^ dps t
  | .yes, _ => by
    show ("yes" : Str).length + 20 ≤ 1000 * 2 ^ 0
    rw [sq_len.1]; decide
  | .cmp c a b, h => by
    obtain ⟨fa, fb, la, lb⟩ : Fits l a ∧ Fits l b ∧ lv a ≤ 9 ∧ lv b ≤ 9 := h
    have i1 := txt_len hl fa
    have i2 := txt_len hl fb
    have c1 := cm_len c
    show (txt a ++ " " ++ cmS c ++ " " ++ txt b : Str).length + 20 ≤ 1000 * 2 ^ 0
    simp only [str_len, sp_len.1]
    omega
  | .neg s, h => by
    have i := txy_len hl (t := s) h
    show ("[ not " ++ txy s ++ " ]" : Str).length + 20 ≤ 1000 * 2 ^ (dps s + 1)
    simp only [str_len, sq_len.2.1, sq_len.2.2.1]
    rw [Nat.pow_succ]
    omega
  | .bin g a b, h => by
    obtain ⟨fa, fb⟩ : FitsS l a ∧ FitsS l b := h
    have i1 := txy_len hl fa
    have i2 := txy_len hl fb
    have c1 := bn_len g
    have p1 := Nat.pow_le_pow_right (n := 2) (by decide) (Nat.le_max_left (dps a) (dps b))
    have p2 := Nat.pow_le_pow_right (n := 2) (by decide) (Nat.le_max_right (dps a) (dps b))
    show ("[ " ++ txy a ++ " " ++ bnS g ++ " " ++ txy b ++ " ]" : Str).length + 20 ≤ 1000 * 2 ^ (max (dps a) (dps b) + 1)
    simp only [str_len, sp_len.1, sq_len.2.2.1, sq_len.2.2.2]
    rw [Nat.pow_succ]
    omega
theorem txy_len' {l : List Str} (hl : ∀ x ∈ l, x.length ≤ 30) {t : Sy} (h : FitsS l t) (hd : dps t < 10) : (txy t).length ≤ 600000 := by
  have h1 := txy_len hl h
  have h2 := Nat.pow_le_pow_right (n := 2) (by decide) (show dps t ≤ 9 by omega)
  have h3 : 2 ^ 9 = 512 := by decide
  omega
theorem big {n : Nat} (h : n ≤ 9000000) : n ≤ sizeLine := by rw [sizeLine_eq]; omega
end Nw
namespace Nw
open PySem L2
inductive Ks where
  | yes | cmp (c : Cm) | neg | bin (b : Bn)
def ks : Sy → Ks
  | .yes => .yes
  | .cmp c _ _ => .cmp c
  | .neg _ => .neg
  | .bin b _ _ => .bin b
def cyOf (CY CL CA CE CU CB CO CN : Addr) : Ks → Addr
  | .yes => CY
  | .cmp .lt => CL
  | .cmp .le => CA
  | .cmp .eq => CE
  | .cmp .ne => CU
  | .bin .and => CB
  | .bin .or => CO
  | .neg => CN
def oneF (a : V) : List (Str × V) := putF "one" a []
theorem one_at (a : V) : (oneF a).lookup ("one" : Str) = some a := by unfold oneF; rw [lookup_putF, if_pos rfl]
theorem one_s (a : V) : (oneF a).lookup ("shown" : Str) = none := by unfold oneF; rw [lookup_putF, if_neg (by decide +kernel)]; rfl
theorem one_n (a : V) : (oneF a).lookup ("named" : Str) = none := by unfold oneF; rw [lookup_putF, if_neg (by decide +kernel)]; rfl
structure ClsS (K : PySem.W.Frag) (CY : Ks → Addr) : Prop where
  cl : ∀ k, Cls K (CY k)
  c1 : ∀ c, NoAttr K (CY (.cmp c)) "one"
  c2 : ∀ c, NoAttr K (CY (.cmp c)) "other"
  b1 : ∀ c, NoAttr K (CY (.bin c)) "one"
  b2 : ∀ c, NoAttr K (CY (.bin c)) "other"
  n1 : NoAttr K (CY .neg) "one"
def ObjS (CK : Kd → Addr) (CY : Ks → Addr) (H : Hp) : Sy → V → Prop
  | .yes, v => ∃ p dx, v = .ref p ∧ H p = some (.ins (CY .yes) dx [])
  | .cmp c l r, v => ∃ p dx a b, v = .ref p ∧ H p = some (.ins (CY (.cmp c)) dx (twoF a b)) ∧ Obj CK H l a ∧ Obj CK H r b
  | .neg s, v => ∃ p dx a, v = .ref p ∧ H p = some (.ins (CY .neg) dx (oneF a)) ∧ ObjS CK CY H s a
  | .bin g l r, v => ∃ p dx a b, v = .ref p ∧ H p = some (.ins (CY (.bin g)) dx (twoF a b)) ∧ ObjS CK CY H l a ∧ ObjS CK CY H r b
theorem ObjS.same {CK : Kd → Addr} {CY : Ks → Addr} {H H' : Hp} (s : Same H H') : ∀ {t : Sy} {v : V}, ObjS CK CY H t v → ObjS CK CY H' t v
  | .yes, v, h => by
    obtain ⟨p, dx, e, h⟩ := h
    exact ⟨p, dx, e, s _ _ h⟩
  | .cmp c l r, v, h => by
    obtain ⟨p, dx, a, b, e, h, h1, h2⟩ := h
    exact ⟨p, dx, a, b, e, s _ _ h, h1.same s, h2.same s⟩
  | .neg t, v, h => by
    obtain ⟨p, dx, a, e, h, h1⟩ := h
    exact ⟨p, dx, a, e, s _ _ h, h1.same s⟩
  | .bin g l r, v, h => by
    obtain ⟨p, dx, a, b, e, h, h1, h2⟩ := h
    exact ⟨p, dx, a, b, e, s _ _ h, h1.same s, h2.same s⟩
theorem ObjS.at_ {CK : Kd → Addr} {CY : Ks → Addr} {H : Hp} : ∀ {t : Sy} {v : V}, ObjS CK CY H t v → ∃ p dx fs, v = .ref p ∧ H p = some (.ins (CY (ks t)) dx fs) ∧ fs.lookup ("shown" : Str) = none ∧ fs.lookup ("named" : Str) = none
  | .yes, v, h => by
    obtain ⟨p, dx, e, h⟩ := h
    exact ⟨p, dx, _, e, h, rfl, rfl⟩
  | .cmp c l r, v, h => by
    obtain ⟨p, dx, a, b, e, h, h1, h2⟩ := h
    exact ⟨p, dx, _, e, h, two_s _ _, two_n _ _⟩
  | .neg t, v, h => by
    obtain ⟨p, dx, a, e, h, h1⟩ := h
    exact ⟨p, dx, _, e, h, one_s _, one_n _⟩
  | .bin g l r, v, h => by
    obtain ⟨p, dx, a, b, e, h, h1, h2⟩ := h
    exact ⟨p, dx, _, e, h, two_s _ _, two_n _ _⟩
section
variable {P : Program} {w : World} {K : PySem.W.Frag} {mg : Str → Option Value} {base : Heap} {CK : Kd → Addr} {CY : Ks → Addr}
def spYS (CK : Kd → Addr) (CY : Ks → Addr) (n : Nat) (k : Ks) : Sp := fun vs H Q _ => ∃ (v : V) (t : Sy) (l : List Str), vs = [v] ∧ ks t = k ∧ ObjS CK CY H t v ∧ (∀ x ∈ l, x.length ≤ 30) ∧ FitsS l t ∧ dps t < n ∧ dps t < 10 ∧ ∀ H', Same H H' → Q (.str (txy t)) H'
theorem spYS_none (k : Ks) : ∀ vs H Q E, ¬ spYS CK CY 0 k vs H Q E := fun vs H Q E h => by
  obtain ⟨v, t, l, _, _, _, _, _, h1, _⟩ := h
  omega
theorem ObjS.shownBy {H : Hp} {t : Sy} {v : V} {l : List Str} {n r : Nat} (W : ∀ k, MOk P w K mg base r (CY k) "shown" (spYS CK CY n k)) (ob : ObjS CK CY H t v) (hl : ∀ x ∈ l, x.length ≤ 30) (ft : FitsS l t) (hd : dps t < n) (h10 : dps t < 10) : ShownBy P w K mg base r H v (txy t) := by
  obtain ⟨p, dx, fs, rfl, hp, ls, _⟩ := ob.at_
  exact ⟨p, _, dx, fs, _, rfl, hp, ls, W _, fun H' Q s k => ⟨.ref p, t, l, rfl, rfl, ob.same s, hl, ft, hd, h10, k⟩⟩
theorem scSayS : FnScope ["self"] ["self"] (defScope sSayS) := ⟨rfl, rfl, rfl, by decide +kernel, rfl, by decide +kernel, by decide +kernel⟩
theorem ok_sayS {f : Addr} {fd : FuncData} (F : Fun K "shown" "Saying.shown" sSayS f fd) (n : Nat) : FnOk P w K mg base CX0 1 f fd ["self"] (spYS CK CY n .yes) := by
  refine F.ok scSayS (fun vs H Q E h => ?_) (fun cdv A outer s H vs Q E hr h => ?_)
  · obtain ⟨v, t, l, rfl, _⟩ := h
    rfl
  obtain ⟨v, t, l, rfl, kt, ob, hl, ft, hn, h10, q⟩ := h
  refine ⟨_, (@pss_one _ _ _ (@ps_ret _ _ _ _ pe_str)), ?_⟩
  cases t with
  | yes => exact q _ (Same.refl _)
  | _ => cases kt
theorem scLesS : FnScope ["self"] ["self"] (defScope sLesS) := ⟨rfl, rfl, rfl, by decide +kernel, rfl, by decide +kernel, by decide +kernel⟩
theorem ok_lesS {f fB : Addr} {fd dB : FuncData} (c : ClsS K CY) (F : Fun K "shown" "Less.shown" sLesS f fd) (FB : Fun K "compared" "compared" sCmp fB dB) (bB : Binds K dB ["one", "sign", "other"] []) (mB : mg "compared" = some (.ref fB)) (W : ∀ k, MOk P w K mg base 19 (CK k) "shown" (spS CK 9 k)) (n : Nat) : FnOk P w K mg base CX0 21 f fd ["self"] (spYS CK CY n (.cmp .lt)) := by
  have GB : FnOk P w K mg base CX0 20 fB dB ["one", "sign", "other"] (spCmp P w K mg base 19) := ok_cmp FB
  refine F.ok scLesS (fun vs H Q E h => ?_) (fun cdv A outer s H vs Q E hr h => ?_)
  · obtain ⟨v, t, l, rfl, _⟩ := h
    rfl
  obtain ⟨v, t, l, rfl, kt, ob, hl, ft, hn, h10, q⟩ := h
  refine ⟨_, (@pss_one _ _ _ (@ps_ret _ _ _ _ (pe_call GB hr (by rfl) mB FB.kp bB .nil pass0 (@pa_cons _ _ _ _ _ (@pe_fld _ _ _ _ _ (pv 0) rfl) (@pa_cons _ _ _ _ _ pe_str (@pa_cons _ _ _ _ _ (@pe_fld _ _ _ _ _ (pv 0) rfl) pa_nil (by rfl)) (by rfl)) (by rfl))))), ?_⟩
  cases t with
  | cmp g a b =>
    cases kt
    obtain ⟨p, dx, va, vb, rfl, hp, oa, ob⟩ := ob
    obtain ⟨fa, fb, la, lb⟩ : Fits l a ∧ Fits l b ∧ lv a ≤ 9 ∧ lv b ≤ 9 := ft
    have da := dp_lt a
    have db := dp_lt b
    have i1 := txt_len hl fa
    have i2 := txt_len hl fb
    have s1 := cm_len .lt
    refine ⟨_, rfl, p, _, dx, _, _, rfl, hp, c.cl _, c.c1 _, two_one _ _, _, rfl, p, _, dx, _, _, rfl, hp, c.cl _, c.c2 _, two_oth _ _, ?_⟩
    exact ⟨va, vb, txt a, cmS .lt, txt b, rfl, oa.shownBy W hl fa (by omega) (by omega), ob.shownBy W hl fb (by omega) (by omega), by omega, q⟩
  | _ => cases kt
theorem scAtmS : FnScope ["self"] ["self"] (defScope sAtmS) := ⟨rfl, rfl, rfl, by decide +kernel, rfl, by decide +kernel, by decide +kernel⟩
theorem ok_atmS {f fB : Addr} {fd dB : FuncData} (c : ClsS K CY) (F : Fun K "shown" "AtMost.shown" sAtmS f fd) (FB : Fun K "compared" "compared" sCmp fB dB) (bB : Binds K dB ["one", "sign", "other"] []) (mB : mg "compared" = some (.ref fB)) (W : ∀ k, MOk P w K mg base 19 (CK k) "shown" (spS CK 9 k)) (n : Nat) : FnOk P w K mg base CX0 21 f fd ["self"] (spYS CK CY n (.cmp .le)) := by
  have GB : FnOk P w K mg base CX0 20 fB dB ["one", "sign", "other"] (spCmp P w K mg base 19) := ok_cmp FB
  refine F.ok scAtmS (fun vs H Q E h => ?_) (fun cdv A outer s H vs Q E hr h => ?_)
  · obtain ⟨v, t, l, rfl, _⟩ := h
    rfl
  obtain ⟨v, t, l, rfl, kt, ob, hl, ft, hn, h10, q⟩ := h
  refine ⟨_, (@pss_one _ _ _ (@ps_ret _ _ _ _ (pe_call GB hr (by rfl) mB FB.kp bB .nil pass0 (@pa_cons _ _ _ _ _ (@pe_fld _ _ _ _ _ (pv 0) rfl) (@pa_cons _ _ _ _ _ pe_str (@pa_cons _ _ _ _ _ (@pe_fld _ _ _ _ _ (pv 0) rfl) pa_nil (by rfl)) (by rfl)) (by rfl))))), ?_⟩
  cases t with
  | cmp g a b =>
    cases kt
    obtain ⟨p, dx, va, vb, rfl, hp, oa, ob⟩ := ob
    obtain ⟨fa, fb, la, lb⟩ : Fits l a ∧ Fits l b ∧ lv a ≤ 9 ∧ lv b ≤ 9 := ft
    have da := dp_lt a
    have db := dp_lt b
    have i1 := txt_len hl fa
    have i2 := txt_len hl fb
    have s1 := cm_len .le
    refine ⟨_, rfl, p, _, dx, _, _, rfl, hp, c.cl _, c.c1 _, two_one _ _, _, rfl, p, _, dx, _, _, rfl, hp, c.cl _, c.c2 _, two_oth _ _, ?_⟩
    exact ⟨va, vb, txt a, cmS .le, txt b, rfl, oa.shownBy W hl fa (by omega) (by omega), ob.shownBy W hl fb (by omega) (by omega), by omega, q⟩
  | _ => cases kt
theorem scEquS : FnScope ["self"] ["self"] (defScope sEquS) := ⟨rfl, rfl, rfl, by decide +kernel, rfl, by decide +kernel, by decide +kernel⟩
theorem ok_equS {f fB : Addr} {fd dB : FuncData} (c : ClsS K CY) (F : Fun K "shown" "Equal.shown" sEquS f fd) (FB : Fun K "compared" "compared" sCmp fB dB) (bB : Binds K dB ["one", "sign", "other"] []) (mB : mg "compared" = some (.ref fB)) (W : ∀ k, MOk P w K mg base 19 (CK k) "shown" (spS CK 9 k)) (n : Nat) : FnOk P w K mg base CX0 21 f fd ["self"] (spYS CK CY n (.cmp .eq)) := by
  have GB : FnOk P w K mg base CX0 20 fB dB ["one", "sign", "other"] (spCmp P w K mg base 19) := ok_cmp FB
  refine F.ok scEquS (fun vs H Q E h => ?_) (fun cdv A outer s H vs Q E hr h => ?_)
  · obtain ⟨v, t, l, rfl, _⟩ := h
    rfl
  obtain ⟨v, t, l, rfl, kt, ob, hl, ft, hn, h10, q⟩ := h
  refine ⟨_, (@pss_one _ _ _ (@ps_ret _ _ _ _ (pe_call GB hr (by rfl) mB FB.kp bB .nil pass0 (@pa_cons _ _ _ _ _ (@pe_fld _ _ _ _ _ (pv 0) rfl) (@pa_cons _ _ _ _ _ pe_str (@pa_cons _ _ _ _ _ (@pe_fld _ _ _ _ _ (pv 0) rfl) pa_nil (by rfl)) (by rfl)) (by rfl))))), ?_⟩
  cases t with
  | cmp g a b =>
    cases kt
    obtain ⟨p, dx, va, vb, rfl, hp, oa, ob⟩ := ob
    obtain ⟨fa, fb, la, lb⟩ : Fits l a ∧ Fits l b ∧ lv a ≤ 9 ∧ lv b ≤ 9 := ft
    have da := dp_lt a
    have db := dp_lt b
    have i1 := txt_len hl fa
    have i2 := txt_len hl fb
    have s1 := cm_len .eq
    refine ⟨_, rfl, p, _, dx, _, _, rfl, hp, c.cl _, c.c1 _, two_one _ _, _, rfl, p, _, dx, _, _, rfl, hp, c.cl _, c.c2 _, two_oth _ _, ?_⟩
    exact ⟨va, vb, txt a, cmS .eq, txt b, rfl, oa.shownBy W hl fa (by omega) (by omega), ob.shownBy W hl fb (by omega) (by omega), by omega, q⟩
  | _ => cases kt
theorem scUnlS : FnScope ["self"] ["self"] (defScope sUnlS) := ⟨rfl, rfl, rfl, by decide +kernel, rfl, by decide +kernel, by decide +kernel⟩
theorem ok_unlS {f fB : Addr} {fd dB : FuncData} (c : ClsS K CY) (F : Fun K "shown" "Unlike.shown" sUnlS f fd) (FB : Fun K "compared" "compared" sCmp fB dB) (bB : Binds K dB ["one", "sign", "other"] []) (mB : mg "compared" = some (.ref fB)) (W : ∀ k, MOk P w K mg base 19 (CK k) "shown" (spS CK 9 k)) (n : Nat) : FnOk P w K mg base CX0 21 f fd ["self"] (spYS CK CY n (.cmp .ne)) := by
  have GB : FnOk P w K mg base CX0 20 fB dB ["one", "sign", "other"] (spCmp P w K mg base 19) := ok_cmp FB
  refine F.ok scUnlS (fun vs H Q E h => ?_) (fun cdv A outer s H vs Q E hr h => ?_)
  · obtain ⟨v, t, l, rfl, _⟩ := h
    rfl
  obtain ⟨v, t, l, rfl, kt, ob, hl, ft, hn, h10, q⟩ := h
  refine ⟨_, (@pss_one _ _ _ (@ps_ret _ _ _ _ (pe_call GB hr (by rfl) mB FB.kp bB .nil pass0 (@pa_cons _ _ _ _ _ (@pe_fld _ _ _ _ _ (pv 0) rfl) (@pa_cons _ _ _ _ _ pe_str (@pa_cons _ _ _ _ _ (@pe_fld _ _ _ _ _ (pv 0) rfl) pa_nil (by rfl)) (by rfl)) (by rfl))))), ?_⟩
  cases t with
  | cmp g a b =>
    cases kt
    obtain ⟨p, dx, va, vb, rfl, hp, oa, ob⟩ := ob
    obtain ⟨fa, fb, la, lb⟩ : Fits l a ∧ Fits l b ∧ lv a ≤ 9 ∧ lv b ≤ 9 := ft
    have da := dp_lt a
    have db := dp_lt b
    have i1 := txt_len hl fa
    have i2 := txt_len hl fb
    have s1 := cm_len .ne
    refine ⟨_, rfl, p, _, dx, _, _, rfl, hp, c.cl _, c.c1 _, two_one _ _, _, rfl, p, _, dx, _, _, rfl, hp, c.cl _, c.c2 _, two_oth _ _, ?_⟩
    exact ⟨va, vb, txt a, cmS .ne, txt b, rfl, oa.shownBy W hl fa (by omega) (by omega), ob.shownBy W hl fb (by omega) (by omega), by omega, q⟩
  | _ => cases kt
theorem scBotS : FnScope ["self"] ["self"] (defScope sBotS) := ⟨rfl, rfl, rfl, by decide +kernel, rfl, by decide +kernel, by decide +kernel⟩
theorem ok_botS {f fB : Addr} {fd dB : FuncData} (c : ClsS K CY) (F : Fun K "shown" "Both.shown" sBotS f fd) (FB : Fun K "bracketed" "bracketed" sBrs fB dB) (bB : Binds K dB ["one", "word", "other"] []) (mB : mg "bracketed_sayings" = some (.ref fB)) (n : Nat) (W : ∀ k, MOk P w K mg base (2 * n + 21) (CY k) "shown" (spYS CK CY n k)) : FnOk P w K mg base CX0 (2 * (n + 1) + 21) f fd ["self"] (spYS CK CY (n + 1) (.bin .and)) := by
  have GB : FnOk P w K mg base CX0 (2 * n + 22) fB dB ["one", "word", "other"] (spBra P w K mg base (2 * n + 21) "[ " " ]") := ok_brs FB
  refine F.ok scBotS (fun vs H Q E h => ?_) (fun cdv A outer s H vs Q E hr h => ?_)
  · obtain ⟨v, t, l, rfl, _⟩ := h
    rfl
  obtain ⟨v, t, l, rfl, kt, ob, hl, ft, hn, h10, q⟩ := h
  have hrB := hr.mono (show 2 * n + 22 ≤ 2 * (n + 1) + 20 by omega)
  refine ⟨_, (@pss_one _ _ _ (@ps_ret _ _ _ _ (pe_call GB hrB (by rfl) mB FB.kp bB .nil pass0 (@pa_cons _ _ _ _ _ (@pe_fld _ _ _ _ _ (pv 0) rfl) (@pa_cons _ _ _ _ _ pe_str (@pa_cons _ _ _ _ _ (@pe_fld _ _ _ _ _ (pv 0) rfl) pa_nil (by rfl)) (by rfl)) (by rfl))))), ?_⟩
  cases t with
  | bin g a b =>
    cases kt
    obtain ⟨p, dx, va, vb, rfl, hp, oa, ob⟩ := ob
    obtain ⟨fa, fb⟩ : FitsS l a ∧ FitsS l b := ft
    have hn : max (dps a) (dps b) + 1 < n + 1 := hn
    have h10 : max (dps a) (dps b) + 1 < 10 := h10
    have i1 := txy_len' hl fa (by omega)
    have i2 := txy_len' hl fb (by omega)
    have s1 := bn_len .and
    refine ⟨_, rfl, p, _, dx, _, _, rfl, hp, c.cl _, c.b1 _, two_one _ _, _, rfl, p, _, dx, _, _, rfl, hp, c.cl _, c.b2 _, two_oth _ _, ?_⟩
    exact ⟨va, vb, txy a, bnS .and, txy b, rfl, oa.shownBy W hl fa (by omega) (by omega), ob.shownBy W hl fb (by omega) (by omega), by omega, q⟩
  | _ => cases kt
theorem scEitS : FnScope ["self"] ["self"] (defScope sEitS) := ⟨rfl, rfl, rfl, by decide +kernel, rfl, by decide +kernel, by decide +kernel⟩
theorem ok_eitS {f fB : Addr} {fd dB : FuncData} (c : ClsS K CY) (F : Fun K "shown" "Either.shown" sEitS f fd) (FB : Fun K "bracketed" "bracketed" sBrs fB dB) (bB : Binds K dB ["one", "word", "other"] []) (mB : mg "bracketed_sayings" = some (.ref fB)) (n : Nat) (W : ∀ k, MOk P w K mg base (2 * n + 21) (CY k) "shown" (spYS CK CY n k)) : FnOk P w K mg base CX0 (2 * (n + 1) + 21) f fd ["self"] (spYS CK CY (n + 1) (.bin .or)) := by
  have GB : FnOk P w K mg base CX0 (2 * n + 22) fB dB ["one", "word", "other"] (spBra P w K mg base (2 * n + 21) "[ " " ]") := ok_brs FB
  refine F.ok scEitS (fun vs H Q E h => ?_) (fun cdv A outer s H vs Q E hr h => ?_)
  · obtain ⟨v, t, l, rfl, _⟩ := h
    rfl
  obtain ⟨v, t, l, rfl, kt, ob, hl, ft, hn, h10, q⟩ := h
  have hrB := hr.mono (show 2 * n + 22 ≤ 2 * (n + 1) + 20 by omega)
  refine ⟨_, (@pss_one _ _ _ (@ps_ret _ _ _ _ (pe_call GB hrB (by rfl) mB FB.kp bB .nil pass0 (@pa_cons _ _ _ _ _ (@pe_fld _ _ _ _ _ (pv 0) rfl) (@pa_cons _ _ _ _ _ pe_str (@pa_cons _ _ _ _ _ (@pe_fld _ _ _ _ _ (pv 0) rfl) pa_nil (by rfl)) (by rfl)) (by rfl))))), ?_⟩
  cases t with
  | bin g a b =>
    cases kt
    obtain ⟨p, dx, va, vb, rfl, hp, oa, ob⟩ := ob
    obtain ⟨fa, fb⟩ : FitsS l a ∧ FitsS l b := ft
    have hn : max (dps a) (dps b) + 1 < n + 1 := hn
    have h10 : max (dps a) (dps b) + 1 < 10 := h10
    have i1 := txy_len' hl fa (by omega)
    have i2 := txy_len' hl fb (by omega)
    have s1 := bn_len .or
    refine ⟨_, rfl, p, _, dx, _, _, rfl, hp, c.cl _, c.b1 _, two_one _ _, _, rfl, p, _, dx, _, _, rfl, hp, c.cl _, c.b2 _, two_oth _ _, ?_⟩
    exact ⟨va, vb, txy a, bnS .or, txy b, rfl, oa.shownBy W hl fa (by omega) (by omega), ob.shownBy W hl fb (by omega) (by omega), by omega, q⟩
  | _ => cases kt
theorem scNotS : FnScope ["self"] ["self"] (defScope sNotS) := ⟨rfl, rfl, rfl, by decide +kernel, rfl, by decide +kernel, by decide +kernel⟩
theorem ok_notS {f : Addr} {fd : FuncData} (c : ClsS K CY) (F : Fun K "shown" "Not.shown" sNotS f fd) (n : Nat) (W : ∀ k, MOk P w K mg base (2 * n + 21) (CY k) "shown" (spYS CK CY n k)) : FnOk P w K mg base CX0 (2 * n + 22) f fd ["self"] (spYS CK CY (n + 1) .neg) := by
  refine F.ok scNotS (fun vs H Q E h => ?_) (fun cdv A outer s H vs Q E hr h => ?_)
  · obtain ⟨v, t, l, rfl, _⟩ := h
    rfl
  obtain ⟨v, t, l, rfl, kt, ob, hl, ft, hn, h10, q⟩ := h
  refine ⟨_, (@pss_one _ _ _ (@ps_ret _ _ _ _ (pe_bm (r := rJoin K) PySem.F.plainAttrs_str PySem.F.slot_str_join PySem.F.type_str_join mt_join pe_str (@pa_cons _ _ _ _ _ (@pe_lst _ _ _ _ (@pa_cons _ _ _ _ _ pe_str (@pa_cons _ _ _ _ _ pe_str (@pa_cons _ _ _ _ _ (pe_methP0 (@pe_fld _ _ _ _ _ (pv 0) rfl) hr) (@pa_cons _ _ _ _ _ pe_str pa_nil (by rfl)) (by rfl)) (by rfl)) (by rfl))) pa_nil (by rfl))))), ?_⟩
  cases t with
  | neg t =>
    obtain ⟨p, dx, va, rfl, hp, oa⟩ := ob
    have hn : dps t + 1 < n + 1 := hn
    have h10 : dps t + 1 < 10 := h10
    have i1 := txy_len' hl (t := t) ft (by omega)
    obtain ⟨pa, dxa, fsa, rfl, ha, la, _⟩ := oa.at_
    refine ⟨rfl, _, rfl, p, _, dx, _, _, rfl, hp, c.cl _, c.n1, one_at _, pa, _, dxa, fsa, _, rfl, ha, la, W _, .ref pa, t, l, rfl, rfl, oa, hl, ft, by omega, by omega, fun H1 t1 => ?_⟩
    refine ⟨by show 4 ≤ sizeLine; decide, fun z hz => ⟨_, z, ["[", "not", txy t, "]"], rfl, rfl, SqL.of upd_same, ?_, ?_⟩⟩
    · have e1 : ("[" : Str).length = 1 := by decide +kernel
      have e2 : ("]" : Str).length = 1 := by decide +kernel
      have e4 : ("not" : Str).length = 3 := by decide +kernel
      have e3 := sp_len.1
      simp only [List.map_cons, List.map_nil, List.sum_cons, List.sum_nil, List.length_cons, List.length_nil, e1, e2, e3, e4]
      omega
    · rw [join4]
      exact q _ (t1.trans (same_new hz _))
  | _ => cases kt
def spYN (CK : Kd → Addr) (CY : Ks → Addr) (n : Nat) (k : Ks) : Sp := fun vs H Q _ => ∃ (v : V) (t : Sy) (l : List Str), vs = [v] ∧ ks t = k ∧ ObjS CK CY H t v ∧ FitsS l t ∧ lvs t ≤ 60 ∧ dps t < n ∧ ∀ (p : Addr) (H' : Hp) (out : List Str), Same H H' → H p = none → IsNorm (nmY t) out → H' p = some (.lst (out.map V.str)) → Q (.ref p) H'
theorem spYN_none (k : Ks) : ∀ vs H Q E, ¬ spYN CK CY 0 k vs H Q E := fun vs H Q E h => by
  obtain ⟨v, t, l, _, _, _, _, _, h1, _⟩ := h
  omega
theorem ObjS.namedBy {H : Hp} {t : Sy} {v : V} {l : List Str} {n r : Nat} (W : ∀ k, MOk P w K mg base r (CY k) "named" (spYN CK CY n k)) (ob : ObjS CK CY H t v) (ft : FitsS l t) (hv : lvs t ≤ 60) (hd : dps t < n) : NamedBy P w K mg base r H v (nmY t) := by
  obtain ⟨p, dx, fs, rfl, hp, _, ls⟩ := ob.at_
  exact ⟨p, _, dx, fs, _, rfl, hp, ls, W _, fun H' Q s k => ⟨.ref p, t, l, rfl, rfl, ob.same s, ft, hv, hd, k⟩⟩
theorem scSayN : FnScope ["self"] ["self"] (defScope sSayN) := ⟨rfl, rfl, rfl, by decide +kernel, rfl, by decide +kernel, by decide +kernel⟩
theorem ok_sayN {f : Addr} {fd : FuncData} (F : Fun K "named" "Saying.named" sSayN f fd) (n : Nat) : FnOk P w K mg base CX0 1 f fd ["self"] (spYN CK CY n .yes) := by
  refine F.ok scSayN (fun vs H Q E h => ?_) (fun cdv A outer s H vs Q E hr h => ?_)
  · obtain ⟨v, t, l, rfl, _⟩ := h
    rfl
  obtain ⟨v, t, l, rfl, kt, ob, ft, hv, hn, q⟩ := h
  refine ⟨_, (@pss_one _ _ _ (@ps_ret _ _ _ _ (@pe_lst _ _ _ _ pa_nil))), ?_⟩
  cases t with
  | yes => exact ⟨Nat.zero_le _, fun z hz => q z _ [] (same_new hz _) hz IsNorm.nil upd_same⟩
  | _ => cases kt
theorem scPaiN : FnScope ["self"] ["self"] (defScope sPaiN) := ⟨rfl, rfl, rfl, by decide +kernel, rfl, by decide +kernel, by decide +kernel⟩
theorem ok_cmpN {f fB : Addr} {fd dB : FuncData} (B : Bl mg) (c : ClsS K CY) (F : Fun K "named" "Pairing.named" sPaiN f fd) (FB : Fun K "names_of_two" "names_of_two" sTwoO fB dB) (bB : Binds K dB ["one", "other"] []) (mB : mg "names_of_two" = some (.ref fB)) (W : ∀ k, MOk P w K mg base 19 (CK k) "named" (spN CK 9 k)) (n : Nat) (g : Cm) : FnOk P w K mg base CX0 21 f fd ["self"] (spYN CK CY n (.cmp g)) := by
  have GB : FnOk P w K mg base CX0 20 fB dB ["one", "other"] (spTwo P w K mg base 19) := ok_twoO B FB
  refine F.ok scPaiN (fun vs H Q E h => ?_) (fun cdv A outer s H vs Q E hr h => ?_)
  · obtain ⟨v, t, l, rfl, _⟩ := h
    rfl
  obtain ⟨v, t, l, rfl, kt, ob, ft, hv, hn, q⟩ := h
  have hrB := hr
  refine ⟨_, (@pss_one _ _ _ (@ps_ret _ _ _ _ (pe_call GB hrB (by rfl) mB FB.kp bB .nil pass0 (@pa_cons _ _ _ _ _ (@pe_fld _ _ _ _ _ (pv 0) rfl) (@pa_cons _ _ _ _ _ (@pe_fld _ _ _ _ _ (pv 0) rfl) pa_nil (by rfl)) (by rfl))))), ?_⟩
  cases t with
  | cmp g' a b =>
    cases kt
    obtain ⟨p, dx, va, vb, rfl, hp, oa, ob⟩ := ob
    obtain ⟨fa, fb, la, lb⟩ : Fits l a ∧ Fits l b ∧ lv a ≤ 9 ∧ lv b ≤ 9 := ft
    have da := dp_lt a
    have db := dp_lt b
    have m1 := nmT_len a
    have m2 := nmT_len b
    refine ⟨_, rfl, p, _, dx, _, _, rfl, hp, c.cl _, c.c1 _, two_one _ _, _, rfl, p, _, dx, _, _, rfl, hp, c.cl _, c.c2 _, two_oth _ _, ?_⟩
    exact ⟨va, vb, nmT a, nmT b, rfl, oa.namedBy W (by omega) (by omega), ob.namedBy W (by omega) (by omega), by omega, q⟩
  | _ => cases kt
theorem ok_binN {f fB : Addr} {fd dB : FuncData} (B : Bl mg) (c : ClsS K CY) (F : Fun K "named" "Pairing.named" sPaiN f fd) (FB : Fun K "names_of_two" "names_of_two" sTwoO fB dB) (bB : Binds K dB ["one", "other"] []) (mB : mg "names_of_two" = some (.ref fB)) (n : Nat) (W : ∀ k, MOk P w K mg base (2 * n + 21) (CY k) "named" (spYN CK CY n k)) (g : Bn) : FnOk P w K mg base CX0 (2 * (n + 1) + 21) f fd ["self"] (spYN CK CY (n + 1) (.bin g)) := by
  have GB : FnOk P w K mg base CX0 (2 * n + 22) fB dB ["one", "other"] (spTwo P w K mg base (2 * n + 21)) := ok_twoO B FB
  refine F.ok scPaiN (fun vs H Q E h => ?_) (fun cdv A outer s H vs Q E hr h => ?_)
  · obtain ⟨v, t, l, rfl, _⟩ := h
    rfl
  obtain ⟨v, t, l, rfl, kt, ob, ft, hv, hn, q⟩ := h
  have hrB := hr.mono (show 2 * n + 22 ≤ 2 * (n + 1) + 20 by omega)
  refine ⟨_, (@pss_one _ _ _ (@ps_ret _ _ _ _ (pe_call GB hrB (by rfl) mB FB.kp bB .nil pass0 (@pa_cons _ _ _ _ _ (@pe_fld _ _ _ _ _ (pv 0) rfl) (@pa_cons _ _ _ _ _ (@pe_fld _ _ _ _ _ (pv 0) rfl) pa_nil (by rfl)) (by rfl))))), ?_⟩
  cases t with
  | bin g' a b =>
    cases kt
    obtain ⟨p, dx, va, vb, rfl, hp, oa, ob⟩ := ob
    obtain ⟨fa, fb⟩ : FitsS l a ∧ FitsS l b := ft
    have hn : max (dps a) (dps b) + 1 < n + 1 := hn
    have hv : lvs a + lvs b ≤ 60 := hv
    have m1 := nmY_len a
    have m2 := nmY_len b
    refine ⟨_, rfl, p, _, dx, _, _, rfl, hp, c.cl _, c.b1 _, two_one _ _, _, rfl, p, _, dx, _, _, rfl, hp, c.cl _, c.b2 _, two_oth _ _, ?_⟩
    exact ⟨va, vb, nmY a, nmY b, rfl, oa.namedBy W fa (by omega) (by omega), ob.namedBy W fb (by omega) (by omega), by omega, q⟩
  | _ => cases kt
theorem scNotN : FnScope ["self"] ["self"] (defScope sNotN) := ⟨rfl, rfl, rfl, by decide +kernel, rfl, by decide +kernel, by decide +kernel⟩
theorem ok_notN {f : Addr} {fd : FuncData} (c : ClsS K CY) (F : Fun K "named" "Not.named" sNotN f fd) (n : Nat) (W : ∀ k, MOk P w K mg base (2 * n + 21) (CY k) "named" (spYN CK CY n k)) : FnOk P w K mg base CX0 (2 * n + 22) f fd ["self"] (spYN CK CY (n + 1) .neg) := by
  refine F.ok scNotN (fun vs H Q E h => ?_) (fun cdv A outer s H vs Q E hr h => ?_)
  · obtain ⟨v, t, l, rfl, _⟩ := h
    rfl
  obtain ⟨v, t, l, rfl, kt, ob, ft, hv, hn, q⟩ := h
  refine ⟨_, (@pss_one _ _ _ (@ps_ret _ _ _ _ (pe_methP0 (@pe_fld _ _ _ _ _ (pv 0) rfl) hr))), ?_⟩
  cases t with
  | neg t =>
    obtain ⟨p, dx, va, rfl, hp, oa⟩ := ob
    have hn : dps t + 1 < n + 1 := hn
    obtain ⟨pa, dxa, fsa, rfl, ha, _, la⟩ := oa.at_
    exact ⟨_, rfl, p, _, dx, _, _, rfl, hp, c.cl _, c.n1, one_at _, pa, _, dxa, fsa, _, rfl, ha, la, W _, .ref pa, t, l, rfl, rfl, oa, ft, hv, by omega, q⟩
  | _ => cases kt
end
end Nw
namespace Nw
open PySem L2
theorem one_h (a : V) : (oneF a).lookup ("holds" : Str) = none := by unfold oneF; rw [lookup_putF, if_neg (by decide +kernel)]; rfl
theorem two_h (a b : V) : (twoF a b).lookup ("holds" : Str) = none := by unfold twoF; rw [lookup_putF, if_neg (by decide +kernel), lookup_putF, if_neg (by decide +kernel)]; rfl
theorem ObjS.atH {CK : Kd → Addr} {CY : Ks → Addr} {H : Hp} : ∀ {t : Sy} {v : V}, ObjS CK CY H t v → ∃ p dx fs, v = .ref p ∧ H p = some (.ins (CY (ks t)) dx fs) ∧ fs.lookup ("holds" : Str) = none
  | .yes, v, h => by
    obtain ⟨p, dx, e, h⟩ := h
    exact ⟨p, dx, _, e, h, rfl⟩
  | .cmp c l r, v, h => by
    obtain ⟨p, dx, a, b, e, h, h1, h2⟩ := h
    exact ⟨p, dx, _, e, h, two_h _ _⟩
  | .neg t, v, h => by
    obtain ⟨p, dx, a, e, h, h1⟩ := h
    exact ⟨p, dx, _, e, h, one_h _⟩
  | .bin g l r, v, h => by
    obtain ⟨p, dx, a, b, e, h, h1, h2⟩ := h
    exact ⟨p, dx, _, e, h, two_h _ _⟩
theorem dec_int (a b : Int) : decide (V.int a = V.int b) = decide (a = b) := by
  by_cases h : a = b
  · rw [h, decide_eq_true rfl, decide_eq_true rfl]
  · rw [decide_eq_false h, decide_eq_false fun z => h (V.int.inj z)]
section
variable {P : Program} {w : World} {K : PySem.W.Frag} {mg : Str → Option Value} {base : Heap} {CK : Kd → Addr} {CY : Ks → Addr}
def spH (CK : Kd → Addr) (CY : Ks → Addr) (n : Nat) (k : Ks) : Sp := fun vs H Q _ => ∃ (v : V) (d : Addr) (t : Sy) (kvs : List (Key × V)) (l : List Str) (vf : Str → Int), vs = [v, .ref d] ∧ ks t = k ∧ ObjS CK CY H t v ∧ H d = some (.dK kvs) ∧ ValsOk kvs l vf ∧ FitsS l t ∧ dps t < n ∧ Q (.bl (hol vf t)) H
theorem spH_none (k : Ks) : ∀ vs H Q E, ¬ spH CK CY 0 k vs H Q E := fun vs H Q E h => by
  obtain ⟨v, d, t, kvs, l, vf, _, _, _, _, _, _, h1, _⟩ := h
  omega
def spSayH : Sp := fun vs H Q _ => ∃ (x : Addr) (v : V), vs = [.ref x, v] ∧ Q (.bl true) H
theorem scSayH : FnScope ["self", "values"] ["self", "values"] (defScope sSayH) := ⟨rfl, rfl, rfl, by decide +kernel, rfl, by decide +kernel, by decide +kernel⟩
theorem ok_sayH {f : Addr} {fd : FuncData} (F : Fun K "holds" "Saying.holds" sSayH f fd) : FnOk P w K mg base CX0 1 f fd ["self", "values"] spSayH := by
  refine F.ok scSayH (fun vs H Q E h => ?_) (fun cdv A outer s H vs Q E hr h => ?_)
  · obtain ⟨x, v, rfl, _⟩ := h
    rfl
  obtain ⟨x, v, rfl, k⟩ := h
  exact ⟨_, (@pss_one _ _ _ (@ps_ret _ _ _ _ pe_bl)), k⟩
theorem ok_yesH {f : Addr} {fd : FuncData} (F : Fun K "holds" "Saying.holds" sSayH f fd) (n : Nat) : FnOk P w K mg base CX0 1 f fd ["self", "values"] (spH CK CY n .yes) := (ok_sayH F).imp fun vs H Q E h => by
  obtain ⟨v, d, t, kvs, l, vf, rfl, kt, ob, hd, O, ft, hn, q⟩ := h
  cases t with
  | yes =>
    obtain ⟨p, dx, rfl, hp⟩ := ob
    exact ⟨p, _, rfl, q⟩
  | _ => cases kt
theorem scLesH : FnScope ["self", "values"] ["self", "values"] (defScope sLesH) := ⟨rfl, rfl, rfl, by decide +kernel, rfl, by decide +kernel, by decide +kernel⟩
theorem ok_lesH {f : Addr} {fd : FuncData} (c : ClsS K CY) (F : Fun K "holds" "Less.holds" sLesH f fd) (W : ∀ k, MOk P w K mg base 10 (CK k) "worth" (spW CK 9 k)) (n : Nat) : FnOk P w K mg base CX0 11 f fd ["self", "values"] (spH CK CY n (.cmp .lt)) := by
  refine F.ok scLesH (fun vs H Q E h => ?_) (fun cdv A outer s H vs Q E hr h => ?_)
  · obtain ⟨v, d, t, kvs, l, vf, rfl, _⟩ := h
    rfl
  obtain ⟨v, d, t, kvs, l, vf, rfl, kt, ob, hd, O, ft, hn, q⟩ := h
  refine ⟨_, (@pss_one _ _ _ (@ps_ret _ _ _ _ (@pe_cmpR _ _ _ _ _ _ _ _ op_lt (pe_methP (@pe_fld _ _ _ _ _ (pv 0) rfl) hr (@pa_cons _ _ _ _ _ (pv 1) pa_nil (by rfl))) (pe_methP (@pe_fld _ _ _ _ _ (pv 0) rfl) hr (@pa_cons _ _ _ _ _ (pv 1) pa_nil (by rfl))) (nomark _)))), ?_⟩
  cases t with
  | cmp g a b =>
    cases kt
    obtain ⟨p, dx, va, vb, rfl, hp, oa, ob⟩ := ob
    obtain ⟨fa, fb, la9, lb9⟩ : Fits l a ∧ Fits l b ∧ lv a ≤ 9 ∧ lv b ≤ 9 := ft
    have da := dp_lt a
    have db := dp_lt b
    obtain ⟨pa, dxa, fsa, rfl, ha, la⟩ := oa.atW
    obtain ⟨pb, dxb, fsb, rfl, hb, lb⟩ := ob.atW
    refine ⟨_, rfl, p, _, dx, _, _, rfl, hp, c.cl _, c.c1 _, two_one _ _, pa, _, dxa, fsa, _, rfl, ha, la, W _, _, rfl, _, d, a, kvs, l, vf, rfl, rfl, oa, hd, O, fa, by omega, by omega, ?_⟩
    refine ⟨_, rfl, p, _, dx, _, _, rfl, hp, c.cl _, c.c2 _, two_oth _ _, pb, _, dxb, fsb, _, rfl, hb, lb, W _, _, rfl, _, d, b, kvs, l, vf, rfl, rfl, ob, hd, O, fb, by omega, by omega, ?_⟩
    exact ⟨_, _, rfl, rfl, q⟩
  | _ => cases kt
theorem scAtmH : FnScope ["self", "values"] ["self", "values"] (defScope sAtmH) := ⟨rfl, rfl, rfl, by decide +kernel, rfl, by decide +kernel, by decide +kernel⟩
theorem ok_atmH {f : Addr} {fd : FuncData} (c : ClsS K CY) (F : Fun K "holds" "AtMost.holds" sAtmH f fd) (W : ∀ k, MOk P w K mg base 10 (CK k) "worth" (spW CK 9 k)) (n : Nat) : FnOk P w K mg base CX0 11 f fd ["self", "values"] (spH CK CY n (.cmp .le)) := by
  refine F.ok scAtmH (fun vs H Q E h => ?_) (fun cdv A outer s H vs Q E hr h => ?_)
  · obtain ⟨v, d, t, kvs, l, vf, rfl, _⟩ := h
    rfl
  obtain ⟨v, d, t, kvs, l, vf, rfl, kt, ob, hd, O, ft, hn, q⟩ := h
  refine ⟨_, (@pss_one _ _ _ (@ps_ret _ _ _ _ (@pe_cmpR _ _ _ _ _ _ _ _ op_le (pe_methP (@pe_fld _ _ _ _ _ (pv 0) rfl) hr (@pa_cons _ _ _ _ _ (pv 1) pa_nil (by rfl))) (pe_methP (@pe_fld _ _ _ _ _ (pv 0) rfl) hr (@pa_cons _ _ _ _ _ (pv 1) pa_nil (by rfl))) (nomark _)))), ?_⟩
  cases t with
  | cmp g a b =>
    cases kt
    obtain ⟨p, dx, va, vb, rfl, hp, oa, ob⟩ := ob
    obtain ⟨fa, fb, la9, lb9⟩ : Fits l a ∧ Fits l b ∧ lv a ≤ 9 ∧ lv b ≤ 9 := ft
    have da := dp_lt a
    have db := dp_lt b
    obtain ⟨pa, dxa, fsa, rfl, ha, la⟩ := oa.atW
    obtain ⟨pb, dxb, fsb, rfl, hb, lb⟩ := ob.atW
    refine ⟨_, rfl, p, _, dx, _, _, rfl, hp, c.cl _, c.c1 _, two_one _ _, pa, _, dxa, fsa, _, rfl, ha, la, W _, _, rfl, _, d, a, kvs, l, vf, rfl, rfl, oa, hd, O, fa, by omega, by omega, ?_⟩
    refine ⟨_, rfl, p, _, dx, _, _, rfl, hp, c.cl _, c.c2 _, two_oth _ _, pb, _, dxb, fsb, _, rfl, hb, lb, W _, _, rfl, _, d, b, kvs, l, vf, rfl, rfl, ob, hd, O, fb, by omega, by omega, ?_⟩
    exact ⟨_, _, rfl, rfl, q⟩
  | _ => cases kt
theorem scEquH : FnScope ["self", "values"] ["self", "values"] (defScope sEquH) := ⟨rfl, rfl, rfl, by decide +kernel, rfl, by decide +kernel, by decide +kernel⟩
theorem ok_equH {f : Addr} {fd : FuncData} (c : ClsS K CY) (F : Fun K "holds" "Equal.holds" sEquH f fd) (W : ∀ k, MOk P w K mg base 10 (CK k) "worth" (spW CK 9 k)) (n : Nat) : FnOk P w K mg base CX0 11 f fd ["self", "values"] (spH CK CY n (.cmp .eq)) := by
  refine F.ok scEquH (fun vs H Q E h => ?_) (fun cdv A outer s H vs Q E hr h => ?_)
  · obtain ⟨v, d, t, kvs, l, vf, rfl, _⟩ := h
    rfl
  obtain ⟨v, d, t, kvs, l, vf, rfl, kt, ob, hd, O, ft, hn, q⟩ := h
  refine ⟨_, (@pss_one _ _ _ (@ps_ret _ _ _ _ (@pe_cmpR _ _ _ _ _ _ _ _ op_eq (pe_methP (@pe_fld _ _ _ _ _ (pv 0) rfl) hr (@pa_cons _ _ _ _ _ (pv 1) pa_nil (by rfl))) (pe_methP (@pe_fld _ _ _ _ _ (pv 0) rfl) hr (@pa_cons _ _ _ _ _ (pv 1) pa_nil (by rfl))) (nomark _)))), ?_⟩
  cases t with
  | cmp g a b =>
    cases kt
    obtain ⟨p, dx, va, vb, rfl, hp, oa, ob⟩ := ob
    obtain ⟨fa, fb, la9, lb9⟩ : Fits l a ∧ Fits l b ∧ lv a ≤ 9 ∧ lv b ≤ 9 := ft
    have da := dp_lt a
    have db := dp_lt b
    obtain ⟨pa, dxa, fsa, rfl, ha, la⟩ := oa.atW
    obtain ⟨pb, dxb, fsb, rfl, hb, lb⟩ := ob.atW
    refine ⟨_, rfl, p, _, dx, _, _, rfl, hp, c.cl _, c.c1 _, two_one _ _, pa, _, dxa, fsa, _, rfl, ha, la, W _, _, rfl, _, d, a, kvs, l, vf, rfl, rfl, oa, hd, O, fa, by omega, by omega, ?_⟩
    refine ⟨_, rfl, p, _, dx, _, _, rfl, hp, c.cl _, c.c2 _, two_oth _ _, pb, _, dxb, fsb, _, rfl, hb, lb, W _, _, rfl, _, d, b, kvs, l, vf, rfl, rfl, ob, hd, O, fb, by omega, by omega, ?_⟩
    have e := dec_int (val vf a) (val vf b)
    refine ⟨rfl, ?_⟩
    rw [e]
    exact q
  | _ => cases kt
theorem scUnlH : FnScope ["self", "values"] ["self", "values"] (defScope sUnlH) := ⟨rfl, rfl, rfl, by decide +kernel, rfl, by decide +kernel, by decide +kernel⟩
theorem ok_unlH {f : Addr} {fd : FuncData} (c : ClsS K CY) (F : Fun K "holds" "Unlike.holds" sUnlH f fd) (W : ∀ k, MOk P w K mg base 10 (CK k) "worth" (spW CK 9 k)) (n : Nat) : FnOk P w K mg base CX0 11 f fd ["self", "values"] (spH CK CY n (.cmp .ne)) := by
  refine F.ok scUnlH (fun vs H Q E h => ?_) (fun cdv A outer s H vs Q E hr h => ?_)
  · obtain ⟨v, d, t, kvs, l, vf, rfl, _⟩ := h
    rfl
  obtain ⟨v, d, t, kvs, l, vf, rfl, kt, ob, hd, O, ft, hn, q⟩ := h
  refine ⟨_, (@pss_one _ _ _ (@ps_ret _ _ _ _ (@pe_cmpR _ _ _ _ _ _ _ _ op_ne (pe_methP (@pe_fld _ _ _ _ _ (pv 0) rfl) hr (@pa_cons _ _ _ _ _ (pv 1) pa_nil (by rfl))) (pe_methP (@pe_fld _ _ _ _ _ (pv 0) rfl) hr (@pa_cons _ _ _ _ _ (pv 1) pa_nil (by rfl))) (nomark _)))), ?_⟩
  cases t with
  | cmp g a b =>
    cases kt
    obtain ⟨p, dx, va, vb, rfl, hp, oa, ob⟩ := ob
    obtain ⟨fa, fb, la9, lb9⟩ : Fits l a ∧ Fits l b ∧ lv a ≤ 9 ∧ lv b ≤ 9 := ft
    have da := dp_lt a
    have db := dp_lt b
    obtain ⟨pa, dxa, fsa, rfl, ha, la⟩ := oa.atW
    obtain ⟨pb, dxb, fsb, rfl, hb, lb⟩ := ob.atW
    refine ⟨_, rfl, p, _, dx, _, _, rfl, hp, c.cl _, c.c1 _, two_one _ _, pa, _, dxa, fsa, _, rfl, ha, la, W _, _, rfl, _, d, a, kvs, l, vf, rfl, rfl, oa, hd, O, fa, by omega, by omega, ?_⟩
    refine ⟨_, rfl, p, _, dx, _, _, rfl, hp, c.cl _, c.c2 _, two_oth _ _, pb, _, dxb, fsb, _, rfl, hb, lb, W _, _, rfl, _, d, b, kvs, l, vf, rfl, rfl, ob, hd, O, fb, by omega, by omega, ?_⟩
    have e := dec_int (val vf a) (val vf b)
    refine ⟨rfl, ?_⟩
    rw [e]
    exact q
  | _ => cases kt
theorem scBotH : FnScope ["self", "values"] ["self", "values"] (defScope sBotH) := ⟨rfl, rfl, rfl, by decide +kernel, rfl, by decide +kernel, by decide +kernel⟩
theorem ok_botH {f : Addr} {fd : FuncData} (c : ClsS K CY) (F : Fun K "holds" "Both.holds" sBotH f fd) (n : Nat) (W : ∀ k, MOk P w K mg base (n + 11) (CY k) "holds" (spH CK CY n k)) : FnOk P w K mg base CX0 (n + 12) f fd ["self", "values"] (spH CK CY (n + 1) (.bin .and)) := by
  refine F.ok scBotH (fun vs H Q E h => ?_) (fun cdv A outer s H vs Q E hr h => ?_)
  · obtain ⟨v, d, t, kvs, l, vf, rfl, _⟩ := h
    rfl
  obtain ⟨v, d, t, kvs, l, vf, rfl, kt, ob, hd, O, ft, hn, q⟩ := h
  refine ⟨_, (@pss_one _ _ _ (@ps_ret _ _ _ _ (@pe_and _ _ _ _ _ _ _ (pe_methP (@pe_fld _ _ _ _ _ (pv 0) rfl) hr (@pa_cons _ _ _ _ _ (pv 1) pa_nil (by rfl))) (@pe_one _ _ _ _ _ (pe_methP (@pe_fld _ _ _ _ _ (pv 0) rfl) hr (@pa_cons _ _ _ _ _ (pv 1) pa_nil (by rfl))))))), ?_⟩
  cases t with
  | bin g a b =>
    cases kt
    obtain ⟨p, dx, va, vb, rfl, hp, oa, ob⟩ := ob
    obtain ⟨fa, fb⟩ : FitsS l a ∧ FitsS l b := ft
    have hn : max (dps a) (dps b) + 1 < n + 1 := hn
    obtain ⟨pa, dxa, fsa, rfl, ha, la⟩ := oa.atH
    obtain ⟨pb, dxb, fsb, rfl, hb, lb⟩ := ob.atH
    refine ⟨_, rfl, p, _, dx, _, _, rfl, hp, c.cl _, c.b1 _, two_one _ _, pa, _, dxa, fsa, _, rfl, ha, la, W _, _, rfl, _, d, a, kvs, l, vf, rfl, rfl, oa, hd, O, fa, by omega, _, rfl, ?_⟩
    have q : Q (.bl (bnB .and (hol vf a) (hol vf b))) H := q
    cases ha' : hol vf a with
    | false =>
      rw [ha'] at q
      exact q
    | true =>
      rw [ha'] at q
      exact ⟨_, rfl, p, _, dx, _, _, rfl, hp, c.cl _, c.b2 _, two_oth _ _, pb, _, dxb, fsb, _, rfl, hb, lb, W _, _, rfl, _, d, b, kvs, l, vf, rfl, rfl, ob, hd, O, fb, by omega, q⟩
  | _ => cases kt
theorem scEitH : FnScope ["self", "values"] ["self", "values"] (defScope sEitH) := ⟨rfl, rfl, rfl, by decide +kernel, rfl, by decide +kernel, by decide +kernel⟩
theorem ok_eitH {f : Addr} {fd : FuncData} (c : ClsS K CY) (F : Fun K "holds" "Either.holds" sEitH f fd) (n : Nat) (W : ∀ k, MOk P w K mg base (n + 11) (CY k) "holds" (spH CK CY n k)) : FnOk P w K mg base CX0 (n + 12) f fd ["self", "values"] (spH CK CY (n + 1) (.bin .or)) := by
  refine F.ok scEitH (fun vs H Q E h => ?_) (fun cdv A outer s H vs Q E hr h => ?_)
  · obtain ⟨v, d, t, kvs, l, vf, rfl, _⟩ := h
    rfl
  obtain ⟨v, d, t, kvs, l, vf, rfl, kt, ob, hd, O, ft, hn, q⟩ := h
  refine ⟨_, (@pss_one _ _ _ (@ps_ret _ _ _ _ (@pe_or _ _ _ _ _ _ _ (pe_methP (@pe_fld _ _ _ _ _ (pv 0) rfl) hr (@pa_cons _ _ _ _ _ (pv 1) pa_nil (by rfl))) (@pe_one _ _ _ _ _ (pe_methP (@pe_fld _ _ _ _ _ (pv 0) rfl) hr (@pa_cons _ _ _ _ _ (pv 1) pa_nil (by rfl))))))), ?_⟩
  cases t with
  | bin g a b =>
    cases kt
    obtain ⟨p, dx, va, vb, rfl, hp, oa, ob⟩ := ob
    obtain ⟨fa, fb⟩ : FitsS l a ∧ FitsS l b := ft
    have hn : max (dps a) (dps b) + 1 < n + 1 := hn
    obtain ⟨pa, dxa, fsa, rfl, ha, la⟩ := oa.atH
    obtain ⟨pb, dxb, fsb, rfl, hb, lb⟩ := ob.atH
    refine ⟨_, rfl, p, _, dx, _, _, rfl, hp, c.cl _, c.b1 _, two_one _ _, pa, _, dxa, fsa, _, rfl, ha, la, W _, _, rfl, _, d, a, kvs, l, vf, rfl, rfl, oa, hd, O, fa, by omega, _, rfl, ?_⟩
    have q : Q (.bl (bnB .or (hol vf a) (hol vf b))) H := q
    cases ha' : hol vf a with
    | true =>
      rw [ha'] at q
      exact q
    | false =>
      rw [ha'] at q
      exact ⟨_, rfl, p, _, dx, _, _, rfl, hp, c.cl _, c.b2 _, two_oth _ _, pb, _, dxb, fsb, _, rfl, hb, lb, W _, _, rfl, _, d, b, kvs, l, vf, rfl, rfl, ob, hd, O, fb, by omega, q⟩
  | _ => cases kt
theorem scNotH : FnScope ["self", "values"] ["self", "values"] (defScope sNotH) := ⟨rfl, rfl, rfl, by decide +kernel, rfl, by decide +kernel, by decide +kernel⟩
theorem ok_notH {f : Addr} {fd : FuncData} (c : ClsS K CY) (F : Fun K "holds" "Not.holds" sNotH f fd) (n : Nat) (W : ∀ k, MOk P w K mg base (n + 11) (CY k) "holds" (spH CK CY n k)) : FnOk P w K mg base CX0 (n + 12) f fd ["self", "values"] (spH CK CY (n + 1) .neg) := by
  refine F.ok scNotH (fun vs H Q E h => ?_) (fun cdv A outer s H vs Q E hr h => ?_)
  · obtain ⟨v, d, t, kvs, l, vf, rfl, _⟩ := h
    rfl
  obtain ⟨v, d, t, kvs, l, vf, rfl, kt, ob, hd, O, ft, hn, q⟩ := h
  refine ⟨_, (@pss_one _ _ _ (@ps_ret _ _ _ _ (@pe_not _ _ _ _ (pe_methP (@pe_fld _ _ _ _ _ (pv 0) rfl) hr (@pa_cons _ _ _ _ _ (pv 1) pa_nil (by rfl)))))), ?_⟩
  cases t with
  | neg a =>
    obtain ⟨p, dx, va, rfl, hp, oa⟩ := ob
    have ft : FitsS l a := ft
    have hn : dps a + 1 < n + 1 := hn
    obtain ⟨pa, dxa, fsa, rfl, ha, la⟩ := oa.atH
    exact ⟨_, rfl, p, _, dx, _, _, rfl, hp, c.cl _, c.n1, one_at _, pa, _, dxa, fsa, _, rfl, ha, la, W _, _, rfl, _, d, a, kvs, l, vf, rfl, rfl, oa, hd, O, ft, by omega, _, rfl, q⟩
  | _ => cases kt
end
end Nw
namespace Nw
open PySem L2
section
variable {P : Program} {w : World} {K : PySem.W.Frag} {mg : Str → Option Value} {base : Heap} {CK : Kd → Addr} {CY : Ks → Addr}
theorem scPaiI : FnScope ["self", "one", "other"] ["self", "one", "other"] (defScope sPaiI) := ⟨rfl, rfl, rfl, by decide +kernel, rfl, by decide +kernel, by decide +kernel⟩
theorem ok_paiI {f C : Addr} {fd : FuncData} (c : Cls K C) (c1 : NoAttr K C "one") (c2 : NoAttr K C "other") (F : Fun K "__init__" "Pairing.__init__" sPaiI f fd) : FnOk P w K mg base CX0 1 f fd ["self", "one", "other"] (spTwoI C) := by
  refine F.ok scPaiI (fun vs H Q E h => ?_) (fun cdv A outer s H vs Q E hr h => ?_)
  · obtain ⟨x, dx, a, b, rfl, _⟩ := h
    rfl
  obtain ⟨x, dx, a, b, rfl, hx, k⟩ := h
  refine ⟨_, (@pss_cons _ _ _ _ _ (@ps_fld _ _ _ _ _ _ _ _ (pv 0) (pv 1) rfl) (@pss_one _ _ _ (@ps_fld _ _ _ _ _ _ _ _ (pv 0) (pv 2) rfl))), ?_⟩
  refine ⟨_, rfl, _, rfl, x, _, dx, _, rfl, hx, c, c1, (by show 0 < 1000; decide), ?_⟩
  refine ⟨_, rfl, _, rfl, x, _, dx, _, rfl, upd_same, c, c2, Nat.lt_of_le_of_lt (length_putF _ _ _) (by show 1 < 1000; decide), ?_⟩
  exact k _ upd_same fun b hb => by rw [upd_ne hb, upd_ne hb]
def spNotI (C : Addr) : Sp := fun vs H Q _ => ∃ (x dx : Addr) (a : V), vs = [.ref x, a] ∧ H x = some (.ins C dx []) ∧ Q .non (upd H x (.ins C dx (oneF a)))
theorem scNotI : FnScope ["self", "one"] ["self", "one"] (defScope sNotI) := ⟨rfl, rfl, rfl, by decide +kernel, rfl, by decide +kernel, by decide +kernel⟩
theorem ok_notI {f : Addr} {fd : FuncData} (c : ClsS K CY) (F : Fun K "__init__" "Not.__init__" sNotI f fd) : FnOk P w K mg base CX0 1 f fd ["self", "one"] (spNotI (CY .neg)) := by
  refine F.ok scNotI (fun vs H Q E h => ?_) (fun cdv A outer s H vs Q E hr h => ?_)
  · obtain ⟨x, dx, a, rfl, _⟩ := h
    rfl
  obtain ⟨x, dx, a, rfl, hx, k⟩ := h
  refine ⟨_, (@pss_one _ _ _ (@ps_fld _ _ _ _ _ _ _ _ (pv 0) (pv 1) rfl)), ?_⟩
  exact ⟨_, rfl, _, rfl, x, _, dx, _, rfl, hx, c.cl _, c.n1, (by show 0 < 1000; decide), k⟩
structure MakerS (K : PySem.W.Frag) (mg : Str → Option Value) (CY : Ks → Addr) (fP fN : Addr) (dP dN : FuncData) : Prop where
  cls : ClsS K CY
  mkP : ∀ c, Mk K (CY (.cmp c)) fP
  mkB : ∀ c, Mk K (CY (.bin c)) fP
  mkN : Mk K (CY .neg) fN
  mkY : Mk0 K (CY .yes)
  gY : mg "Saying" = some (.ref (CY .yes))
  gL : mg "Less" = some (.ref (CY (.cmp .lt)))
  gA : mg "AtMost" = some (.ref (CY (.cmp .le)))
  gE : mg "Equal" = some (.ref (CY (.cmp .eq)))
  gU : mg "Unlike" = some (.ref (CY (.cmp .ne)))
  gB : mg "Both" = some (.ref (CY (.bin .and)))
  gO : mg "Either" = some (.ref (CY (.bin .or)))
  gN : mg "Not" = some (.ref (CY .neg))
  FP : Fun K "__init__" "Pairing.__init__" sPaiI fP dP
  FN : Fun K "__init__" "Not.__init__" sNotI fN dN
  bP : Binds K dP ["self", "one", "other"] []
  bN : Binds K dN ["self", "one"] []
end
end Nw
namespace Nw
open PySem L2
section
variable {P : Program} {w : World} {K : PySem.W.Frag} {mg : Str → Option Value} {base : Heap} {CK : Kd → Addr} {CY : Ks → Addr}
theorem _root_.L2.MOk.mono {k k' : Nat} {C : Addr} {m : Str} {sp : Sp} (M : MOk P w K mg base k C m sp) (h : k ≤ k') : MOk P w K mg base k' C m sp := by
  obtain ⟨c, f, fd, ps, a, b, d⟩ := M
  exact ⟨c, f, fd, ps, a, b.mono h, d⟩
def spTxy (K : PySem.W.Frag) (n : Nat) : Sp := fun vs H Q _ => ∃ (v : V) (t : Sy) (l : List Str), vs = [v] ∧ Is K H (syD t) v ∧ (∀ x ∈ l, x.length ≤ 30) ∧ FitsS l t ∧ dps t < n ∧ dps t < 10 ∧ ∀ H', Same H H' → Q (.str (txy t)) H'
theorem scTxy : FnScope ["_law_some"] ["_law_some"] (defScope sTxy) := ⟨rfl, rfl, rfl, by decide +kernel, rfl, by decide +kernel, by decide +kernel⟩
theorem inV2 (x : Str) : inV (.str x) [V.str "and", V.str "or"] = decide (x ∈ (["and", "or"] : List Str)) := inV_strs x ["and", "or"]
theorem ok_txy {f fS : Addr} {fd fdS : FuncData} (B : Bl mg) (F : Fun K "_law_text" "_law_text" sTxy f fd) (bT : Binds K fd ["_law_some"] []) (mT : mg "_law_text" = some (.ref f))
    (FS : Fun K "_law_sum_text" "_law_sum_text" sText fS fdS) (bS : Binds K fdS ["_law_some"] []) (mS : mg "_law_sum_text" = some (.ref fS)) : ∀ n : Nat, FnOk P w K mg base CX0 (n + 11) f fd ["_law_some"] (spTxy K n)
  | 0 => fn_none fun vs H Q E h => by obtain ⟨v, t, l, _, _, _, _, h1, _⟩ := h; omega
  | n + 1 => by
    have GT := ok_txy B F bT mT FS bS mS n
    have GS : FnOk P w K mg base CX0 10 fS fdS ["_law_some"] (spText K 9) := ok_text B FS bS mS 9
    refine F.ok scTxy (fun vs H Q E h => ?_) (fun cdv A outer s H vs Q E hr h => ?_)
    · obtain ⟨v, t, l, rfl, _⟩ := h
      rfl
    obtain ⟨v, t, l, rfl, it, hl, ft, hn, h10, q⟩ := h
    have hrS := hr.mono (show 10 ≤ n + 11 by omega)
    obtain ⟨y1, y2, y3, y4⟩ := sq_len
    have y5 := sp_len.1
    refine ⟨_, (@pss_cons _ _ _ _ _ (@ps_if _ _ _ _ _ _ _ _ (@pt_cmpR _ _ _ _ _ _ _ _ op_eq (@pe_ix _ _ _ _ _ _ (rIxT K) ix_tup (pv 0) pe_int (fun _ _ => rfl)) pe_str (nomark _)) (@pss_one _ _ _ (@ps_ret _ _ _ _ pe_str)) pss_nil) (@pss_cons _ _ _ _ _ (@ps_if _ _ _ _ _ _ _ _ (@pt_cmpR _ _ _ _ _ _ _ _ op_in_seq (@pe_ix _ _ _ _ _ _ (rIxT K) ix_tup (pv 0) pe_int (fun _ _ => rfl)) (@pe_lst _ _ _ _ (@pa_cons _ _ _ _ _ pe_str (@pa_cons _ _ _ _ _ pe_str pa_nil (by rfl)) (by rfl))) (by with_unfolding_all rfl)) (@pss_one _ _ _ (@ps_ret _ _ _ _ (@pe_op _ _ _ _ _ _ _ _ op_add_str (@pe_op _ _ _ _ _ _ _ _ op_add_str (@pe_op _ _ _ _ _ _ _ _ op_add_str (@pe_op _ _ _ _ _ _ _ _ op_add_str (@pe_op _ _ _ _ _ _ _ _ op_add_str (@pe_op _ _ _ _ _ _ _ _ op_add_str pe_str (pe_call GT hr (by rfl) mT F.kp bT .nil pass0 (@pa_cons _ _ _ _ _ (@pe_ix _ _ _ _ _ _ (rIxT K) ix_tup (pv 0) pe_int (fun _ _ => rfl)) pa_nil (by rfl)))) pe_str) (@pe_ix _ _ _ _ _ _ (rIxT K) ix_tup (pv 0) pe_int (fun _ _ => rfl))) pe_str) (pe_call GT hr (by rfl) mT F.kp bT .nil pass0 (@pa_cons _ _ _ _ _ (@pe_ix _ _ _ _ _ _ (rIxT K) ix_tup (pv 0) pe_int (fun _ _ => rfl)) pa_nil (by rfl)))) pe_str))) pss_nil) (@pss_cons _ _ _ _ _ (@ps_if _ _ _ _ _ _ _ _ (@pt_cmpR _ _ _ _ _ _ _ _ op_eq (@pe_ix _ _ _ _ _ _ (rIxT K) ix_tup (pv 0) pe_int (fun _ _ => rfl)) pe_str (nomark _)) (@pss_one _ _ _ (@ps_ret _ _ _ _ (@pe_op _ _ _ _ _ _ _ _ op_add_str (@pe_op _ _ _ _ _ _ _ _ op_add_str pe_str (pe_call GT hr (by rfl) mT F.kp bT .nil pass0 (@pa_cons _ _ _ _ _ (@pe_ix _ _ _ _ _ _ (rIxT K) ix_tup (pv 0) pe_int (fun _ _ => rfl)) pa_nil (by rfl)))) pe_str))) pss_nil) (@pss_one _ _ _ (@ps_ret _ _ _ _ (@pe_op _ _ _ _ _ _ _ _ op_add_str (@pe_op _ _ _ _ _ _ _ _ op_add_str (@pe_op _ _ _ _ _ _ _ _ op_add_str (@pe_op _ _ _ _ _ _ _ _ op_add_str (pe_call GS hrS (by rfl) mS FS.kp bS .nil pass0 (@pa_cons _ _ _ _ _ (@pe_ix _ _ _ _ _ _ (rIxT K) ix_tup (pv 0) pe_int (fun _ _ => rfl)) pa_nil (by rfl))) pe_str) (@pe_ix _ _ _ _ _ _ (rIxT K) ix_tup (pv 0) pe_int (fun _ _ => rfl))) pe_str) (pe_call GS hrS (by rfl) mS FS.kp bS .nil pass0 (@pa_cons _ _ _ _ _ (@pe_ix _ _ _ _ _ _ (rIxT K) ix_tup (pv 0) pe_int (fun _ _ => rfl)) pa_nil (by rfl))))))))), ?_⟩
    cases t with
    | yes =>
      obtain ⟨p, rfl, ht⟩ := is_yes it
      refine ⟨_, rfl, p, _, _, _, rfl, rfl, ht, atI_nat (j := 0) rfl, rfl, _, rfl, ite2 (fun _ => ?_) (fun c => absurd (decide_eq_true rfl) c)⟩
      exact q _ (Same.refl _)
    | neg t =>
      obtain ⟨p, a, rfl, ht, ia⟩ := is_neg it
      have hn : dps t + 1 < n + 1 := hn
      have h10 : dps t + 1 < 10 := h10
      have i1 := txy_len' hl (t := t) ft (by omega)
      refine ⟨_, rfl, p, _, _, _, rfl, rfl, ht, atI_nat (j := 0) rfl, rfl, _, rfl, ite2 (fun c => absurd (of_decide_eq_true c) (by decide +kernel)) (fun _ => ?_)⟩
      refine ⟨_, rfl, p, _, _, _, rfl, rfl, ht, atI_nat (j := 0) rfl, by show 2 ≤ sizeLine; decide, fun z hz => ?_⟩
      have sz := same_new hz (.lst [V.str "and", V.str "or"])
      refine ⟨z, _, rfl, .inl (SqL.of upd_same), rfl, rfl, _, rfl, ?_⟩
      rw [inV2, if_neg Bool.false_ne_true]
      refine ite2 (fun c => absurd (of_decide_eq_true c) (by decide +kernel)) (fun _ => ?_)
      refine ⟨_, rfl, p, _, _, _, rfl, rfl, sz.tup ht, atI_nat (j := 0) rfl, rfl, _, rfl, ite2 (fun _ => ?_) (fun c => absurd (decide_eq_true rfl) c)⟩
      refine ⟨_, rfl, p, _, _, _, rfl, rfl, sz.tup ht, atI_nat (j := 1) rfl, a, t, l, rfl, ia.same sz, hl, ft, by omega, by omega, fun H1 t1 => ?_⟩
      exact ⟨_, _, rfl, rfl, big (by rw [y2]; omega), _, _, rfl, rfl, big (by simp only [str_len, y2, y3]; omega), q _ (sz.trans t1)⟩
    | bin g a b =>
      obtain ⟨p, va, vb, rfl, ht, ia, ib⟩ := is_bin it
      obtain ⟨fa, fb⟩ : FitsS l a ∧ FitsS l b := ft
      have hn : max (dps a) (dps b) + 1 < n + 1 := hn
      have h10 : max (dps a) (dps b) + 1 < 10 := h10
      have i1 := txy_len' hl fa (by omega)
      have i2 := txy_len' hl fb (by omega)
      have s1 := bn_len g
      have n1 : ¬ V.str (bnS g) = V.str "yes" := by cases g <;> decide +kernel
      have n2 : bnS g ∈ (["and", "or"] : List Str) := by cases g <;> decide +kernel
      refine ⟨_, rfl, p, _, _, _, rfl, rfl, ht, atI_nat (j := 0) rfl, rfl, _, rfl, ite2 (fun c => absurd (of_decide_eq_true c) n1) (fun _ => ?_)⟩
      refine ⟨_, rfl, p, _, _, _, rfl, rfl, ht, atI_nat (j := 0) rfl, by show 2 ≤ sizeLine; decide, fun z hz => ?_⟩
      have sz := same_new hz (.lst [V.str "and", V.str "or"])
      refine ⟨z, _, rfl, .inl (SqL.of upd_same), rfl, rfl, _, rfl, ?_⟩
      rw [inV2, if_neg Bool.false_ne_true]
      refine ite2 (fun _ => ?_) (fun c => absurd (decide_eq_true n2) c)
      refine ⟨_, rfl, p, _, _, _, rfl, rfl, sz.tup ht, atI_nat (j := 1) rfl, va, a, l, rfl, ia.same sz, hl, fa, by omega, by omega, fun H1 t1 => ?_⟩
      have t1' := sz.trans t1
      refine ⟨_, _, rfl, rfl, big (by rw [y4]; omega), _, _, rfl, rfl, big (by simp only [str_len, y4, y5]; omega), _, rfl, p, _, _, _, rfl, rfl, t1'.tup ht, atI_nat (j := 0) rfl, _, _, rfl, rfl, big (by simp only [str_len, y4, y5]; omega), _, _, rfl, rfl, big (by simp only [str_len, y4, y5]; omega), ?_⟩
      refine ⟨_, rfl, p, _, _, _, rfl, rfl, t1'.tup ht, atI_nat (j := 2) rfl, vb, b, l, rfl, ib.same t1', hl, fb, by omega, by omega, fun H2 t2 => ?_⟩
      exact ⟨_, _, rfl, rfl, big (by simp only [str_len, y4, y5]; omega), _, _, rfl, rfl, big (by simp only [str_len, y3, y4, y5]; omega), q _ (t1'.trans t2)⟩
    | cmp g a b =>
      obtain ⟨p, va, vb, rfl, ht, ia, ib⟩ := is_cmp it
      obtain ⟨fa, fb, la, lb⟩ : Fits l a ∧ Fits l b ∧ lv a ≤ 9 ∧ lv b ≤ 9 := ft
      have da := dp_lt a
      have db := dp_lt b
      have i1 := txt_len hl fa
      have i2 := txt_len hl fb
      have s1 := cm_len g
      have n1 : ¬ V.str (cmS g) = V.str "yes" := by cases g <;> decide +kernel
      have n2 : ¬ cmS g ∈ (["and", "or"] : List Str) := by cases g <;> decide +kernel
      have n3 : ¬ V.str (cmS g) = V.str "not" := by cases g <;> decide +kernel
      refine ⟨_, rfl, p, _, _, _, rfl, rfl, ht, atI_nat (j := 0) rfl, rfl, _, rfl, ite2 (fun c => absurd (of_decide_eq_true c) n1) (fun _ => ?_)⟩
      refine ⟨_, rfl, p, _, _, _, rfl, rfl, ht, atI_nat (j := 0) rfl, by show 2 ≤ sizeLine; decide, fun z hz => ?_⟩
      have sz := same_new hz (.lst [V.str "and", V.str "or"])
      refine ⟨z, _, rfl, .inl (SqL.of upd_same), rfl, rfl, _, rfl, ?_⟩
      rw [inV2, if_neg Bool.false_ne_true]
      refine ite2 (fun c => absurd (of_decide_eq_true c) n2) (fun _ => ?_)
      refine ⟨_, rfl, p, _, _, _, rfl, rfl, sz.tup ht, atI_nat (j := 0) rfl, rfl, _, rfl, ite2 (fun c => absurd (of_decide_eq_true c) n3) (fun _ => ?_)⟩
      refine ⟨_, rfl, p, _, _, _, rfl, rfl, sz.tup ht, atI_nat (j := 1) rfl, va, a, l, rfl, ia.same sz, hl, fa, by omega, by omega, ?_⟩
      refine ⟨_, _, rfl, rfl, big (by rw [y5]; omega), _, rfl, p, _, _, _, rfl, rfl, sz.tup ht, atI_nat (j := 0) rfl, _, _, rfl, rfl, big (by simp only [str_len, y5]; omega), _, _, rfl, rfl, big (by simp only [str_len, y5]; omega), ?_⟩
      refine ⟨_, rfl, p, _, _, _, rfl, rfl, sz.tup ht, atI_nat (j := 2) rfl, vb, b, l, rfl, ib.same sz, hl, fb, by omega, by omega, ?_⟩
      exact ⟨_, _, rfl, rfl, big (by simp only [str_len, y5]; omega), q _ sz⟩
end
end Nw
namespace Nw
open PySem L2
def lettersW : Str := "abcdefghijklmnopqrstuvwxyz"
def figuresW : Str := "0123456789"
def ownL : List Str := ["name", "from", "to", "at", "keep", "deed", "when", "do", "any", "and", "or", "not", "yes", "tie", "step", "for", "none", "falls"]
def signsW : List Str := ["+", "-", "*", "(", ")", "[", "]", "<", "<=", "=", "!=", ";", ","]
def inW (c : Nat) (g : Str) : Bool := !(Builtin.Str.occurrences g ⟨#[c]⟩ 0 g.length 1).isEmpty
def madeB (z g : Str) (n : Int) : Bool := decide (¬ ((z.length : Int) < 1)) && decide (¬ (n < (z.length : Int))) && z.cps.toList.all fun c => inW c g
def numB (z : Str) : Bool := madeB z figuresW 2 && (decide (V.str z = V.str "0") || !Txt.startswith z "0")
def nameB (z : Str) : Bool := madeB z lettersW 8 && !inV (.str z) (ownL.map V.str)
def farB (z : Str) : Bool := Txt.startswith z "@" && nameB (Txt.slice z (some 1) none)
def wordB (z : Str) : Bool := inV (.str z) (ownL.map V.str) || inV (.str z) (signsW.map V.str) || numB z || nameB z || farB z
structure Lex (K : PySem.W.Frag) (mg : Str → Option Value) (aO aS : Addr) : Prop where
  gL : ∃ t, mg "LETTERS" = some (.str lettersW t)
  gF : ∃ t, mg "FIGURES" = some (.str figuresW t)
  g8 : ∃ t, mg "LONGEST_NAME" = some (.int 8 t)
  g2 : ∃ t, mg "LONGEST_NUMBER" = some (.int 2 t)
  g300 : ∃ t, mg "MOST_WORDS" = some (.int 300 t)
  gM8 : ∃ t, mg "MOST_OPEN" = some (.int 8 t)
  gO : mg "OWN_WORDS" = some (.ref aO)
  gS : mg "SIGNS" = some (.ref aS)
  own : ∀ H, SqT K H aO (ownL.map V.str)
  sgn : ∀ H, SqT K H aS (signsW.map V.str)
structure Asc (z : Str) : Prop where
  all : z.cps.all (· < 128) = true
  len : z.length ≤ 1000
section
variable {P : Program} {w : World} {K : PySem.W.Frag} {mg : Str → Option Value} {base : Heap} {aO aS : Addr}
def spMade : Sp := fun vs H Q _ => ∃ (z g : Str) (n : Int), vs = [.str z, .str g, .int n] ∧ Asc z ∧ ∀ H', Same H H' → Q (.bl (madeB z g n)) H'
theorem scMade : FnScope ["piece", "signs", "longest"] ["piece", "signs", "longest"] (defScope sMade) := ⟨rfl, rfl, rfl, by decide +kernel, rfl, by decide +kernel, by decide +kernel⟩
theorem nd_scMade1 : (["piece", "signs", "longest", "sign"] : List Str).Nodup := by decide +kernel
theorem ok_made {f : Addr} {fd : FuncData} (B : Bl mg) (F : Fun K "made_of" "made_of" sMade f fd) : FnOk P w K mg base CX0 1 f fd ["piece", "signs", "longest"] spMade := by
  refine F.ok scMade (fun vs H Q E h => ?_) (fun cdv A outer s H vs Q E hr h => ?_)
  · obtain ⟨z, g, n, rfl, _⟩ := h
    rfl
  obtain ⟨z, g, n, rfl, a, q⟩ := h
  have hz : z.length ≤ sizeLine := Nat.le_of_lt (small1000 a.len)
  refine ⟨_, (@pss_cons _ _ _ _ _ (@ps_if _ _ _ _ _ _ _ _ ((@pw_or _ _ _ _ _ _ _ (@pt_cmpR _ _ _ _ _ _ _ _ op_lt (pe_callB call_len_str (by rfl) B.len PySem.boot_len (@pa_cons _ _ _ _ _ (pv 0) pa_nil (by rfl))) pe_int (nomark _)) (pw_or1 (@pt_cmpR _ _ _ _ _ _ _ _ op_gt (pe_callB call_len_str (by rfl) B.len PySem.boot_len (@pa_cons _ _ _ _ _ (pv 0) pa_nil (by rfl))) (pv 2) (nomark _))))).pt (@pss_one _ _ _ (@ps_ret _ _ _ _ pe_bl)) pss_nil) (@pss_one _ _ _ (@ps_ret _ _ _ _ (pe_callB (call_all rfl) (by rfl) B.all PyProof.Rows.boot_all (@pa_cons _ _ _ _ _ (pe_comp (NX := ["piece", "signs", "longest"]) (N := ["piece", "signs", "longest", "sign"]) (ms := [true, true, true, false]) (ks := [3]) (out := defScope sMade) (by exact ⟨rfl, by decide +kernel, by decide +kernel, by decide +kernel, by decide +kernel, by decide +kernel⟩) rfl rfl rfl (pi_str (pv 0)) (@sets_name 3) (by decide) (fun C ex s H => (pg_name (i := 3) nd_scMade1 rfl (Or.inl rfl))) (fun C ex s H => pts_nil) (fun C ex s H => (@pe_cmpR _ _ _ _ _ _ _ _ op_in_str (pv 3) (pv 1) (by with_unfolding_all rfl)))) pa_nil (by rfl)))))), ?_⟩
  refine ⟨_, rfl, z, rfl, hz, _, _, rfl, rfl, _, rfl, ite2 (fun c => iteT ?_) (fun c1 => ⟨_, rfl, z, rfl, hz, _, rfl, _, _, rfl, rfl, _, rfl, ite2 (fun c => ?_) (fun c2 => ?_)⟩)⟩
  · have e : madeB z g n = false := by
      unfold madeB
      rw [decide_eq_false (fun h => h (of_decide_eq_true c))]
      rfl
    rw [← e]
    exact q H (Same.refl _)
  · have e : madeB z g n = false := by
      unfold madeB
      rw [decide_eq_false (p := ¬ (n < (z.length : Int))) (fun h => h (of_decide_eq_true c)), Bool.and_false]
      rfl
    show Q (.bl false) H
    rw [← e]
    exact q H (Same.refl _)
  have c1 : ¬ (z.length : Int) < 1 := fun h => c1 (decide_eq_true h)
  have c2 : ¬ n < (z.length : Int) := fun h => c2 (decide_eq_true h)
  refine ⟨_, rfl, z, rfl, a.all, comp_str (fun i ys H' => ys = ((z.cps.toList.take i).map fun c => inW c g).map V.bl ∧ H' = H) ⟨rfl, rfl⟩ (fun i ys H' hi ⟨e, _⟩ => ?_) ?_ ?_⟩
  · rw [e, List.length_map, List.length_map, List.length_take]
    have h1 := a.len
    have h2 : z.cps.toList.length = z.length := Array.length_toList
    exact small1000 (by omega)
  · rintro i c ys H' hc ⟨rfl, rfl⟩
    refine ⟨_, rfl, _, rfl, _, _, rfl, rfl, ?_, rfl⟩
    have hc' : z.cps.toList[i]? = some c := by rw [Array.getElem?_toList]; exact hc
    rw [List.take_add_one, hc', List.map_append, List.map_append]
    rfl
  · rintro ys H' ⟨rfl, rfl⟩ D hD
    have h2 : z.cps.toList.length = z.cps.size := Array.length_toList
    refine ⟨D, _, rfl, SqL.of upd_same, ?_⟩
    have e : madeB z g n = (((z.cps.toList.take z.cps.size).map fun c => inW c g).all id) := by
      rw [List.take_of_length_le (by omega), List.all_map]
      unfold madeB
      rw [decide_eq_true c1, decide_eq_true c2]
      rfl
    rw [← e]
    exact q _ (same_new hD _)
def sp1 (b : Str → Bool) : Sp := fun vs H Q _ => ∃ z : Str, vs = [.str z] ∧ Asc z ∧ ∀ H', Same H H' → Q (.bl (b z)) H'
theorem scIsNum : FnScope ["piece"] ["piece"] (defScope sIsNum) := ⟨rfl, rfl, rfl, by decide +kernel, rfl, by decide +kernel, by decide +kernel⟩
theorem ok_isNum {f fM : Addr} {fd dM : FuncData} (B : Bl mg) (L : Lex K mg aO aS) (F : Fun K "is_number" "is_number" sIsNum f fd) (FM : Fun K "made_of" "made_of" sMade fM dM) (bM : Binds K dM ["piece", "signs", "longest"] []) (mM : mg "made_of" = some (.ref fM)) : FnOk P w K mg base CX0 2 f fd ["piece"] (sp1 numB) := by
  have GM : FnOk P w K mg base CX0 1 fM dM ["piece", "signs", "longest"] spMade := ok_made B FM
  refine F.ok scIsNum (fun vs H Q E h => ?_) (fun cdv A outer s H vs Q E hr h => ?_)
  · obtain ⟨z, rfl, _⟩ := h
    rfl
  obtain ⟨z, rfl, a, q⟩ := h
  obtain ⟨tF, gF⟩ := L.gF
  obtain ⟨t2, g2⟩ := L.g2
  refine ⟨_, (@pss_cons _ _ _ _ _ (@ps_if _ _ _ _ _ _ _ _ (@pt_not _ _ _ _ (pt_val (pe_call GM hr (by rfl) mM FM.kp bM .nil pass0 (@pa_cons _ _ _ _ _ (pv 0) (@pa_cons _ _ _ _ _ (pe_glob (v := V.str figuresW) (by rfl) gF ⟨_, rfl⟩) (@pa_cons _ _ _ _ _ (pe_glob (v := V.int 2) (by rfl) g2 ⟨_, rfl⟩) pa_nil (by rfl)) (by rfl)) (by rfl))))) (@pss_one _ _ _ (@ps_ret _ _ _ _ pe_bl)) pss_nil) (@pss_one _ _ _ (@ps_ret _ _ _ _ (@pe_or _ _ _ _ _ _ _ (@pe_cmpR _ _ _ _ _ _ _ _ op_eq (pv 0) pe_str (nomark _)) (@pe_one _ _ _ _ _ (@pe_not _ _ _ _ (pe_bm PySem.F.plainAttrs_str PySem.F.slot_str_startswith PySem.F.type_str_startswith mt_starts (pv 0) (@pa_cons _ _ _ _ _ pe_str pa_nil (by rfl))))))))), ?_⟩
  refine ⟨_, rfl, z, figuresW, 2, rfl, a, fun H1 s1 => ⟨_, rfl, ?_⟩⟩
  cases e : madeB z figuresW 2 with
  | false =>
    refine iteT ?_
    have : numB z = false := by unfold numB; rw [e]; rfl
    show Q (.bl false) H1
    rw [← this]
    exact q _ s1
  | true =>
    refine iteF ⟨_, rfl, rfl, _, rfl, ?_⟩
    have e2 : numB z = (decide (V.str z = V.str "0") || !Txt.startswith z "0") := by unfold numB; rw [e]; rfl
    cases e3 : decide (V.str z = V.str ("0" : Str)) with
    | true =>
      refine iteT ?_
      rw [e3] at e2
      have := q _ s1
      rw [e2] at this
      exact this
    | false =>
      rw [e3] at e2
      refine iteF ⟨_, rfl, rfl, z, "0", rfl, rfl, _, rfl, ?_⟩
      have := q _ s1
      rw [e2] at this
      exact this
theorem scIsNam : FnScope ["piece"] ["piece"] (defScope sIsNam) := ⟨rfl, rfl, rfl, by decide +kernel, rfl, by decide +kernel, by decide +kernel⟩
theorem ok_isNam {f fM : Addr} {fd dM : FuncData} (B : Bl mg) (L : Lex K mg aO aS) (F : Fun K "is_name" "is_name" sIsNam f fd) (FM : Fun K "made_of" "made_of" sMade fM dM) (bM : Binds K dM ["piece", "signs", "longest"] []) (mM : mg "made_of" = some (.ref fM)) : FnOk P w K mg base CX0 2 f fd ["piece"] (sp1 nameB) := by
  have GM : FnOk P w K mg base CX0 1 fM dM ["piece", "signs", "longest"] spMade := ok_made B FM
  refine F.ok scIsNam (fun vs H Q E h => ?_) (fun cdv A outer s H vs Q E hr h => ?_)
  · obtain ⟨z, rfl, _⟩ := h
    rfl
  obtain ⟨z, rfl, a, q⟩ := h
  obtain ⟨tL, gL⟩ := L.gL
  obtain ⟨t8, g8⟩ := L.g8
  refine ⟨_, (@pss_one _ _ _ (@ps_ret _ _ _ _ (@pe_and _ _ _ _ _ _ _ (pe_call GM hr (by rfl) mM FM.kp bM .nil pass0 (@pa_cons _ _ _ _ _ (pv 0) (@pa_cons _ _ _ _ _ (pe_glob (v := V.str lettersW) (by rfl) gL ⟨_, rfl⟩) (@pa_cons _ _ _ _ _ (pe_glob (v := V.int 8) (by rfl) g8 ⟨_, rfl⟩) pa_nil (by rfl)) (by rfl)) (by rfl))) (@pe_one _ _ _ _ _ (@pe_cmpR _ _ _ _ _ _ _ _ op_notIn_seq (pv 0) (pe_glob (v := V.ref aO) (by rfl) L.gO rfl) (by with_unfolding_all rfl)))))), ?_⟩
  refine ⟨_, rfl, z, lettersW, 8, rfl, a, fun H1 s1 => ⟨_, rfl, ?_⟩⟩
  cases e : madeB z lettersW 8 with
  | false =>
    refine iteF ?_
    have := q _ s1
    unfold nameB at this
    rw [e] at this
    exact this
  | true =>
    refine iteT ⟨_, rfl, aO, _, rfl, .inr (L.own H1), rfl, rfl, ?_⟩
    have := q _ s1
    unfold nameB at this
    rw [e] at this
    exact this
theorem scIsFar : FnScope ["piece"] ["piece"] (defScope sIsFar) := ⟨rfl, rfl, rfl, by decide +kernel, rfl, by decide +kernel, by decide +kernel⟩
theorem asc_slice {z : Str} (a : Asc z) : Asc (Txt.slice z (some 1) none) := by
  refine ⟨?_, Nat.le_trans (Txt.slice_le _ _ _) a.len⟩
  have h := Array.all_eq_true_iff_forall_mem.mp a.all
  unfold Txt.slice
  split
  · exact a.all
  · refine Array.all_eq_true_iff_forall_mem.mpr fun c hc => ?_
    have hc : c ∈ List.filterMap (fun x => z.cps[x]?) (Builtin.Str.strSliceIndices (some 1) none 1 z.length) := by simpa using hc
    obtain ⟨i, _, e⟩ := List.mem_filterMap.mp hc
    exact h c (Array.mem_of_getElem? e)
theorem ok_isFar {f fN : Addr} {fd dN : FuncData} (B : Bl mg) (F : Fun K "is_far_name" "is_far_name" sIsFar f fd) (FN : Fun K "is_name" "is_name" sIsNam fN dN) (bN : Binds K dN ["piece"] []) (mN : mg "is_name" = some (.ref fN)) (GN : FnOk P w K mg base CX0 2 fN dN ["piece"] (sp1 nameB)) : FnOk P w K mg base CX0 3 f fd ["piece"] (sp1 farB) := by
  refine F.ok scIsFar (fun vs H Q E h => ?_) (fun cdv A outer s H vs Q E hr h => ?_)
  · obtain ⟨z, rfl, _⟩ := h
    rfl
  obtain ⟨z, rfl, a, q⟩ := h
  have hz : z.length ≤ sizeLine := Nat.le_of_lt (small1000 a.len)
  refine ⟨_, (@pss_one _ _ _ (@ps_ret _ _ _ _ (@pe_and _ _ _ _ _ _ _ (pe_bm PySem.F.plainAttrs_str PySem.F.slot_str_startswith PySem.F.type_str_startswith mt_starts (pv 0) (@pa_cons _ _ _ _ _ pe_str pa_nil (by rfl))) (@pe_one _ _ _ _ _ (pe_call GN hr (by rfl) mN FN.kp bN .nil pass0 (@pa_cons _ _ _ _ _ (@pe_slice _ _ _ _ _ _ _ _ _ _ sl_str (pv 0) (@po_some _ _ _ pe_int) po_none) pa_nil (by rfl))))))), ?_⟩
  refine ⟨_, rfl, rfl, z, "@", rfl, rfl, _, rfl, ?_⟩
  cases e : Txt.startswith z "@" with
  | false =>
    refine iteF ?_
    have := q _ (Same.refl _)
    unfold farB at this
    rw [e] at this
    exact this
  | true =>
    refine iteT ⟨_, rfl, _, rfl, z, rfl, hz, _, rfl, asc_slice a, fun H1 s1 => ?_⟩
    have := q _ s1
    unfold farB at this
    rw [e] at this
    exact this
theorem scIsWord : FnScope ["piece"] ["piece"] (defScope sIsWord) := ⟨rfl, rfl, rfl, by decide +kernel, rfl, by decide +kernel, by decide +kernel⟩
theorem ok_isWord {f fM fU fN fA : Addr} {fd dM dU dN dA : FuncData} (B : Bl mg) (L : Lex K mg aO aS) (F : Fun K "is_word" "is_word" sIsWord f fd) (FM : Fun K "made_of" "made_of" sMade fM dM) (bM : Binds K dM ["piece", "signs", "longest"] []) (mM : mg "made_of" = some (.ref fM))
    (FU : Fun K "is_number" "is_number" sIsNum fU dU) (bU : Binds K dU ["piece"] []) (mU : mg "is_number" = some (.ref fU)) (FN : Fun K "is_name" "is_name" sIsNam fN dN) (bN : Binds K dN ["piece"] []) (mN : mg "is_name" = some (.ref fN))
    (FA : Fun K "is_far_name" "is_far_name" sIsFar fA dA) (bA : Binds K dA ["piece"] []) (mA : mg "is_far_name" = some (.ref fA)) : FnOk P w K mg base CX0 4 f fd ["piece"] (sp1 wordB) := by
  have GU : FnOk P w K mg base CX0 2 fU dU ["piece"] (sp1 numB) := ok_isNum B L FU FM bM mM
  have GN : FnOk P w K mg base CX0 2 fN dN ["piece"] (sp1 nameB) := ok_isNam B L FN FM bM mM
  have GA : FnOk P w K mg base CX0 3 fA dA ["piece"] (sp1 farB) := ok_isFar B FA FN bN mN GN
  refine F.ok scIsWord (fun vs H Q E h => ?_) (fun cdv A outer s H vs Q E hr h => ?_)
  · obtain ⟨z, rfl, _⟩ := h
    rfl
  obtain ⟨z, rfl, a, q⟩ := h
  have hrU : Room 2 _ := hr.mono (by decide)
  refine ⟨_, (@pss_cons _ _ _ _ _ (@ps_if _ _ _ _ _ _ _ _ ((@pw_or _ _ _ _ _ _ _ (@pt_cmpR _ _ _ _ _ _ _ _ op_in_seq (pv 0) (pe_glob (v := V.ref aO) (by rfl) L.gO rfl) (by with_unfolding_all rfl)) (pw_or1 (@pt_cmpR _ _ _ _ _ _ _ _ op_in_seq (pv 0) (pe_glob (v := V.ref aS) (by rfl) L.gS rfl) (by with_unfolding_all rfl))))).pt (@pss_one _ _ _ (@ps_ret _ _ _ _ pe_bl)) pss_nil) (@pss_one _ _ _ (@ps_ret _ _ _ _ (@pe_or _ _ _ _ _ _ _ (pe_call GU hrU (by rfl) mU FU.kp bU .nil pass0 (@pa_cons _ _ _ _ _ (pv 0) pa_nil (by rfl))) (@pe_or _ _ _ _ _ _ _ (pe_call GN hrU (by rfl) mN FN.kp bN .nil pass0 (@pa_cons _ _ _ _ _ (pv 0) pa_nil (by rfl))) (@pe_one _ _ _ _ _ (pe_call GA hr (by rfl) mA FA.kp bA .nil pass0 (@pa_cons _ _ _ _ _ (pv 0) pa_nil (by rfl))))))))), ?_⟩
  refine ⟨_, rfl, aO, _, rfl, .inr (L.own H), rfl, rfl, _, rfl, ?_⟩
  cases e1 : inV (.str z) (ownL.map V.str) with
  | true =>
    refine iteT (iteT ?_)
    have := q H (Same.refl _)
    unfold wordB at this
    rw [e1] at this
    exact this
  | false =>
    refine iteF ⟨_, rfl, aS, _, rfl, .inr (L.sgn H), rfl, rfl, _, rfl, ?_⟩
    cases e2 : inV (.str z) (signsW.map V.str) with
    | true =>
      refine iteT ?_
      have := q H (Same.refl _)
      unfold wordB at this
      rw [e1, e2] at this
      exact this
    | false =>
      refine iteF ⟨_, rfl, z, rfl, a, fun H1 s1 => ⟨_, rfl, ?_⟩⟩
      cases e3 : numB z with
      | true =>
        refine iteT ?_
        have := q _ s1
        unfold wordB at this
        rw [e1, e2, e3] at this
        exact this
      | false =>
        refine iteF ⟨_, rfl, z, rfl, a, fun H2 s2 => ⟨_, rfl, ?_⟩⟩
        cases e4 : nameB z with
        | true =>
          refine iteT ?_
          have := q _ (s1.trans s2)
          unfold wordB at this
          rw [e1, e2, e3, e4] at this
          exact this
        | false =>
          refine iteF ⟨_, rfl, z, rfl, a, fun H3 s3 => ?_⟩
          have := q _ (s1.trans (s2.trans s3))
          unfold wordB at this
          rw [e1, e2, e3, e4] at this
          exact this
def stepO (mc : Int × Int) (x : Str) : Int × Int :=
  let c := if inV (.str x) [.str "(", .str "["] then mc.2 + 1 else if inV (.str x) [.str ")", .str "]"] then (if (0 : Int) > mc.2 - 1 then 0 else mc.2 - 1) else mc.2
  (if c > mc.1 then c else mc.1, c)
def openM (ws : List Str) : Int × Int := ws.foldl stepO (0, 0)
theorem openM_take {ws : List Str} {i : Nat} {x : Str} (h : ws[i]? = some x) : openM (ws.take (i + 1)) = stepO (openM (ws.take i)) x := by
  unfold openM
  rw [List.take_add_one, h, List.foldl_append]
  rfl
def spOpen (K : PySem.W.Frag) : Sp := fun vs H Q _ => ∃ (p : Addr) (ws : List Str), vs = [.ref p] ∧ SqL K H p (ws.map V.str) ∧ ∀ H', Same H H' → Q (.int (openM ws).1) H'
theorem scOpen : FnScope ["pieces", "most", "count", "piece"] ["pieces"] (defScope sOpen) := ⟨rfl, rfl, rfl, by decide +kernel, rfl, by decide +kernel, by decide +kernel⟩
theorem ok_open {f : Addr} {fd : FuncData} (B : Bl mg) (F : Fun K "most_open" "most_open" sOpen f fd) : FnOk P w K mg base CX0 1 f fd ["pieces"] (spOpen K) := by
  refine F.ok scOpen (fun vs H Q E h => ?_) (fun cdv A outer s H vs Q E hr h => ?_)
  · obtain ⟨p, ws, rfl, _⟩ := h
    rfl
  obtain ⟨p, ws, rfl, hp, q⟩ := h
  refine ⟨_, (@pss_cons _ _ _ _ _ (@ps_set _ _ 1 _ _ _ _ scOpen.nd rfl (Or.inl rfl) pe_int rfl (Or.inl rfl)) (@pss_cons _ _ _ _ _ (@ps_set _ _ 2 _ _ _ _ scOpen.nd rfl (Or.inl rfl) pe_int rfl (Or.inl rfl)) (@pss_cons _ _ _ _ _ (@ps_for _ _ _ _ _ _ _ _ PassesOwn.never rfl (@pi_list _ _ _ _ (pv 0)) (pg_name (i := 3) scOpen.nd rfl (Or.inl rfl)) (@pss_cons _ _ _ _ _ (@ps_cut _ _ _ (@ps_if _ _ _ _ _ _ _ _ (@pt_cmpR _ _ _ _ _ _ _ _ op_in_seq (pv 3) (@pe_tup _ _ _ _ _ (@pa_cons _ _ _ _ _ pe_str (@pa_cons _ _ _ _ _ pe_str pa_nil (by rfl)) (by rfl))) (by with_unfolding_all rfl)) (@pss_one _ _ _ (@ps_set _ _ 2 _ _ _ _ scOpen.nd rfl (Or.inl rfl) (@pe_op _ _ _ _ _ _ _ _ op_add (pv 2) pe_int) rfl (Or.inl rfl))) (@pss_one _ _ _ (@ps_if _ _ _ _ _ _ _ _ (@pt_cmpR _ _ _ _ _ _ _ _ op_in_seq (pv 3) (@pe_tup _ _ _ _ _ (@pa_cons _ _ _ _ _ pe_str (@pa_cons _ _ _ _ _ pe_str pa_nil (by rfl)) (by rfl))) (by with_unfolding_all rfl)) (@pss_one _ _ _ (@ps_set _ _ 2 _ _ _ _ scOpen.nd rfl (Or.inl rfl) (pe_callB (call_max2 rfl) (by rfl) B.max PyProof.Rows.boot_max (@pa_cons _ _ _ _ _ (@pe_op _ _ _ _ _ _ _ _ op_sub (pv 2) pe_int) (@pa_cons _ _ _ _ _ pe_int pa_nil (by rfl)) (by rfl))) rfl (Or.inl rfl))) pss_nil)))) (@pss_one _ _ _ (@ps_set _ _ 1 _ _ _ _ scOpen.nd rfl (Or.inl rfl) (pe_callB (call_max2 rfl) (by rfl) B.max PyProof.Rows.boot_max (@pa_cons _ _ _ _ _ (pv 1) (@pa_cons _ _ _ _ _ (pv 2) pa_nil (by rfl)) (by rfl))) rfl (Or.inl rfl)))) (by intro _; rfl)) (@pss_one _ _ _ (@ps_ret _ _ _ _ (pv 1)))))), ?_⟩
  refine ⟨_, rfl, p, rfl, ⟨_, hp⟩, for_list (xs := ws.map V.str) (fun i σ H1 => ∃ v3 : Option V, σ = [some (.ref p), some (.int (openM (ws.take i)).1), some (.int (openM (ws.take i)).2), v3] ∧ Same H H1) ⟨none, rfl, Same.refl _⟩ (fun i σ H1 _ ⟨_, _, s1⟩ => s1.seq hp) ?_ ?_⟩
  · rintro i x σ H1 hx ⟨v3, rfl, s1⟩
    rw [List.getElem?_map] at hx
    obtain ⟨y, hy, rfl⟩ := Option.map_eq_some_iff.mp hx
    have e := openM_take hy
    generalize openM (ws.take i) = mc at e ⊢
    obtain ⟨m, c⟩ := mc
    refine ⟨fun σ H2 => ∃ c2 : Int, σ = [some (.ref p), some (.int m), some (.int c2), some (.str y)] ∧ Same H H2 ∧ stepO (m, c) y = (if c2 > m then c2 else m, c2), ?_, ?_⟩
    · refine ⟨_, rfl, by show 2 ≤ sizeLine; decide, fun t1 ht1 => ⟨t1, _, rfl, .inr (SqT.of upd_same), rfl, rfl, _, rfl, ?_⟩⟩
      have r1 := s1.trans (same_new ht1 (.tup [V.str "(", .str "["]))
      cases e1 : inV (.str y) [.str "(", .str "["] with
      | true =>
        refine iteT ⟨_, rfl, _, _, rfl, rfl, ?_⟩
        refine ⟨c + 1, rfl, r1, ?_⟩
        unfold stepO
        rw [e1]
        rfl
      | false =>
        refine iteF ⟨_, rfl, by show 2 ≤ sizeLine; decide, fun t2 ht2 => ⟨t2, _, rfl, .inr (SqT.of upd_same), rfl, rfl, _, rfl, ?_⟩⟩
        have r2 := r1.trans (same_new ht2 (.tup [V.str ")", .str "]"]))
        cases e2 : inV (.str y) [.str ")", .str "]"] with
        | true =>
          refine iteT ⟨_, rfl, _, _, rfl, rfl, _, _, rfl, ?_⟩
          refine ⟨_, rfl, r2, ?_⟩
          unfold stepO
          rw [e1, e2]
          rfl
        | false =>
          refine iteF ⟨c, rfl, r2, ?_⟩
          unfold stepO
          rw [e1, e2]
          rfl
    · rintro σ H2 ⟨c2, rfl, r2, e2⟩
      rw [e2] at e
      refine ⟨_, rfl, _, rfl, _, _, rfl, ?_⟩
      refine ⟨some (.str y), ?_, r2⟩
      rw [e]
      rfl
  · rintro σ H1 ⟨v3, rfl, s1⟩
    rw [List.length_map, List.take_of_length_le (Nat.le_refl _)]
    exact ⟨_, rfl, q _ s1⟩
structure Wordy (t : Str) : Prop where
  len : t.length ≤ 8000
  wrd : ∀ x ∈ piecesOf t, Asc x ∧ wordB x = true
  mny : (piecesOf t).length ≤ 300
  opn : (openM (piecesOf t)).1 ≤ 8
def spWords (K : PySem.W.Frag) : Sp := fun vs H Q _ => ∃ t : Str, vs = [.str t] ∧ Wordy t ∧ ∀ (p : Addr) (H' : Hp), Same H H' → H p = none → H' p = some (.lst ((piecesOf t).map V.str)) → Q (.ref p) H'
theorem scWords : FnScope ["text", "pieces", "piece"] ["text"] (defScope sWords) := ⟨rfl, rfl, rfl, by decide +kernel, rfl, by decide +kernel, by decide +kernel⟩
theorem nd_scWords1 : (["text", "pieces", "piece"] : List Str).Nodup := by decide +kernel
theorem ok_words {f fW fO : Addr} {fd dW dO : FuncData} (B : Bl mg) (L : Lex K mg aO aS) (F : Fun K "words" "words" sWords f fd) (FW : Fun K "is_word" "is_word" sIsWord fW dW) (bW : Binds K dW ["piece"] []) (mW : mg "is_word" = some (.ref fW)) (GW : FnOk P w K mg base CX0 4 fW dW ["piece"] (sp1 wordB))
    (FO : Fun K "most_open" "most_open" sOpen fO dO) (bO : Binds K dO ["pieces"] []) (mO : mg "most_open" = some (.ref fO)) : FnOk P w K mg base CX0 5 f fd ["text"] (spWords K) := by
  have GO : FnOk P w K mg base CX0 1 fO dO ["pieces"] (spOpen K) := ok_open B FO
  refine F.ok scWords (fun vs H Q E h => ?_) (fun cdv A outer s H vs Q E hr h => ?_)
  · obtain ⟨t, rfl, _⟩ := h
    rfl
  obtain ⟨t, rfl, W, q⟩ := h
  obtain ⟨t3, g300⟩ := L.g300
  obtain ⟨t8, gM8⟩ := L.gM8
  have hr1 : Room 1 _ := hr.mono (by decide)
  have hz := sizeLine_eq
  have wl := W.len
  have wf := parts_len t
  have wu := split_len t
  refine ⟨_, (@pss_cons _ _ _ _ _ (ps_comp (NX := ["text", "pieces", "piece"]) (N := ["text", "pieces", "piece"]) (ms := [true, true, false]) (ks := [2]) (out := defScope sWords) (by exact ⟨rfl, by decide +kernel, by decide +kernel, by decide +kernel, by decide +kernel, by decide +kernel⟩) rfl rfl rfl (i := 1) scWords.nd rfl (Or.inl rfl) (@pi_list _ _ _ _ (pe_bm PySem.F.plainAttrs_str PySem.F.slot_str_split PySem.F.type_str_split mt_split (pv 0) (@pa_cons _ _ _ _ _ pe_str pa_nil (by rfl)))) (@sets_name 2) (by decide) (fun C ex s H => (pg_name (i := 2) nd_scWords1 rfl (Or.inl rfl))) (fun C ex s H => (@pts_one _ _ _ (@pt_cmpR _ _ _ _ _ _ _ _ op_ne (pv 2) pe_str (nomark _)))) (fun C ex s H => (pv 2)) (by with_unfolding_all rfl)) (@pss_cons _ _ _ _ _ (@ps_for _ _ _ _ _ _ _ _ PassesOwn.never rfl (@pi_list _ _ _ _ (pv 1)) (pg_name (i := 2) scWords.nd rfl (Or.inl rfl)) (@pss_one _ _ _ (@ps_if _ _ _ _ _ _ _ _ (@pt_not _ _ _ _ (pt_val (pe_call GW hr (by rfl) mW FW.kp bW .nil pass0 (@pa_cons _ _ _ _ _ (pv 2) pa_nil (by rfl))))) (@pss_one _ _ _ ps_never) pss_nil)) (by intro _; rfl)) (@pss_cons _ _ _ _ _ (@ps_if _ _ _ _ _ _ _ _ (@pt_cmpR _ _ _ _ _ _ _ _ op_gt (pe_callB call_len_seq (by rfl) B.len PySem.boot_len (@pa_cons _ _ _ _ _ (pv 1) pa_nil (by rfl))) (pe_glob (v := V.int 300) (by rfl) g300 ⟨_, rfl⟩) (nomark _)) (@pss_one _ _ _ ps_never) pss_nil) (@pss_cons _ _ _ _ _ (@ps_if _ _ _ _ _ _ _ _ (@pt_cmpR _ _ _ _ _ _ _ _ op_gt (pe_call GO hr1 (by rfl) mO FO.kp bO .nil pass0 (@pa_cons _ _ _ _ _ (pv 1) pa_nil (by rfl))) (pe_glob (v := V.int 8) (by rfl) gM8 ⟨_, rfl⟩) (nomark _)) (@pss_one _ _ _ ps_never) pss_nil) (@pss_one _ _ _ (@ps_ret _ _ _ _ (pv 1))))))), ?_⟩
  refine ⟨_, rfl, rfl, t, " ", rfl, rfl, by decide +kernel, by omega, by omega, fun p0 hp0 => ?_⟩
  have s0 := same_new hp0 (.lst ((Txt.split t " ").map V.str))
  have e0 : upd H p0 (.lst ((Txt.split t " ").map V.str)) p0 = some (.lst ((Txt.split t " ").map V.str)) := upd_same
  generalize upd H p0 (.lst ((Txt.split t " ").map V.str)) = H0 at s0 e0 ⊢
  refine ⟨p0, rfl, ⟨_, SqL.of e0⟩, comp_list (xs := (Txt.split t " ").map V.str) (fun i ys H' => ys = (((Txt.split t " ").take i).filter fun x => !decide (V.str x = V.str "")).map V.str ∧ H' = H0) ⟨rfl, rfl⟩ (fun i ys H' _ ⟨_, e⟩ => by rw [e]; exact SqL.of e0) (fun i ys H' _ ⟨e, _⟩ => ?_) ?_ ?_⟩
  · rw [e, List.length_map]
    have h1 := List.length_filter_le (fun x => !decide (V.str x = V.str ("" : Str))) ((Txt.split t " ").take i)
    rw [List.length_take] at h1
    omega
  · rintro i x ys H' hx ⟨rfl, rfl⟩
    rw [List.getElem?_map] at hx
    obtain ⟨y, hy, rfl⟩ := Option.map_eq_some_iff.mp hx
    rw [List.take_add_one, hy, List.filter_append]
    refine ⟨_, rfl, rfl, _, rfl, ?_⟩
    cases e : !decide (V.str y = V.str ("" : Str)) with
    | false =>
      refine iteF ⟨?_, rfl⟩
      have e2 : ((some y).toList).filter (fun x => !decide (V.str x = V.str ("" : Str))) = [] := by
        show List.filter _ [y] = []
        rw [List.filter_cons, if_neg (by rw [e]; exact Bool.false_ne_true)]
        rfl
      rw [e2, List.append_nil]
    | true =>
      refine iteT ⟨_, rfl, ?_, rfl⟩
      have e2 : ((some y).toList).filter (fun x => !decide (V.str x = V.str ("" : Str))) = [y] := by
        show List.filter _ [y] = [y]
        rw [List.filter_cons, if_pos e]
        rfl
      rw [e2, List.map_append]
      rfl
  · rintro ys H' ⟨rfl, rfl⟩ D hD
    rw [List.length_map, List.take_of_length_le (Nat.le_refl _)]
    have s1 := s0.trans (same_new hD (.lst ((piecesOf t).map V.str)))
    have e1 : upd H' D (.lst ((piecesOf t).map V.str)) D = some (.lst ((piecesOf t).map V.str)) := upd_same
    have fD : H D = none := s0.free hD
    show gName 1 (V.ref D) _ (upd H' D (.lst ((piecesOf t).map V.str))) _
    generalize upd H' D (.lst ((piecesOf t).map V.str)) = H1 at s1 e1 ⊢
    refine ⟨_, rfl, D, rfl, ⟨_, SqL.of e1⟩, for_list (xs := (piecesOf t).map V.str) (fun i σ H2 => ∃ v2 : Option V, σ = [some (.str t), some (.ref D), v2] ∧ Same H1 H2) ⟨none, rfl, Same.refl _⟩ (fun i σ H2 _ ⟨_, _, s2⟩ => SqL.of (s2 _ _ e1)) ?_ ?_⟩
    · rintro i x σ H2 hx ⟨v2, rfl, s2⟩
      rw [List.getElem?_map] at hx
      obtain ⟨y, hy, rfl⟩ := Option.map_eq_some_iff.mp hx
      obtain ⟨ay, wy⟩ := W.wrd y (List.mem_of_getElem? hy)
      refine ⟨_, rfl, y, rfl, ay, fun H3 s3 => ⟨_, rfl, ?_⟩⟩
      rw [wy]
      exact iteF ⟨_, rfl, s2.trans s3⟩
    · rintro σ H2 ⟨v2, rfl, s2⟩
      have wm := W.mny
      have wo := W.opn
      refine ⟨_, rfl, D, _, rfl, .inl (SqL.of (s2 _ _ e1)), _, _, rfl, rfl, _, rfl, ite2 (fun c => ?_) (fun _ => ?_)⟩
      · have c := of_decide_eq_true c
        rw [List.length_map] at c
        omega
      refine ⟨_, rfl, D, _, rfl, SqL.of (s2 _ _ e1), fun H3 s3 => ⟨_, _, rfl, rfl, _, rfl, ite2 (fun c => ?_) (fun _ => ?_)⟩⟩
      · have c := of_decide_eq_true c
        omega
      exact ⟨_, rfl, q D _ (s1.trans (s2.trans s3)) fD (s3 _ _ (s2 _ _ e1))⟩
end
end Nw
namespace Nw
open PySem L2
def reaF (p i : V) : List (Str × V) := putF "place" i (putF "pieces" p [])
theorem rea_p (p i : V) : (reaF p i).lookup ("pieces" : Str) = some p := by unfold reaF; rw [lookup_putF, if_neg (by decide +kernel), lookup_putF, if_pos rfl]
theorem rea_i (p i : V) : (reaF p i).lookup ("place" : Str) = some i := by unfold reaF; rw [lookup_putF, if_pos rfl]
theorem rea_no (p i : V) {x : Str} (h1 : x ≠ "place") (h2 : x ≠ "pieces") : (reaF p i).lookup x = none := by unfold reaF; rw [lookup_putF, if_neg h1, lookup_putF, if_neg h2]; rfl
structure ClsR (K : PySem.W.Frag) (CR : Addr) : Prop where
  cl : Cls K CR
  n1 : NoAttr K CR "pieces"
  n2 : NoAttr K CR "place"
structure Rdr (CR : Addr) (H : Hp) (r dx p : Addr) (ws : List Str) (i : Nat) : Prop where
  at_ : H r = some (.ins CR dx (reaF (.ref p) (.int i)))
  pcs : H p = some (.lst (ws.map V.str))
  few : ws.length ≤ 300
theorem Rdr.same {CR : Addr} {H H' : Hp} {r dx p : Addr} {ws : List Str} {i : Nat} (s : Same H H') (R : Rdr CR H r dx p ws i) : Rdr CR H' r dx p ws i := ⟨s _ _ R.at_, s _ _ R.pcs, R.few⟩
def stepR (CR : Addr) (H : Hp) (r dx p : Addr) (i : Nat) : Hp := upd H r (.ins CR dx (reaF (.ref p) (.int i)))
theorem Rdr.ne {CR : Addr} {H : Hp} {r dx p : Addr} {ws : List Str} {i : Nat} (R : Rdr CR H r dx p ws i) : p ≠ r := fun z => by
  have h1 := R.pcs
  rw [z, R.at_] at h1
  cases h1
theorem Rdr.step {CR : Addr} {H : Hp} {r dx p : Addr} {ws : List Str} {i : Nat} (R : Rdr CR H r dx p ws i) (j : Nat) : Rdr CR (stepR CR H r dx p j) r dx p ws j :=
  ⟨upd_same, by unfold stepR; rw [upd_ne R.ne]; exact R.pcs, R.few⟩
theorem stepR_sb (CR : Addr) (H : Hp) (r dx p : Addr) (j : Nat) : Sb r H (stepR CR H r dx p j) := fun b o hb e => by
  unfold stepR
  rw [upd_ne hb]
  exact e
section
variable {P : Program} {w : World} {K : PySem.W.Frag} {mg : Str → Option Value} {base : Heap} {CR : Addr}
def spReaI (C : Addr) : Sp := fun vs H Q _ => ∃ (x dx : Addr) (n : V), vs = [.ref x, n] ∧ H x = some (.ins C dx []) ∧ ∀ H', H' x = some (.ins C dx (reaF n (.int 0))) → (∀ b, b ≠ x → H' b = H b) → Q .non H'
theorem scReaI : FnScope ["self", "pieces"] ["self", "pieces"] (defScope sReaI) := ⟨rfl, rfl, rfl, by decide +kernel, rfl, by decide +kernel, by decide +kernel⟩
theorem ok_reaI {f : Addr} {fd : FuncData} (c : ClsR K CR) (F : Fun K "__init__" "Reader.__init__" sReaI f fd) : FnOk P w K mg base CX0 1 f fd ["self", "pieces"] (spReaI CR) := by
  refine F.ok scReaI (fun vs H Q E h => ?_) (fun cdv A outer s H vs Q E hr h => ?_)
  · obtain ⟨x, dx, n, rfl, _⟩ := h
    rfl
  obtain ⟨x, dx, n, rfl, hx, k⟩ := h
  refine ⟨_, (@pss_cons _ _ _ _ _ (@ps_fld _ _ _ _ _ _ _ _ (pv 0) (pv 1) rfl) (@pss_one _ _ _ (@ps_fld _ _ _ _ _ _ _ _ (pv 0) pe_int rfl))), ?_⟩
  refine ⟨_, rfl, _, rfl, x, _, dx, _, rfl, hx, c.cl, c.n1, (by show 0 < 1000; decide), ?_⟩
  refine ⟨_, rfl, x, _, dx, _, rfl, upd_same, c.cl, c.n2, (by show 1 < 1000; decide), k _ upd_same fun b hb => ?_⟩
  rw [upd_ne hb, upd_ne hb]
def spAhead (CR : Addr) : Sp := fun vs H Q _ => ∃ (r dx p : Addr) (ws : List Str) (i : Nat), vs = [.ref r] ∧ Rdr CR H r dx p ws i ∧ Q (.str (ws.getD i "")) H
theorem scReaA : FnScope ["self"] ["self"] (defScope sReaA) := ⟨rfl, rfl, rfl, by decide +kernel, rfl, by decide +kernel, by decide +kernel⟩
theorem ok_reaA {f : Addr} {fd : FuncData} (B : Bl mg) (c : ClsR K CR) (F : Fun K "ahead" "Reader.ahead" sReaA f fd) : FnOk P w K mg base CX0 1 f fd ["self"] (spAhead CR) := by
  refine F.ok scReaA (fun vs H Q E h => ?_) (fun cdv A outer s H vs Q E hr h => ?_)
  · obtain ⟨r, dx, p, ws, i, rfl, _⟩ := h
    rfl
  obtain ⟨r, dx, p, ws, i, rfl, R, q⟩ := h
  refine ⟨_, (@pss_cons _ _ _ _ _ (@ps_if _ _ _ _ _ _ _ _ (@pt_cmpR _ _ _ _ _ _ _ _ op_lt (@pe_fld _ _ _ _ _ (pv 0) rfl) (pe_callB call_len_seq (by rfl) B.len PySem.boot_len (@pa_cons _ _ _ _ _ (@pe_fld _ _ _ _ _ (pv 0) rfl) pa_nil (by rfl))) (nomark _)) (@pss_one _ _ _ (@ps_ret _ _ _ _ (@pe_ix _ _ _ _ _ _ (rIxL K) ix_list (@pe_fld _ _ _ _ _ (pv 0) rfl) (@pe_fld _ _ _ _ _ (pv 0) rfl) (fun _ _ => rfl)))) pss_nil) (@pss_one _ _ _ (@ps_ret _ _ _ _ pe_str))), ?_⟩
  refine ⟨_, rfl, r, _, dx, _, _, rfl, R.at_, c.cl, c.n2, rea_i _ _, _, rfl, r, _, dx, _, _, rfl, R.at_, c.cl, c.n1, rea_p _ _, p, _, rfl, .inl (SqL.of R.pcs), _, _, rfl, rfl, _, rfl, ite2 (fun h => ?_) (fun h => ?_)⟩
  · have h := of_decide_eq_true h
    rw [List.length_map] at h
    have hi : i < ws.length := by omega
    refine ⟨_, rfl, r, _, dx, _, _, rfl, R.at_, c.cl, c.n1, rea_p _ _, _, rfl, r, _, dx, _, _, rfl, R.at_, c.cl, c.n2, rea_i _ _, p, _, _, _, rfl, rfl, SqL.of R.pcs, atI_nat (j := i) (v := .str ws[i]) (by rw [List.getElem?_map, List.getElem?_eq_getElem hi]; rfl), ?_⟩
    rw [List.getD_eq_getElem?_getD, List.getElem?_eq_getElem hi] at q
    exact q
  · have h : ¬ (i : Int) < ((ws.map V.str).length : Int) := fun z => h (decide_eq_true z)
    rw [List.length_map] at h
    rw [List.getD_eq_getElem?_getD, List.getElem?_eq_none (by omega)] at q
    exact q
def spTake (CR : Addr) : Sp := fun vs H Q _ => ∃ (r dx p : Addr) (ws : List Str) (i : Nat), vs = [.ref r] ∧ Rdr CR H r dx p ws i ∧ Q (.str (ws.getD i "")) (stepR CR H r dx p (i + 1))
theorem scReaT : FnScope ["self", "piece"] ["self"] (defScope sReaT) := ⟨rfl, rfl, rfl, by decide +kernel, rfl, by decide +kernel, by decide +kernel⟩
theorem ok_reaT {f : Addr} {fd : FuncData} (c : ClsR K CR) (F : Fun K "take" "Reader.take" sReaT f fd) (M : MOk P w K mg base 1 CR "ahead" (spAhead CR)) : FnOk P w K mg base CX0 2 f fd ["self"] (spTake CR) := by
  refine F.ok scReaT (fun vs H Q E h => ?_) (fun cdv A outer s H vs Q E hr h => ?_)
  · obtain ⟨r, dx, p, ws, i, rfl, _⟩ := h
    rfl
  obtain ⟨r, dx, p, ws, i, rfl, R, q⟩ := h
  refine ⟨_, (@pss_cons _ _ _ _ _ (@ps_set _ _ 1 _ _ _ _ scReaT.nd rfl (Or.inl rfl) (pe_methP0 (pv 0) hr) rfl (Or.inl rfl)) (@pss_cons _ _ _ _ _ (@ps_fld _ _ _ _ _ _ _ _ (pv 0) (@pe_op _ _ _ _ _ _ _ _ op_add (@pe_fld _ _ _ _ _ (pv 0) rfl) pe_int) rfl) (@pss_one _ _ _ (@ps_ret _ _ _ _ (pv 1))))), ?_⟩
  refine ⟨_, rfl, r, _, dx, _, _, rfl, R.at_, rea_no _ _ (by decide +kernel) (by decide +kernel), M, r, dx, p, ws, i, rfl, R, ?_⟩
  refine ⟨_, rfl, r, _, dx, _, _, rfl, R.at_, c.cl, c.n2, rea_i _ _, _, _, rfl, rfl, _, rfl, r, _, dx, _, rfl, R.at_, c.cl, c.n2, (by show 2 < 1000; decide), ?_⟩
  exact ⟨_, rfl, q⟩
def spTakeW (CR : Addr) : Sp := fun vs H Q _ => ∃ (r dx p : Addr) (ws : List Str) (i : Nat) (x : Str), vs = [.ref r, .str x] ∧ Rdr CR H r dx p ws i ∧ ws[i]? = some x ∧ Q .non (stepR CR H r dx p (i + 1))
theorem scReaW : FnScope ["self", "word", "piece"] ["self", "word"] (defScope sReaW) := ⟨rfl, rfl, rfl, by decide +kernel, rfl, by decide +kernel, by decide +kernel⟩
theorem ok_reaW {f : Addr} {fd : FuncData} (F : Fun K "take_word" "Reader.take_word" sReaW f fd) (M : MOk P w K mg base 2 CR "take" (spTake CR)) : FnOk P w K mg base CX0 3 f fd ["self", "word"] (spTakeW CR) := by
  refine F.ok scReaW (fun vs H Q E h => ?_) (fun cdv A outer s H vs Q E hr h => ?_)
  · obtain ⟨r, dx, p, ws, i, x, rfl, _⟩ := h
    rfl
  obtain ⟨r, dx, p, ws, i, x, rfl, R, hx, q⟩ := h
  refine ⟨_, (@pss_cons _ _ _ _ _ (@ps_set _ _ 2 _ _ _ _ scReaW.nd rfl (Or.inl rfl) (pe_methP0 (pv 0) hr) rfl (Or.inl rfl)) (@pss_one _ _ _ (@ps_if _ _ _ _ _ _ _ _ (@pt_cmpR _ _ _ _ _ _ _ _ op_ne (pv 2) (pv 1) (nomark _)) (@pss_one _ _ _ ps_never) pss_nil))), ?_⟩
  refine ⟨_, rfl, r, _, dx, _, _, rfl, R.at_, rea_no _ _ (by decide +kernel) (by decide +kernel), M, r, dx, p, ws, i, rfl, R, ?_⟩
  rw [List.getD_eq_getElem?_getD, hx]
  refine ⟨_, rfl, _, rfl, rfl, _, rfl, ?_⟩
  rw [Option.getD_some, decide_eq_true rfl]
  exact iteF q
def spTakeE (CR : Addr) : Sp := fun vs H Q _ => ∃ (r dx p : Addr) (ws : List Str) (i : Nat), vs = [.ref r] ∧ Rdr CR H r dx p ws i ∧ ws.length ≤ i ∧ Q .non H
theorem scReaE : FnScope ["self", "piece"] ["self"] (defScope sReaE) := ⟨rfl, rfl, rfl, by decide +kernel, rfl, by decide +kernel, by decide +kernel⟩
theorem ok_reaE {f : Addr} {fd : FuncData} (F : Fun K "take_end" "Reader.take_end" sReaE f fd) (M : MOk P w K mg base 1 CR "ahead" (spAhead CR)) : FnOk P w K mg base CX0 2 f fd ["self"] (spTakeE CR) := by
  refine F.ok scReaE (fun vs H Q E h => ?_) (fun cdv A outer s H vs Q E hr h => ?_)
  · obtain ⟨r, dx, p, ws, i, rfl, _⟩ := h
    rfl
  obtain ⟨r, dx, p, ws, i, rfl, R, hi, q⟩ := h
  refine ⟨_, (@pss_cons _ _ _ _ _ (@ps_set _ _ 1 _ _ _ _ scReaE.nd rfl (Or.inl rfl) (pe_methP0 (pv 0) hr) rfl (Or.inl rfl)) (@pss_one _ _ _ (@ps_if _ _ _ _ _ _ _ _ (@pt_cmpR _ _ _ _ _ _ _ _ op_ne (pv 1) pe_str (nomark _)) (@pss_one _ _ _ ps_never) pss_nil))), ?_⟩
  refine ⟨_, rfl, r, _, dx, _, _, rfl, R.at_, rea_no _ _ (by decide +kernel) (by decide +kernel), M, r, dx, p, ws, i, rfl, R, ?_⟩
  rw [List.getD_eq_getElem?_getD, List.getElem?_eq_none hi]
  refine ⟨_, rfl, rfl, _, rfl, ?_⟩
  rw [Option.getD_none, decide_eq_true rfl]
  exact iteF q
end
end Nw
namespace Nw
open PySem L2
def toksT : Tr → List Str
  | .num n => [(toString n : String)]
  | .nam x => [x]
  | .op g a b => ("(" : Str) :: (toksT a ++ (sgS g :: (toksT b ++ [(")" : Str)])))
structure Tok (x : Str) : Prop where
  no : 32 ∉ x.cps.toList
  ne : x ≠ ""
  len : x.length ≤ 9
structure WName (x : Str) : Prop where
  tok : Tok x
  asc : Asc x
  num : numB x = false
  nam : (nameB x || farB x) = true
def GoodT : Tr → Prop
  | .num n => 0 ≤ n ∧ n ≤ 99
  | .nam x => WName x
  | .op _ a b => GoodT a ∧ GoodT b
instance (z : Str) : Decidable (Asc z) := if h : z.cps.all (· < 128) = true ∧ z.length ≤ 1000 then .isTrue ⟨h.1, h.2⟩ else .isFalse fun a => h ⟨a.all, a.len⟩
theorem num_good2 : ∀ k : Fin 100, Asc ((toString ((k.val : Nat) : Int) : String) : Str) ∧ numB ((toString ((k.val : Nat) : Int) : String) : Str) = true := by decide +kernel
theorem num_good {n : Int} (h : 0 ≤ n ∧ n ≤ 99) : Asc ((toString n : String) : Str) ∧ numB ((toString n : String) : Str) = true := by
  have := num_good2 ⟨n.toNat, by omega⟩
  have e : ((n.toNat : Nat) : Int) = n := by omega
  simp only [e] at this
  exact this
theorem open_good : Asc ("(" : Str) ∧ numB "(" = false ∧ nameB "(" = false ∧ farB "(" = false := by decide +kernel
theorem tok_at {ws l : List Str} {i : Nat} {x : Str} (h : ws.drop i = x :: l) : ws[i]? = some x ∧ ws.getD i "" = x ∧ ws.drop (i + 1) = l := by
  have h1 : ws[i]? = some x := by rw [← Nat.add_zero i, ← List.getElem?_drop, h]; rfl
  refine ⟨h1, by rw [List.getD_eq_getElem?_getD, h1]; rfl, ?_⟩
  rw [← List.drop_drop, h]
  rfl
theorem tok_past {ws l m : List Str} {i : Nat} (h : ws.drop i = l ++ m) : ws.drop (i + l.length) = m := by
  rw [← List.drop_drop, h, List.drop_left]
theorem not_reader {a b : V} {fs : List (Str × V)} (h : fs.lookup ("place" : Str) = none) : reaF a b ≠ fs := fun z => by
  have := rea_i a b
  rw [z, h] at this
  cases this
theorem num_pl (v : V) : (numF v).lookup ("place" : Str) = none := by unfold numF; rw [lookup_putF, if_neg (by decide +kernel)]; rfl
theorem nam_pl (v : V) : (namF v).lookup ("place" : Str) = none := by unfold namF; rw [lookup_putF, if_neg (by decide +kernel)]; rfl
theorem two_pl (a b : V) : (twoF a b).lookup ("place" : Str) = none := by unfold twoF; rw [lookup_putF, if_neg (by decide +kernel), lookup_putF, if_neg (by decide +kernel)]; rfl
theorem ins_sb {H H' : Hp} {r : Addr} {CR dx : Addr} {a b : V} (hr : H r = some (.ins CR dx (reaF a b))) (s : Sb r H H') {q : Addr} {C dy : Addr} {fs : List (Str × V)} (hf : fs.lookup ("place" : Str) = none) (h : H q = some (.ins C dy fs)) : H' q = some (.ins C dy fs) := by
  refine s q _ (fun z => ?_) h
  rw [z, hr] at h
  injection h with h
  injection h with _ _ h
  exact not_reader hf h
theorem Obj.sb {CK : Kd → Addr} {H H' : Hp} {r : Addr} {CR dx : Addr} {a b : V} (hr : H r = some (.ins CR dx (reaF a b))) (s : Sb r H H') : ∀ {t : Tr} {v : V}, Obj CK H t v → Obj CK H' t v
  | .num n, v, h => by
    obtain ⟨p, dx, e, h⟩ := h
    exact ⟨p, dx, e, ins_sb hr s (num_pl _) h⟩
  | .nam x, v, h => by
    obtain ⟨p, dx, e, h⟩ := h
    exact ⟨p, dx, e, ins_sb hr s (nam_pl _) h⟩
  | .op g l r, v, h => by
    obtain ⟨p, dx, a, b, e, h, h1, h2⟩ := h
    exact ⟨p, dx, a, b, e, ins_sb hr s (two_pl _ _) h, Obj.sb hr s h1, Obj.sb hr s h2⟩
section
variable {P : Program} {w : World} {K : PySem.W.Frag} {mg : Str → Option Value} {base : Heap} {CK : Kd → Addr} {CR aO aS : Addr}
def spSumIn (CK : Kd → Addr) (CR : Addr) (n : Nat) : Sp := fun vs H Q _ => ∃ (r dx p : Addr) (ws rest : List Str) (i : Nat) (t : Tr), vs = [.ref r] ∧ Rdr CR H r dx p ws i ∧ ws.drop i = toksT t ++ rest ∧ GoodT t ∧ dp t < n ∧
  ∀ (q : Addr) (H' : Hp), Sb r H H' → Rdr CR H' r dx p ws (i + (toksT t).length) → Obj CK H' t (.ref q) → Q (.ref q) H'
def spBraIn (CK : Kd → Addr) (CR : Addr) (n : Nat) : Sp := fun vs H Q _ => ∃ (r dx p : Addr) (ws rest : List Str) (i : Nat) (g : Sg) (a b : Tr), vs = [.ref r] ∧ Rdr CR H r dx p ws i ∧ ws.drop i = toksT a ++ (sgS g :: (toksT b ++ ((")" : Str) :: rest))) ∧ GoodT a ∧ GoodT b ∧ dp a < n ∧ dp b < n ∧
  ∀ (q : Addr) (H' : Hp), Sb r H H' → Rdr CR H' r dx p ws (i + (toksT a).length + 1 + (toksT b).length + 1) → Obj CK H' (.op g a b) (.ref q) → Q (.ref q) H'
theorem scBraIn : FnScope ["reader", "one", "sign", "other"] ["reader"] (defScope sBraIn) := ⟨rfl, rfl, rfl, by decide +kernel, rfl, by decide +kernel, by decide +kernel⟩
theorem ok_braIn {f fN fM fT fS : Addr} {fd dN dM dT dS : FuncData} (T : Maker K mg CK fN fM fT dN dM dT) (F : Fun K "bracketed_sum_in" "bracketed_sum_in" sBraIn f fd) (FS : Fun K "sum_in" "sum_in" sSumIn fS dS) (bS : Binds K dS ["reader"] []) (mS : mg "sum_in" = some (.ref fS))
    (MT : MOk P w K mg base 2 CR "take" (spTake CR)) (MW : MOk P w K mg base 3 CR "take_word" (spTakeW CR)) (n : Nat) (GS : FnOk P w K mg base CX0 (2 * n + 5) fS dS ["reader"] (spSumIn CK CR n)) : FnOk P w K mg base CX0 (2 * n + 6) f fd ["reader"] (spBraIn CK CR n) := by
  have GT : ∀ g, FnOk P w K mg base CX0 1 fT dT ["self", "one", "other"] (spTwoI (CK (.op g))) := ok_twoI T.cls T.FT
  refine F.ok scBraIn (fun vs H Q E h => ?_) (fun cdv A outer s H vs Q E hr h => ?_)
  · obtain ⟨r, dx, p, ws, rest, i, g, a, b, rfl, _⟩ := h
    rfl
  obtain ⟨r, dx, p, ws, rest, i, g, a, b, rfl, R, hw, ga, gb, da, db, q⟩ := h
  have hr2 : Room 2 _ := hr.mono (by omega)
  have hr3 : Room 3 _ := hr.mono (by omega)
  refine ⟨_, (@pss_cons _ _ _ _ _ (@ps_set _ _ 1 _ _ _ _ scBraIn.nd rfl (Or.inl rfl) (pe_call GS hr (by rfl) mS FS.kp bS .nil pass0 (@pa_cons _ _ _ _ _ (pv 0) pa_nil (by rfl))) rfl (Or.inl rfl)) (@pss_cons _ _ _ _ _ (@ps_set _ _ 2 _ _ _ _ scBraIn.nd rfl (Or.inl rfl) (pe_methP0 (pv 0) hr2) rfl (Or.inl rfl)) (@pss_cons _ _ _ _ _ (@ps_set _ _ 3 _ _ _ _ scBraIn.nd rfl (Or.inl rfl) (pe_call GS hr (by rfl) mS FS.kp bS .nil pass0 (@pa_cons _ _ _ _ _ (pv 0) pa_nil (by rfl))) rfl (Or.inl rfl)) (@pss_cons _ _ _ _ _ (@ps_expr _ _ _ _ (pe_methP (pv 0) hr3 (@pa_cons _ _ _ _ _ pe_str pa_nil (by rfl))) (by rfl)) (@pss_cons _ _ _ _ _ (@ps_if _ _ _ _ _ _ _ _ (@pt_cmpR _ _ _ _ _ _ _ _ op_eq (pv 2) pe_str (nomark _)) (@pss_one _ _ _ (@ps_ret _ _ _ _ (pe_make (T.mkT .plus) (GT .plus) hr2 rfl T.gP T.bT .nil pass0 (@pa_cons _ _ _ _ _ (pv 1) (@pa_cons _ _ _ _ _ (pv 3) pa_nil (by rfl)) (by rfl))))) pss_nil) (@pss_cons _ _ _ _ _ (@ps_if _ _ _ _ _ _ _ _ (@pt_cmpR _ _ _ _ _ _ _ _ op_eq (pv 2) pe_str (nomark _)) (@pss_one _ _ _ (@ps_ret _ _ _ _ (pe_make (T.mkT .minus) (GT .minus) hr2 rfl T.gI T.bT .nil pass0 (@pa_cons _ _ _ _ _ (pv 1) (@pa_cons _ _ _ _ _ (pv 3) pa_nil (by rfl)) (by rfl))))) pss_nil) (@pss_cons _ _ _ _ _ (@ps_if _ _ _ _ _ _ _ _ (@pt_cmpR _ _ _ _ _ _ _ _ op_eq (pv 2) pe_str (nomark _)) (@pss_one _ _ _ (@ps_ret _ _ _ _ (pe_make (T.mkT .times) (GT .times) hr2 rfl T.gX T.bT .nil pass0 (@pa_cons _ _ _ _ _ (pv 1) (@pa_cons _ _ _ _ _ (pv 3) pa_nil (by rfl)) (by rfl))))) pss_nil) (@pss_one _ _ _ ps_never)))))))), ?_⟩
  refine ⟨_, rfl, r, dx, p, ws, _, i, a, rfl, R, hw, ga, da, fun q1 H1 s1 R1 o1 => ?_⟩
  have w1 := tok_past hw
  obtain ⟨_, e1, w2⟩ := tok_at w1
  have nt : ∀ (j : Nat), (reaF (.ref p) (.int j)).lookup ("take" : Str) = none := fun j => rea_no _ _ (by decide +kernel) (by decide +kernel)
  refine ⟨_, rfl, r, _, dx, _, _, rfl, R1.at_, nt _, MT, r, dx, p, ws, _, rfl, R1, ?_⟩
  rw [e1]
  have R2 := R1.step (i + (toksT a).length + 1)
  have s2 := stepR_sb CR H1 r dx p (i + (toksT a).length + 1)
  have o2 := o1.sb R1.at_ s2
  generalize stepR CR H1 r dx p (i + (toksT a).length + 1) = H2 at R2 s2 o2 ⊢
  refine ⟨_, rfl, r, dx, p, ws, _, _, b, rfl, R2, w2, gb, db, fun q2 H3 s3 R3 o3 => ?_⟩
  have o4 := o2.sb R2.at_ s3
  have w3 := tok_past w2
  obtain ⟨h4, _, _⟩ := tok_at w3
  refine ⟨_, rfl, r, _, dx, _, _, rfl, R3.at_, rea_no _ _ (by decide +kernel) (by decide +kernel), MW, r, dx, p, ws, _, ")", rfl, R3, h4, ?_⟩
  have R4 := R3.step (i + (toksT a).length + 1 + (toksT b).length + 1)
  have s4 := stepR_sb CR H3 r dx p (i + (toksT a).length + 1 + (toksT b).length + 1)
  have o5 := o4.sb R3.at_ s4
  have o6 := o3.sb R3.at_ s4
  generalize stepR CR H3 r dx p (i + (toksT a).length + 1 + (toksT b).length + 1) = H4 at R4 s4 o5 o6 ⊢
  have t4 := s1.trans (s2.trans (s3.trans s4))
  have fin : ∀ (x dx : Addr), H4 x = none → H4 dx = none → dx ≠ x → spTwoI (CK (.op g)) [.ref x, .ref q1, .ref q2] (upd (upd H4 dx (.own x)) x (.ins (CK (.op g)) dx [])) (fun v H3 => v = .non ∧ Q (.ref x) H3) E0 := by
    intro x dx hx hd hxd
    refine ⟨x, dx, _, _, rfl, upd_same, fun H5 h3 h4 => ⟨rfl, ?_⟩⟩
    have s5 : Same H4 H5 := by
      intro b' u e
      rw [h4 b' (ne_of_none e hx)]
      exact same_made hx hd hxd _ _ b' u e
    exact q x H5 (t4.trans (Sb.of s5)) (R4.same s5) ⟨x, dx, _, _, rfl, h3, o5.same s5, o6.same s5⟩
  cases g with
  | plus =>
    refine ⟨_, rfl, rfl, _, rfl, ite2 (fun _ => ?_) (fun c => absurd (decide_eq_true rfl) c)⟩
    exact ⟨_, rfl, _, rfl, fin⟩
  | minus =>
    refine ⟨_, rfl, rfl, _, rfl, ite2 (fun c => absurd (of_decide_eq_true c) (by decide +kernel)) (fun _ => ?_)⟩
    refine ⟨_, rfl, rfl, _, rfl, ite2 (fun _ => ?_) (fun c => absurd (decide_eq_true rfl) c)⟩
    exact ⟨_, rfl, _, rfl, fin⟩
  | times =>
    refine ⟨_, rfl, rfl, _, rfl, ite2 (fun c => absurd (of_decide_eq_true c) (by decide +kernel)) (fun _ => ?_)⟩
    refine ⟨_, rfl, rfl, _, rfl, ite2 (fun c => absurd (of_decide_eq_true c) (by decide +kernel)) (fun _ => ?_)⟩
    refine ⟨_, rfl, rfl, _, rfl, ite2 (fun _ => ?_) (fun c => absurd (decide_eq_true rfl) c)⟩
    exact ⟨_, rfl, _, rfl, fin⟩
theorem scSumIn : FnScope ["reader", "piece"] ["reader"] (defScope sSumIn) := ⟨rfl, rfl, rfl, by decide +kernel, rfl, by decide +kernel, by decide +kernel⟩
theorem ok_sumIn {fS fN fM fT fB fU fNm fA : Addr} {dS dN dM dT dB dU dNm dA : FuncData} (B : Bl mg) (T : Maker K mg CK fN fM fT dN dM dT) (FS : Fun K "sum_in" "sum_in" sSumIn fS dS) (bS : Binds K dS ["reader"] []) (mS : mg "sum_in" = some (.ref fS)) (FB : Fun K "bracketed_sum_in" "bracketed_sum_in" sBraIn fB dB) (bB : Binds K dB ["reader"] []) (mB : mg "bracketed_sum_in" = some (.ref fB))
    (FU : Fun K "is_number" "is_number" sIsNum fU dU) (bU : Binds K dU ["piece"] []) (mU : mg "is_number" = some (.ref fU)) (GU : FnOk P w K mg base CX0 2 fU dU ["piece"] (sp1 numB)) (FNm : Fun K "is_name" "is_name" sIsNam fNm dNm) (bNm : Binds K dNm ["piece"] []) (mNm : mg "is_name" = some (.ref fNm)) (GNm : FnOk P w K mg base CX0 2 fNm dNm ["piece"] (sp1 nameB))
    (FA : Fun K "is_far_name" "is_far_name" sIsFar fA dA) (bA : Binds K dA ["piece"] []) (mA : mg "is_far_name" = some (.ref fA)) (GA : FnOk P w K mg base CX0 3 fA dA ["piece"] (sp1 farB))
    (MT : MOk P w K mg base 2 CR "take" (spTake CR)) (MW : MOk P w K mg base 3 CR "take_word" (spTakeW CR)) : ∀ n : Nat, FnOk P w K mg base CX0 (2 * n + 5) fS dS ["reader"] (spSumIn CK CR n)
  | 0 => fn_none fun vs H Q E h => by obtain ⟨r, dx, p, ws, rest, i, t, _, _, _, _, h1, _⟩ := h; omega
  | n + 1 => by
    have GB := ok_braIn T FB FS bS mS MT MW n (ok_sumIn B T FS bS mS FB bB mB FU bU mU GU FNm bNm mNm GNm FA bA mA GA MT MW n)
    have GN : FnOk P w K mg base CX0 1 fN dN ["self", "number"] (spNumI (CK .num)) := ok_numI T.cls T.FN
    have GM : FnOk P w K mg base CX0 1 fM dM ["self", "name"] (spNamI (CK .nam)) := ok_namI T.cls T.FM
    refine FS.ok (k := 2 * n + 6) scSumIn (fun vs H Q E h => ?_) (fun cdv A outer s H vs Q E hr h => ?_)
    · obtain ⟨r, dx, p, ws, rest, i, t, rfl, _⟩ := h
      rfl
    obtain ⟨r, dx, p, ws, rest, i, t, rfl, R, hw, gt, dt, q⟩ := h
    have hr2 : Room 2 _ := hr.mono (by omega)
    have hr3 : Room 3 _ := hr.mono (by omega)
    refine ⟨_, (@pss_cons _ _ _ _ _ (@ps_set _ _ 1 _ _ _ _ scSumIn.nd rfl (Or.inl rfl) (pe_methP0 (pv 0) hr2) rfl (Or.inl rfl)) (@pss_cons _ _ _ _ _ (@ps_if _ _ _ _ _ _ _ _ (pt_val (pe_call GU hr2 (by rfl) mU FU.kp bU .nil pass0 (@pa_cons _ _ _ _ _ (pv 1) pa_nil (by rfl)))) (@pss_one _ _ _ (@ps_ret _ _ _ _ (pe_make T.mkN GN hr2 rfl T.gN T.bN .nil pass0 (@pa_cons _ _ _ _ _ (pe_callTy call_int_text (by rfl) B.int PyProof.Rows.boot_int (@pa_cons _ _ _ _ _ (pv 1) pa_nil (by rfl))) pa_nil (by rfl))))) pss_nil) (@pss_cons _ _ _ _ _ (@ps_if _ _ _ _ _ _ _ _ ((@pw_or _ _ _ _ _ _ _ (pt_val (pe_call GNm hr2 (by rfl) mNm FNm.kp bNm .nil pass0 (@pa_cons _ _ _ _ _ (pv 1) pa_nil (by rfl)))) (pw_or1 (pt_val (pe_call GA hr3 (by rfl) mA FA.kp bA .nil pass0 (@pa_cons _ _ _ _ _ (pv 1) pa_nil (by rfl))))))).pt (@pss_one _ _ _ (@ps_ret _ _ _ _ (pe_make T.mkM GM hr2 rfl T.gM T.bM .nil pass0 (@pa_cons _ _ _ _ _ (pv 1) pa_nil (by rfl))))) pss_nil) (@pss_cons _ _ _ _ _ (@ps_if _ _ _ _ _ _ _ _ (@pt_cmpR _ _ _ _ _ _ _ _ op_eq (pv 1) pe_str (nomark _)) (@pss_one _ _ _ (@ps_ret _ _ _ _ (pe_call GB hr (by rfl) mB FB.kp bB .nil pass0 (@pa_cons _ _ _ _ _ (pv 0) pa_nil (by rfl))))) pss_nil) (@pss_one _ _ _ ps_never))))), ?_⟩
    refine ⟨_, rfl, r, _, dx, _, _, rfl, R.at_, rea_no _ _ (by decide +kernel) (by decide +kernel), MT, r, dx, p, ws, _, rfl, R, ?_⟩
    have R1 := R.step (i + 1)
    have s1 := stepR_sb CR H r dx p (i + 1)
    generalize stepR CR H r dx p (i + 1) = H1 at R1 s1 ⊢
    cases t with
    | num m =>
      obtain ⟨_, e1, _⟩ := tok_at (show ws.drop i = ((toString m : String) : Str) :: rest from hw)
      rw [e1]
      obtain ⟨ga, gn⟩ := num_good gt
      have gt' : 0 ≤ m ∧ m ≤ 99 := gt
      refine ⟨_, rfl, _, rfl, ga, fun H2 s2 => ⟨_, rfl, ?_⟩⟩
      rw [gn]
      refine iteT ⟨_, rfl, _, m, rfl, W.KIN.num_reads gt'.1 (by omega), Nat.le_trans (num_len gt') (by decide), fun x dx' hx hd hxd => ?_⟩
      have s3 : Same H2 (upd (upd (upd H2 dx' (.own x)) x (.ins (CK .num) dx' [])) x (.ins (CK .num) dx' (numF (.int m)))) := by
        intro b u e
        rw [upd_ne (ne_of_none e hx)]
        exact same_made hx hd hxd _ _ b u e
      exact ⟨x, dx', _, rfl, upd_same, rfl, q x _ (s1.trans ((Sb.of s2).trans (Sb.of s3))) ((R1.same s2).same s3) ⟨x, dx', rfl, upd_same⟩⟩
    | nam y =>
      obtain ⟨_, e1, _⟩ := tok_at (show ws.drop i = y :: rest from hw)
      rw [e1]
      have gy : WName y := gt
      refine ⟨_, rfl, _, rfl, gy.asc, fun H2 s2 => ⟨_, rfl, ?_⟩⟩
      rw [gy.num]
      refine iteF ⟨_, rfl, _, rfl, gy.asc, fun H3 s3 => ⟨_, rfl, ?_⟩⟩
      have fin : ∀ (H4 : Hp), Same H2 H4 → ∀ (x dx' : Addr), H4 x = none → H4 dx' = none → dx' ≠ x → spNamI (CK .nam) [.ref x, .str y] (upd (upd H4 dx' (.own x)) x (.ins (CK .nam) dx' [])) (fun v H3 => v = .non ∧ Q (.ref x) H3) E0 := by
        intro H4 s4 x dx' hx hd hxd
        have s5 : Same H4 (upd (upd (upd H4 dx' (.own x)) x (.ins (CK .nam) dx' [])) x (.ins (CK .nam) dx' (namF (.str y)))) := by
          intro b u e
          rw [upd_ne (ne_of_none e hx)]
          exact same_made hx hd hxd _ _ b u e
        have t5 := s2.trans (s4.trans s5)
        exact ⟨x, dx', _, rfl, upd_same, rfl, q x _ (s1.trans (Sb.of t5)) (R1.same t5) ⟨x, dx', rfl, upd_same⟩⟩
      cases e2 : nameB y with
      | true => exact iteT (iteT ⟨_, rfl, fin H3 s3⟩)
      | false =>
        have e3 : farB y = true := by have := gy.nam; rw [e2] at this; exact this
        refine iteF ⟨_, rfl, _, rfl, gy.asc, fun H4 s4 => ⟨_, rfl, ?_⟩⟩
        rw [e3]
        exact iteT ⟨_, rfl, fin H4 (s3.trans s4)⟩
    | op g a b =>
      have hw' : ws.drop i = ("(" : Str) :: (toksT a ++ (sgS g :: (toksT b ++ ((")" : Str) :: rest)))) := by
        rw [hw]
        show ("(" : Str) :: (toksT a ++ (sgS g :: (toksT b ++ [(")" : Str)]))) ++ rest = _
        simp
      obtain ⟨_, e1, w1⟩ := tok_at hw'
      rw [e1]
      obtain ⟨ga, g1, g2, g3⟩ := open_good
      refine ⟨_, rfl, _, rfl, ga, fun H2 s2 => ⟨_, rfl, ?_⟩⟩
      rw [g1]
      refine iteF ⟨_, rfl, _, rfl, ga, fun H3 s3 => ⟨_, rfl, ?_⟩⟩
      rw [g2]
      refine iteF ⟨_, rfl, _, rfl, ga, fun H4 s4 => ⟨_, rfl, ?_⟩⟩
      rw [g3]
      refine iteF ⟨_, rfl, rfl, _, rfl, ?_⟩
      rw [decide_eq_true rfl]
      have dt' : max (dp a) (dp b) + 1 < n + 1 := dt
      have t4 := s2.trans (s3.trans s4)
      refine iteT ⟨_, rfl, r, dx, p, ws, rest, i + 1, g, a, b, rfl, R1.same t4, w1, gt.1, gt.2, by omega, by omega, fun q1 H5 s5 R5 o5 => ?_⟩
      refine q q1 H5 (s1.trans ((Sb.of t4).trans s5)) ?_ o5
      have el : i + (toksT (.op g a b)).length = i + 1 + (toksT a).length + 1 + (toksT b).length + 1 := by
        show i + (("(" : Str) :: (toksT a ++ (sgS g :: (toksT b ++ [(")" : Str)])))).length = _
        simp only [List.length_cons, List.length_append, List.length_nil]
        omega
      rw [el]
      exact R5
end
end Nw
namespace Nw
open PySem L2
def toksY : Sy → List Str
  | .yes => ["yes"]
  | .cmp c a b => toksT a ++ (cmS c :: toksT b)
  | .neg s => ("[" : Str) :: ("not" : Str) :: (toksY s ++ [("]" : Str)])
  | .bin g a b => ("[" : Str) :: (toksY a ++ (bnS g :: (toksY b ++ [("]" : Str)])))
def GoodY : Sy → Prop
  | .yes => True
  | .cmp _ a b => GoodT a ∧ GoodT b ∧ dp a < 10 ∧ dp b < 10
  | .neg s => GoodY s
  | .bin _ a b => GoodY a ∧ GoodY b
theorem num_head2 : ∀ k : Fin 100, ((toString ((k.val : Nat) : Int) : String) : Str) ≠ "yes" ∧ ((toString ((k.val : Nat) : Int) : String) : Str) ≠ "[" ∧ ((toString ((k.val : Nat) : Int) : String) : Str) ≠ "not" := by decide +kernel
theorem own_head : (nameB "yes" || farB "yes") = false ∧ (nameB "[" || farB "[") = false ∧ (nameB "not" || farB "not") = false := by decide +kernel
theorem headT {t : Tr} (h : GoodT t) : ∃ x l, toksT t = x :: l ∧ x ≠ "yes" ∧ x ≠ "[" ∧ x ≠ "not" := by
  cases t with
  | num m =>
    have h : 0 ≤ m ∧ m ≤ 99 := h
    have := num_head2 ⟨m.toNat, by omega⟩
    have e : ((m.toNat : Nat) : Int) = m := by omega
    simp only [e] at this
    exact ⟨_, _, rfl, this⟩
  | nam y =>
    have h : WName y := h
    obtain ⟨h1, h2, h3⟩ := own_head
    refine ⟨_, _, rfl, fun z => ?_, fun z => ?_, fun z => ?_⟩
    · have := h.nam; rw [z, h1] at this; cases this
    · have := h.nam; rw [z, h2] at this; cases this
    · have := h.nam; rw [z, h3] at this; cases this
  | op g a b => exact ⟨_, _, rfl, by decide +kernel, by decide +kernel, by decide +kernel⟩
theorem headY {t : Sy} (h : GoodY t) : ∃ x l, toksY t = x :: l ∧ x ≠ "not" := by
  cases t with
  | yes => exact ⟨_, _, rfl, by decide +kernel⟩
  | cmp c a b =>
    obtain ⟨x, l, e, _, _, n⟩ := headT h.1
    exact ⟨x, l ++ (cmS c :: toksT b), by show toksT a ++ _ = _; rw [e]; rfl, n⟩
  | neg s => exact ⟨_, _, rfl, by decide +kernel⟩
  | bin g a b => exact ⟨_, _, rfl, by decide +kernel⟩
theorem one_pl (a : V) : (oneF a).lookup ("place" : Str) = none := by unfold oneF; rw [lookup_putF, if_neg (by decide +kernel)]; rfl
theorem ObjS.sb {CK : Kd → Addr} {CY : Ks → Addr} {H H' : Hp} {r : Addr} {CR dx : Addr} {a b : V} (hr : H r = some (.ins CR dx (reaF a b))) (s : Sb r H H') : ∀ {t : Sy} {v : V}, ObjS CK CY H t v → ObjS CK CY H' t v
  | .yes, v, h => by
    obtain ⟨p, dx, e, h⟩ := h
    exact ⟨p, dx, e, ins_sb hr s rfl h⟩
  | .cmp c l r, v, h => by
    obtain ⟨p, dx, a, b, e, h, h1, h2⟩ := h
    exact ⟨p, dx, a, b, e, ins_sb hr s (two_pl _ _) h, h1.sb hr s, h2.sb hr s⟩
  | .neg t, v, h => by
    obtain ⟨p, dx, a, e, h, h1⟩ := h
    exact ⟨p, dx, a, e, ins_sb hr s (one_pl _) h, ObjS.sb hr s h1⟩
  | .bin g l r, v, h => by
    obtain ⟨p, dx, a, b, e, h, h1, h2⟩ := h
    exact ⟨p, dx, a, b, e, ins_sb hr s (two_pl _ _) h, ObjS.sb hr s h1, ObjS.sb hr s h2⟩
section
variable {P : Program} {w : World} {K : PySem.W.Frag} {mg : Str → Option Value} {base : Heap} {CK : Kd → Addr} {CY : Ks → Addr} {CR : Addr}
def spYIn (CK : Kd → Addr) (CY : Ks → Addr) (CR : Addr) (toks : Sy → List Str) (ok : Sy → Prop) : Sp := fun vs H Q _ => ∃ (r dx p : Addr) (ws rest : List Str) (i : Nat) (t : Sy), vs = [.ref r] ∧ Rdr CR H r dx p ws i ∧ ws.drop i = toks t ++ rest ∧ ok t ∧
  ∀ (q : Addr) (H' : Hp), Sb r H H' → Rdr CR H' r dx p ws (i + (toks t).length) → ObjS CK CY H' t (.ref q) → Q (.ref q) H'
def okC (t : Sy) : Prop := GoodY t ∧ ∃ c a b, t = .cmp c a b
theorem scCmpIn : FnScope ["reader", "one", "sign", "other"] ["reader"] (defScope sCmpIn) := ⟨rfl, rfl, rfl, by decide +kernel, rfl, by decide +kernel, by decide +kernel⟩
theorem ok_cmpIn {f fP fO fS : Addr} {fd dP dO dS : FuncData} (S : MakerS K mg CY fP fO dP dO) (F : Fun K "compared_in" "compared_in" sCmpIn f fd) (FS : Fun K "sum_in" "sum_in" sSumIn fS dS) (bS : Binds K dS ["reader"] []) (mS : mg "sum_in" = some (.ref fS))
    (MT : MOk P w K mg base 2 CR "take" (spTake CR)) (GS : FnOk P w K mg base CX0 25 fS dS ["reader"] (spSumIn CK CR 10)) : FnOk P w K mg base CX0 26 f fd ["reader"] (spYIn CK CY CR toksY okC) := by
  have GC : ∀ c, FnOk P w K mg base CX0 1 fP dP ["self", "one", "other"] (spTwoI (CY (.cmp c))) := fun c => ok_paiI (S.cls.cl _) (S.cls.c1 c) (S.cls.c2 c) S.FP
  refine F.ok scCmpIn (fun vs H Q E h => ?_) (fun cdv A outer s H vs Q E hr h => ?_)
  · obtain ⟨r, dx, p, ws, rest, i, t, rfl, _⟩ := h
    rfl
  obtain ⟨r, dx, p, ws, rest, i, t, rfl, R, hw, ⟨gt, c, a, b, rfl⟩, q⟩ := h
  obtain ⟨ga, gb, da, db⟩ := gt
  have hr2 : Room 2 _ := hr.mono (by omega)
  have hw : ws.drop i = toksT a ++ (cmS c :: (toksT b ++ rest)) := by
    rw [hw]
    show (toksT a ++ (cmS c :: toksT b)) ++ rest = _
    simp
  refine ⟨_, (@pss_cons _ _ _ _ _ (@ps_set _ _ 1 _ _ _ _ scCmpIn.nd rfl (Or.inl rfl) (pe_call GS hr (by rfl) mS FS.kp bS .nil pass0 (@pa_cons _ _ _ _ _ (pv 0) pa_nil (by rfl))) rfl (Or.inl rfl)) (@pss_cons _ _ _ _ _ (@ps_set _ _ 2 _ _ _ _ scCmpIn.nd rfl (Or.inl rfl) (pe_methP0 (pv 0) hr2) rfl (Or.inl rfl)) (@pss_cons _ _ _ _ _ (@ps_set _ _ 3 _ _ _ _ scCmpIn.nd rfl (Or.inl rfl) (pe_call GS hr (by rfl) mS FS.kp bS .nil pass0 (@pa_cons _ _ _ _ _ (pv 0) pa_nil (by rfl))) rfl (Or.inl rfl)) (@pss_cons _ _ _ _ _ (@ps_if _ _ _ _ _ _ _ _ (@pt_cmpR _ _ _ _ _ _ _ _ op_eq (pv 2) pe_str (nomark _)) (@pss_one _ _ _ (@ps_ret _ _ _ _ (pe_make (S.mkP .lt) (GC .lt) hr2 rfl S.gL S.bP .nil pass0 (@pa_cons _ _ _ _ _ (pv 1) (@pa_cons _ _ _ _ _ (pv 3) pa_nil (by rfl)) (by rfl))))) pss_nil) (@pss_cons _ _ _ _ _ (@ps_if _ _ _ _ _ _ _ _ (@pt_cmpR _ _ _ _ _ _ _ _ op_eq (pv 2) pe_str (nomark _)) (@pss_one _ _ _ (@ps_ret _ _ _ _ (pe_make (S.mkP .le) (GC .le) hr2 rfl S.gA S.bP .nil pass0 (@pa_cons _ _ _ _ _ (pv 1) (@pa_cons _ _ _ _ _ (pv 3) pa_nil (by rfl)) (by rfl))))) pss_nil) (@pss_cons _ _ _ _ _ (@ps_if _ _ _ _ _ _ _ _ (@pt_cmpR _ _ _ _ _ _ _ _ op_eq (pv 2) pe_str (nomark _)) (@pss_one _ _ _ (@ps_ret _ _ _ _ (pe_make (S.mkP .eq) (GC .eq) hr2 rfl S.gE S.bP .nil pass0 (@pa_cons _ _ _ _ _ (pv 1) (@pa_cons _ _ _ _ _ (pv 3) pa_nil (by rfl)) (by rfl))))) pss_nil) (@pss_cons _ _ _ _ _ (@ps_if _ _ _ _ _ _ _ _ (@pt_cmpR _ _ _ _ _ _ _ _ op_eq (pv 2) pe_str (nomark _)) (@pss_one _ _ _ (@ps_ret _ _ _ _ (pe_make (S.mkP .ne) (GC .ne) hr2 rfl S.gU S.bP .nil pass0 (@pa_cons _ _ _ _ _ (pv 1) (@pa_cons _ _ _ _ _ (pv 3) pa_nil (by rfl)) (by rfl))))) pss_nil) (@pss_one _ _ _ ps_never)))))))), ?_⟩
  refine ⟨_, rfl, r, dx, p, ws, _, i, a, rfl, R, hw, ga, da, fun q1 H1 s1 R1 o1 => ?_⟩
  have w1 := tok_past hw
  obtain ⟨_, e1, w2⟩ := tok_at w1
  refine ⟨_, rfl, r, _, dx, _, _, rfl, R1.at_, rea_no _ _ (by decide +kernel) (by decide +kernel), MT, r, dx, p, ws, _, rfl, R1, ?_⟩
  rw [e1]
  have R2 := R1.step (i + (toksT a).length + 1)
  have s2 := stepR_sb CR H1 r dx p (i + (toksT a).length + 1)
  have o2 := o1.sb R1.at_ s2
  generalize stepR CR H1 r dx p (i + (toksT a).length + 1) = H2 at R2 s2 o2 ⊢
  refine ⟨_, rfl, r, dx, p, ws, _, _, b, rfl, R2, w2, gb, db, fun q2 H3 s3 R3 o3 => ?_⟩
  have o4 := o2.sb R2.at_ s3
  have t3 := s1.trans (s2.trans s3)
  have fin : ∀ (x dx : Addr), H3 x = none → H3 dx = none → dx ≠ x → spTwoI (CY (.cmp c)) [.ref x, .ref q1, .ref q2] (upd (upd H3 dx (.own x)) x (.ins (CY (.cmp c)) dx [])) (fun v H3 => v = .non ∧ Q (.ref x) H3) E0 := by
    intro x dx hx hd hxd
    refine ⟨x, dx, _, _, rfl, upd_same, fun H5 h3 h4 => ⟨rfl, ?_⟩⟩
    have s5 : Same H3 H5 := by
      intro b' u e
      rw [h4 b' (ne_of_none e hx)]
      exact same_made hx hd hxd _ _ b' u e
    refine q x H5 (t3.trans (Sb.of s5)) ?_ ⟨x, dx, _, _, rfl, h3, o4.same s5, o3.same s5⟩
    have el : i + (toksY (.cmp c a b)).length = i + (toksT a).length + 1 + (toksT b).length := by
      show i + (toksT a ++ (cmS c :: toksT b)).length = _
      simp only [List.length_cons, List.length_append]
      omega
    rw [el]
    exact R3.same s5
  cases c with
  | lt =>
    exact ⟨_, rfl, rfl, _, rfl, ite2 (fun _ => ⟨_, rfl, _, rfl, fin⟩) (fun c => absurd (decide_eq_true rfl) c)⟩
  | le =>
    refine ⟨_, rfl, rfl, _, rfl, ite2 (fun c => absurd (of_decide_eq_true c) (by decide +kernel)) (fun _ => ?_)⟩
    exact ⟨_, rfl, rfl, _, rfl, ite2 (fun _ => ⟨_, rfl, _, rfl, fin⟩) (fun c => absurd (decide_eq_true rfl) c)⟩
  | eq =>
    refine ⟨_, rfl, rfl, _, rfl, ite2 (fun c => absurd (of_decide_eq_true c) (by decide +kernel)) (fun _ => ?_)⟩
    refine ⟨_, rfl, rfl, _, rfl, ite2 (fun c => absurd (of_decide_eq_true c) (by decide +kernel)) (fun _ => ?_)⟩
    exact ⟨_, rfl, rfl, _, rfl, ite2 (fun _ => ⟨_, rfl, _, rfl, fin⟩) (fun c => absurd (decide_eq_true rfl) c)⟩
  | ne =>
    refine ⟨_, rfl, rfl, _, rfl, ite2 (fun c => absurd (of_decide_eq_true c) (by decide +kernel)) (fun _ => ?_)⟩
    refine ⟨_, rfl, rfl, _, rfl, ite2 (fun c => absurd (of_decide_eq_true c) (by decide +kernel)) (fun _ => ?_)⟩
    refine ⟨_, rfl, rfl, _, rfl, ite2 (fun c => absurd (of_decide_eq_true c) (by decide +kernel)) (fun _ => ?_)⟩
    exact ⟨_, rfl, rfl, _, rfl, ite2 (fun _ => ⟨_, rfl, _, rfl, fin⟩) (fun c => absurd (decide_eq_true rfl) c)⟩
def toksN : Sy → List Str
  | .neg s => ("not" : Str) :: (toksY s ++ [("]" : Str)])
  | t => toksY t
def okN (n : Nat) (t : Sy) : Prop := GoodY t ∧ ∃ s, t = .neg s ∧ dps s < n
theorem scDenIn : FnScope ["reader", "one"] ["reader"] (defScope sDenIn) := ⟨rfl, rfl, rfl, by decide +kernel, rfl, by decide +kernel, by decide +kernel⟩
def okY (n : Nat) (t : Sy) : Prop := GoodY t ∧ dps t < n
theorem ok_denIn {f fP fO fY : Addr} {fd dP dO dY : FuncData} (S : MakerS K mg CY fP fO dP dO) (F : Fun K "denied_in" "denied_in" sDenIn f fd) (FY : Fun K "saying_in" "saying_in" sSayIn fY dY) (bY : Binds K dY ["reader"] []) (mY : mg "saying_in" = some (.ref fY))
    (MW : MOk P w K mg base 3 CR "take_word" (spTakeW CR)) (n k : Nat) (hk : 3 ≤ k) (GY : FnOk P w K mg base CX0 k fY dY ["reader"] (spYIn CK CY CR toksY (okY n))) : FnOk P w K mg base CX0 (k + 1) f fd ["reader"] (spYIn CK CY CR toksN (okN n)) := by
  have GN : FnOk P w K mg base CX0 1 fO dO ["self", "one"] (spNotI (CY .neg)) := ok_notI S.cls S.FN
  refine F.ok scDenIn (fun vs H Q E h => ?_) (fun cdv A outer s H vs Q E hr h => ?_)
  · obtain ⟨r, dx, p, ws, rest, i, t, rfl, _⟩ := h
    rfl
  obtain ⟨r, dx, p, ws, rest, i, t, rfl, R, hw, ⟨gt, y, rfl, dy⟩, q⟩ := h
  have hr2 : Room 2 _ := hr.mono (by omega)
  have hr3 : Room 3 _ := hr.mono (by omega)
  have hw : ws.drop i = ("not" : Str) :: (toksY y ++ (("]" : Str) :: rest)) := by
    rw [hw]
    show ("not" : Str) :: (toksY y ++ [("]" : Str)]) ++ rest = _
    simp
  refine ⟨_, (@pss_cons _ _ _ _ _ (@ps_expr _ _ _ _ (pe_methP (pv 0) hr3 (@pa_cons _ _ _ _ _ pe_str pa_nil (by rfl))) (by rfl)) (@pss_cons _ _ _ _ _ (@ps_set _ _ 1 _ _ _ _ scDenIn.nd rfl (Or.inl rfl) (pe_call GY hr (by rfl) mY FY.kp bY .nil pass0 (@pa_cons _ _ _ _ _ (pv 0) pa_nil (by rfl))) rfl (Or.inl rfl)) (@pss_cons _ _ _ _ _ (@ps_expr _ _ _ _ (pe_methP (pv 0) hr3 (@pa_cons _ _ _ _ _ pe_str pa_nil (by rfl))) (by rfl)) (@pss_one _ _ _ (@ps_ret _ _ _ _ (pe_make S.mkN GN hr2 rfl S.gN S.bN .nil pass0 (@pa_cons _ _ _ _ _ (pv 1) pa_nil (by rfl)))))))), ?_⟩
  obtain ⟨e1, _, w1⟩ := tok_at hw
  have nt : ∀ (j : Nat), (reaF (.ref p) (.int j)).lookup ("take_word" : Str) = none := fun j => rea_no _ _ (by decide +kernel) (by decide +kernel)
  refine ⟨_, rfl, r, _, dx, _, _, rfl, R.at_, nt _, MW, r, dx, p, ws, _, "not", rfl, R, e1, ?_⟩
  have R1 := R.step (i + 1)
  have s1 := stepR_sb CR H r dx p (i + 1)
  generalize stepR CR H r dx p (i + 1) = H1 at R1 s1 ⊢
  refine ⟨_, rfl, r, dx, p, ws, _, _, y, rfl, R1, w1, ⟨gt, dy⟩, fun q1 H2 s2 R2 o2 => ?_⟩
  have w2 := tok_past w1
  obtain ⟨e2, _, _⟩ := tok_at w2
  refine ⟨_, rfl, r, _, dx, _, _, rfl, R2.at_, nt _, MW, r, dx, p, ws, _, "]", rfl, R2, e2, ?_⟩
  have R3 := R2.step (i + 1 + (toksY y).length + 1)
  have s3 := stepR_sb CR H2 r dx p (i + 1 + (toksY y).length + 1)
  have o3 := o2.sb R2.at_ s3
  generalize stepR CR H2 r dx p (i + 1 + (toksY y).length + 1) = H3 at R3 s3 o3 ⊢
  refine ⟨_, rfl, fun x dx' hx hd hxd => ?_⟩
  have s4 : Same H3 (upd (upd (upd H3 dx' (.own x)) x (.ins (CY .neg) dx' [])) x (.ins (CY .neg) dx' (oneF (.ref q1)))) := by
    intro b u e
    rw [upd_ne (ne_of_none e hx)]
    exact same_made hx hd hxd _ _ b u e
  refine ⟨x, dx', _, rfl, upd_same, rfl, q x _ (s1.trans (s2.trans (s3.trans (Sb.of s4)))) ?_ ⟨x, dx', _, rfl, upd_same, o3.same s4⟩⟩
  have el : i + (toksN (.neg y)).length = i + 1 + (toksY y).length + 1 := by
    show i + (("not" : Str) :: (toksY y ++ [("]" : Str)])).length = _
    simp only [List.length_cons, List.length_append, List.length_nil]
    omega
  rw [el]
  exact R3.same s4
def toksB : Sy → List Str
  | .neg s => ("not" : Str) :: (toksY s ++ [("]" : Str)])
  | .bin g a b => toksY a ++ (bnS g :: (toksY b ++ [("]" : Str)]))
  | t => toksY t
def okB (n : Nat) (t : Sy) : Prop := GoodY t ∧ ((∃ s, t = .neg s ∧ dps s < n) ∨ ∃ g a b, t = .bin g a b ∧ dps a < n ∧ dps b < n)
theorem scBrsIn : FnScope ["reader", "one", "word", "other"] ["reader"] (defScope sBrsIn) := ⟨rfl, rfl, rfl, by decide +kernel, rfl, by decide +kernel, by decide +kernel⟩
theorem ok_brsIn {f fP fO fY fD : Addr} {fd dP dO dY dD : FuncData} (S : MakerS K mg CY fP fO dP dO) (F : Fun K "bracketed_saying_in" "bracketed_saying_in" sBrsIn f fd) (FY : Fun K "saying_in" "saying_in" sSayIn fY dY) (bY : Binds K dY ["reader"] []) (mY : mg "saying_in" = some (.ref fY))
    (FD : Fun K "denied_in" "denied_in" sDenIn fD dD) (bD : Binds K dD ["reader"] []) (mD : mg "denied_in" = some (.ref fD)) (MA : MOk P w K mg base 1 CR "ahead" (spAhead CR)) (MT : MOk P w K mg base 2 CR "take" (spTake CR))
    (MW : MOk P w K mg base 3 CR "take_word" (spTakeW CR)) (n k : Nat) (hk : 3 ≤ k) (GY : FnOk P w K mg base CX0 k fY dY ["reader"] (spYIn CK CY CR toksY (okY n))) : FnOk P w K mg base CX0 (k + 2) f fd ["reader"] (spYIn CK CY CR toksB (okB n)) := by
  have GD : FnOk P w K mg base CX0 (k + 1) fD dD ["reader"] (spYIn CK CY CR toksN (okN n)) := ok_denIn S FD FY bY mY MW n k hk GY
  have GB : ∀ c, FnOk P w K mg base CX0 1 fP dP ["self", "one", "other"] (spTwoI (CY (.bin c))) := fun c => ok_paiI (S.cls.cl _) (S.cls.b1 c) (S.cls.b2 c) S.FP
  refine F.ok scBrsIn (fun vs H Q E h => ?_) (fun cdv A outer s H vs Q E hr h => ?_)
  · obtain ⟨r, dx, p, ws, rest, i, t, rfl, _⟩ := h
    rfl
  obtain ⟨r, dx, p, ws, rest, i, t, rfl, R, hw, ⟨gt, ht⟩, q⟩ := h
  have hr1 : Room 1 _ := hr.mono (by omega)
  have hr2 : Room 2 _ := hr.mono (by omega)
  have hr3 : Room 3 _ := hr.mono (by omega)
  have hrY : Room k _ := hr.mono (by omega)
  have nl : ∀ (j : Nat) {x : Str}, x ≠ "place" → x ≠ "pieces" → (reaF (.ref p) (.int j)).lookup x = none := fun j x h1 h2 => rea_no _ _ h1 h2
  refine ⟨_, (@pss_cons _ _ _ _ _ (@ps_if _ _ _ _ _ _ _ _ (@pt_cmpR _ _ _ _ _ _ _ _ op_eq (pe_methP0 (pv 0) hr1) pe_str (nomark _)) (@pss_one _ _ _ (@ps_ret _ _ _ _ (pe_call GD hr (by rfl) mD FD.kp bD .nil pass0 (@pa_cons _ _ _ _ _ (pv 0) pa_nil (by rfl))))) pss_nil) (@pss_cons _ _ _ _ _ (@ps_set _ _ 1 _ _ _ _ scBrsIn.nd rfl (Or.inl rfl) (pe_call GY hrY (by rfl) mY FY.kp bY .nil pass0 (@pa_cons _ _ _ _ _ (pv 0) pa_nil (by rfl))) rfl (Or.inl rfl)) (@pss_cons _ _ _ _ _ (@ps_set _ _ 2 _ _ _ _ scBrsIn.nd rfl (Or.inl rfl) (pe_methP0 (pv 0) hr2) rfl (Or.inl rfl)) (@pss_cons _ _ _ _ _ (@ps_set _ _ 3 _ _ _ _ scBrsIn.nd rfl (Or.inl rfl) (pe_call GY hrY (by rfl) mY FY.kp bY .nil pass0 (@pa_cons _ _ _ _ _ (pv 0) pa_nil (by rfl))) rfl (Or.inl rfl)) (@pss_cons _ _ _ _ _ (@ps_expr _ _ _ _ (pe_methP (pv 0) hr3 (@pa_cons _ _ _ _ _ pe_str pa_nil (by rfl))) (by rfl)) (@pss_cons _ _ _ _ _ (@ps_if _ _ _ _ _ _ _ _ (@pt_cmpR _ _ _ _ _ _ _ _ op_eq (pv 2) pe_str (nomark _)) (@pss_one _ _ _ (@ps_ret _ _ _ _ (pe_make (S.mkB .and) (GB .and) hr2 rfl S.gB S.bP .nil pass0 (@pa_cons _ _ _ _ _ (pv 1) (@pa_cons _ _ _ _ _ (pv 3) pa_nil (by rfl)) (by rfl))))) pss_nil) (@pss_cons _ _ _ _ _ (@ps_if _ _ _ _ _ _ _ _ (@pt_cmpR _ _ _ _ _ _ _ _ op_eq (pv 2) pe_str (nomark _)) (@pss_one _ _ _ (@ps_ret _ _ _ _ (pe_make (S.mkB .or) (GB .or) hr2 rfl S.gO S.bP .nil pass0 (@pa_cons _ _ _ _ _ (pv 1) (@pa_cons _ _ _ _ _ (pv 3) pa_nil (by rfl)) (by rfl))))) pss_nil) (@pss_one _ _ _ ps_never)))))))), ?_⟩
  refine ⟨_, rfl, r, _, dx, _, _, rfl, R.at_, nl _ (by decide +kernel) (by decide +kernel), MA, r, dx, p, ws, _, rfl, R, rfl, _, rfl, ?_⟩
  rcases ht with ⟨y, rfl, dy⟩ | ⟨g, a, b, rfl, da, db⟩
  · obtain ⟨_, e1, _⟩ := tok_at (show ws.drop i = ("not" : Str) :: ((toksY y ++ [("]" : Str)]) ++ rest) from hw)
    rw [e1, decide_eq_true rfl]
    exact iteT ⟨_, rfl, r, dx, p, ws, rest, i, .neg y, rfl, R, hw, ⟨gt, y, rfl, dy⟩, q⟩
  · obtain ⟨ga, gb⟩ := gt
    have hw : ws.drop i = toksY a ++ (bnS g :: (toksY b ++ (("]" : Str) :: rest))) := by
      rw [hw]
      show (toksY a ++ (bnS g :: (toksY b ++ [("]" : Str)]))) ++ rest = _
      simp
    obtain ⟨x1, l1, ex, nx⟩ := headY ga
    obtain ⟨_, e0, _⟩ := tok_at (show ws.drop i = x1 :: (l1 ++ (bnS g :: (toksY b ++ (("]" : Str) :: rest)))) by rw [hw, ex]; rfl)
    rw [e0, decide_eq_false (fun z => nx (V.str.inj z))]
    refine iteF ⟨_, rfl, r, dx, p, ws, _, i, a, rfl, R, hw, ⟨ga, da⟩, fun q1 H1 s1 R1 o1 => ?_⟩
    have w1 := tok_past hw
    obtain ⟨_, e1, w2⟩ := tok_at w1
    refine ⟨_, rfl, r, _, dx, _, _, rfl, R1.at_, nl _ (by decide +kernel) (by decide +kernel), MT, r, dx, p, ws, _, rfl, R1, ?_⟩
    rw [e1]
    have R2 := R1.step (i + (toksY a).length + 1)
    have s2 := stepR_sb CR H1 r dx p (i + (toksY a).length + 1)
    have o2 := o1.sb R1.at_ s2
    generalize stepR CR H1 r dx p (i + (toksY a).length + 1) = H2 at R2 s2 o2 ⊢
    refine ⟨_, rfl, r, dx, p, ws, _, _, b, rfl, R2, w2, ⟨gb, db⟩, fun q2 H3 s3 R3 o3 => ?_⟩
    have o4 := o2.sb R2.at_ s3
    have w3 := tok_past w2
    obtain ⟨e3, _, _⟩ := tok_at w3
    refine ⟨_, rfl, r, _, dx, _, _, rfl, R3.at_, nl _ (by decide +kernel) (by decide +kernel), MW, r, dx, p, ws, _, "]", rfl, R3, e3, ?_⟩
    have R4 := R3.step (i + (toksY a).length + 1 + (toksY b).length + 1)
    have s4 := stepR_sb CR H3 r dx p (i + (toksY a).length + 1 + (toksY b).length + 1)
    have o5 := o4.sb R3.at_ s4
    have o6 := o3.sb R3.at_ s4
    generalize stepR CR H3 r dx p (i + (toksY a).length + 1 + (toksY b).length + 1) = H4 at R4 s4 o5 o6 ⊢
    have t4 := s1.trans (s2.trans (s3.trans s4))
    have fin : ∀ (x dx : Addr), H4 x = none → H4 dx = none → dx ≠ x → spTwoI (CY (.bin g)) [.ref x, .ref q1, .ref q2] (upd (upd H4 dx (.own x)) x (.ins (CY (.bin g)) dx [])) (fun v H3 => v = .non ∧ Q (.ref x) H3) E0 := by
      intro x dx hx hd hxd
      refine ⟨x, dx, _, _, rfl, upd_same, fun H5 h3 h4 => ⟨rfl, ?_⟩⟩
      have s5 : Same H4 H5 := by
        intro b' u e
        rw [h4 b' (ne_of_none e hx)]
        exact same_made hx hd hxd _ _ b' u e
      refine q x H5 (t4.trans (Sb.of s5)) ?_ ⟨x, dx, _, _, rfl, h3, o5.same s5, o6.same s5⟩
      have el : i + (toksB (.bin g a b)).length = i + (toksY a).length + 1 + (toksY b).length + 1 := by
        show i + (toksY a ++ (bnS g :: (toksY b ++ [("]" : Str)]))).length = _
        simp only [List.length_cons, List.length_append, List.length_nil]
        omega
      rw [el]
      exact R4.same s5
    cases g with
    | and =>
      exact ⟨_, rfl, rfl, _, rfl, ite2 (fun _ => ⟨_, rfl, _, rfl, fin⟩) (fun c => absurd (decide_eq_true rfl) c)⟩
    | or =>
      refine ⟨_, rfl, rfl, _, rfl, ite2 (fun c => absurd (of_decide_eq_true c) (by decide +kernel)) (fun _ => ?_)⟩
      exact ⟨_, rfl, rfl, _, rfl, ite2 (fun _ => ⟨_, rfl, _, rfl, fin⟩) (fun c => absurd (decide_eq_true rfl) c)⟩
theorem scSayIn : FnScope ["reader"] ["reader"] (defScope sSayIn) := ⟨rfl, rfl, rfl, by decide +kernel, rfl, by decide +kernel, by decide +kernel⟩
theorem ok_sayIn {fY fP fO fC fB fD : Addr} {dY dP dO dC dB dD : FuncData} (S : MakerS K mg CY fP fO dP dO) (FY : Fun K "saying_in" "saying_in" sSayIn fY dY) (bY : Binds K dY ["reader"] []) (mY : mg "saying_in" = some (.ref fY))
    (FC : Fun K "compared_in" "compared_in" sCmpIn fC dC) (bC : Binds K dC ["reader"] []) (mC : mg "compared_in" = some (.ref fC)) (FB : Fun K "bracketed_saying_in" "bracketed_saying_in" sBrsIn fB dB) (bB : Binds K dB ["reader"] []) (mB : mg "bracketed_saying_in" = some (.ref fB))
    (FD : Fun K "denied_in" "denied_in" sDenIn fD dD) (bD : Binds K dD ["reader"] []) (mD : mg "denied_in" = some (.ref fD)) (MA : MOk P w K mg base 1 CR "ahead" (spAhead CR)) (MT : MOk P w K mg base 2 CR "take" (spTake CR))
    (MW : MOk P w K mg base 3 CR "take_word" (spTakeW CR)) (GC : FnOk P w K mg base CX0 26 fC dC ["reader"] (spYIn CK CY CR toksY okC)) : ∀ n : Nat, FnOk P w K mg base CX0 (3 * n + 27) fY dY ["reader"] (spYIn CK CY CR toksY (okY n))
  | 0 => fn_none fun vs H Q E h => by obtain ⟨r, dx, p, ws, rest, i, t, _, _, _, ⟨_, h1⟩, _⟩ := h; omega
  | n + 1 => by
    have GB := ok_brsIn S FB FY bY mY FD bD mD MA MT MW n (3 * n + 27) (by omega) (ok_sayIn S FY bY mY FC bC mC FB bB mB FD bD mD MA MT MW GC n)
    refine FY.ok (k := 3 * n + 29) scSayIn (fun vs H Q E h => ?_) (fun cdv A outer s H vs Q E hr h => ?_)
    · obtain ⟨r, dx, p, ws, rest, i, t, rfl, _⟩ := h
      rfl
    obtain ⟨r, dx, p, ws, rest, i, t, rfl, R, hw, ⟨gt, dt⟩, q⟩ := h
    have hr1 : Room 1 _ := hr.mono (by omega)
    have hr3 : Room 3 _ := hr.mono (by omega)
    have hrC : Room 26 _ := hr.mono (by omega)
    have nl : ∀ (j : Nat) {x : Str}, x ≠ "place" → x ≠ "pieces" → (reaF (.ref p) (.int j)).lookup x = none := fun j x h1 h2 => rea_no _ _ h1 h2
    refine ⟨_, (@pss_cons _ _ _ _ _ (@ps_if _ _ _ _ _ _ _ _ (@pt_cmpR _ _ _ _ _ _ _ _ op_eq (pe_methP0 (pv 0) hr1) pe_str (nomark _)) (@pss_cons _ _ _ _ _ (@ps_expr _ _ _ _ (pe_methP (pv 0) hr3 (@pa_cons _ _ _ _ _ pe_str pa_nil (by rfl))) (by rfl)) (@pss_one _ _ _ (@ps_ret _ _ _ _ (pe_make00 S.mkY rfl S.gY)))) pss_nil) (@pss_cons _ _ _ _ _ (@ps_if _ _ _ _ _ _ _ _ (@pt_cmpR _ _ _ _ _ _ _ _ op_eq (pe_methP0 (pv 0) hr1) pe_str (nomark _)) (@pss_cons _ _ _ _ _ (@ps_expr _ _ _ _ (pe_methP (pv 0) hr3 (@pa_cons _ _ _ _ _ pe_str pa_nil (by rfl))) (by rfl)) (@pss_one _ _ _ (@ps_ret _ _ _ _ (pe_call GB hr (by rfl) mB FB.kp bB .nil pass0 (@pa_cons _ _ _ _ _ (pv 0) pa_nil (by rfl)))))) pss_nil) (@pss_one _ _ _ (@ps_ret _ _ _ _ (pe_call GC hrC (by rfl) mC FC.kp bC .nil pass0 (@pa_cons _ _ _ _ _ (pv 0) pa_nil (by rfl))))))), ?_⟩
    refine ⟨_, rfl, r, _, dx, _, _, rfl, R.at_, nl _ (by decide +kernel) (by decide +kernel), MA, r, dx, p, ws, _, rfl, R, rfl, _, rfl, ?_⟩
    cases t with
    | yes =>
      obtain ⟨e0, e1, _⟩ := tok_at (show ws.drop i = ("yes" : Str) :: rest from hw)
      rw [e1, decide_eq_true rfl]
      refine iteT ⟨_, rfl, r, _, dx, _, _, rfl, R.at_, nl _ (by decide +kernel) (by decide +kernel), MW, r, dx, p, ws, _, "yes", rfl, R, e0, ?_⟩
      have R1 := R.step (i + 1)
      have s1 := stepR_sb CR H r dx p (i + 1)
      generalize stepR CR H r dx p (i + 1) = H1 at R1 s1 ⊢
      intro x dx' hx hd hxd
      have s2 := same_made hx hd hxd (.own x) (.ins (CY .yes) dx' [])
      exact q x _ (s1.trans (Sb.of s2)) (R1.same s2) ⟨x, dx', rfl, upd_same⟩
    | cmp c a b =>
      obtain ⟨x1, l1, ex, n1, n2, _⟩ := headT gt.1
      obtain ⟨_, e1, _⟩ := tok_at (show ws.drop i = x1 :: (l1 ++ (cmS c :: toksT b) ++ rest) by rw [hw]; show (toksT a ++ (cmS c :: toksT b)) ++ rest = _; rw [ex]; rfl)
      rw [e1, decide_eq_false (fun z => n1 (V.str.inj z))]
      refine iteF ⟨_, rfl, r, _, dx, _, _, rfl, R.at_, nl _ (by decide +kernel) (by decide +kernel), MA, r, dx, p, ws, _, rfl, R, rfl, _, rfl, ?_⟩
      rw [e1, decide_eq_false (fun z => n2 (V.str.inj z))]
      exact iteF ⟨_, rfl, r, dx, p, ws, rest, i, .cmp c a b, rfl, R, hw, ⟨gt, c, a, b, rfl⟩, q⟩
    | neg y =>
      have hw' : ws.drop i = ("[" : Str) :: (toksB (.neg y) ++ rest) := hw
      obtain ⟨e0, e1, w1⟩ := tok_at hw'
      rw [e1, decide_eq_false (by decide +kernel)]
      refine iteF ⟨_, rfl, r, _, dx, _, _, rfl, R.at_, nl _ (by decide +kernel) (by decide +kernel), MA, r, dx, p, ws, _, rfl, R, rfl, _, rfl, ?_⟩
      rw [e1, decide_eq_true rfl]
      refine iteT ⟨_, rfl, r, _, dx, _, _, rfl, R.at_, nl _ (by decide +kernel) (by decide +kernel), MW, r, dx, p, ws, _, "[", rfl, R, e0, ?_⟩
      have R1 := R.step (i + 1)
      have s1 := stepR_sb CR H r dx p (i + 1)
      generalize stepR CR H r dx p (i + 1) = H1 at R1 s1 ⊢
      have dt' : dps y + 1 < n + 1 := dt
      refine ⟨_, rfl, r, dx, p, ws, rest, i + 1, .neg y, rfl, R1, w1, ⟨gt, .inl ⟨y, rfl, by omega⟩⟩, fun q1 H2 s2 R2 o2 => q q1 H2 (s1.trans s2) ?_ o2⟩
      rw [show i + (toksY (.neg y)).length = i + 1 + (toksB (.neg y)).length by show i + (("[" : Str) :: toksB (.neg y)).length = _; rw [List.length_cons]; omega]
      exact R2
    | bin g a b =>
      have hw' : ws.drop i = ("[" : Str) :: (toksB (.bin g a b) ++ rest) := hw
      obtain ⟨e0, e1, w1⟩ := tok_at hw'
      rw [e1, decide_eq_false (by decide +kernel)]
      refine iteF ⟨_, rfl, r, _, dx, _, _, rfl, R.at_, nl _ (by decide +kernel) (by decide +kernel), MA, r, dx, p, ws, _, rfl, R, rfl, _, rfl, ?_⟩
      rw [e1, decide_eq_true rfl]
      refine iteT ⟨_, rfl, r, _, dx, _, _, rfl, R.at_, nl _ (by decide +kernel) (by decide +kernel), MW, r, dx, p, ws, _, "[", rfl, R, e0, ?_⟩
      have R1 := R.step (i + 1)
      have s1 := stepR_sb CR H r dx p (i + 1)
      generalize stepR CR H r dx p (i + 1) = H1 at R1 s1 ⊢
      have dt' : max (dps a) (dps b) + 1 < n + 1 := dt
      refine ⟨_, rfl, r, dx, p, ws, rest, i + 1, .bin g a b, rfl, R1, w1, ⟨gt, .inr ⟨g, a, b, rfl, by omega, by omega⟩⟩, fun q1 H2 s2 R2 o2 => q q1 H2 (s1.trans s2) ?_ o2⟩
      rw [show i + (toksY (.bin g a b)).length = i + 1 + (toksB (.bin g a b)).length by show i + (("[" : Str) :: toksB (.bin g a b)).length = _; rw [List.length_cons]; omega]
      exact R2
end
end Nw
namespace Nw
open PySem L2
section
variable {P : Program} {w : World} {K : PySem.W.Frag} {mg : Str → Option Value} {base : Heap} {CK : Kd → Addr} {CY : Ks → Addr} {CR aO aS : Addr}
def spReadS (CK : Kd → Addr) : Sp := fun vs H Q _ => ∃ (t : Str) (y : Tr), vs = [.str t] ∧ Wordy t ∧ piecesOf t = toksT y ∧ GoodT y ∧ dp y < 10 ∧ ∀ (q : Addr) (H' : Hp), Same H H' → Obj CK H' y (.ref q) → Q (.ref q) H'
theorem scReadS : FnScope ["text", "reader", "read"] ["text"] (defScope sReadS) := ⟨rfl, rfl, rfl, by decide +kernel, rfl, by decide +kernel, by decide +kernel⟩
theorem ok_readS {f fW fR fS : Addr} {fd dW dR dS : FuncData} (c : ClsR K CR) (F : Fun K "read_sum" "read_sum" sReadS f fd) (FW : Fun K "words" "words" sWords fW dW) (bW : Binds K dW ["text"] []) (mW : mg "words" = some (.ref fW)) (GW : FnOk P w K mg base CX0 5 fW dW ["text"] (spWords K))
    (mkR : Mk K CR fR) (gR : mg "Reader" = some (.ref CR)) (FR : Fun K "__init__" "Reader.__init__" sReaI fR dR) (bR : Binds K dR ["self", "pieces"] []) (FS : Fun K "sum_in" "sum_in" sSumIn fS dS) (bS : Binds K dS ["reader"] []) (mS : mg "sum_in" = some (.ref fS))
    (GS : FnOk P w K mg base CX0 25 fS dS ["reader"] (spSumIn CK CR 10)) (ME : MOk P w K mg base 2 CR "take_end" (spTakeE CR)) : FnOk P w K mg base CX0 26 f fd ["text"] (spReadS CK) := by
  have GR : FnOk P w K mg base CX0 1 fR dR ["self", "pieces"] (spReaI CR) := ok_reaI c FR
  refine F.ok scReadS (fun vs H Q E h => ?_) (fun cdv A outer s H vs Q E hr h => ?_)
  · obtain ⟨t, y, rfl, _⟩ := h
    rfl
  obtain ⟨t, y, rfl, W, e, gy, dy, q⟩ := h
  have hr2 : Room 2 _ := hr.mono (by omega)
  have hr5 : Room 5 _ := hr.mono (by omega)
  refine ⟨_, (@pss_cons _ _ _ _ _ (@ps_set _ _ 1 _ _ _ _ scReadS.nd rfl (Or.inl rfl) (pe_make mkR GR hr2 rfl gR bR .nil pass0 (@pa_cons _ _ _ _ _ (pe_call GW hr5 (by rfl) mW FW.kp bW .nil pass0 (@pa_cons _ _ _ _ _ (pv 0) pa_nil (by rfl))) pa_nil (by rfl))) rfl (Or.inl rfl)) (@pss_cons _ _ _ _ _ (@ps_set _ _ 2 _ _ _ _ scReadS.nd rfl (Or.inl rfl) (pe_call GS hr (by rfl) mS FS.kp bS .nil pass0 (@pa_cons _ _ _ _ _ (pv 1) pa_nil (by rfl))) rfl (Or.inl rfl)) (@pss_cons _ _ _ _ _ (@ps_expr _ _ _ _ (pe_methP0 (pv 1) hr2) (by rfl)) (@pss_one _ _ _ (@ps_ret _ _ _ _ (pv 2)))))), ?_⟩
  refine ⟨_, rfl, t, rfl, W, fun p H1 s1 _ h1 => fun x dx hx hd hxd => ⟨x, dx, _, rfl, upd_same, fun H2 h2 h3 => ⟨rfl, ?_⟩⟩⟩
  have s2 : Same H1 H2 := by
    intro b' u e
    rw [h3 b' (ne_of_none e hx)]
    exact same_made hx hd hxd _ _ b' u e
  have R : Rdr CR H2 x dx p (piecesOf t) 0 := ⟨h2, s2 _ _ h1, W.mny⟩
  refine ⟨_, rfl, x, dx, p, _, [], 0, y, rfl, R, by rw [List.drop_zero, e, List.append_nil], gy, dy, fun q1 H3 s3 R3 o3 => ?_⟩
  refine ⟨_, rfl, x, _, dx, _, _, rfl, R3.at_, rea_no _ _ (by decide +kernel) (by decide +kernel), ME, x, dx, p, _, _, rfl, R3, by rw [e]; omega, ?_⟩
  refine ⟨_, rfl, q q1 H3 (fun b u eb => ?_) o3⟩
  have e1 := s1 _ _ eb
  exact s3 b u (ne_of_none e1 hx) (s2 _ _ e1)
def spReadY (CK : Kd → Addr) (CY : Ks → Addr) : Sp := fun vs H Q _ => ∃ (t : Str) (y : Sy), vs = [.str t] ∧ Wordy t ∧ piecesOf t = toksY y ∧ GoodY y ∧ dps y < 10 ∧ ∀ (q : Addr) (H' : Hp), Same H H' → ObjS CK CY H' y (.ref q) → Q (.ref q) H'
theorem scReadY : FnScope ["text", "reader", "read"] ["text"] (defScope sReadY) := ⟨rfl, rfl, rfl, by decide +kernel, rfl, by decide +kernel, by decide +kernel⟩
theorem ok_readY {f fW fR fS : Addr} {fd dW dR dS : FuncData} (c : ClsR K CR) (F : Fun K "read_saying" "read_saying" sReadY f fd) (FW : Fun K "words" "words" sWords fW dW) (bW : Binds K dW ["text"] []) (mW : mg "words" = some (.ref fW)) (GW : FnOk P w K mg base CX0 5 fW dW ["text"] (spWords K))
    (mkR : Mk K CR fR) (gR : mg "Reader" = some (.ref CR)) (FR : Fun K "__init__" "Reader.__init__" sReaI fR dR) (bR : Binds K dR ["self", "pieces"] []) (FS : Fun K "saying_in" "saying_in" sSayIn fS dS) (bS : Binds K dS ["reader"] []) (mS : mg "saying_in" = some (.ref fS))
    (GS : FnOk P w K mg base CX0 57 fS dS ["reader"] (spYIn CK CY CR toksY (okY 10))) (ME : MOk P w K mg base 2 CR "take_end" (spTakeE CR)) : FnOk P w K mg base CX0 58 f fd ["text"] (spReadY CK CY) := by
  have GR : FnOk P w K mg base CX0 1 fR dR ["self", "pieces"] (spReaI CR) := ok_reaI c FR
  refine F.ok scReadY (fun vs H Q E h => ?_) (fun cdv A outer s H vs Q E hr h => ?_)
  · obtain ⟨t, y, rfl, _⟩ := h
    rfl
  obtain ⟨t, y, rfl, W, e, gy, dy, q⟩ := h
  have hr2 : Room 2 _ := hr.mono (by omega)
  have hr5 : Room 5 _ := hr.mono (by omega)
  refine ⟨_, (@pss_cons _ _ _ _ _ (@ps_set _ _ 1 _ _ _ _ scReadY.nd rfl (Or.inl rfl) (pe_make mkR GR hr2 rfl gR bR .nil pass0 (@pa_cons _ _ _ _ _ (pe_call GW hr5 (by rfl) mW FW.kp bW .nil pass0 (@pa_cons _ _ _ _ _ (pv 0) pa_nil (by rfl))) pa_nil (by rfl))) rfl (Or.inl rfl)) (@pss_cons _ _ _ _ _ (@ps_set _ _ 2 _ _ _ _ scReadY.nd rfl (Or.inl rfl) (pe_call GS hr (by rfl) mS FS.kp bS .nil pass0 (@pa_cons _ _ _ _ _ (pv 1) pa_nil (by rfl))) rfl (Or.inl rfl)) (@pss_cons _ _ _ _ _ (@ps_expr _ _ _ _ (pe_methP0 (pv 1) hr2) (by rfl)) (@pss_one _ _ _ (@ps_ret _ _ _ _ (pv 2)))))), ?_⟩
  refine ⟨_, rfl, t, rfl, W, fun p H1 s1 _ h1 => fun x dx hx hd hxd => ⟨x, dx, _, rfl, upd_same, fun H2 h2 h3 => ⟨rfl, ?_⟩⟩⟩
  have s2 : Same H1 H2 := by
    intro b' u e
    rw [h3 b' (ne_of_none e hx)]
    exact same_made hx hd hxd _ _ b' u e
  have R : Rdr CR H2 x dx p (piecesOf t) 0 := ⟨h2, s2 _ _ h1, W.mny⟩
  refine ⟨_, rfl, x, dx, p, _, [], 0, y, rfl, R, by rw [List.drop_zero, e, List.append_nil], ⟨gy, dy⟩, fun q1 H3 s3 R3 o3 => ?_⟩
  refine ⟨_, rfl, x, _, dx, _, _, rfl, R3.at_, rea_no _ _ (by decide +kernel) (by decide +kernel), ME, x, dx, p, _, _, rfl, R3, by rw [e]; omega, ?_⟩
  refine ⟨_, rfl, q q1 H3 (fun b u eb => ?_) o3⟩
  have e1 := s1 _ _ eb
  exact s3 b u (ne_of_none e1 hx) (s2 _ _ e1)
theorem reps_len (k : Nat) : (repS " " k).length = k := by
  have h := congrArg List.length (reps_list k)
  rw [List.length_replicate] at h
  exact (Array.length_toList (xs := (repS " " k).cps)).symm.trans h
def spSpaced (K : PySem.W.Frag) : Sp := fun vs H Q _ => ∃ (t : Str) (p : Addr) (ns : List Int), vs = [.str t, .ref p] ∧ SqL K H p (ns.map V.int) ∧ 0 < ns.length ∧ t.length ≤ 4000 ∧ (∀ x ∈ Txt.split t " ", Tok x) ∧ (Txt.split t " ").length ≤ 80 ∧
  ∀ (s : Str) (H' : Hp), Same H H' → s.length ≤ 8000 → piecesOf s = Txt.split t " " → Q (.str s) H'
theorem scSpaced : FnScope ["_law_text_here", "_law_cells", "_law_spaced_here", "_law_some", "_law_k", "_law_cell"] ["_law_text_here", "_law_cells"] (defScope sSpaced) := ⟨rfl, rfl, rfl, by decide +kernel, rfl, by decide +kernel, by decide +kernel⟩
theorem ok_spaced {f fM : Addr} {fd dM : FuncData} (B : Bl mg) (F : Fun K "_law_spaced" "_law_spaced" sSpaced f fd) (FM : Fun K "_law_mix" "_law_mix" sMix fM dM) (bM : Binds K dM ["_law_cell", "_law_k"] []) (mM : mg "_law_mix" = some (.ref fM)) : FnOk P w K mg base CX0 2 f fd ["_law_text_here", "_law_cells"] (spSpaced K) := by
  have GM : FnOk P w K mg base CX0 1 fM dM ["_law_cell", "_law_k"] spMix := ok_mix B FM
  refine F.ok scSpaced (fun vs H Q E h => ?_) (fun cdv A outer s H vs Q E hr h => ?_)
  · obtain ⟨t, p, ns, rfl, _⟩ := h
    rfl
  obtain ⟨t, p, ns, rfl, hp, n0, lt, tk, l80, q⟩ := h
  have hz := sizeLine_eq
  have wf := parts_len t
  refine ⟨_, (@pss_cons _ _ _ _ _ (@ps_set _ _ 2 _ _ _ _ scSpaced.nd rfl (Or.inl rfl) (@pe_slice _ _ _ _ _ _ _ _ _ _ sl_str pe_str po_none (@po_some _ _ _ (@pe_op _ _ _ _ _ _ _ _ op_mod (@pe_ix _ _ _ _ _ _ (rIxL K) ix_list (pv 1) pe_int (fun _ _ => rfl)) pe_int))) rfl (Or.inl rfl)) (@pss_cons _ _ _ _ _ (@ps_set _ _ 3 _ _ _ _ scSpaced.nd rfl (Or.inl rfl) (pe_bm PySem.F.plainAttrs_str PySem.F.slot_str_split PySem.F.type_str_split mt_split (pv 0) (@pa_cons _ _ _ _ _ pe_str pa_nil (by rfl))) rfl (Or.inl rfl)) (@pss_cons _ _ _ _ _ (@ps_for _ _ _ _ _ _ _ _ PassesOwn.never rfl (pi_range1 rfl B.range (@pa_cons _ _ _ _ _ (pe_callB call_len_seq (by rfl) B.len PySem.boot_len (@pa_cons _ _ _ _ _ (pv 3) pa_nil (by rfl))) pa_nil (by rfl))) (pg_name (i := 4) scSpaced.nd rfl (Or.inl rfl)) (@pss_cons _ _ _ _ _ (@ps_set _ _ 5 _ _ _ _ scSpaced.nd rfl (Or.inl rfl) (@pe_ix _ _ _ _ _ _ (rIxL K) ix_list (pv 1) (@pe_op _ _ _ _ _ _ _ _ op_mod (pv 4) (pe_callB call_len_seq (by rfl) B.len PySem.boot_len (@pa_cons _ _ _ _ _ (pv 1) pa_nil (by rfl)))) (fun _ _ => rfl)) rfl (Or.inl rfl)) (@pss_one _ _ _ (@ps_set _ _ 2 _ _ _ _ scSpaced.nd rfl (Or.inl rfl) (@pe_op _ _ _ _ _ _ _ _ op_add_str (@pe_op _ _ _ _ _ _ _ _ op_add_str (pv 2) (@pe_ix _ _ _ _ _ _ (rIxL K) ix_list (pv 3) (pv 4) (fun _ _ => rfl))) (@pe_op _ _ _ _ _ _ _ _ op_repS pe_str (@pe_op _ _ _ _ _ _ _ _ op_add pe_int (@pe_op _ _ _ _ _ _ _ _ op_mod (pe_call GM hr (by rfl) mM FM.kp bM .nil pass0 (@pa_cons _ _ _ _ _ (pv 5) (@pa_cons _ _ _ _ _ (@pe_op _ _ _ _ _ _ _ _ op_add pe_int (pv 4)) pa_nil (by rfl)) (by rfl))) pe_int)))) rfl (Or.inl rfl)))) (by intro _; rfl)) (@pss_cons _ _ _ _ _ (@ps_cut _ _ _ (@ps_if _ _ _ _ _ _ _ _ (@pt_cmpR _ _ _ _ _ _ _ _ op_eq (@pe_op _ _ _ _ _ _ _ _ op_mod (@pe_op _ _ _ _ _ _ _ _ op_fdiv (@pe_ix _ _ _ _ _ _ (rIxL K) ix_list (pv 1) pe_int (fun _ _ => rfl)) pe_int) pe_int) pe_int (nomark _)) (@pss_one _ _ _ (@ps_set _ _ 2 _ _ _ _ scSpaced.nd rfl (Or.inl rfl) (pe_bm PySem.F.plainAttrs_str PySem.F.slot_str_rstrip PySem.F.type_str_rstrip mt_rstrip (pv 2) (@pa_cons _ _ _ _ _ pe_str pa_nil (by rfl))) rfl (Or.inl rfl))) pss_nil)) (@pss_one _ _ _ (@ps_ret _ _ _ _ (pv 2))))))), ?_⟩
  obtain ⟨n1, nr, rfl⟩ : ∃ a l, ns = a :: l := by
    cases ns with
    | nil => exact absurd n0 (by simp)
    | cons a l => exact ⟨a, l, rfl⟩
  refine ⟨_, rfl, p, _, _, _, rfl, rfl, hp, atI_nat (j := 0) rfl, _, _, rfl, rfl, (by show (0 : Int) < 3; decide), _, rfl, "  ", rfl, small9 (by decide +kernel), ?_⟩
  have h0 : Blk (Txt.slice "  " none (some (n1 % 3))) ∧ piecesOf (Txt.slice "  " none (some (n1 % 3))) = [] ∧ (Txt.slice "  " none (some (n1 % 3))).length ≤ 2 := by
    have b1 := Int.emod_nonneg n1 (b := 3) (by decide)
    have b2 := Int.emod_lt_of_pos n1 (b := 3) (by decide)
    have h : n1 % 3 = 0 ∨ n1 % 3 = 1 ∨ n1 % 3 = 2 := by omega
    rcases h with h | h | h
    · rw [h, show Txt.slice "  " none (some 0) = ("" : Str) by decide +kernel]
      exact ⟨.inl rfl, pieces_none, by decide +kernel⟩
    · rw [h, show Txt.slice "  " none (some 1) = (" " : Str) by decide +kernel]
      exact ⟨.inr ⟨"", by decide +kernel⟩, by decide +kernel, by decide +kernel⟩
    · rw [h, show Txt.slice "  " none (some 2) = ("  " : Str) by decide +kernel]
      exact ⟨.inr ⟨" ", by decide +kernel⟩, by decide +kernel, by decide +kernel⟩
  refine ⟨_, rfl, rfl, t, " ", rfl, rfl, by decide +kernel, by omega, by omega, fun p0 hp0 => ?_⟩
  have s0 := same_new hp0 (.lst ((Txt.split t " ").map V.str))
  have e0 : upd H p0 (.lst ((Txt.split t " ").map V.str)) p0 = some (.lst ((Txt.split t " ").map V.str)) := upd_same
  generalize upd H p0 (.lst ((Txt.split t " ").map V.str)) = H0 at s0 e0 ⊢
  generalize Txt.split t " " = ps at tk l80 q e0 s0 wf ⊢
  have lp : (((ps.map V.str).length : Nat) : Int) ≤ 80 := by rw [List.length_map]; omega
  refine ⟨_, rfl, p0, _, rfl, .inl (SqL.of e0), _, rfl, by omega, by omega, for_range (n := (((ps.map V.str).length : Nat) : Int).toNat) (fun i σ H1 => ∃ (v4 v5 : Option V) (u : Str), σ = [some (.str t), some (.ref p), some (.str u), some (.ref p0), v4, v5] ∧ Same H0 H1 ∧ Blk u ∧ piecesOf u = ps.take i ∧ u.length ≤ 2 + 12 * i) ⟨none, none, _, rfl, Same.refl _, h0.1, h0.2.1, h0.2.2⟩ ?_ ?_⟩
  · rintro i σ H1 hi ⟨v4, v5, u, rfl, s1, bu, eu, lu⟩
    have hi : i < ps.length := by rw [List.length_map] at hi; omega
    have hp1 := (s0.trans s1).seq hp
    have hx : (0 : Int) + (i : Int) = ((i : Nat) : Int) := by omega
    have hm : (i : Int) % (((n1 :: nr).map V.int).length : Int) = ((i % (nr.length + 1) : Nat) : Int) := by
      rw [List.length_map, List.length_cons]
      exact (Int.natCast_emod _ _).symm
    have hj : i % (nr.length + 1) < (n1 :: nr).length := by rw [List.length_cons]; exact Nat.mod_lt _ (Nat.succ_pos _)
    refine ⟨_, rfl, _, rfl, _, rfl, p, _, rfl, .inl hp1, _, _, rfl, rfl, (by show (0 : Int) < (((n1 :: nr).map V.int).length : Int); rw [List.length_map, List.length_cons]; omega), p, _, _, _, rfl, rfl, hp1, (show atI ((n1 :: nr).map V.int) ((0 + (i : Int)) % (((n1 :: nr).map V.int).length : Int)) = some (.int ((n1 :: nr)[i % (nr.length + 1)]'hj)) by rw [hx, hm]; exact atI_nat (by rw [List.getElem?_map, List.getElem?_eq_getElem hj]; rfl)), ?_⟩
    have tx := tk _ (List.getElem_mem hi)
    have nx := tx.len
    have nb : (" " : Str).length = 1 := by decide +kernel
    refine ⟨_, rfl, _, rfl, _, rfl, p0, _, _, _, rfl, rfl, SqL.of (s1 _ _ e0), (show atI (ps.map V.str) (0 + (i : Int)) = some (.str ps[i]) by rw [hx]; exact atI_nat (by rw [List.getElem?_map, List.getElem?_eq_getElem hi]; rfl)), u, ps[i], rfl, rfl, by omega, ?_⟩
    refine ⟨_, rfl, _, rfl, _, _, rfl, rfl, _, _, rfl, by omega, by omega, fun r r1 r2 => ⟨_, _, rfl, rfl, (by show (0 : Int) < 3; decide), _, _, rfl, rfl, " ", (1 + r % 3).toNat, rfl, (show V.int (1 + r % 3) = V.int (((1 + r % 3).toNat : Nat) : Int) by rw [Int.toNat_of_nonneg (by omega)]), by omega, by omega, ?_⟩⟩
    have lr := reps_len (1 + r % 3).toNat
    refine ⟨_, _, rfl, rfl, by rw [str_len, lr]; omega, ?_⟩
    refine ⟨_, _, _, rfl, s1, blk_reps _ _ (by omega), ?_, ?_⟩
    · rw [pieces_reps, pieces_next bu tx.no tx.ne, eu, List.take_add_one, List.getElem?_eq_getElem hi]
      rfl
    · rw [str_len, str_len, lr]
      omega
  · rintro σ H1 ⟨v4, v5, u, rfl, s1, bu, eu, lu⟩
    rw [Int.toNat_natCast, List.length_map, List.take_of_length_le (Nat.le_refl _)] at eu
    rw [Int.toNat_natCast, List.length_map] at lu
    have hp1 := (s0.trans s1).seq hp
    refine ⟨fun σ H2 => ∃ (u2 : Str), σ = [some (.str t), some (.ref p), some (.str u2), some (.ref p0), v4, v5] ∧ H2 = H1 ∧ piecesOf u2 = ps ∧ u2.length ≤ 8000, ?_, ?_⟩
    · refine ⟨_, rfl, p, _, _, _, rfl, rfl, hp1, atI_nat (j := 0) rfl, _, _, rfl, rfl, ⟨by decide, by decide⟩, _, _, rfl, rfl, (by show (0 : Int) < 2; decide), rfl, _, rfl, ite2 (fun _ => ?_) (fun _ => ⟨u, rfl, rfl, eu, by omega⟩)⟩
      refine ⟨_, rfl, rfl, u, " ", rfl, rfl, by omega, ?_⟩
      exact ⟨_, rfl, rfl, by rw [pieces_rstrip]; exact eu, Nat.le_trans (rstrip_len u) (by omega)⟩
    · rintro σ H2 ⟨u2, rfl, rfl, e2, l2⟩
      exact ⟨_, rfl, q u2 _ (s0.trans s1) l2 e2⟩
end
end Nw
namespace Nw
open PySem L2
theorem toksT_len : ∀ t : Tr, (toksT t).length + 3 = 4 * lv t
  | .num _ => rfl
  | .nam _ => rfl
  | .op g a b => by
    have h1 := toksT_len a
    have h2 := toksT_len b
    show (("(" : Str) :: (toksT a ++ (sgS g :: (toksT b ++ [(")" : Str)])))).length + 3 = 4 * (lv a + lv b)
    simp only [List.length_cons, List.length_append, List.length_nil]
    omega
theorem toksY_len : ∀ t : Sy, (toksY t).length = tkn t
  | .yes => rfl
  | .cmp c a b => by
    have h1 := toksT_len a
    have h2 := toksT_len b
    show (toksT a ++ (cmS c :: toksT b)).length = 4 * lv a + 4 * lv b - 5
    simp only [List.length_cons, List.length_append]
    omega
  | .neg s => by
    have h1 := toksY_len s
    show (("[" : Str) :: ("not" : Str) :: (toksY s ++ [("]" : Str)])).length = tkn s + 3
    simp only [List.length_cons, List.length_append, List.length_nil]
    omega
  | .bin g a b => by
    have h1 := toksY_len a
    have h2 := toksY_len b
    show (("[" : Str) :: (toksY a ++ (bnS g :: (toksY b ++ [("]" : Str)])))).length = tkn a + tkn b + 3
    simp only [List.length_cons, List.length_append, List.length_nil]
    omega
theorem inW_letter : ∀ j : _root_.Fin 26, inW (97 + j.val) lettersW = true := by decide +kernel
theorem inW_fig : ∀ j : _root_.Fin 26, inW (97 + j.val) figuresW = false := by decide +kernel
theorem cps_all {cs : List Nat} (h : ∀ c ∈ cs, 97 ≤ c ∧ c ≤ 122) : (cps cs).cps.all (· < 128) = true := by
  refine Array.all_eq_true_iff_forall_mem.mpr fun c hc => ?_
  have hc : c ∈ cs := by simpa [cps] using hc
  have := h c hc
  exact decide_eq_true (by omega)
theorem letter_fin {c : Nat} (h : 97 ≤ c ∧ c ≤ 122) : ∃ j : _root_.Fin 26, c = 97 + j.val := ⟨⟨c - 97, by omega⟩, by show c = 97 + (c - 97); omega⟩
theorem PName.asc {x : Str} (h : PName x) : Asc x := by
  obtain ⟨cs, rfl, _, h8, hl⟩ := h.signs
  exact ⟨cps_all hl, by rw [cps_length]; omega⟩
theorem PName.nameB {x : Str} (h : PName x) : nameB x = true := by
  obtain ⟨cs, e, n, h8, hl⟩ := h.signs
  have n1 : 1 ≤ cs.length := by cases cs with | nil => exact absurd rfl n | cons a b => simp
  unfold Nw.nameB madeB
  rw [e, in_own]
  have hl' : (cps cs).cps.toList.all (fun c => inW c lettersW) = true := by
    refine List.all_eq_true.mpr fun c hc => ?_
    have hc : c ∈ cs := by simpa [cps] using hc
    obtain ⟨j, rfl⟩ := letter_fin (hl c hc)
    exact inW_letter j
  rw [hl', cps_length, decide_eq_true (show ¬ (cs.length : Int) < 1 by omega), decide_eq_true (show ¬ (8 : Int) < (cs.length : Int) by omega), decide_eq_false (show ¬ cps cs ∈ ownL from fun z => h.other (by rw [e]; exact z))]
  rfl
theorem first_no {x : Str} {c : Nat} {cs : List Nat} (e : x.cps.toList = c :: cs) (h : inW c figuresW = false) : numB x = false := by
  unfold numB madeB
  rw [e, List.all_cons, h, Bool.false_and, Bool.and_false, Bool.false_and]
theorem PName.numB {x : Str} (h : PName x) : numB x = false := by
  obtain ⟨cs, e, n, h8, hl⟩ := h.signs
  cases cs with
  | nil => exact absurd rfl n
  | cons c r =>
    obtain ⟨j, ej⟩ := letter_fin (hl c List.mem_cons_self)
    refine first_no (c := c) (cs := r) (by rw [e]; simp [cps]) ?_
    rw [ej]
    exact inW_fig j
theorem cps_tok {cs : List Nat} (n : cs ≠ []) (l : cs.length ≤ 9) (h : 32 ∉ cs) : Tok (cps cs) := by
  refine ⟨by simpa [cps] using h, fun z => ?_, by rw [cps_length]; exact l⟩
  have := congrArg Str.length z
  rw [cps_length] at this
  have e0 : ("" : Str).length = 0 := rfl
  rw [e0] at this
  exact n (List.eq_nil_of_length_eq_zero this)
theorem PName.tok {x : Str} (h : PName x) : Tok x := by
  obtain ⟨cs, rfl, n, h8, hl⟩ := h.signs
  exact cps_tok n (by omega) fun z => by have := hl 32 z; omega
theorem PName.wname {x : Str} (h : PName x) : WName x := ⟨h.tok, h.asc, h.numB, by rw [h.nameB]; rfl⟩
theorem at_cps {cs : List Nat} : ("@" : Str) ++ cps cs = cps (64 :: cs) := by
  have e : ("@" : Str) = cps [64] := by decide +kernel
  rw [e, cps_cat]
  rfl
theorem start_at (y : Str) : Txt.startswith (("@" : Str) ++ y) "@" = true := W.KT.starts_app "@" y
theorem PName.far {x : Str} (h : PName x) : WName ("@" ++ x) := by
  obtain ⟨cs, e, n, h8, hl⟩ := h.signs
  have ea : ("@" : Str) ++ x = cps (64 :: cs) := by rw [e, at_cps]
  have f64 : inW 64 figuresW = false := by decide +kernel
  refine ⟨?_, ⟨?_, ?_⟩, ?_, ?_⟩
  · rw [ea]
    refine cps_tok (List.cons_ne_nil _ _) (by rw [List.length_cons]; omega) fun z => ?_
    rcases List.mem_cons.mp z with z | z
    · cases z
    · have := hl 32 z; omega
  · rw [ea]
    refine Array.all_eq_true_iff_forall_mem.mpr fun c hc => ?_
    have hc : c ∈ (64 :: cs) := by simpa [cps] using hc
    rcases List.mem_cons.mp hc with rfl | hc
    · rfl
    · have := hl c hc
      exact decide_eq_true (by omega)
  · rw [ea, cps_length, List.length_cons]; omega
  · exact first_no (c := 64) (cs := cs) (by rw [ea]; simp [cps]) f64
  · have es : Txt.slice ("@" ++ x) (some 1) none = x := by
      rw [ea, sl_from (by decide) (by rw [List.length_cons]; omega), e]
      rfl
    have ef : farB ("@" ++ x) = true := by
      unfold farB
      rw [es, h.nameB, start_at]
      rfl
    rw [ef, Bool.or_true]
theorem none_app (x : Str) : ("" : Str) ++ x = x := by
  cases x
  exact congrArg Str.mk (Array.empty_append)
theorem good_fits {l : List Str} (hl : ∀ x ∈ l, PName x) : ∀ {t : Tr}, Fits l t → GoodT t
  | .num n, h => h
  | .nam x, h => by
    obtain ⟨y, hy, e⟩ := h
    rcases e with rfl | rfl
    · show WName (("" : Str) ++ y)
      rw [none_app]
      exact (hl y hy).wname
    · exact (hl y hy).far
  | .op g a b, h => ⟨good_fits hl h.1, good_fits hl h.2⟩
theorem goodY_fits {l : List Str} (hl : ∀ x ∈ l, PName x) : ∀ {t : Sy}, FitsS l t → GoodY t
  | .yes, _ => trivial
  | .cmp c a b, h => by
    have h1 := dp_lt a
    have h2 := dp_lt b
    exact ⟨good_fits hl h.1, good_fits hl h.2.1, by have := h.2.2.1; omega, by have := h.2.2.2; omega⟩
  | .neg s, h => goodY_fits (t := s) hl h
  | .bin g a b, h => ⟨goodY_fits hl h.1, goodY_fits hl h.2⟩
structure TokW (x : Str) : Prop where
  tok : Tok x
  asc : Asc x
  wrd : wordB x = true
instance (x : Str) : Decidable (Tok x) := if h : 32 ∉ x.cps.toList ∧ x ≠ "" ∧ x.length ≤ 9 then .isTrue ⟨h.1, h.2.1, h.2.2⟩ else .isFalse fun a => h ⟨a.no, a.ne, a.len⟩
instance (x : Str) : Decidable (TokW x) := if h : Tok x ∧ Asc x ∧ wordB x = true then .isTrue ⟨h.1, h.2.1, h.2.2⟩ else .isFalse fun a => h ⟨a.tok, a.asc, a.wrd⟩
theorem num_tok2 : ∀ k : _root_.Fin 100, TokW ((toString ((k.val : Nat) : Int) : String) : Str) := by decide +kernel
theorem num_tok {n : Int} (h : 0 ≤ n ∧ n ≤ 99) : TokW ((toString n : String) : Str) := by
  have := num_tok2 ⟨n.toNat, by omega⟩
  have e : ((n.toNat : Nat) : Int) = n := by omega
  simp only [e] at this
  exact this
theorem sign_tok : (∀ g, TokW (sgS g)) ∧ (∀ c, TokW (cmS c)) ∧ (∀ b, TokW (bnS b)) ∧ TokW "(" ∧ TokW ")" ∧ TokW "[" ∧ TokW "]" ∧ TokW "yes" ∧ TokW "not" := by
  refine ⟨fun g => ?_, fun c => ?_, fun b => ?_, by decide +kernel, by decide +kernel, by decide +kernel, by decide +kernel, by decide +kernel, by decide +kernel⟩
  · cases g <;> decide +kernel
  · cases c <;> decide +kernel
  · cases b <;> decide +kernel
theorem name_tok {x : Str} (h : WName x) : TokW x := by
  refine ⟨h.tok, h.asc, ?_⟩
  have := h.nam
  unfold wordB
  rcases Bool.or_eq_true_iff.mp this with e | e
  · rw [e, Bool.or_true, Bool.true_or]
  · rw [e, Bool.or_true]
theorem toksT_tok : ∀ {t : Tr}, GoodT t → ∀ x ∈ toksT t, TokW x
  | .num n, h, x, hx => by rw [List.mem_singleton.mp hx]; exact num_tok h
  | .nam y, h, x, hx => by rw [List.mem_singleton.mp hx]; exact name_tok h
  | .op g a b, h, x, hx => by
    obtain ⟨t1, t2, t3, t4, t5, _⟩ := sign_tok
    have hx : x ∈ ("(" : Str) :: (toksT a ++ (sgS g :: (toksT b ++ [(")" : Str)]))) := hx
    rcases List.mem_cons.mp hx with rfl | hx
    · exact t4
    rcases List.mem_append.mp hx with hx | hx
    · exact toksT_tok h.1 x hx
    rcases List.mem_cons.mp hx with rfl | hx
    · exact t1 g
    rcases List.mem_append.mp hx with hx | hx
    · exact toksT_tok h.2 x hx
    · rw [List.mem_singleton.mp hx]; exact t5
theorem toksY_tok : ∀ {t : Sy}, GoodY t → ∀ x ∈ toksY t, TokW x
  | .yes, h, x, hx => by rw [List.mem_singleton.mp hx]; exact sign_tok.2.2.2.2.2.2.2.1
  | .cmp c a b, h, x, hx => by
    have hx : x ∈ toksT a ++ (cmS c :: toksT b) := hx
    rcases List.mem_append.mp hx with hx | hx
    · exact toksT_tok h.1 x hx
    rcases List.mem_cons.mp hx with rfl | hx
    · exact sign_tok.2.1 c
    · exact toksT_tok h.2.1 x hx
  | .neg s, h, x, hx => by
    obtain ⟨_, _, _, _, _, t6, t7, _, t9⟩ := sign_tok
    have hx : x ∈ ("[" : Str) :: ("not" : Str) :: (toksY s ++ [("]" : Str)]) := hx
    rcases List.mem_cons.mp hx with rfl | hx
    · exact t6
    rcases List.mem_cons.mp hx with rfl | hx
    · exact t9
    rcases List.mem_append.mp hx with hx | hx
    · exact toksY_tok (t := s) h x hx
    · rw [List.mem_singleton.mp hx]; exact t7
  | .bin g a b, h, x, hx => by
    obtain ⟨_, _, t3, _, _, t6, t7, _⟩ := sign_tok
    have hx : x ∈ ("[" : Str) :: (toksY a ++ (bnS g :: (toksY b ++ [("]" : Str)]))) := hx
    rcases List.mem_cons.mp hx with rfl | hx
    · exact t6
    rcases List.mem_append.mp hx with hx | hx
    · exact toksY_tok h.1 x hx
    rcases List.mem_cons.mp hx with rfl | hx
    · exact t3 g
    rcases List.mem_append.mp hx with hx | hx
    · exact toksY_tok h.2 x hx
    · rw [List.mem_singleton.mp hx]; exact t7
theorem split_b (s u : Str) : Txt.split (s ++ " " ++ u) " " = Txt.split s " " ++ Txt.split u " " := by rw [blank_is]; exact split_app s u 32
theorem split_t {x : Str} (h : TokW x) : Txt.split x " " = [x] := by rw [blank_is]; exact split_one h.tok.no
theorem split_txt : ∀ {t : Tr}, GoodT t → Txt.split (txt t) " " = toksT t
  | .num n, h => split_t (num_tok h)
  | .nam x, h => split_t (name_tok h)
  | .op g a b, h => by
    obtain ⟨t1, t2, t3, t4, t5, _⟩ := sign_tok
    have e1 : ("( " : Str) = "(" ++ " " := by decide +kernel
    have e2 : (" )" : Str) = " " ++ ")" := by decide +kernel
    have e : txt (.op g a b) = "(" ++ " " ++ (txt a ++ " " ++ (sgS g ++ " " ++ (txt b ++ " " ++ ")"))) := by
      show "( " ++ txt a ++ " " ++ sgS g ++ " " ++ txt b ++ " )" = _
      rw [e1, e2]
      simp only [Str.append_assoc]
    rw [e, split_b, split_b, split_b, split_b, split_t t4, split_t t5, split_t (t1 g), split_txt h.1, split_txt h.2]
    rfl
end Nw
namespace Nw
open PySem L2
theorem split_txy : ∀ {t : Sy}, GoodY t → Txt.split (txy t) " " = toksY t
  | .yes, _ => split_t sign_tok.2.2.2.2.2.2.2.1
  | .cmp c a b, h => by
    have e : txy (.cmp c a b) = txt a ++ " " ++ (cmS c ++ " " ++ txt b) := by
      show txt a ++ " " ++ cmS c ++ " " ++ txt b = _
      simp only [Str.append_assoc]
    rw [e, split_b, split_b, split_t (sign_tok.2.1 c), split_txt h.1, split_txt h.2.1]
    rfl
  | .neg s, h => by
    obtain ⟨_, _, _, _, _, t6, t7, _, t9⟩ := sign_tok
    have e1 : ("[ not " : Str) = "[" ++ " " ++ "not" ++ " " := by decide +kernel
    have e2 : (" ]" : Str) = " " ++ "]" := by decide +kernel
    have e : txy (.neg s) = "[" ++ " " ++ ("not" ++ " " ++ (txy s ++ " " ++ "]")) := by
      show "[ not " ++ txy s ++ " ]" = _
      rw [e1, e2]
      simp only [Str.append_assoc]
    rw [e, split_b, split_b, split_b, split_t t6, split_t t9, split_t t7, split_txy (t := s) h]
    rfl
  | .bin g a b, h => by
    obtain ⟨_, _, t3, _, _, t6, t7, _⟩ := sign_tok
    have e1 : ("[ " : Str) = "[" ++ " " := by decide +kernel
    have e2 : (" ]" : Str) = " " ++ "]" := by decide +kernel
    have e : txy (.bin g a b) = "[" ++ " " ++ (txy a ++ " " ++ (bnS g ++ " " ++ (txy b ++ " " ++ "]"))) := by
      show "[ " ++ txy a ++ " " ++ bnS g ++ " " ++ txy b ++ " ]" = _
      rw [e1, e2]
      simp only [Str.append_assoc]
    rw [e, split_b, split_b, split_b, split_b, split_t t6, split_t t7, split_t (t3 g), split_txy h.1, split_txy h.2]
    rfl
def noB (x : Str) : Prop := inV (.str x) [.str "(", .str "["] = false ∧ inV (.str x) [.str ")", .str "]"] = false
instance (x : Str) : Decidable (noB x) := inferInstanceAs (Decidable (_ ∧ _))
theorem step_no {x : Str} (h : noB x) {m c : Int} (hc : c ≤ m) : stepO (m, c) x = (m, c) := by
  unfold stepO
  rw [h.1, h.2]
  show ((if c > m then c else m), c) = (m, c)
  rw [if_neg (by omega)]
theorem step_open {x : Str} (h : inV (.str x) [.str "(", .str "["] = true) (m c : Int) : stepO (m, c) x = (if c + 1 > m then c + 1 else m, c + 1) := by
  unfold stepO
  rw [h]
  rfl
theorem step_shut {x : Str} (h1 : inV (.str x) [.str "(", .str "["] = false) (h2 : inV (.str x) [.str ")", .str "]"] = true) {m c : Int} (c0 : 0 ≤ c) (hc : c ≤ m) : stepO (m, c + 1) x = (m, c) := by
  unfold stepO
  rw [h1, h2]
  show ((if (if (0 : Int) > c + 1 - 1 then 0 else c + 1 - 1) > m then (if (0 : Int) > c + 1 - 1 then 0 else c + 1 - 1) else m), (if (0 : Int) > c + 1 - 1 then 0 else c + 1 - 1)) = (m, c)
  have e : (if (0 : Int) > c + 1 - 1 then 0 else c + 1 - 1) = c := by rw [if_neg (by omega)]; omega
  rw [e, if_neg (by omega)]
def Deep (l : List Str) (d : Nat) : Prop := ∀ m c : Int, 0 ≤ c → c ≤ m → ∃ m', l.foldl stepO (m, c) = (m', c) ∧ m ≤ m' ∧ m' ≤ max m (c + d)
theorem Deep.one {x : Str} (h : noB x) : Deep [x] 0 := fun m c c0 hc => ⟨m, step_no h hc, by omega, by omega⟩
theorem Deep.app {l1 l2 : List Str} {d1 d2 : Nat} (h1 : Deep l1 d1) (h2 : Deep l2 d2) : Deep (l1 ++ l2) (max d1 d2) := fun m c c0 hc => by
  obtain ⟨m1, e1, a1, b1⟩ := h1 m c c0 hc
  obtain ⟨m2, e2, a2, b2⟩ := h2 m1 c c0 (by omega)
  exact ⟨m2, by rw [List.foldl_append, e1, e2], by omega, by omega⟩
theorem Deep.cons {x : Str} {l : List Str} {d : Nat} (h : noB x) (h2 : Deep l d) : Deep (x :: l) d := by
  have := (Deep.one h).app h2
  rw [Nat.zero_max] at this
  exact this
theorem Deep.brackets {x y : Str} {l : List Str} {d : Nat} (h1 : inV (.str x) [.str "(", .str "["] = true) (h2 : inV (.str y) [.str "(", .str "["] = false) (h3 : inV (.str y) [.str ")", .str "]"] = true) (h : Deep l d) : Deep (x :: (l ++ [y])) (d + 1) := fun m c c0 hc => by
  rw [List.foldl_cons, List.foldl_append, step_open h1]
  obtain ⟨m1, e1, a1, b1⟩ := h (if c + 1 > m then c + 1 else m) (c + 1) (by omega) (by split <;> omega)
  refine ⟨m1, ?_, ?_, ?_⟩
  · rw [e1]
    exact step_shut h2 h3 c0 (by split at a1 <;> omega)
  · split at a1 <;> omega
  · split at b1 <;> omega
theorem num_noB2 : ∀ k : _root_.Fin 100, noB ((toString ((k.val : Nat) : Int) : String) : Str) := by decide +kernel
theorem num_noB {n : Int} (h : 0 ≤ n ∧ n ≤ 99) : noB ((toString n : String) : Str) := by
  have := num_noB2 ⟨n.toNat, by omega⟩
  have e : ((n.toNat : Nat) : Int) = n := by omega
  simp only [e] at this
  exact this
theorem bra_names : (nameB "(" || farB "(") = false ∧ (nameB "[" || farB "[") = false ∧ (nameB ")" || farB ")") = false ∧ (nameB "]" || farB "]") = false := by decide +kernel
theorem name_noB {x : Str} (h : WName x) : noB x := by
  obtain ⟨b1, b2, b3, b4⟩ := bra_names
  have hn := h.nam
  refine ⟨?_, ?_⟩
  · rw [show ([.str "(", .str "["] : List V) = ([("(" : Str), "["].map V.str) from rfl, in_own]
    refine decide_eq_false fun z => ?_
    simp only [List.mem_cons, List.mem_nil_iff, or_false] at z
    rcases z with rfl | rfl
    · rw [b1] at hn; cases hn
    · rw [b2] at hn; cases hn
  · rw [show ([.str ")", .str "]"] : List V) = ([(")" : Str), "]"].map V.str) from rfl, in_own]
    refine decide_eq_false fun z => ?_
    simp only [List.mem_cons, List.mem_nil_iff, or_false] at z
    rcases z with rfl | rfl
    · rw [b3] at hn; cases hn
    · rw [b4] at hn; cases hn
theorem deepT : ∀ {t : Tr}, GoodT t → Deep (toksT t) (dp t)
  | .num n, h => Deep.one (num_noB h)
  | .nam x, h => Deep.one (name_noB h)
  | .op g a b, h => by
    have hs : noB (sgS g) := by cases g <;> decide +kernel
    have hd := (deepT h.1).app (Deep.cons hs (deepT h.2))
    have := Deep.brackets (x := "(") (y := ")") (by decide +kernel) (by decide +kernel) (by decide +kernel) hd
    show Deep (("(" : Str) :: (toksT a ++ (sgS g :: (toksT b ++ [(")" : Str)])))) (max (dp a) (dp b) + 1)
    simpa using this
theorem deepY : ∀ {t : Sy}, GoodY t → Deep (toksY t) (bd t)
  | .yes, _ => Deep.one (by decide +kernel)
  | .cmp c a b, h => (deepT h.1).app (Deep.cons (by cases c <;> decide +kernel) (deepT h.2.1))
  | .neg s, h => by
    have := Deep.brackets (x := "[") (y := "]") (by decide +kernel) (by decide +kernel) (by decide +kernel) (Deep.cons (x := "not") (by decide +kernel) (deepY (t := s) h))
    show Deep (("[" : Str) :: ("not" : Str) :: (toksY s ++ [("]" : Str)])) (bd s + 1)
    simpa using this
  | .bin g a b, h => by
    have hs : noB (bnS g) := by cases g <;> decide +kernel
    have hd := (deepY h.1).app (Deep.cons hs (deepY h.2))
    have := Deep.brackets (x := "[") (y := "]") (by decide +kernel) (by decide +kernel) (by decide +kernel) hd
    show Deep (("[" : Str) :: (toksY a ++ (bnS g :: (toksY b ++ [("]" : Str)])))) (max (bd a) (bd b) + 1)
    simpa using this
theorem Deep.open {l : List Str} {d : Nat} (h : Deep l d) : (openM l).1 ≤ d := by
  obtain ⟨m, e, a, b⟩ := h 0 0 (Int.le_refl _) (Int.le_refl _)
  unfold openM
  rw [e]
  show m ≤ d
  omega
theorem wordy_of {s : Str} {l : List Str} {d : Nat} (e : piecesOf s = l) (hs : s.length ≤ 8000) (hl : ∀ x ∈ l, TokW x) (hn : l.length ≤ 300) (hd : Deep l d) (h8 : d ≤ 8) : Wordy s :=
  ⟨hs, fun x hx => by rw [e] at hx; exact ⟨(hl x hx).asc, (hl x hx).wrd⟩, by rw [e]; exact hn, by rw [e]; have := hd.open; omega⟩
end Nw
namespace Nw
open PySem L2
def inD (kvs : List (Key × V)) (x : Str) : Bool := (valV kvs (.inr x : Key)).isSome
structure Keys (kvs : List (Key × V)) (l : List Str) : Prop where
  has : ∀ y ∈ l, ∀ x : Str, (x = ("" : Str) ++ y ∨ x = ("@" : Str) ++ y) → inD kvs x = true
  only : ∀ x : Str, inD kvs x = true → WName x
theorem keys_of {kvs : List (Key × V)} {l : List Str} {vf : Str → Int} (hl : ∀ x ∈ l, PName x) (O : ValsOk kvs l vf) (N : ∀ x : Str, (valV kvs (.inr x : Key)).isSome = true → ∃ y ∈ l, x = ("" : Str) ++ y ∨ x = ("@" : Str) ++ y) : Keys kvs l := by
  refine ⟨fun y hy x hx => ?_, fun x hx => ?_⟩
  · unfold inD
    rw [(O.get y hy x hx).1]
    rfl
  · obtain ⟨y, hy, e⟩ := N x hx
    rcases e with rfl | rfl
    · rw [none_app]
      exact (hl y hy).wname
    · exact (hl y hy).far
theorem Keys.no {kvs : List (Key × V)} {l : List Str} (k : Keys kvs l) {x : Str} (h : ¬ WName x) : inD kvs x = false := by
  cases e : inD kvs x with
  | false => rfl
  | true => exact absurd (k.only x e) h
theorem no_name {x : Str} (h : (nameB x || farB x) = false) : ¬ WName x := fun z => by
  have := z.nam
  rw [h] at this
  cases this
theorem names_T {kvs : List (Key × V)} {l : List Str} (k : Keys kvs l) : ∀ {t : Tr}, Fits l t → (toksT t).filter (inD kvs) = nmT t
  | .num n, h => by
    have : inD kvs ((toString n : String) : Str) = false := k.no fun z => by
      have h1 := z.num
      rw [(num_good h).2] at h1
      cases h1
    show List.filter _ [_] = []
    rw [List.filter_cons, this]
    rfl
  | .nam x, h => by
    obtain ⟨y, hy, e⟩ := h
    show List.filter _ [_] = [_]
    rw [List.filter_cons, k.has y hy x e]
    rfl
  | .op g a b, h => by
    have n1 : inD kvs "(" = false := k.no (no_name (by decide +kernel))
    have n2 : inD kvs ")" = false := k.no (no_name (by decide +kernel))
    have n3 : inD kvs (sgS g) = false := k.no (no_name (by cases g <;> decide +kernel))
    show (("(" : Str) :: (toksT a ++ (sgS g :: (toksT b ++ [(")" : Str)])))).filter (inD kvs) = nmT a ++ nmT b
    rw [List.filter_cons, n1, List.filter_append, List.filter_cons, n3, List.filter_append, List.filter_cons, n2, names_T k h.1, names_T k h.2]
    simp
theorem names_Y {kvs : List (Key × V)} {l : List Str} (k : Keys kvs l) : ∀ {t : Sy}, FitsS l t → (toksY t).filter (inD kvs) = nmY t
  | .yes, _ => by
    show List.filter _ [_] = []
    rw [List.filter_cons, k.no (no_name (by decide +kernel))]
    rfl
  | .cmp c a b, h => by
    have n3 : inD kvs (cmS c) = false := k.no (no_name (by cases c <;> decide +kernel))
    show (toksT a ++ (cmS c :: toksT b)).filter (inD kvs) = nmT a ++ nmT b
    rw [List.filter_append, List.filter_cons, n3, names_T k h.1, names_T k h.2.1]
    simp
  | .neg s, h => by
    have n1 : inD kvs "[" = false := k.no (no_name (by decide +kernel))
    have n2 : inD kvs "]" = false := k.no (no_name (by decide +kernel))
    have n3 : inD kvs "not" = false := k.no (no_name (by decide +kernel))
    show (("[" : Str) :: ("not" : Str) :: (toksY s ++ [("]" : Str)])).filter (inD kvs) = nmY s
    rw [List.filter_cons, n1, List.filter_cons, n3, List.filter_append, List.filter_cons, n2, names_Y (t := s) k h]
    simp
  | .bin g a b, h => by
    have n1 : inD kvs "[" = false := k.no (no_name (by decide +kernel))
    have n2 : inD kvs "]" = false := k.no (no_name (by decide +kernel))
    have n3 : inD kvs (bnS g) = false := k.no (no_name (by cases g <;> decide +kernel))
    show (("[" : Str) :: (toksY a ++ (bnS g :: (toksY b ++ [("]" : Str)])))).filter (inD kvs) = nmY a ++ nmY b
    rw [List.filter_cons, n1, List.filter_append, List.filter_cons, n3, List.filter_append, List.filter_cons, n2, names_Y k h.1, names_Y k h.2]
    simp
end Nw
namespace Nw
open PySem L2
theorem txy_len3 {l : List Str} (hl : ∀ x ∈ l, x.length ≤ 30) : ∀ {t : Sy}, FitsS l t → (txy t).length ≤ 47 * tkn t
  | .yes, _ => by
    show ("yes" : Str).length ≤ 47 * 1
    rw [sq_len.1]; decide
  | .cmp c a b, h => by
    obtain ⟨fa, fb, la, lb⟩ : Fits l a ∧ Fits l b ∧ lv a ≤ 9 ∧ lv b ≤ 9 := h
    have i1 := txt_len hl fa
    have i2 := txt_len hl fb
    have d1 := dp_lt a
    have d2 := dp_lt b
    have c1 := cm_len c
    show (txt a ++ " " ++ cmS c ++ " " ++ txt b : Str).length ≤ 47 * (4 * lv a + 4 * lv b - 5)
    simp only [str_len, sp_len.1]
    omega
  | .neg s, h => by
    have i := txy_len3 hl (t := s) h
    show ("[ not " ++ txy s ++ " ]" : Str).length ≤ 47 * (tkn s + 3)
    simp only [str_len, sq_len.2.1, sq_len.2.2.1]
    omega
  | .bin g a b, h => by
    obtain ⟨fa, fb⟩ : FitsS l a ∧ FitsS l b := h
    have i1 := txy_len3 hl fa
    have i2 := txy_len3 hl fb
    have c1 := bn_len g
    show ("[ " ++ txy a ++ " " ++ bnS g ++ " " ++ txy b ++ " ]" : Str).length ≤ 47 * (tkn a + tkn b + 3)
    simp only [str_len, sp_len.1, sq_len.2.2.1, sq_len.2.2.2]
    omega
theorem pieces_all {t : Str} {l : List Str} (e : Txt.split t " " = l) (h : ∀ x ∈ l, TokW x) : piecesOf t = l := by
  show (Txt.split t " ").filter _ = l
  rw [e, List.filter_eq_self]
  intro x hx
  rw [decide_eq_false fun z => (h x hx).tok.ne (V.str.inj z)]
  rfl
theorem pieces_txt {t : Tr} (h : GoodT t) : piecesOf (txt t) = toksT t := pieces_all (split_txt h) (toksT_tok h)
section
variable {P : Program} {w : World} {K : PySem.W.Frag} {mg : Str → Option Value} {base : Heap}
structure Txt (K : PySem.W.Frag) (mg : Str → Option Value) (CK : Kd → Addr) (CY : Ks → Addr) (CR CS aO aS : Addr) (fNI fMI fTI fPI fOI fRI fTN fPN fNS fMS fPS fIS fXS fNW fMW fPW fIW fXW fNN fMN fYS fLS fAS fES fUS fBS fOS fTS fYH fLH fAH fEH fUH fBH fOH fTH fYN fTNn fRA fRT fRW fRE fCe fMi fOw fPo fLe fSu fSt fWo fSa fTe fHo fVa fSp fCm fTw fMo fNu fNm fFa fWd fOp fWs fSi fBi fYi fCi fBj fDi fRs fRy fBr fBs : Addr) (dNI dMI dTI dPI dOI dRI dTN dPN dNS dMS dPS dIS dXS dNW dMW dPW dIW dXW dNN dMN dYS dLS dAS dES dUS dBS dOS dTS dYH dLH dAH dEH dUH dBH dOH dTH dYN dTNn dRA dRT dRW dRE dCe dMi dOw dPo dLe dSu dSt dWo dSa dTe dHo dVa dSp dCm dTw dMo dNu dNm dFa dWd dOp dWs dSi dBi dYi dCi dBj dDi dRs dRy dBr dBs : FuncData) : Prop where
  bl : Bl mg
  mkr : Maker K mg CK fNI fMI fTI dNI dMI dTI
  mks : MakerS K mg CY fPI fOI dPI dOI
  lex : Lex K mg aO aS
  cr : ClsR K CR
  mkR : Mk K CR fRI
  gR : mg "Reader" = some (.ref CR)
  FRI : Fun K "__init__" "Reader.__init__" sReaI fRI dRI
  bRI : Binds K dRI ["self", "pieces"] []
  gSm : mg "Sum" = some (.ref CS)
  hn : PySem.W.specialIn K (.builtin "object.__class__") "__get__" = some (some (.builtin "getset_descriptor.__get__"))
  ht : PySem.W.takesIn K (.builtin "object.__class__") = some true
  hcK : ∀ k, PySem.W.findIn K (.ref (CK k)) "__class__" = some (some (.builtin "object.__class__"))
  hmK : ∀ k, PySem.W.mroIn K (CK k) (.type "object") = some true
  hkK : ∀ k, PySem.W.kitOne K (.ref (CK k)) (.ref CS) = some true
  hcY : ∀ k, PySem.W.findIn K (.ref (CY k)) "__class__" = some (some (.builtin "object.__class__"))
  hmY : ∀ k, PySem.W.mroIn K (CY k) (.type "object") = some true
  hkY : ∀ k, PySem.W.kitOne K (.ref (CY k)) (.ref (CY .yes)) = some true
  FTN : Fun K "named" "Twofold.named" sTwoN fTN dTN
  bTN : Binds K dTN ["self"] []
  mTN : ∀ g, Meth K (CK (.op g)) "named" fTN
  FPN : Fun K "named" "Pairing.named" sPaiN fPN dPN
  bPN : Binds K dPN ["self"] []
  mPN : ∀ g, Meth K (CY (.cmp g)) "named" fPN
  mPB : ∀ g, Meth K (CY (.bin g)) "named" fPN
  FNS : Fun K "shown" "Number.shown" sNumS fNS dNS
  bNS : Binds K dNS ["self"] []
  mNS : Meth K (CK .num) "shown" fNS
  FMS : Fun K "shown" "Named.shown" sNamS fMS dMS
  bMS : Binds K dMS ["self"] []
  mMS : Meth K (CK .nam) "shown" fMS
  FPS : Fun K "shown" "Plus.shown" sPluS fPS dPS
  bPS : Binds K dPS ["self"] []
  mPS : Meth K (CK (.op .plus)) "shown" fPS
  FIS : Fun K "shown" "Minus.shown" sMinS fIS dIS
  bIS : Binds K dIS ["self"] []
  mIS : Meth K (CK (.op .minus)) "shown" fIS
  FXS : Fun K "shown" "Times.shown" sTimS fXS dXS
  bXS : Binds K dXS ["self"] []
  mXS : Meth K (CK (.op .times)) "shown" fXS
  FNW : Fun K "worth" "Number.worth" sNumW fNW dNW
  bNW : Binds K dNW ["self", "values"] []
  mNW : Meth K (CK .num) "worth" fNW
  FMW : Fun K "worth" "Named.worth" sNamW fMW dMW
  bMW : Binds K dMW ["self", "values"] []
  mMW : Meth K (CK .nam) "worth" fMW
  FPW : Fun K "worth" "Plus.worth" sPluW fPW dPW
  bPW : Binds K dPW ["self", "values"] []
  mPW : Meth K (CK (.op .plus)) "worth" fPW
  FIW : Fun K "worth" "Minus.worth" sMinW fIW dIW
  bIW : Binds K dIW ["self", "values"] []
  mIW : Meth K (CK (.op .minus)) "worth" fIW
  FXW : Fun K "worth" "Times.worth" sTimW fXW dXW
  bXW : Binds K dXW ["self", "values"] []
  mXW : Meth K (CK (.op .times)) "worth" fXW
  FNN : Fun K "named" "Sum.named" sSumN fNN dNN
  bNN : Binds K dNN ["self"] []
  mNN : Meth K (CK .num) "named" fNN
  FMN : Fun K "named" "Named.named" sNamN fMN dMN
  bMN : Binds K dMN ["self"] []
  mMN : Meth K (CK .nam) "named" fMN
  FYS : Fun K "shown" "Saying.shown" sSayS fYS dYS
  bYS : Binds K dYS ["self"] []
  mYS : Meth K (CY .yes) "shown" fYS
  FLS : Fun K "shown" "Less.shown" sLesS fLS dLS
  bLS : Binds K dLS ["self"] []
  mLS : Meth K (CY (.cmp .lt)) "shown" fLS
  FAS : Fun K "shown" "AtMost.shown" sAtmS fAS dAS
  bAS : Binds K dAS ["self"] []
  mAS : Meth K (CY (.cmp .le)) "shown" fAS
  FES : Fun K "shown" "Equal.shown" sEquS fES dES
  bES : Binds K dES ["self"] []
  mES : Meth K (CY (.cmp .eq)) "shown" fES
  FUS : Fun K "shown" "Unlike.shown" sUnlS fUS dUS
  bUS : Binds K dUS ["self"] []
  mUS : Meth K (CY (.cmp .ne)) "shown" fUS
  FBS : Fun K "shown" "Both.shown" sBotS fBS dBS
  bBS : Binds K dBS ["self"] []
  mBS : Meth K (CY (.bin .and)) "shown" fBS
  FOS : Fun K "shown" "Either.shown" sEitS fOS dOS
  bOS : Binds K dOS ["self"] []
  mOS : Meth K (CY (.bin .or)) "shown" fOS
  FTS : Fun K "shown" "Not.shown" sNotS fTS dTS
  bTS : Binds K dTS ["self"] []
  mTS : Meth K (CY .neg) "shown" fTS
  FYH : Fun K "holds" "Saying.holds" sSayH fYH dYH
  bYH : Binds K dYH ["self", "values"] []
  mYH : Meth K (CY .yes) "holds" fYH
  FLH : Fun K "holds" "Less.holds" sLesH fLH dLH
  bLH : Binds K dLH ["self", "values"] []
  mLH : Meth K (CY (.cmp .lt)) "holds" fLH
  FAH : Fun K "holds" "AtMost.holds" sAtmH fAH dAH
  bAH : Binds K dAH ["self", "values"] []
  mAH : Meth K (CY (.cmp .le)) "holds" fAH
  FEH : Fun K "holds" "Equal.holds" sEquH fEH dEH
  bEH : Binds K dEH ["self", "values"] []
  mEH : Meth K (CY (.cmp .eq)) "holds" fEH
  FUH : Fun K "holds" "Unlike.holds" sUnlH fUH dUH
  bUH : Binds K dUH ["self", "values"] []
  mUH : Meth K (CY (.cmp .ne)) "holds" fUH
  FBH : Fun K "holds" "Both.holds" sBotH fBH dBH
  bBH : Binds K dBH ["self", "values"] []
  mBH : Meth K (CY (.bin .and)) "holds" fBH
  FOH : Fun K "holds" "Either.holds" sEitH fOH dOH
  bOH : Binds K dOH ["self", "values"] []
  mOH : Meth K (CY (.bin .or)) "holds" fOH
  FTH : Fun K "holds" "Not.holds" sNotH fTH dTH
  bTH : Binds K dTH ["self", "values"] []
  mTH : Meth K (CY .neg) "holds" fTH
  FYN : Fun K "named" "Saying.named" sSayN fYN dYN
  bYN : Binds K dYN ["self"] []
  mYN : Meth K (CY .yes) "named" fYN
  FTNn : Fun K "named" "Not.named" sNotN fTNn dTNn
  bTNn : Binds K dTNn ["self"] []
  mTNn : Meth K (CY .neg) "named" fTNn
  FRA : Fun K "ahead" "Reader.ahead" sReaA fRA dRA
  bRA : Binds K dRA ["self"] []
  mRA : Meth K (CR) "ahead" fRA
  FRT : Fun K "take" "Reader.take" sReaT fRT dRT
  bRT : Binds K dRT ["self"] []
  mRT : Meth K (CR) "take" fRT
  FRW : Fun K "take_word" "Reader.take_word" sReaW fRW dRW
  bRW : Binds K dRW ["self", "word"] []
  mRW : Meth K (CR) "take_word" fRW
  FRE : Fun K "take_end" "Reader.take_end" sReaE fRE dRE
  bRE : Binds K dRE ["self"] []
  mRE : Meth K (CR) "take_end" fRE
  gCe : mg "_law_cell_at" = some (.ref fCe)
  FCe : Fun K "_law_cell_at" "_law_cell_at" sCell fCe dCe
  bCe : Binds K dCe ["_law_script", "_law_k"] []
  gMi : mg "_law_mix" = some (.ref fMi)
  FMi : Fun K "_law_mix" "_law_mix" sMix fMi dMi
  bMi : Binds K dMi ["_law_cell", "_law_k"] []
  gOw : mg "_law_own" = some (.ref fOw)
  FOw : Fun K "_law_own" "_law_own" sOwn fOw dOw
  bOw : Binds K dOw [] []
  gPo : mg "_law_pool" = some (.ref fPo)
  FPo : Fun K "_law_pool" "_law_pool" sPool fPo dPo
  bPo : Binds K dPo ["_law_cell", "_law_other"] []
  gLe : mg "_law_leaf" = some (.ref fLe)
  FLe : Fun K "_law_leaf" "_law_leaf" sLeaf fLe dLe
  bLe : Binds K dLe ["_law_cell", "_law_pool_here"] []
  gSu : mg "_law_sum" = some (.ref fSu)
  FSu : Fun K "_law_sum" "_law_sum" sSum fSu dSu
  bSu : Binds K dSu ["_law_cells", "_law_pool_here"] []
  gSt : mg "_law_sum_text" = some (.ref fSt)
  FSt : Fun K "_law_sum_text" "_law_sum_text" sText fSt dSt
  bSt : Binds K dSt ["_law_some"] []
  gWo : mg "_law_worth" = some (.ref fWo)
  FWo : Fun K "_law_worth" "_law_worth" sWorth fWo dWo
  bWo : Binds K dWo ["_law_some", "_law_values_here"] []
  gSa : mg "_law_saying" = some (.ref fSa)
  FSa : Fun K "_law_saying" "_law_saying" sSaying fSa dSa
  bSa : Binds K dSa ["_law_cells", "_law_pool_here"] []
  gTe : mg "_law_text" = some (.ref fTe)
  FTe : Fun K "_law_text" "_law_text" sTxy fTe dTe
  bTe : Binds K dTe ["_law_some"] []
  gHo : mg "_law_holds" = some (.ref fHo)
  FHo : Fun K "_law_holds" "_law_holds" sHolds fHo dHo
  bHo : Binds K dHo ["_law_some", "_law_values_here"] []
  gVa : mg "_law_values" = some (.ref fVa)
  FVa : Fun K "_law_values" "_law_values" sVals fVa dVa
  bVa : Binds K dVa ["_law_cells", "_law_pool_here"] []
  gSp : mg "_law_spaced" = some (.ref fSp)
  FSp : Fun K "_law_spaced" "_law_spaced" sSpaced fSp dSp
  bSp : Binds K dSp ["_law_text_here", "_law_cells"] []
  gCm : mg "compared" = some (.ref fCm)
  FCm : Fun K "compared" "compared" sCmp fCm dCm
  bCm : Binds K dCm ["one", "sign", "other"] []
  gTw : mg "names_of_two" = some (.ref fTw)
  FTw : Fun K "names_of_two" "names_of_two" sTwoO fTw dTw
  bTw : Binds K dTw ["one", "other"] []
  gMo : mg "made_of" = some (.ref fMo)
  FMo : Fun K "made_of" "made_of" sMade fMo dMo
  bMo : Binds K dMo ["piece", "signs", "longest"] []
  gNu : mg "is_number" = some (.ref fNu)
  FNu : Fun K "is_number" "is_number" sIsNum fNu dNu
  bNu : Binds K dNu ["piece"] []
  gNm : mg "is_name" = some (.ref fNm)
  FNm : Fun K "is_name" "is_name" sIsNam fNm dNm
  bNm : Binds K dNm ["piece"] []
  gFa : mg "is_far_name" = some (.ref fFa)
  FFa : Fun K "is_far_name" "is_far_name" sIsFar fFa dFa
  bFa : Binds K dFa ["piece"] []
  gWd : mg "is_word" = some (.ref fWd)
  FWd : Fun K "is_word" "is_word" sIsWord fWd dWd
  bWd : Binds K dWd ["piece"] []
  gOp : mg "most_open" = some (.ref fOp)
  FOp : Fun K "most_open" "most_open" sOpen fOp dOp
  bOp : Binds K dOp ["pieces"] []
  gWs : mg "words" = some (.ref fWs)
  FWs : Fun K "words" "words" sWords fWs dWs
  bWs : Binds K dWs ["text"] []
  gSi : mg "sum_in" = some (.ref fSi)
  FSi : Fun K "sum_in" "sum_in" sSumIn fSi dSi
  bSi : Binds K dSi ["reader"] []
  gBi : mg "bracketed_sum_in" = some (.ref fBi)
  FBi : Fun K "bracketed_sum_in" "bracketed_sum_in" sBraIn fBi dBi
  bBi : Binds K dBi ["reader"] []
  gYi : mg "saying_in" = some (.ref fYi)
  FYi : Fun K "saying_in" "saying_in" sSayIn fYi dYi
  bYi : Binds K dYi ["reader"] []
  gCi : mg "compared_in" = some (.ref fCi)
  FCi : Fun K "compared_in" "compared_in" sCmpIn fCi dCi
  bCi : Binds K dCi ["reader"] []
  gBj : mg "bracketed_saying_in" = some (.ref fBj)
  FBj : Fun K "bracketed_saying_in" "bracketed_saying_in" sBrsIn fBj dBj
  bBj : Binds K dBj ["reader"] []
  gDi : mg "denied_in" = some (.ref fDi)
  FDi : Fun K "denied_in" "denied_in" sDenIn fDi dDi
  bDi : Binds K dDi ["reader"] []
  gRs : mg "read_sum" = some (.ref fRs)
  FRs : Fun K "read_sum" "read_sum" sReadS fRs dRs
  bRs : Binds K dRs ["text"] []
  gRy : mg "read_saying" = some (.ref fRy)
  FRy : Fun K "read_saying" "read_saying" sReadY fRy dRy
  bRy : Binds K dRy ["text"] []
  gBr : mg "bracketed_sums" = some (.ref fBr)
  FBr : Fun K "bracketed" "bracketed" sBra fBr dBr
  bBr : Binds K dBr ["one", "sign", "other"] []
  gBs : mg "bracketed_sayings" = some (.ref fBs)
  FBs : Fun K "bracketed" "bracketed" sBrs fBs dBs
  bBs : Binds K dBs ["one", "word", "other"] []
variable {CK : Kd → Addr} {CY : Ks → Addr} {CR CS aO aS : Addr} {fNI fMI fTI fPI fOI fRI fTN fPN fNS fMS fPS fIS fXS fNW fMW fPW fIW fXW fNN fMN fYS fLS fAS fES fUS fBS fOS fTS fYH fLH fAH fEH fUH fBH fOH fTH fYN fTNn fRA fRT fRW fRE fCe fMi fOw fPo fLe fSu fSt fWo fSa fTe fHo fVa fSp fCm fTw fMo fNu fNm fFa fWd fOp fWs fSi fBi fYi fCi fBj fDi fRs fRy fBr fBs : Addr} {dNI dMI dTI dPI dOI dRI dTN dPN dNS dMS dPS dIS dXS dNW dMW dPW dIW dXW dNN dMN dYS dLS dAS dES dUS dBS dOS dTS dYH dLH dAH dEH dUH dBH dOH dTH dYN dTNn dRA dRT dRW dRE dCe dMi dOw dPo dLe dSu dSt dWo dSa dTe dHo dVa dSp dCm dTw dMo dNu dNm dFa dWd dOp dWs dSi dBi dYi dCi dBj dDi dRs dRy dBr dBs : FuncData}
theorem showns (T : Txt K mg CK CY CR CS aO aS fNI fMI fTI fPI fOI fRI fTN fPN fNS fMS fPS fIS fXS fNW fMW fPW fIW fXW fNN fMN fYS fLS fAS fES fUS fBS fOS fTS fYH fLH fAH fEH fUH fBH fOH fTH fYN fTNn fRA fRT fRW fRE fCe fMi fOw fPo fLe fSu fSt fWo fSa fTe fHo fVa fSp fCm fTw fMo fNu fNm fFa fWd fOp fWs fSi fBi fYi fCi fBj fDi fRs fRy fBr fBs dNI dMI dTI dPI dOI dRI dTN dPN dNS dMS dPS dIS dXS dNW dMW dPW dIW dXW dNN dMN dYS dLS dAS dES dUS dBS dOS dTS dYH dLH dAH dEH dUH dBH dOH dTH dYN dTNn dRA dRT dRW dRE dCe dMi dOw dPo dLe dSu dSt dWo dSa dTe dHo dVa dSp dCm dTw dMo dNu dNm dFa dWd dOp dWs dSi dBi dYi dCi dBj dDi dRs dRy dBr dBs) : ∀ (n : Nat) (k : Kd), MOk P w K mg base (2 * n + 1) (CK k) "shown" (spS CK n k)
  | n, .num => ⟨T.mkr.cls.cl _, _, _, _, T.mNS, (ok_numS T.bl T.mkr.cls T.FNS n).mono (by omega), T.bNS⟩
  | n, .nam => ⟨T.mkr.cls.cl _, _, _, _, T.mMS, (ok_namS T.mkr.cls T.FMS n).mono (by omega), T.bMS⟩
  | 0, .op .plus => ⟨T.mkr.cls.cl _, _, _, _, T.mPS, fn_none (spS_none _), T.bPS⟩
  | 0, .op .minus => ⟨T.mkr.cls.cl _, _, _, _, T.mIS, fn_none (spS_none _), T.bIS⟩
  | 0, .op .times => ⟨T.mkr.cls.cl _, _, _, _, T.mXS, fn_none (spS_none _), T.bXS⟩
  | n + 1, .op .plus => ⟨T.mkr.cls.cl _, _, _, _, T.mPS, ok_pluS T.mkr.cls T.FPS T.FBr T.bBr T.gBr n (showns T n), T.bPS⟩
  | n + 1, .op .minus => ⟨T.mkr.cls.cl _, _, _, _, T.mIS, ok_minS T.mkr.cls T.FIS T.FBr T.bBr T.gBr n (showns T n), T.bIS⟩
  | n + 1, .op .times => ⟨T.mkr.cls.cl _, _, _, _, T.mXS, ok_timS T.mkr.cls T.FXS T.FBr T.bBr T.gBr n (showns T n), T.bXS⟩
theorem showny (T : Txt K mg CK CY CR CS aO aS fNI fMI fTI fPI fOI fRI fTN fPN fNS fMS fPS fIS fXS fNW fMW fPW fIW fXW fNN fMN fYS fLS fAS fES fUS fBS fOS fTS fYH fLH fAH fEH fUH fBH fOH fTH fYN fTNn fRA fRT fRW fRE fCe fMi fOw fPo fLe fSu fSt fWo fSa fTe fHo fVa fSp fCm fTw fMo fNu fNm fFa fWd fOp fWs fSi fBi fYi fCi fBj fDi fRs fRy fBr fBs dNI dMI dTI dPI dOI dRI dTN dPN dNS dMS dPS dIS dXS dNW dMW dPW dIW dXW dNN dMN dYS dLS dAS dES dUS dBS dOS dTS dYH dLH dAH dEH dUH dBH dOH dTH dYN dTNn dRA dRT dRW dRE dCe dMi dOw dPo dLe dSu dSt dWo dSa dTe dHo dVa dSp dCm dTw dMo dNu dNm dFa dWd dOp dWs dSi dBi dYi dCi dBj dDi dRs dRy dBr dBs) : ∀ (n : Nat) (k : Ks), MOk P w K mg base (2 * n + 21) (CY k) "shown" (spYS CK CY n k)
  | n, .yes => ⟨T.mks.cls.cl _, _, _, _, T.mYS, (ok_sayS T.FYS n).mono (by omega), T.bYS⟩
  | n, .cmp .lt => ⟨T.mks.cls.cl _, _, _, _, T.mLS, (ok_lesS T.mks.cls T.FLS T.FCm T.bCm T.gCm (showns T 9) n).mono (by omega), T.bLS⟩
  | n, .cmp .le => ⟨T.mks.cls.cl _, _, _, _, T.mAS, (ok_atmS T.mks.cls T.FAS T.FCm T.bCm T.gCm (showns T 9) n).mono (by omega), T.bAS⟩
  | n, .cmp .eq => ⟨T.mks.cls.cl _, _, _, _, T.mES, (ok_equS T.mks.cls T.FES T.FCm T.bCm T.gCm (showns T 9) n).mono (by omega), T.bES⟩
  | n, .cmp .ne => ⟨T.mks.cls.cl _, _, _, _, T.mUS, (ok_unlS T.mks.cls T.FUS T.FCm T.bCm T.gCm (showns T 9) n).mono (by omega), T.bUS⟩
  | 0, .bin .and => ⟨T.mks.cls.cl _, _, _, _, T.mBS, fn_none (spYS_none _), T.bBS⟩
  | 0, .bin .or => ⟨T.mks.cls.cl _, _, _, _, T.mOS, fn_none (spYS_none _), T.bOS⟩
  | 0, .neg => ⟨T.mks.cls.cl _, _, _, _, T.mTS, fn_none (spYS_none _), T.bTS⟩
  | n + 1, .bin .and => ⟨T.mks.cls.cl _, _, _, _, T.mBS, ok_botS T.mks.cls T.FBS T.FBs T.bBs T.gBs n (showny T n), T.bBS⟩
  | n + 1, .bin .or => ⟨T.mks.cls.cl _, _, _, _, T.mOS, ok_eitS T.mks.cls T.FOS T.FBs T.bBs T.gBs n (showny T n), T.bOS⟩
  | n + 1, .neg => ⟨T.mks.cls.cl _, _, _, _, T.mTS, (ok_notS T.mks.cls T.FTS n (showny T n)).mono (by omega), T.bTS⟩
theorem nameds (T : Txt K mg CK CY CR CS aO aS fNI fMI fTI fPI fOI fRI fTN fPN fNS fMS fPS fIS fXS fNW fMW fPW fIW fXW fNN fMN fYS fLS fAS fES fUS fBS fOS fTS fYH fLH fAH fEH fUH fBH fOH fTH fYN fTNn fRA fRT fRW fRE fCe fMi fOw fPo fLe fSu fSt fWo fSa fTe fHo fVa fSp fCm fTw fMo fNu fNm fFa fWd fOp fWs fSi fBi fYi fCi fBj fDi fRs fRy fBr fBs dNI dMI dTI dPI dOI dRI dTN dPN dNS dMS dPS dIS dXS dNW dMW dPW dIW dXW dNN dMN dYS dLS dAS dES dUS dBS dOS dTS dYH dLH dAH dEH dUH dBH dOH dTH dYN dTNn dRA dRT dRW dRE dCe dMi dOw dPo dLe dSu dSt dWo dSa dTe dHo dVa dSp dCm dTw dMo dNu dNm dFa dWd dOp dWs dSi dBi dYi dCi dBj dDi dRs dRy dBr dBs) : ∀ (n : Nat) (k : Kd), MOk P w K mg base (2 * n + 1) (CK k) "named" (spN CK n k)
  | n, .num => ⟨T.mkr.cls.cl _, _, _, _, T.mNN, (ok_sumN T.FNN n).mono (by omega), T.bNN⟩
  | n, .nam => ⟨T.mkr.cls.cl _, _, _, _, T.mMN, (ok_namN T.mkr.cls T.FMN n).mono (by omega), T.bMN⟩
  | 0, .op g => ⟨T.mkr.cls.cl _, _, _, _, T.mTN g, fn_none (spN_none _), T.bTN⟩
  | n + 1, .op g => ⟨T.mkr.cls.cl _, _, _, _, T.mTN g, ok_twoN T.bl T.mkr.cls T.FTN T.FTw T.bTw T.gTw n (nameds T n) g, T.bTN⟩
theorem namedy (T : Txt K mg CK CY CR CS aO aS fNI fMI fTI fPI fOI fRI fTN fPN fNS fMS fPS fIS fXS fNW fMW fPW fIW fXW fNN fMN fYS fLS fAS fES fUS fBS fOS fTS fYH fLH fAH fEH fUH fBH fOH fTH fYN fTNn fRA fRT fRW fRE fCe fMi fOw fPo fLe fSu fSt fWo fSa fTe fHo fVa fSp fCm fTw fMo fNu fNm fFa fWd fOp fWs fSi fBi fYi fCi fBj fDi fRs fRy fBr fBs dNI dMI dTI dPI dOI dRI dTN dPN dNS dMS dPS dIS dXS dNW dMW dPW dIW dXW dNN dMN dYS dLS dAS dES dUS dBS dOS dTS dYH dLH dAH dEH dUH dBH dOH dTH dYN dTNn dRA dRT dRW dRE dCe dMi dOw dPo dLe dSu dSt dWo dSa dTe dHo dVa dSp dCm dTw dMo dNu dNm dFa dWd dOp dWs dSi dBi dYi dCi dBj dDi dRs dRy dBr dBs) : ∀ (n : Nat) (k : Ks), MOk P w K mg base (2 * n + 21) (CY k) "named" (spYN CK CY n k)
  | n, .yes => ⟨T.mks.cls.cl _, _, _, _, T.mYN, (ok_sayN T.FYN n).mono (by omega), T.bYN⟩
  | n, .cmp g => ⟨T.mks.cls.cl _, _, _, _, T.mPN g, (ok_cmpN T.bl T.mks.cls T.FPN T.FTw T.bTw T.gTw (nameds T 9) n g).mono (by omega), T.bPN⟩
  | 0, .bin g => ⟨T.mks.cls.cl _, _, _, _, T.mPB g, fn_none (spYN_none _), T.bPN⟩
  | 0, .neg => ⟨T.mks.cls.cl _, _, _, _, T.mTNn, fn_none (spYN_none _), T.bTNn⟩
  | n + 1, .bin g => ⟨T.mks.cls.cl _, _, _, _, T.mPB g, ok_binN T.bl T.mks.cls T.FPN T.FTw T.bTw T.gTw n (namedy T n) g, T.bPN⟩
  | n + 1, .neg => ⟨T.mks.cls.cl _, _, _, _, T.mTNn, (ok_notN T.mks.cls T.FTNn n (namedy T n)).mono (by omega), T.bTNn⟩
theorem worths (T : Txt K mg CK CY CR CS aO aS fNI fMI fTI fPI fOI fRI fTN fPN fNS fMS fPS fIS fXS fNW fMW fPW fIW fXW fNN fMN fYS fLS fAS fES fUS fBS fOS fTS fYH fLH fAH fEH fUH fBH fOH fTH fYN fTNn fRA fRT fRW fRE fCe fMi fOw fPo fLe fSu fSt fWo fSa fTe fHo fVa fSp fCm fTw fMo fNu fNm fFa fWd fOp fWs fSi fBi fYi fCi fBj fDi fRs fRy fBr fBs dNI dMI dTI dPI dOI dRI dTN dPN dNS dMS dPS dIS dXS dNW dMW dPW dIW dXW dNN dMN dYS dLS dAS dES dUS dBS dOS dTS dYH dLH dAH dEH dUH dBH dOH dTH dYN dTNn dRA dRT dRW dRE dCe dMi dOw dPo dLe dSu dSt dWo dSa dTe dHo dVa dSp dCm dTw dMo dNu dNm dFa dWd dOp dWs dSi dBi dYi dCi dBj dDi dRs dRy dBr dBs) : ∀ (n : Nat) (k : Kd), MOk P w K mg base (n + 1) (CK k) "worth" (spW CK n k)
  | n, .num => ⟨T.mkr.cls.cl _, _, _, _, T.mNW, (ok_numW T.mkr.cls T.FNW n).mono (Nat.le_add_left 1 n), T.bNW⟩
  | n, .nam => ⟨T.mkr.cls.cl _, _, _, _, T.mMW, (ok_namW T.mkr.cls T.FMW n).mono (Nat.le_add_left 1 n), T.bMW⟩
  | 0, .op .plus => ⟨T.mkr.cls.cl _, _, _, _, T.mPW, fn_none (spW_none _), T.bPW⟩
  | 0, .op .minus => ⟨T.mkr.cls.cl _, _, _, _, T.mIW, fn_none (spW_none _), T.bIW⟩
  | 0, .op .times => ⟨T.mkr.cls.cl _, _, _, _, T.mXW, fn_none (spW_none _), T.bXW⟩
  | n + 1, .op .plus => ⟨T.mkr.cls.cl _, _, _, _, T.mPW, ok_pluW T.mkr.cls T.FPW n (worths T n), T.bPW⟩
  | n + 1, .op .minus => ⟨T.mkr.cls.cl _, _, _, _, T.mIW, ok_minW T.mkr.cls T.FIW n (worths T n), T.bIW⟩
  | n + 1, .op .times => ⟨T.mkr.cls.cl _, _, _, _, T.mXW, ok_timW T.mkr.cls T.FXW n (worths T n), T.bXW⟩
theorem holdses (T : Txt K mg CK CY CR CS aO aS fNI fMI fTI fPI fOI fRI fTN fPN fNS fMS fPS fIS fXS fNW fMW fPW fIW fXW fNN fMN fYS fLS fAS fES fUS fBS fOS fTS fYH fLH fAH fEH fUH fBH fOH fTH fYN fTNn fRA fRT fRW fRE fCe fMi fOw fPo fLe fSu fSt fWo fSa fTe fHo fVa fSp fCm fTw fMo fNu fNm fFa fWd fOp fWs fSi fBi fYi fCi fBj fDi fRs fRy fBr fBs dNI dMI dTI dPI dOI dRI dTN dPN dNS dMS dPS dIS dXS dNW dMW dPW dIW dXW dNN dMN dYS dLS dAS dES dUS dBS dOS dTS dYH dLH dAH dEH dUH dBH dOH dTH dYN dTNn dRA dRT dRW dRE dCe dMi dOw dPo dLe dSu dSt dWo dSa dTe dHo dVa dSp dCm dTw dMo dNu dNm dFa dWd dOp dWs dSi dBi dYi dCi dBj dDi dRs dRy dBr dBs) : ∀ (n : Nat) (k : Ks), MOk P w K mg base (n + 11) (CY k) "holds" (spH CK CY n k)
  | n, .yes => ⟨T.mks.cls.cl _, _, _, _, T.mYH, (ok_yesH T.FYH n).mono (by omega), T.bYH⟩
  | n, .cmp .lt => ⟨T.mks.cls.cl _, _, _, _, T.mLH, (ok_lesH T.mks.cls T.FLH (worths T 9) n).mono (by omega), T.bLH⟩
  | n, .cmp .le => ⟨T.mks.cls.cl _, _, _, _, T.mAH, (ok_atmH T.mks.cls T.FAH (worths T 9) n).mono (by omega), T.bAH⟩
  | n, .cmp .eq => ⟨T.mks.cls.cl _, _, _, _, T.mEH, (ok_equH T.mks.cls T.FEH (worths T 9) n).mono (by omega), T.bEH⟩
  | n, .cmp .ne => ⟨T.mks.cls.cl _, _, _, _, T.mUH, (ok_unlH T.mks.cls T.FUH (worths T 9) n).mono (by omega), T.bUH⟩
  | 0, .bin .and => ⟨T.mks.cls.cl _, _, _, _, T.mBH, fn_none (spH_none _), T.bBH⟩
  | 0, .bin .or => ⟨T.mks.cls.cl _, _, _, _, T.mOH, fn_none (spH_none _), T.bOH⟩
  | 0, .neg => ⟨T.mks.cls.cl _, _, _, _, T.mTH, fn_none (spH_none _), T.bTH⟩
  | n + 1, .bin .and => ⟨T.mks.cls.cl _, _, _, _, T.mBH, ok_botH T.mks.cls T.FBH n (holdses T n), T.bBH⟩
  | n + 1, .bin .or => ⟨T.mks.cls.cl _, _, _, _, T.mOH, ok_eitH T.mks.cls T.FOH n (holdses T n), T.bOH⟩
  | n + 1, .neg => ⟨T.mks.cls.cl _, _, _, _, T.mTH, ok_notH T.mks.cls T.FTH n (holdses T n), T.bTH⟩
theorem aheadR (T : Txt K mg CK CY CR CS aO aS fNI fMI fTI fPI fOI fRI fTN fPN fNS fMS fPS fIS fXS fNW fMW fPW fIW fXW fNN fMN fYS fLS fAS fES fUS fBS fOS fTS fYH fLH fAH fEH fUH fBH fOH fTH fYN fTNn fRA fRT fRW fRE fCe fMi fOw fPo fLe fSu fSt fWo fSa fTe fHo fVa fSp fCm fTw fMo fNu fNm fFa fWd fOp fWs fSi fBi fYi fCi fBj fDi fRs fRy fBr fBs dNI dMI dTI dPI dOI dRI dTN dPN dNS dMS dPS dIS dXS dNW dMW dPW dIW dXW dNN dMN dYS dLS dAS dES dUS dBS dOS dTS dYH dLH dAH dEH dUH dBH dOH dTH dYN dTNn dRA dRT dRW dRE dCe dMi dOw dPo dLe dSu dSt dWo dSa dTe dHo dVa dSp dCm dTw dMo dNu dNm dFa dWd dOp dWs dSi dBi dYi dCi dBj dDi dRs dRy dBr dBs) : MOk P w K mg base 1 CR "ahead" (spAhead CR) := ⟨T.cr.cl, _, _, _, T.mRA, ok_reaA T.bl T.cr T.FRA, T.bRA⟩
theorem takeR (T : Txt K mg CK CY CR CS aO aS fNI fMI fTI fPI fOI fRI fTN fPN fNS fMS fPS fIS fXS fNW fMW fPW fIW fXW fNN fMN fYS fLS fAS fES fUS fBS fOS fTS fYH fLH fAH fEH fUH fBH fOH fTH fYN fTNn fRA fRT fRW fRE fCe fMi fOw fPo fLe fSu fSt fWo fSa fTe fHo fVa fSp fCm fTw fMo fNu fNm fFa fWd fOp fWs fSi fBi fYi fCi fBj fDi fRs fRy fBr fBs dNI dMI dTI dPI dOI dRI dTN dPN dNS dMS dPS dIS dXS dNW dMW dPW dIW dXW dNN dMN dYS dLS dAS dES dUS dBS dOS dTS dYH dLH dAH dEH dUH dBH dOH dTH dYN dTNn dRA dRT dRW dRE dCe dMi dOw dPo dLe dSu dSt dWo dSa dTe dHo dVa dSp dCm dTw dMo dNu dNm dFa dWd dOp dWs dSi dBi dYi dCi dBj dDi dRs dRy dBr dBs) : MOk P w K mg base 2 CR "take" (spTake CR) := ⟨T.cr.cl, _, _, _, T.mRT, ok_reaT T.cr T.FRT (aheadR T), T.bRT⟩
theorem takeWR (T : Txt K mg CK CY CR CS aO aS fNI fMI fTI fPI fOI fRI fTN fPN fNS fMS fPS fIS fXS fNW fMW fPW fIW fXW fNN fMN fYS fLS fAS fES fUS fBS fOS fTS fYH fLH fAH fEH fUH fBH fOH fTH fYN fTNn fRA fRT fRW fRE fCe fMi fOw fPo fLe fSu fSt fWo fSa fTe fHo fVa fSp fCm fTw fMo fNu fNm fFa fWd fOp fWs fSi fBi fYi fCi fBj fDi fRs fRy fBr fBs dNI dMI dTI dPI dOI dRI dTN dPN dNS dMS dPS dIS dXS dNW dMW dPW dIW dXW dNN dMN dYS dLS dAS dES dUS dBS dOS dTS dYH dLH dAH dEH dUH dBH dOH dTH dYN dTNn dRA dRT dRW dRE dCe dMi dOw dPo dLe dSu dSt dWo dSa dTe dHo dVa dSp dCm dTw dMo dNu dNm dFa dWd dOp dWs dSi dBi dYi dCi dBj dDi dRs dRy dBr dBs) : MOk P w K mg base 3 CR "take_word" (spTakeW CR) := ⟨T.cr.cl, _, _, _, T.mRW, ok_reaW T.FRW (takeR T), T.bRW⟩
theorem takeER (T : Txt K mg CK CY CR CS aO aS fNI fMI fTI fPI fOI fRI fTN fPN fNS fMS fPS fIS fXS fNW fMW fPW fIW fXW fNN fMN fYS fLS fAS fES fUS fBS fOS fTS fYH fLH fAH fEH fUH fBH fOH fTH fYN fTNn fRA fRT fRW fRE fCe fMi fOw fPo fLe fSu fSt fWo fSa fTe fHo fVa fSp fCm fTw fMo fNu fNm fFa fWd fOp fWs fSi fBi fYi fCi fBj fDi fRs fRy fBr fBs dNI dMI dTI dPI dOI dRI dTN dPN dNS dMS dPS dIS dXS dNW dMW dPW dIW dXW dNN dMN dYS dLS dAS dES dUS dBS dOS dTS dYH dLH dAH dEH dUH dBH dOH dTH dYN dTNn dRA dRT dRW dRE dCe dMi dOw dPo dLe dSu dSt dWo dSa dTe dHo dVa dSp dCm dTw dMo dNu dNm dFa dWd dOp dWs dSi dBi dYi dCi dBj dDi dRs dRy dBr dBs) : MOk P w K mg base 2 CR "take_end" (spTakeE CR) := ⟨T.cr.cl, _, _, _, T.mRE, ok_reaE T.FRE (aheadR T), T.bRE⟩
theorem g_words (T : Txt K mg CK CY CR CS aO aS fNI fMI fTI fPI fOI fRI fTN fPN fNS fMS fPS fIS fXS fNW fMW fPW fIW fXW fNN fMN fYS fLS fAS fES fUS fBS fOS fTS fYH fLH fAH fEH fUH fBH fOH fTH fYN fTNn fRA fRT fRW fRE fCe fMi fOw fPo fLe fSu fSt fWo fSa fTe fHo fVa fSp fCm fTw fMo fNu fNm fFa fWd fOp fWs fSi fBi fYi fCi fBj fDi fRs fRy fBr fBs dNI dMI dTI dPI dOI dRI dTN dPN dNS dMS dPS dIS dXS dNW dMW dPW dIW dXW dNN dMN dYS dLS dAS dES dUS dBS dOS dTS dYH dLH dAH dEH dUH dBH dOH dTH dYN dTNn dRA dRT dRW dRE dCe dMi dOw dPo dLe dSu dSt dWo dSa dTe dHo dVa dSp dCm dTw dMo dNu dNm dFa dWd dOp dWs dSi dBi dYi dCi dBj dDi dRs dRy dBr dBs) : FnOk P w K mg base CX0 5 fWs dWs ["text"] (spWords K) := ok_words T.bl T.lex T.FWs T.FWd T.bWd T.gWd (ok_isWord T.bl T.lex T.FWd T.FMo T.bMo T.gMo T.FNu T.bNu T.gNu T.FNm T.bNm T.gNm T.FFa T.bFa T.gFa) T.FOp T.bOp T.gOp
theorem g_sumIn (T : Txt K mg CK CY CR CS aO aS fNI fMI fTI fPI fOI fRI fTN fPN fNS fMS fPS fIS fXS fNW fMW fPW fIW fXW fNN fMN fYS fLS fAS fES fUS fBS fOS fTS fYH fLH fAH fEH fUH fBH fOH fTH fYN fTNn fRA fRT fRW fRE fCe fMi fOw fPo fLe fSu fSt fWo fSa fTe fHo fVa fSp fCm fTw fMo fNu fNm fFa fWd fOp fWs fSi fBi fYi fCi fBj fDi fRs fRy fBr fBs dNI dMI dTI dPI dOI dRI dTN dPN dNS dMS dPS dIS dXS dNW dMW dPW dIW dXW dNN dMN dYS dLS dAS dES dUS dBS dOS dTS dYH dLH dAH dEH dUH dBH dOH dTH dYN dTNn dRA dRT dRW dRE dCe dMi dOw dPo dLe dSu dSt dWo dSa dTe dHo dVa dSp dCm dTw dMo dNu dNm dFa dWd dOp dWs dSi dBi dYi dCi dBj dDi dRs dRy dBr dBs) (n : Nat) : FnOk P w K mg base CX0 (2 * n + 5) fSi dSi ["reader"] (spSumIn CK CR n) :=
  have GNm : FnOk P w K mg base CX0 2 fNm dNm ["piece"] (sp1 nameB) := ok_isNam T.bl T.lex T.FNm T.FMo T.bMo T.gMo
  ok_sumIn T.bl T.mkr T.FSi T.bSi T.gSi T.FBi T.bBi T.gBi T.FNu T.bNu T.gNu (ok_isNum T.bl T.lex T.FNu T.FMo T.bMo T.gMo) T.FNm T.bNm T.gNm GNm T.FFa T.bFa T.gFa (ok_isFar T.bl T.FFa T.FNm T.bNm T.gNm GNm) (takeR T) (takeWR T) n
theorem g_sayIn (T : Txt K mg CK CY CR CS aO aS fNI fMI fTI fPI fOI fRI fTN fPN fNS fMS fPS fIS fXS fNW fMW fPW fIW fXW fNN fMN fYS fLS fAS fES fUS fBS fOS fTS fYH fLH fAH fEH fUH fBH fOH fTH fYN fTNn fRA fRT fRW fRE fCe fMi fOw fPo fLe fSu fSt fWo fSa fTe fHo fVa fSp fCm fTw fMo fNu fNm fFa fWd fOp fWs fSi fBi fYi fCi fBj fDi fRs fRy fBr fBs dNI dMI dTI dPI dOI dRI dTN dPN dNS dMS dPS dIS dXS dNW dMW dPW dIW dXW dNN dMN dYS dLS dAS dES dUS dBS dOS dTS dYH dLH dAH dEH dUH dBH dOH dTH dYN dTNn dRA dRT dRW dRE dCe dMi dOw dPo dLe dSu dSt dWo dSa dTe dHo dVa dSp dCm dTw dMo dNu dNm dFa dWd dOp dWs dSi dBi dYi dCi dBj dDi dRs dRy dBr dBs) (n : Nat) : FnOk P w K mg base CX0 (3 * n + 27) fYi dYi ["reader"] (spYIn CK CY CR toksY (okY n)) :=
  ok_sayIn T.mks T.FYi T.bYi T.gYi T.FCi T.bCi T.gCi T.FBj T.bBj T.gBj T.FDi T.bDi T.gDi (aheadR T) (takeR T) (takeWR T) (ok_cmpIn T.mks T.FCi T.FSi T.bSi T.gSi (takeR T) (g_sumIn T 10)) n
theorem g_readS (T : Txt K mg CK CY CR CS aO aS fNI fMI fTI fPI fOI fRI fTN fPN fNS fMS fPS fIS fXS fNW fMW fPW fIW fXW fNN fMN fYS fLS fAS fES fUS fBS fOS fTS fYH fLH fAH fEH fUH fBH fOH fTH fYN fTNn fRA fRT fRW fRE fCe fMi fOw fPo fLe fSu fSt fWo fSa fTe fHo fVa fSp fCm fTw fMo fNu fNm fFa fWd fOp fWs fSi fBi fYi fCi fBj fDi fRs fRy fBr fBs dNI dMI dTI dPI dOI dRI dTN dPN dNS dMS dPS dIS dXS dNW dMW dPW dIW dXW dNN dMN dYS dLS dAS dES dUS dBS dOS dTS dYH dLH dAH dEH dUH dBH dOH dTH dYN dTNn dRA dRT dRW dRE dCe dMi dOw dPo dLe dSu dSt dWo dSa dTe dHo dVa dSp dCm dTw dMo dNu dNm dFa dWd dOp dWs dSi dBi dYi dCi dBj dDi dRs dRy dBr dBs) : FnOk P w K mg base CX0 26 fRs dRs ["text"] (spReadS CK) := ok_readS T.cr T.FRs T.FWs T.bWs T.gWs (g_words T) T.mkR T.gR T.FRI T.bRI T.FSi T.bSi T.gSi (g_sumIn T 10) (takeER T)
theorem g_readY (T : Txt K mg CK CY CR CS aO aS fNI fMI fTI fPI fOI fRI fTN fPN fNS fMS fPS fIS fXS fNW fMW fPW fIW fXW fNN fMN fYS fLS fAS fES fUS fBS fOS fTS fYH fLH fAH fEH fUH fBH fOH fTH fYN fTNn fRA fRT fRW fRE fCe fMi fOw fPo fLe fSu fSt fWo fSa fTe fHo fVa fSp fCm fTw fMo fNu fNm fFa fWd fOp fWs fSi fBi fYi fCi fBj fDi fRs fRy fBr fBs dNI dMI dTI dPI dOI dRI dTN dPN dNS dMS dPS dIS dXS dNW dMW dPW dIW dXW dNN dMN dYS dLS dAS dES dUS dBS dOS dTS dYH dLH dAH dEH dUH dBH dOH dTH dYN dTNn dRA dRT dRW dRE dCe dMi dOw dPo dLe dSu dSt dWo dSa dTe dHo dVa dSp dCm dTw dMo dNu dNm dFa dWd dOp dWs dSi dBi dYi dCi dBj dDi dRs dRy dBr dBs) : FnOk P w K mg base CX0 58 fRy dRy ["text"] (spReadY CK CY) := ok_readY T.cr T.FRy T.FWs T.bWs T.gWs (g_words T) T.mkR T.gR T.FRI T.bRI T.FYi T.bYi T.gYi (g_sayIn T 10) (takeER T)
end
end Nw
namespace Nw
open PySem L2
section
variable {P : Program} {w : World} {K : PySem.W.Frag} {mg : Str → Option Value} {base : Heap}
theorem one_in {kvs : List (Key × V)} {x : Str} (c : (valV kvs (Sum.inr x : Key)).isSome = true) : ((some x).toList).filter (inD kvs) = [x] := by
  show List.filter _ [x] = [x]
  rw [List.filter_cons, if_pos (show inD kvs x = true from c)]
  rfl
theorem one_out {kvs : List (Key × V)} {x : Str} (c : ¬ (valV kvs (Sum.inr x : Key)).isSome = true) : ((some x).toList).filter (inD kvs) = [] := by
  show List.filter _ [x] = []
  rw [List.filter_cons, if_neg (show ¬ inD kvs x = true from c)]
  rfl
theorem gen2 {Pr : Hp → Prop} {H : Hp} {q p : Addr} {o o' : HO} (h1 : H q = none) (h2 : upd H q o p = none) (k : ∀ H2, Same H H2 → H2 p = some o' → Pr H2) : Pr (upd (upd H q o) p o') :=
  k _ (same_put (same_new h1 _) ((same_new h1 _).free h2) _) upd_same
theorem is_strs {H : Hp} {p : Addr} {l : List Str} (h : H p = some (.lst (l.map V.str))) : Is K H (.lst (l.map Dt.str)) (.ref p) := by
  rw [Is]
  exact ⟨p, _, rfl, SqL.of h, Iss.strs l⟩
theorem dep_strs (l : List Str) : dep (.lst (l.map Dt.str)) ≤ 50 := by rw [dep, deps_strs]; decide
theorem cut_from (xs : List V) (j : Nat) (h : j ≤ xs.length) : cutV xs (some (j : Int)) none = xs.drop j := by
  unfold cutV
  rw [HT.sIx_none, HT.sIx_nat, Nat.min_eq_left h]
  exact List.take_of_length_le (by rw [List.length_drop]; exact Nat.le_refl _)
def spLaw (K : PySem.W.Frag) : Sp := fun vs H Q _ => ∃ (a : Addr) (ns : List Int), vs = [.ref a] ∧ SqL K H a (ns.map V.int) ∧ ns.length ≤ 63 ∧ ∀ H', Q (.bl true) H'
theorem scLaw : FnScope ["_law_script", "_law_pool_here", "_law_cells", "_law_some", "_law_said", "_law_values_here", "_law_one", "_law_other", "_law_again", "_law_due"] ["_law_script"] (defScope sLaw) := ⟨rfl, rfl, rfl, by decide +kernel, rfl, by decide +kernel, by decide +kernel⟩
theorem nd_scLaw1 : (["_law_script", "_law_pool_here", "_law_cells", "_law_some", "_law_said", "_law_values_here", "_law_one", "_law_other", "_law_again", "_law_due", "_law_k"] : List Str).Nodup := by decide +kernel
theorem nd_scLaw2 : (["_law_script", "_law_pool_here", "_law_cells", "_law_some", "_law_said", "_law_values_here", "_law_one", "_law_other", "_law_again", "_law_due", "_law_k"] : List Str).Nodup := by decide +kernel
theorem nd_scLaw3 : (["_law_script", "_law_pool_here", "_law_cells", "_law_some", "_law_said", "_law_values_here", "_law_one", "_law_other", "_law_again", "_law_due", "_law_k"] : List Str).Nodup := by decide +kernel
theorem nd_scLaw4 : (["_law_script", "_law_pool_here", "_law_cells", "_law_some", "_law_said", "_law_values_here", "_law_one", "_law_other", "_law_again", "_law_due", "_law_word"] : List Str).Nodup := by decide +kernel
theorem nd_scLaw5 : (["_law_script", "_law_pool_here", "_law_cells", "_law_some", "_law_said", "_law_values_here", "_law_one", "_law_other", "_law_again", "_law_due", "_law_word"] : List Str).Nodup := by decide +kernel
variable {CK : Kd → Addr} {CY : Ks → Addr} {CR CS aO aS : Addr} {fNI fMI fTI fPI fOI fRI fTN fPN fNS fMS fPS fIS fXS fNW fMW fPW fIW fXW fNN fMN fYS fLS fAS fES fUS fBS fOS fTS fYH fLH fAH fEH fUH fBH fOH fTH fYN fTNn fRA fRT fRW fRE fCe fMi fOw fPo fLe fSu fSt fWo fSa fTe fHo fVa fSp fCm fTw fMo fNu fNm fFa fWd fOp fWs fSi fBi fYi fCi fBj fDi fRs fRy fBr fBs : Addr} {dNI dMI dTI dPI dOI dRI dTN dPN dNS dMS dPS dIS dXS dNW dMW dPW dIW dXW dNN dMN dYS dLS dAS dES dUS dBS dOS dTS dYH dLH dAH dEH dUH dBH dOH dTH dYN dTNn dRA dRT dRW dRE dCe dMi dOw dPo dLe dSu dSt dWo dSa dTe dHo dVa dSp dCm dTw dMo dNu dNm dFa dWd dOp dWs dSi dBi dYi dCi dBj dDi dRs dRy dBr dBs : FuncData}
theorem ok_law {f : Addr} {fd : FuncData} (T : Txt K mg CK CY CR CS aO aS fNI fMI fTI fPI fOI fRI fTN fPN fNS fMS fPS fIS fXS fNW fMW fPW fIW fXW fNN fMN fYS fLS fAS fES fUS fBS fOS fTS fYH fLH fAH fEH fUH fBH fOH fTH fYN fTNn fRA fRT fRW fRE fCe fMi fOw fPo fLe fSu fSt fWo fSa fTe fHo fVa fSp fCm fTw fMo fNu fNm fFa fWd fOp fWs fSi fBi fYi fCi fBj fDi fRs fRy fBr fBs dNI dMI dTI dPI dOI dRI dTN dPN dNS dMS dPS dIS dXS dNW dMW dPW dIW dXW dNN dMN dYS dLS dAS dES dUS dBS dOS dTS dYH dLH dAH dEH dUH dBH dOH dTH dYN dTNn dRA dRT dRW dRE dCe dMi dOw dPo dLe dSu dSt dWo dSa dTe dHo dVa dSp dCm dTw dMo dNu dNm dFa dWd dOp dWs dSi dBi dYi dCi dBj dDi dRs dRy dBr dBs) (F : Fun K "law" "law" sLaw f fd) : FnOk P w K mg base CX0 60 f fd ["_law_script"] (spLaw K) := by
  have B := T.bl
  have GCe : FnOk P w K mg base CX0 1 fCe dCe ["_law_script", "_law_k"] (spCell K) := ok_cell B T.FCe
  have GPo : FnOk P w K mg base CX0 2 fPo dPo ["_law_cell", "_law_other"] spPool := ok_pool B T.FPo T.FMi T.bMi T.gMi T.FOw T.bOw T.gOw
  have GSu : FnOk P w K mg base CX0 10 fSu dSu ["_law_cells", "_law_pool_here"] (spSum K 9) := ok_sum B T.FSu T.bSu T.gSu T.FLe T.bLe T.gLe 9
  have GSa : FnOk P w K mg base CX0 20 fSa dSa ["_law_cells", "_law_pool_here"] (spSay K 9) := ok_say B T.FSa T.bSa T.gSa T.FSu T.bSu T.gSu T.FLe T.bLe T.gLe 9
  have GVa : FnOk P w K mg base CX0 2 fVa dVa ["_law_cells", "_law_pool_here"] spVals := ok_vals B T.FVa T.FMi T.bMi T.gMi
  have GSt : FnOk P w K mg base CX0 10 fSt dSt ["_law_some"] (spText K 9) := ok_text B T.FSt T.bSt T.gSt 9
  have GTe : FnOk P w K mg base CX0 20 fTe dTe ["_law_some"] (spTxy K 9) := ok_txy B T.FTe T.bTe T.gTe T.FSt T.bSt T.gSt 9
  have GWo : FnOk P w K mg base CX0 10 fWo dWo ["_law_some", "_law_values_here"] (spWorth K 9) := ok_worth B T.FWo T.bWo T.gWo 9
  have GHo : FnOk P w K mg base CX0 20 fHo dHo ["_law_some", "_law_values_here"] (spHolds K 9) := ok_holds B T.FHo T.bHo T.gHo T.FWo T.bWo T.gWo 9
  have GSp : FnOk P w K mg base CX0 2 fSp dSp ["_law_text_here", "_law_cells"] (spSpaced K) := ok_spaced B T.FSp T.FMi T.bMi T.gMi
  have GRs : FnOk P w K mg base CX0 26 fRs dRs ["text"] (spReadS CK) := g_readS T
  have GRy : FnOk P w K mg base CX0 58 fRy dRy ["text"] (spReadY CK CY) := g_readY T
  have MN : ∀ k, MOk P w K mg base 59 (CK k) "named" (spN CK 9 k) := fun k => (nameds T 9 k).mono (by decide)
  have MS : ∀ k, MOk P w K mg base 59 (CK k) "shown" (spS CK 9 k) := fun k => (showns T 9 k).mono (by decide)
  have MW : ∀ k, MOk P w K mg base 59 (CK k) "worth" (spW CK 9 k) := fun k => (worths T 9 k).mono (by decide)
  have MYN : ∀ k, MOk P w K mg base 59 (CY k) "named" (spYN CK CY 9 k) := fun k => (namedy T 9 k).mono (by decide)
  have MYS : ∀ k, MOk P w K mg base 59 (CY k) "shown" (spYS CK CY 9 k) := fun k => (showny T 9 k).mono (by decide)
  have MYH : ∀ k, MOk P w K mg base 59 (CY k) "holds" (spH CK CY 9 k) := fun k => (holdses T 9 k).mono (by decide)
  refine F.ok scLaw (fun vs H Q E h => ?_) (fun cdv A outer s H vs Q E hr h => ?_)
  · obtain ⟨a, ns, rfl, _⟩ := h
    rfl
  obtain ⟨a, ns, rfl, hS, h63, q⟩ := h
  have hr1 := hr.mono (show 1 ≤ 59 by decide)
  have hr2 := hr.mono (show 2 ≤ 59 by decide)
  have hr10 := hr.mono (show 10 ≤ 59 by decide)
  have hr20 := hr.mono (show 20 ≤ 59 by decide)
  have hr26 := hr.mono (show 26 ≤ 59 by decide)
  have hr58 := hr.mono (show 58 ≤ 59 by decide)
  have hu := hu60 hr
  have hu1 := hu1_of hr
  refine ⟨_, (@pss_cons _ _ _ _ _ (@ps_set _ _ 1 _ _ _ _ scLaw.nd rfl (Or.inl rfl) (pe_call GPo hr2 (by rfl) T.gPo T.FPo.kp T.bPo .nil pass0 (@pa_cons _ _ _ _ _ (pe_call GCe hr1 (by rfl) T.gCe T.FCe.kp T.bCe .nil pass0 (@pa_cons _ _ _ _ _ (pv 0) (@pa_cons _ _ _ _ _ pe_int pa_nil (by rfl)) (by rfl))) (@pa_cons _ _ _ _ _ (pe_call GCe hr1 (by rfl) T.gCe T.FCe.kp T.bCe .nil pass0 (@pa_cons _ _ _ _ _ (pv 0) (@pa_cons _ _ _ _ _ pe_int pa_nil (by rfl)) (by rfl))) pa_nil (by rfl)) (by rfl))) rfl (Or.inl rfl)) (@pss_cons _ _ _ _ _ (ps_comp (NX := ["_law_script", "_law_pool_here", "_law_cells", "_law_some", "_law_said", "_law_values_here", "_law_one", "_law_other", "_law_again", "_law_due"]) (N := ["_law_script", "_law_pool_here", "_law_cells", "_law_some", "_law_said", "_law_values_here", "_law_one", "_law_other", "_law_again", "_law_due", "_law_k"]) (ms := [true, true, true, true, true, true, true, true, true, true, false]) (ks := [10]) (out := defScope sLaw) (by exact ⟨rfl, by decide +kernel, by decide +kernel, by decide +kernel, by decide +kernel, by decide +kernel⟩) rfl rfl rfl (i := 2) scLaw.nd rfl (Or.inl rfl) (pi_range1 rfl B.range (@pa_cons _ _ _ _ _ (@pe_op _ _ _ _ _ _ _ _ op_add pe_int (@pe_op _ _ _ _ _ _ _ _ op_mod (pe_call GCe hr1 (by rfl) T.gCe T.FCe.kp T.bCe .nil pass0 (@pa_cons _ _ _ _ _ (pv 0) (@pa_cons _ _ _ _ _ pe_int pa_nil (by rfl)) (by rfl))) pe_int)) pa_nil (by rfl))) (@sets_name 10) (by decide) (fun C ex s H => (pg_name (i := 10) nd_scLaw1 rfl (Or.inl rfl))) (fun C ex s H => pts_nil) (fun C ex s H => (pe_call GCe hr1 (by rfl) T.gCe T.FCe.kp T.bCe .nil pass0 (@pa_cons _ _ _ _ _ (pv 0) (@pa_cons _ _ _ _ _ (@pe_op _ _ _ _ _ _ _ _ op_add pe_int (pv 10)) pa_nil (by rfl)) (by rfl)))) (by with_unfolding_all rfl)) (@pss_cons _ _ _ _ _ (@ps_set _ _ 3 _ _ _ _ scLaw.nd rfl (Or.inl rfl) (pe_call GSu hr10 (by rfl) T.gSu T.FSu.kp T.bSu .nil pass0 (@pa_cons _ _ _ _ _ (pv 2) (@pa_cons _ _ _ _ _ (pv 1) pa_nil (by rfl)) (by rfl))) rfl (Or.inl rfl)) (@pss_cons _ _ _ _ _ (ps_comp (NX := ["_law_script", "_law_pool_here", "_law_cells", "_law_some", "_law_said", "_law_values_here", "_law_one", "_law_other", "_law_again", "_law_due"]) (N := ["_law_script", "_law_pool_here", "_law_cells", "_law_some", "_law_said", "_law_values_here", "_law_one", "_law_other", "_law_again", "_law_due", "_law_k"]) (ms := [true, true, true, true, true, true, true, true, true, true, false]) (ks := [10]) (out := defScope sLaw) (by exact ⟨rfl, by decide +kernel, by decide +kernel, by decide +kernel, by decide +kernel, by decide +kernel⟩) rfl rfl rfl (i := 2) scLaw.nd rfl (Or.inl rfl) (pi_range1 rfl B.range (@pa_cons _ _ _ _ _ (@pe_op _ _ _ _ _ _ _ _ op_add pe_int (@pe_op _ _ _ _ _ _ _ _ op_mod (pe_call GCe hr1 (by rfl) T.gCe T.FCe.kp T.bCe .nil pass0 (@pa_cons _ _ _ _ _ (pv 0) (@pa_cons _ _ _ _ _ pe_int pa_nil (by rfl)) (by rfl))) pe_int)) pa_nil (by rfl))) (@sets_name 10) (by decide) (fun C ex s H => (pg_name (i := 10) nd_scLaw2 rfl (Or.inl rfl))) (fun C ex s H => pts_nil) (fun C ex s H => (pe_call GCe hr1 (by rfl) T.gCe T.FCe.kp T.bCe .nil pass0 (@pa_cons _ _ _ _ _ (pv 0) (@pa_cons _ _ _ _ _ (@pe_op _ _ _ _ _ _ _ _ op_add pe_int (pv 10)) pa_nil (by rfl)) (by rfl)))) (by with_unfolding_all rfl)) (@pss_cons _ _ _ _ _ (@ps_set _ _ 4 _ _ _ _ scLaw.nd rfl (Or.inl rfl) (pe_call GSa hr20 (by rfl) T.gSa T.FSa.kp T.bSa .nil pass0 (@pa_cons _ _ _ _ _ (pv 2) (@pa_cons _ _ _ _ _ (pv 1) pa_nil (by rfl)) (by rfl))) rfl (Or.inl rfl)) (@pss_cons _ _ _ _ _ (ps_comp (NX := ["_law_script", "_law_pool_here", "_law_cells", "_law_some", "_law_said", "_law_values_here", "_law_one", "_law_other", "_law_again", "_law_due"]) (N := ["_law_script", "_law_pool_here", "_law_cells", "_law_some", "_law_said", "_law_values_here", "_law_one", "_law_other", "_law_again", "_law_due", "_law_k"]) (ms := [true, true, true, true, true, true, true, true, true, true, false]) (ks := [10]) (out := defScope sLaw) (by exact ⟨rfl, by decide +kernel, by decide +kernel, by decide +kernel, by decide +kernel, by decide +kernel⟩) rfl rfl rfl (i := 2) scLaw.nd rfl (Or.inl rfl) (pi_range2 rfl B.range (@pa_cons _ _ _ _ _ pe_int (@pa_cons _ _ _ _ _ pe_int pa_nil (by rfl)) (by rfl))) (@sets_name 10) (by decide) (fun C ex s H => (pg_name (i := 10) nd_scLaw3 rfl (Or.inl rfl))) (fun C ex s H => pts_nil) (fun C ex s H => (pe_call GCe hr1 (by rfl) T.gCe T.FCe.kp T.bCe .nil pass0 (@pa_cons _ _ _ _ _ (pv 0) (@pa_cons _ _ _ _ _ (pv 10) pa_nil (by rfl)) (by rfl)))) (by with_unfolding_all rfl)) (@pss_cons _ _ _ _ _ (@ps_set _ _ 5 _ _ _ _ scLaw.nd rfl (Or.inr rfl) (pe_call GVa hr2 (by rfl) T.gVa T.FVa.kp T.bVa .nil pass0 (@pa_cons _ _ _ _ _ (pv 2) (@pa_cons _ _ _ _ _ (pv 1) pa_nil (by rfl)) (by rfl))) rfl (Or.inl rfl)) (@pss_cons _ _ _ _ _ (@ps_set _ _ 6 _ _ _ _ scLaw.nd rfl (Or.inl rfl) (pe_call GRs hr26 (by rfl) T.gRs T.FRs.kp T.bRs .nil pass0 (@pa_cons _ _ _ _ _ (pe_call GSp hr2 (by rfl) T.gSp T.FSp.kp T.bSp .nil pass0 (@pa_cons _ _ _ _ _ (pe_call GSt hr10 (by rfl) T.gSt T.FSt.kp T.bSt .nil pass0 (@pa_cons _ _ _ _ _ (pv 3) pa_nil (by rfl))) (@pa_cons _ _ _ _ _ (pv 2) pa_nil (by rfl)) (by rfl))) pa_nil (by rfl))) rfl (Or.inl rfl)) (@pss_cons _ _ _ _ _ (@ps_set _ _ 7 _ _ _ _ scLaw.nd rfl (Or.inl rfl) (pe_call GRy hr58 (by rfl) T.gRy T.FRy.kp T.bRy .nil pass0 (@pa_cons _ _ _ _ _ (pe_call GSp hr2 (by rfl) T.gSp T.FSp.kp T.bSp .nil pass0 (@pa_cons _ _ _ _ _ (pe_call GTe hr20 (by rfl) T.gTe T.FTe.kp T.bTe .nil pass0 (@pa_cons _ _ _ _ _ (pv 4) pa_nil (by rfl))) (@pa_cons _ _ _ _ _ (@pe_slice _ _ _ _ _ _ _ _ _ _ sl_list (pv 2) (@po_some _ _ _ pe_int) po_none) pa_nil (by rfl)) (by rfl))) pa_nil (by rfl))) rfl (Or.inl rfl)) (@pss_cons _ _ _ _ _ (@ps_set _ _ 8 _ _ _ _ scLaw.nd rfl (Or.inl rfl) (pe_call GRs hr26 (by rfl) T.gRs T.FRs.kp T.bRs .nil pass0 (@pa_cons _ _ _ _ _ (pe_call GSt hr10 (by rfl) T.gSt T.FSt.kp T.bSt .nil pass0 (@pa_cons _ _ _ _ _ (pv 3) pa_nil (by rfl))) pa_nil (by rfl))) rfl (Or.inl rfl)) (@pss_cons _ _ _ _ _ (@ps_if _ _ _ _ _ _ _ _ ((@pw_or _ _ _ _ _ _ _ (@pt_not _ _ _ _ (pt_val (pe_callB call_isinstC (by rfl) B.isinstance PyProof.Rows.boot_isinstance (@pa_cons _ _ _ _ _ (pv 6) (@pa_cons _ _ _ _ _ (pe_glob (v := V.ref CS) (by rfl) T.gSm rfl) pa_nil (by rfl)) (by rfl))))) (@pw_or _ _ _ _ _ _ _ (@pt_not _ _ _ _ (pt_val (pe_callB call_isinstC (by rfl) B.isinstance PyProof.Rows.boot_isinstance (@pa_cons _ _ _ _ _ (pv 7) (@pa_cons _ _ _ _ _ (pe_glob (v := V.ref (CY .yes)) (by rfl) T.mks.gY rfl) pa_nil (by rfl)) (by rfl))))) (pw_or1 (@pt_cmpR _ _ _ _ _ _ _ _ op_ne (pe_methP0 (pv 8) hr) (pe_methP0 (pv 6) hr) (nomark _)))))).pt (@pss_one _ _ _ (@ps_ret _ _ _ _ pe_bl)) pss_nil) (@pss_cons _ _ _ _ _ (@ps_if _ _ _ _ _ _ _ _ ((@pw_or _ _ _ _ _ _ _ (@pt_cmpR _ _ _ _ _ _ _ _ op_ne (pe_methP0 (pv 6) hr) (pe_call GSt hr10 (by rfl) T.gSt T.FSt.kp T.bSt .nil pass0 (@pa_cons _ _ _ _ _ (pv 3) pa_nil (by rfl))) (nomark _)) (pw_or1 (@pt_cmpR _ _ _ _ _ _ _ _ op_ne (pe_methP0 (pv 7) hr) (pe_call GTe hr20 (by rfl) T.gTe T.FTe.kp T.bTe .nil pass0 (@pa_cons _ _ _ _ _ (pv 4) pa_nil (by rfl))) (nomark _))))).pt (@pss_one _ _ _ (@ps_ret _ _ _ _ pe_bl)) pss_nil) (@pss_cons _ _ _ _ _ (@ps_if _ _ _ _ _ _ _ _ (@pt_cmpR _ _ _ _ _ _ _ _ op_ne (pe_methP (pv 6) hr (@pa_cons _ _ _ _ _ (pv 5) pa_nil (by rfl))) (pe_call GWo hr10 (by rfl) T.gWo T.FWo.kp T.bWo .nil pass0 (@pa_cons _ _ _ _ _ (pv 3) (@pa_cons _ _ _ _ _ (pv 5) pa_nil (by rfl)) (by rfl))) (nomark _)) (@pss_one _ _ _ (@ps_ret _ _ _ _ pe_bl)) pss_nil) (@pss_cons _ _ _ _ _ (@ps_if _ _ _ _ _ _ _ _ (@pt_cmpR _ _ _ _ _ _ _ _ op_ne (pe_methP (pv 7) hr (@pa_cons _ _ _ _ _ (pv 5) pa_nil (by rfl))) (pe_call GHo hr20 (by rfl) T.gHo T.FHo.kp T.bHo .nil pass0 (@pa_cons _ _ _ _ _ (pv 4) (@pa_cons _ _ _ _ _ (pv 5) pa_nil (by rfl)) (by rfl))) (nomark _)) (@pss_one _ _ _ (@ps_ret _ _ _ _ pe_bl)) pss_nil) (@pss_cons _ _ _ _ _ (ps_comp (NX := ["_law_script", "_law_pool_here", "_law_cells", "_law_some", "_law_said", "_law_values_here", "_law_one", "_law_other", "_law_again", "_law_due"]) (N := ["_law_script", "_law_pool_here", "_law_cells", "_law_some", "_law_said", "_law_values_here", "_law_one", "_law_other", "_law_again", "_law_due", "_law_word"]) (ms := [true, true, true, true, true, true, true, true, true, true, false]) (ks := [10]) (out := defScope sLaw) (by exact ⟨rfl, by decide +kernel, by decide +kernel, by decide +kernel, by decide +kernel, by decide +kernel⟩) rfl rfl rfl (i := 9) scLaw.nd rfl (Or.inl rfl) (@pi_list _ _ _ _ (pe_bm PySem.F.plainAttrs_str PySem.F.slot_str_split PySem.F.type_str_split mt_split (pe_call GSt hr10 (by rfl) T.gSt T.FSt.kp T.bSt .nil pass0 (@pa_cons _ _ _ _ _ (pv 3) pa_nil (by rfl))) (@pa_cons _ _ _ _ _ pe_str pa_nil (by rfl)))) (@sets_name 10) (by decide) (fun C ex s H => (pg_name (i := 10) nd_scLaw4 rfl (Or.inl rfl))) (fun C ex s H => (@pts_one _ _ _ (pt_cmp (@pc_din _ _ _ _ _ hu1 (pv 10) (pv 5))))) (fun C ex s H => (pv 10)) (by with_unfolding_all rfl)) (@pss_cons _ _ _ _ _ (@ps_if _ _ _ _ _ _ _ _ (@pt_cmpR _ _ _ _ _ _ _ _ (@op_neD _ hu) (pe_methP0 (pv 6) hr) (pe_callB (call_sortedS rfl) (by rfl) B.sorted rfl (@pa_cons _ _ _ _ _ (pe_callTy (call_setS rfl) (by rfl) B.set rfl (@pa_cons _ _ _ _ _ (pv 9) pa_nil (by rfl))) pa_nil (by rfl))) (nomark _)) (@pss_one _ _ _ (@ps_ret _ _ _ _ pe_bl)) pss_nil) (@pss_cons _ _ _ _ _ (ps_comp (NX := ["_law_script", "_law_pool_here", "_law_cells", "_law_some", "_law_said", "_law_values_here", "_law_one", "_law_other", "_law_again", "_law_due"]) (N := ["_law_script", "_law_pool_here", "_law_cells", "_law_some", "_law_said", "_law_values_here", "_law_one", "_law_other", "_law_again", "_law_due", "_law_word"]) (ms := [true, true, true, true, true, true, true, true, true, true, false]) (ks := [10]) (out := defScope sLaw) (by exact ⟨rfl, by decide +kernel, by decide +kernel, by decide +kernel, by decide +kernel, by decide +kernel⟩) rfl rfl rfl (i := 9) scLaw.nd rfl (Or.inl rfl) (@pi_list _ _ _ _ (pe_bm PySem.F.plainAttrs_str PySem.F.slot_str_split PySem.F.type_str_split mt_split (pe_call GTe hr20 (by rfl) T.gTe T.FTe.kp T.bTe .nil pass0 (@pa_cons _ _ _ _ _ (pv 4) pa_nil (by rfl))) (@pa_cons _ _ _ _ _ pe_str pa_nil (by rfl)))) (@sets_name 10) (by decide) (fun C ex s H => (pg_name (i := 10) nd_scLaw5 rfl (Or.inl rfl))) (fun C ex s H => (@pts_one _ _ _ (pt_cmp (@pc_din _ _ _ _ _ hu1 (pv 10) (pv 5))))) (fun C ex s H => (pv 10)) (by with_unfolding_all rfl)) (@pss_one _ _ _ (@ps_ret _ _ _ _ (@pe_and _ _ _ _ _ _ _ (@pe_cmpR _ _ _ _ _ _ _ _ (@op_eqD _ hu) (pe_methP0 (pv 7) hr) (pe_callB (call_sortedS rfl) (by rfl) B.sorted rfl (@pa_cons _ _ _ _ _ (pe_callTy (call_setS rfl) (by rfl) B.set rfl (@pa_cons _ _ _ _ _ (pv 9) pa_nil (by rfl))) pa_nil (by rfl))) (nomark _)) (@pe_one _ _ _ _ _ (@pe_cmpR _ _ _ _ _ _ _ _ op_eq (pe_methP (pv 8) hr (@pa_cons _ _ _ _ _ (pv 5) pa_nil (by rfl))) (pe_methP (pv 6) hr (@pa_cons _ _ _ _ _ (pv 5) pa_nil (by rfl))) (nomark _))))))))))))))))))))))), ?_⟩
  refine ⟨_, rfl, a, ns, 0, rfl, hS, h63, by decide, by decide, fun c0 H1 s1 => ⟨_, rfl, a, ns, 1, rfl, s1.seq hS, h63, by decide, by decide, fun c1 H2 s2 => ⟨c0, c1, rfl, fun pl H3 l s3 n3 e3 l3 f3 p3 => ?_⟩⟩⟩
  have t3 := s1.trans (s2.trans s3)
  refine ⟨_, rfl, a, ns, 2, rfl, t3.seq hS, h63, by decide, by decide, fun c2 H4 s4 => ?_⟩
  have t4 := t3.trans s4
  have m1 := Int.emod_nonneg c2 (b := 8) (by decide)
  have m2 := Int.emod_lt_of_pos c2 (b := 8) (by decide)
  refine ⟨_, _, rfl, rfl, (by show (0 : Int) < 8; decide), _, _, rfl, rfl, 1 + c2 % 8, rfl, by omega, by omega, comp_range (n := (1 + c2 % 8).toNat) (fun i ys H' => ∃ cs : List Int, ys = cs.map V.int ∧ cs.length = i ∧ Same H4 H') ⟨[], rfl, rfl, Same.refl _⟩ (fun i ys H' hi ⟨cs, e1, e2, _⟩ => by rw [e1, List.length_map, e2]; exact small1000 (by omega)) ?_ ?_⟩
  · rintro i ys H' hi ⟨cs, rfl, e2, sm⟩
    refine ⟨_, rfl, _, rfl, _, _, rfl, rfl, a, ns, _, rfl, (t4.trans sm).seq hS, h63, by omega, by omega, fun r H5 s5 => ?_⟩
    exact ⟨cs ++ [r], by rw [List.map_append]; rfl, by rw [List.length_append, e2]; rfl, sm.trans s5⟩
  rintro ys H5 ⟨cs, rfl, e2, s5⟩ D hD
  have t5 := t4.trans s5
  have pl5 : PoolAt H5 pl l := (PoolAt.mk e3 l3 f3).same (s4.trans s5)
  have pD : PoolAt (upd H5 D (.lst (cs.map V.int))) pl l := pl5.same (same_new hD _)
  refine ⟨_, rfl, _, rfl, D, pl, cs, l, rfl, upd_same, ne_of_none pl5.at_ hD, pD, by omega, by omega, fun p6 H6 t cs' sb _ it ft hlv => ?_⟩
  have s6 : Same H5 H6 := fun b o e => sb b o (ne_of_none e hD) (by rw [upd_ne (ne_of_none e hD)]; exact e)
  have t6 := t5.trans s6
  have pl6 := pl5.same s6
  have lv8 : lv t ≤ 8 := by omega
  have dp8 := dp_lt t
  have gt := good_fits p3 ft
  refine ⟨_, rfl, a, ns, 3, rfl, t6.seq hS, h63, by decide, by decide, fun c3 H7 s7 => ?_⟩
  have t7 := t6.trans s7
  have m3 := Int.emod_nonneg c3 (b := 9) (by decide)
  have m4 := Int.emod_lt_of_pos c3 (b := 9) (by decide)
  refine ⟨_, _, rfl, rfl, (by show (0 : Int) < 9; decide), _, _, rfl, rfl, 1 + c3 % 9, rfl, by omega, by omega, comp_range (n := (1 + c3 % 9).toNat) (fun i ys H' => ∃ cs : List Int, ys = cs.map V.int ∧ cs.length = i ∧ Same H7 H') ⟨[], rfl, rfl, Same.refl _⟩ (fun i ys H' hi ⟨cs, e1, e2, _⟩ => by rw [e1, List.length_map, e2]; exact small1000 (by omega)) ?_ ?_⟩
  · rintro i ys H' hi ⟨cs, rfl, e2, sm⟩
    refine ⟨_, rfl, _, rfl, _, _, rfl, rfl, a, ns, _, rfl, (t7.trans sm).seq hS, h63, by omega, by omega, fun r H5 s5 => ?_⟩
    exact ⟨cs ++ [r], by rw [List.map_append]; rfl, by rw [List.length_append, e2]; rfl, sm.trans s5⟩
  rintro ys H8 ⟨cs8, rfl, e8, s8⟩ D8 hD8
  have t8 := t7.trans s8
  have pl8 : PoolAt H8 pl l := pl6.same (s7.trans s8)
  have pD8 : PoolAt (upd H8 D8 (.lst (cs8.map V.int))) pl l := pl8.same (same_new hD8 _)
  refine ⟨_, rfl, _, rfl, D8, pl, cs8, l, rfl, upd_same, ne_of_none pl8.at_ hD8, pD8, by omega, by omega, by omega, fun p9 H9 y cs9 sb9 _ iy fy hdy hly => ?_⟩
  have s9 : Same H8 H9 := fun b o e => sb9 b o (ne_of_none e hD8) (by rw [upd_ne (ne_of_none e hD8)]; exact e)
  have t9 := t8.trans s9
  have pl9 := pl8.same s9
  have it9 := it.same (s7.trans (s8.trans s9))
  have gy := goodY_fits p3 fy
  have hbd : bd y ≤ 8 := by omega
  have hds := dps_bd y
  have htk : tkn y ≤ 36 := by omega
  have hlv9 : lvs y ≤ 18 := by omega
  have ly := txy_len3 f3 fy
  have lt := txt_len f3 ft
  have kt := toksT_len t
  have ky := toksY_len y
  refine ⟨21, 63, rfl, ⟨by decide, by decide, by decide, by decide⟩, comp_range (n := 42) (fun i ys H' => ∃ cs : List Int, ys = cs.map V.int ∧ cs.length = i ∧ Same H9 H') ⟨[], rfl, rfl, Same.refl _⟩ (fun i ys H' hi ⟨cs, e1, e2, _⟩ => by rw [e1, List.length_map, e2]; exact small1000 (by omega)) ?_ ?_⟩
  · rintro i ys H' hi ⟨cs, rfl, e2, sm⟩
    refine ⟨_, rfl, _, rfl, a, ns, _, rfl, (t9.trans sm).seq hS, h63, by omega, by omega, fun r H5 s5 => ?_⟩
    exact ⟨cs ++ [r], by rw [List.map_append]; rfl, by rw [List.length_append, e2]; rfl, sm.trans s5⟩
  rintro ys H10 ⟨cs10, rfl, e10, s10⟩ D10 hD10
  have u10 := s10.trans (same_new hD10 (.lst (cs10.map V.int)))
  have c10 : upd H10 D10 (.lst (cs10.map V.int)) D10 = some (.lst (cs10.map V.int)) := upd_same
  show gName 2 (V.ref D10) _ (upd H10 D10 (.lst (cs10.map V.int))) _
  generalize upd H10 D10 (.lst (cs10.map V.int)) = HC at u10 c10 ⊢
  refine ⟨_, rfl, _, rfl, D10, pl, cs10, l, rfl, c10, by omega, by omega, pl9.same u10, fun pv H11 kvs vf s11 v11 O11 N11 => ?_⟩
  have keys := keys_of p3 O11 N11
  have u11 := u10.trans s11
  have it11 := it9.same u11
  have iy11 := iy.same u11
  have c11 := s11 _ _ c10
  have kx : piecesOf (txt t) = toksT t := pieces_txt gt
  have es := split_txt gt
  have ey := split_txy gy
  refine ⟨_, rfl, .ref p6, t, l, rfl, it11, f3, ft, by omega, by omega, _, rfl, txt t, D10, cs10, rfl, SqL.of c11, by omega, by omega, by rw [es]; exact fun x hx => (toksT_tok gt x hx).tok, by rw [es]; omega, fun z1 H12 s12 lz1 pz1 => ?_⟩
  rw [es] at pz1
  refine ⟨z1, t, rfl, wordy_of pz1 lz1 (toksT_tok gt) (by omega) (deepT gt) (by omega), pz1, gt, by omega, fun q1 H13 s13 o13 => ?_⟩
  have u13 := s12.trans s13
  have iy13 := iy11.same u13
  have c13 := u13 _ _ c11
  refine ⟨_, rfl, .ref p9, y, l, rfl, iy13, f3, fy, by omega, by omega, fun H14 s14 => ?_⟩
  have cut : cutV (cs10.map V.int) (some 1) none = (cs10.drop 1).map V.int := by
    rw [show (some (1 : Int)) = some ((1 : Nat) : Int) from rfl, cut_from _ 1 (by rw [List.length_map]; omega), List.map_drop]
  refine ⟨_, rfl, _, rfl, D10, _, rfl, SqL.of (s14 _ _ c13), fun pz hpz => ?_⟩
  have s15 := same_new hpz (.lst (cutV (cs10.map V.int) (some 1) none))
  have c15 : upd H14 pz (.lst (cutV (cs10.map V.int) (some 1) none)) pz = some (.lst ((cs10.drop 1).map V.int)) := by rw [upd_same, cut]
  refine ⟨txy y, pz, cs10.drop 1, rfl, SqL.of c15, by rw [List.length_drop]; omega, by omega, by rw [ey]; exact fun x hx => (toksY_tok gy x hx).tok, by rw [ey]; omega, fun z2 H16 s16 lz2 pz2 => ?_⟩
  rw [ey] at pz2
  refine ⟨z2, y, rfl, wordy_of pz2 lz2 (toksY_tok gy) (by omega) (deepY gy) (by omega), pz2, gy, by omega, fun q2 H17 s17 o17 => ?_⟩
  have v17 := s14.trans (s15.trans (s16.trans s17))
  have u17 := u13.trans v17
  refine ⟨_, rfl, .ref p6, t, l, rfl, it11.same u17, f3, ft, by omega, by omega, txt t, t, rfl, wordy_of kx (by omega) (toksT_tok gt) (by omega) (deepT gt) (by omega), kx, gt, by omega, fun q3 H18 s18 o18 => ?_⟩
  have u18 := u17.trans s18
  have it18 := it11.same u18
  have iy18 := iy11.same u18
  have v18 := u18 _ _ v11
  have o1 := o13.same (v17.trans s18)
  have o2 := o17.same s18
  have o3 := o18
  obtain ⟨_, dx1, fs1, e1, at1, sh1, nm1⟩ := o1.at_
  cases e1
  obtain ⟨_, dx2, fs2, e2', at2, sh2, nm2⟩ := o2.at_
  cases e2'
  obtain ⟨_, dx3, fs3, e3', at3, sh3, _⟩ := o3.at_
  cases e3'
  obtain ⟨_, dw1, fw1, e1', aw1, lw1⟩ := o1.atW
  cases e1'
  obtain ⟨_, dw3, fw3, e3'', aw3, lw3⟩ := o3.atW
  cases e3''
  obtain ⟨_, dh2, fh2, e2'', ah2, lh2⟩ := o2.atH
  cases e2''
  refine ⟨_, rfl, _, CS, .ref (CK (kd t)), true, rfl, TyOf.ins at1 (T.mkr.cls.cl _) (T.hcK _) T.hn T.ht (T.hmK _), T.hkK _, _, rfl, iteF ?_⟩
  refine ⟨_, rfl, _, CY .yes, .ref (CY (ks y)), true, rfl, TyOf.ins at2 (T.mks.cls.cl _) (T.hcY _) T.hn T.ht (T.hmY _), T.hkY _, _, rfl, iteF ?_⟩
  refine ⟨_, rfl, q3, _, dx3, fs3, _, rfl, at3, sh3, MS _, .ref q3, t, l, rfl, rfl, o3, f3, ft, by omega, by omega, fun H19 s19 => ?_⟩
  refine ⟨_, rfl, q1, _, dx1, fs1, _, rfl, s19 _ _ at1, sh1, MS _, .ref q1, t, l, rfl, rfl, o1.same s19, f3, ft, by omega, by omega, fun H20 s20 => ?_⟩
  refine ⟨rfl, _, rfl, iteNS rfl ?_⟩
  have w20 := s19.trans s20
  refine ⟨_, rfl, q1, _, dx1, fs1, _, rfl, w20 _ _ at1, sh1, MS _, .ref q1, t, l, rfl, rfl, o1.same w20, f3, ft, by omega, by omega, fun H21 s21 => ?_⟩
  have w21 := w20.trans s21
  refine ⟨_, rfl, .ref p6, t, l, rfl, it18.same w21, f3, ft, by omega, by omega, rfl, _, rfl, iteNS rfl ?_⟩
  refine ⟨_, rfl, q2, _, dx2, fs2, _, rfl, w21 _ _ at2, sh2, MYS _, .ref q2, y, l, rfl, rfl, o2.same w21, f3, fy, by omega, by omega, fun H22 s22 => ?_⟩
  have w22 := w21.trans s22
  refine ⟨_, rfl, .ref p9, y, l, rfl, iy18.same w22, f3, fy, by omega, by omega, fun H23 s23 => ⟨rfl, _, rfl, iteNS rfl ?_⟩⟩
  have w23 := w22.trans s23
  refine ⟨_, rfl, q1, _, dw1, fw1, _, rfl, w23 _ _ aw1, lw1, MW _, _, rfl, .ref q1, pv, t, kvs, l, vf, rfl, rfl, o1.same w23, w23 _ _ v18, O11, ft, by omega, by omega, ?_⟩
  refine ⟨_, rfl, _, rfl, .ref p6, pv, t, kvs, l, vf, rfl, it18.same w23, w23 _ _ v18, O11, ft, by omega, by omega, rfl, _, rfl, iteNS rfl ?_⟩
  refine ⟨_, rfl, q2, _, dh2, fh2, _, rfl, w23 _ _ ah2, lh2, MYH _, _, rfl, .ref q2, pv, y, kvs, l, vf, rfl, rfl, o2.same w23, w23 _ _ v18, O11, fy, by omega, ?_⟩
  refine ⟨_, rfl, _, rfl, .ref p9, pv, y, kvs, l, vf, rfl, iy18.same w23, w23 _ _ v18, O11, fy, by omega, fun H24 s24 => ⟨rfl, _, rfl, iteNS rfl ?_⟩⟩
  have w24 := w23.trans s24
  have nl := nmT_len t
  have ny := nmY_len y
  have mt := metS_length (nmT t)
  have my := metS_length (nmY y)
  refine ⟨_, rfl, .ref p6, t, l, rfl, it18.same w24, f3, ft, by omega, by omega, rfl, txt t, " ", rfl, rfl, by decide +kernel, small9 (by omega), small9 (by have := parts_len (txt t); omega), fun p25 hp25 => ?_⟩
  have s25 := same_new hp25 (.lst ((Txt.split (txt t) " ").map V.str))
  have e25 : upd H24 p25 (.lst ((Txt.split (txt t) " ").map V.str)) p25 = some (.lst ((toksT t).map V.str)) := by rw [upd_same, es]
  generalize upd H24 p25 (.lst ((Txt.split (txt t) " ").map V.str)) = H25 at s25 e25 ⊢
  have w25 := w24.trans s25
  refine ⟨p25, rfl, ⟨_, SqL.of e25⟩, comp_list (xs := (toksT t).map V.str) (fun i ys H' => ys = (((toksT t).take i).filter (inD kvs)).map V.str ∧ H' = H25) ⟨rfl, rfl⟩ (fun i ys H' _ ⟨_, e⟩ => by rw [e]; exact SqL.of e25) (fun i ys H' _ ⟨e, _⟩ => ?_) ?_ ?_⟩
  · rw [e, List.length_map]
    have h1 := List.length_filter_le (inD kvs) ((toksT t).take i)
    rw [List.length_take] at h1
    exact small1000 (by omega)
  · rintro i x ys H' hx ⟨rfl, rfl⟩
    rw [List.getElem?_map] at hx
    obtain ⟨x', hx', rfl⟩ := Option.map_eq_some_iff.mp hx
    rw [List.take_add_one, hx', List.filter_append]
    refine ⟨_, rfl, _, rfl, pv, _, rfl, DGet.k (k := Sum.inr x') (w25 _ _ v18), _, rfl, ite2 (fun c => ⟨_, rfl, ?_, rfl⟩) (fun c => ⟨?_, rfl⟩)⟩
    · rw [one_in c, List.map_append]
      rfl
    · rw [one_out c, List.append_nil]
  rintro ys H26 ⟨rfl, rfl⟩ D26 hD26
  rw [List.length_map, List.take_of_length_le (Nat.le_refl _), names_T keys ft]
  have s26 := same_new hD26 (.lst ((nmT t).map V.str))
  have e26 : upd H26 D26 (.lst ((nmT t).map V.str)) D26 = some (.lst ((nmT t).map V.str)) := upd_same
  show gName 9 (V.ref D26) _ (upd H26 D26 (.lst ((nmT t).map V.str))) _
  generalize upd H26 D26 (.lst ((nmT t).map V.str)) = G26 at s26 e26 ⊢
  have w26 := w25.trans s26
  refine ⟨_, rfl, q1, _, dx1, fs1, _, rfl, w26 _ _ at1, nm1, MN _, .ref q1, t, rfl, rfl, o1.same w26, by omega, by omega, fun pf H27 out s27 fr n27 e27 => ?_⟩
  have w27 := w26.trans s27
  refine ⟨_, rfl, D26, nmT t, rfl, SqL.of (s27 _ _ e26), by unfold scanBound; omega, fun ps hps => ?_⟩
  refine ⟨ps, _, rfl, upd_same, metS_nodup _, by omega, fun pd out2 h2 m2 => ?_⟩
  refine gen2 (Pr := fun G => rNeD K (V.ref pf) (V.ref pd) G _) hps h2 fun H28 s28 e28 => ?_
  have eo : out = out2 := n27.uniq m2.of_met fun _ => Iff.rfl
  subst eo
  have w28 := w27.trans s28
  refine ⟨_, _, is_strs (s28 _ _ e27), is_strs e28, rfl, rfl, dep_strs _, _, rfl, ?_⟩
  rw [dEq_refl]
  refine iteF ?_
  refine ⟨_, rfl, .ref p9, y, l, rfl, iy18.same w28, f3, fy, by omega, by omega, fun H29 s29 => ?_⟩
  have w29 := w28.trans s29
  refine ⟨rfl, txy y, " ", rfl, rfl, by decide +kernel, small9 (by omega), small9 (by have := parts_len (txy y); omega), fun p30 hp30 => ?_⟩
  have s30 := same_new hp30 (.lst ((Txt.split (txy y) " ").map V.str))
  have e30 : upd H29 p30 (.lst ((Txt.split (txy y) " ").map V.str)) p30 = some (.lst ((toksY y).map V.str)) := by rw [upd_same, ey]
  generalize upd H29 p30 (.lst ((Txt.split (txy y) " ").map V.str)) = H30 at s30 e30 ⊢
  have w30 := w29.trans s30
  refine ⟨p30, rfl, ⟨_, SqL.of e30⟩, comp_list (xs := (toksY y).map V.str) (fun i ys H' => ys = (((toksY y).take i).filter (inD kvs)).map V.str ∧ H' = H30) ⟨rfl, rfl⟩ (fun i ys H' _ ⟨_, e⟩ => by rw [e]; exact SqL.of e30) (fun i ys H' _ ⟨e, _⟩ => ?_) ?_ ?_⟩
  · rw [e, List.length_map]
    have h1 := List.length_filter_le (inD kvs) ((toksY y).take i)
    rw [List.length_take] at h1
    exact small1000 (by omega)
  · rintro i x ys H' hx ⟨rfl, rfl⟩
    rw [List.getElem?_map] at hx
    obtain ⟨x', hx', rfl⟩ := Option.map_eq_some_iff.mp hx
    rw [List.take_add_one, hx', List.filter_append]
    refine ⟨_, rfl, _, rfl, pv, _, rfl, DGet.k (k := Sum.inr x') (w30 _ _ v18), _, rfl, ite2 (fun c => ⟨_, rfl, ?_, rfl⟩) (fun c => ⟨?_, rfl⟩)⟩
    · rw [one_in c, List.map_append]
      rfl
    · rw [one_out c, List.append_nil]
  rintro ys H31 ⟨rfl, rfl⟩ D31 hD31
  rw [List.length_map, List.take_of_length_le (Nat.le_refl _), names_Y keys fy]
  have s31 := same_new hD31 (.lst ((nmY y).map V.str))
  have e31 : upd H31 D31 (.lst ((nmY y).map V.str)) D31 = some (.lst ((nmY y).map V.str)) := upd_same
  show gName 9 (V.ref D31) _ (upd H31 D31 (.lst ((nmY y).map V.str))) _
  generalize upd H31 D31 (.lst ((nmY y).map V.str)) = G31 at s31 e31 ⊢
  have w31 := w30.trans s31
  refine ⟨_, rfl, q2, _, dx2, fs2, _, rfl, w31 _ _ at2, nm2, MYN _, .ref q2, y, l, rfl, rfl, o2.same w31, fy, by omega, by omega, fun pg H32 out s32 fr n32 e32 => ?_⟩
  have w32 := w31.trans s32
  refine ⟨_, rfl, D31, nmY y, rfl, SqL.of (s32 _ _ e31), by unfold scanBound; omega, fun ps hps => ?_⟩
  refine ⟨ps, _, rfl, upd_same, metS_nodup _, by omega, fun pd out2 h2 m2 => ?_⟩
  refine gen2 (Pr := fun G => rEqD K (V.ref pg) (V.ref pd) G _) hps h2 fun H33 s33 e33 => ?_
  have eo : out = out2 := n32.uniq m2.of_met fun _ => Iff.rfl
  subst eo
  have w33 := w32.trans s33
  refine ⟨_, _, is_strs (s33 _ _ e32), is_strs e33, rfl, rfl, dep_strs _, _, rfl, ?_⟩
  rw [dEq_refl]
  refine iteT ?_
  refine ⟨_, rfl, q3, _, dw3, fw3, _, rfl, w33 _ _ aw3, lw3, MW _, _, rfl, .ref q3, pv, t, kvs, l, vf, rfl, rfl, o3.same w33, w33 _ _ v18, O11, ft, by omega, by omega, ?_⟩
  refine ⟨_, rfl, q1, _, dw1, fw1, _, rfl, w33 _ _ aw1, lw1, MW _, _, rfl, .ref q1, pv, t, kvs, l, vf, rfl, rfl, o1.same w33, w33 _ _ v18, O11, ft, by omega, by omega, rfl, ?_⟩
  rw [decide_eq_true rfl]
  exact q _
end
end Nw
namespace Nw
open PySem L2
theorem kit_of {K : PySem.W.Frag} {C S : Addr} (h1 : PySem.W.mroIn K C (.ref S) = some true) (h2 : PySem.W.mroIn K S (.type "object") = some true) (h3 : PySem.W.typeIn K (.ref S) = some (.type "type")) : PySem.W.kitOne K (.ref C) (.ref S) = some true := by
  have h4 : (PySem.W.clsIn K S).isSome = true := by
    unfold PySem.W.mroIn at h2
    cases e : PySem.W.clsIn K S with
    | none => rw [e] at h2; cases h2
    | some _ => rfl
  unfold PySem.W.kitOne
  split
  · rfl
  · show (if ((PySem.W.clsIn K S).isSome && PySem.W.typeIn K (.ref S) == some (.type "type")) = true then PySem.W.subIn K (.ref C) (.ref S) else none) = some true
    rw [if_pos (by rw [h4, h3]; rfl)]
    exact h1
theorem kit_self {K : PySem.W.Frag} {C : Addr} : PySem.W.kitOne K (.ref C) (.ref C) = some true := by
  unfold PySem.W.kitOne
  rw [if_pos (beq_self_eq_true _)]
theorem all_mk {l : PySem.W.OpenLaw} {w : World} {K : PySem.W.Frag} {h : Heap} {mg : Str → Option Value} {fa CN CM CP CI CX CY CQ CA CE CU CB CO CT CR CS fNI fMI fTI fPI fOI fRI fTN fPN fNS fMS fPS fIS fXS fNW fMW fPW fIW fXW fNN fMN fYS fLS fAS fES fUS fBS fOS fTS fYH fLH fAH fEH fUH fBH fOH fTH fYN fTNn fRA fRT fRW fRE fCe fMi fOw fPo fLe fSu fSt fWo fSa fTe fHo fVa fSp fCm fTw fMo fNu fNm fFa fWd fOp fWs fSi fBi fYi fCi fBj fDi fRs fRy fBr fBs fL : Addr} {odNI anNI odMI anMI odTI anTI odPI anPI odOI anOI odRI anRI odTN anTN odPN anPN odNS anNS odMS anMS odPS anPS odIS anIS odXS anXS odNW anNW odMW anMW odPW anPW odIW anIW odXW anXW odNN anNN odMN anMN odYS anYS odLS anLS odAS anAS odES anES odUS anUS odBS anBS odOS anOS odTS anTS odYH anYH odLH anLH odAH anAH odEH anEH odUH anUH odBH anBH odOH anOH odTH anTH odYN anYN odTNn anTNn odRA anRA odRT anRT odRW anRW odRE anRE odCe anCe odMi anMi odOw anOw odPo anPo odLe anLe odSu anSu odSt anSt odWo anWo odSa anSa odTe anTe odHo anHo odVa anVa odSp anSp odCm anCm odTw anTw odMo anMo odNu anNu odNm anNm odFa anFa odWd anWd odOp anOp odWs anWs odSi anSi odBi anBi odYi anYi odCi anCi odBj anBj odDi anDi odRs anRs odRy anRy odBr anBr odBs anBs odL anL : Option Addr} {slNI slMI slTI slPI slOI slRI slTN slPN slNS slMS slPS slIS slXS slNW slMW slPW slIW slXW slNN slMN slYS slLS slAS slES slUS slBS slOS slTS slYH slLH slAH slEH slUH slBH slOH slTH slYN slTNn slRA slRT slRW slRE slCe slMi slOw slPo slLe slSu slSt slWo slSa slTe slHo slVa slSp slCm slTw slMo slNu slNm slFa slWd slOp slWs slSi slBi slYi slCi slBj slDi slRs slRy slBr slBs slL : Array (Option Value)} {ocNI kVNI dcNI pmNI cdNI ctNI ocMI kVMI dcMI pmMI cdMI ctMI ocTI kVTI dcTI pmTI cdTI ctTI ocPI kVPI dcPI pmPI cdPI ctPI ocOI kVOI dcOI pmOI cdOI ctOI ocRI kVRI dcRI pmRI cdRI ctRI ocTN kVTN dcTN pmTN cdTN ctTN ocPN kVPN dcPN pmPN cdPN ctPN ocNS kVNS dcNS pmNS cdNS ctNS ocMS kVMS dcMS pmMS cdMS ctMS ocPS kVPS dcPS pmPS cdPS ctPS ocIS kVIS dcIS pmIS cdIS ctIS ocXS kVXS dcXS pmXS cdXS ctXS ocNW kVNW dcNW pmNW cdNW ctNW ocMW kVMW dcMW pmMW cdMW ctMW ocPW kVPW dcPW pmPW cdPW ctPW ocIW kVIW dcIW pmIW cdIW ctIW ocXW kVXW dcXW pmXW cdXW ctXW ocNN kVNN dcNN pmNN cdNN ctNN ocMN kVMN dcMN pmMN cdMN ctMN ocYS kVYS dcYS pmYS cdYS ctYS ocLS kVLS dcLS pmLS cdLS ctLS ocAS kVAS dcAS pmAS cdAS ctAS ocES kVES dcES pmES cdES ctES ocUS kVUS dcUS pmUS cdUS ctUS ocBS kVBS dcBS pmBS cdBS ctBS ocOS kVOS dcOS pmOS cdOS ctOS ocTS kVTS dcTS pmTS cdTS ctTS ocYH kVYH dcYH pmYH cdYH ctYH ocLH kVLH dcLH pmLH cdLH ctLH ocAH kVAH dcAH pmAH cdAH ctAH ocEH kVEH dcEH pmEH cdEH ctEH ocUH kVUH dcUH pmUH cdUH ctUH ocBH kVBH dcBH pmBH cdBH ctBH ocOH kVOH dcOH pmOH cdOH ctOH ocTH kVTH dcTH pmTH cdTH ctTH ocYN kVYN dcYN pmYN cdYN ctYN ocTNn kVTNn dcTNn pmTNn cdTNn ctTNn ocRA kVRA dcRA pmRA cdRA ctRA ocRT kVRT dcRT pmRT cdRT ctRT ocRW kVRW dcRW pmRW cdRW ctRW ocRE kVRE dcRE pmRE cdRE ctRE ocCe kVCe dcCe pmCe cdCe ctCe ocMi kVMi dcMi pmMi cdMi ctMi ocOw kVOw dcOw pmOw cdOw ctOw ocPo kVPo dcPo pmPo cdPo ctPo ocLe kVLe dcLe pmLe cdLe ctLe ocSu kVSu dcSu pmSu cdSu ctSu ocSt kVSt dcSt pmSt cdSt ctSt ocWo kVWo dcWo pmWo cdWo ctWo ocSa kVSa dcSa pmSa cdSa ctSa ocTe kVTe dcTe pmTe cdTe ctTe ocHo kVHo dcHo pmHo cdHo ctHo ocVa kVVa dcVa pmVa cdVa ctVa ocSp kVSp dcSp pmSp cdSp ctSp ocCm kVCm dcCm pmCm cdCm ctCm ocTw kVTw dcTw pmTw cdTw ctTw ocMo kVMo dcMo pmMo cdMo ctMo ocNu kVNu dcNu pmNu cdNu ctNu ocNm kVNm dcNm pmNm cdNm ctNm ocFa kVFa dcFa pmFa cdFa ctFa ocWd kVWd dcWd pmWd cdWd ctWd ocOp kVOp dcOp pmOp cdOp ctOp ocWs kVWs dcWs pmWs cdWs ctWs ocSi kVSi dcSi pmSi cdSi ctSi ocBi kVBi dcBi pmBi cdBi ctBi ocYi kVYi dcYi pmYi cdYi ctYi ocCi kVCi dcCi pmCi cdCi ctCi ocBj kVBj dcBj pmBj cdBj ctBj ocDi kVDi dcDi pmDi cdDi ctDi ocRs kVRs dcRs pmRs cdRs ctRs ocRy kVRy dcRy pmRy cdRy ctRy ocBr kVBr dcBr pmBr cdBr ctBr ocBs kVBs dcBs pmBs cdBs ctBs ocL kVL dcL pmL cdL ctL : Value} {xLt xFg : Str} {tLt tFg t8 t2 t300 tM8 : PySem.Tok} {adO adS : Addr} {itO itS : Array Value} {nO nS : Nat} {odO odS : Option Addr} {slO slS : Array (Option Value)} (X : K.In h) (G : h.Ns mainGlobals mg) (hfa : mg "law" = some (.ref fa))
    (aN : PySem.W.nsIn K mainGlobals "Number" = some (some (.ref CN)))
    (pgN : PySem.W.plainGet K CN Str.empty = true)
    (hdN : PySem.W.hasDictIn K CN = true)
    (poN : PySem.W.plainOver K CN = true)
    (saN : PySem.W.findIn K (.ref CN) "__setattr__" = some (some (.builtin "object.__setattr__")))
    (mkN : PySem.W.makesIn K CN = true)
    (kcN : PySem.W.keepIn K (.ref CN) = true)
    (nN_number : PySem.W.findIn K (.ref CN) "number" = some none)
    (aM : PySem.W.nsIn K mainGlobals "Named" = some (some (.ref CM)))
    (pgM : PySem.W.plainGet K CM Str.empty = true)
    (hdM : PySem.W.hasDictIn K CM = true)
    (poM : PySem.W.plainOver K CM = true)
    (saM : PySem.W.findIn K (.ref CM) "__setattr__" = some (some (.builtin "object.__setattr__")))
    (mkM : PySem.W.makesIn K CM = true)
    (kcM : PySem.W.keepIn K (.ref CM) = true)
    (nM_name : PySem.W.findIn K (.ref CM) "name" = some none)
    (aP : PySem.W.nsIn K mainGlobals "Plus" = some (some (.ref CP)))
    (pgP : PySem.W.plainGet K CP Str.empty = true)
    (hdP : PySem.W.hasDictIn K CP = true)
    (poP : PySem.W.plainOver K CP = true)
    (saP : PySem.W.findIn K (.ref CP) "__setattr__" = some (some (.builtin "object.__setattr__")))
    (mkP : PySem.W.makesIn K CP = true)
    (kcP : PySem.W.keepIn K (.ref CP) = true)
    (nP_one : PySem.W.findIn K (.ref CP) "one" = some none)
    (nP_other : PySem.W.findIn K (.ref CP) "other" = some none)
    (aI : PySem.W.nsIn K mainGlobals "Minus" = some (some (.ref CI)))
    (pgI : PySem.W.plainGet K CI Str.empty = true)
    (hdI : PySem.W.hasDictIn K CI = true)
    (poI : PySem.W.plainOver K CI = true)
    (saI : PySem.W.findIn K (.ref CI) "__setattr__" = some (some (.builtin "object.__setattr__")))
    (mkI : PySem.W.makesIn K CI = true)
    (kcI : PySem.W.keepIn K (.ref CI) = true)
    (nI_one : PySem.W.findIn K (.ref CI) "one" = some none)
    (nI_other : PySem.W.findIn K (.ref CI) "other" = some none)
    (aX : PySem.W.nsIn K mainGlobals "Times" = some (some (.ref CX)))
    (pgX : PySem.W.plainGet K CX Str.empty = true)
    (hdX : PySem.W.hasDictIn K CX = true)
    (poX : PySem.W.plainOver K CX = true)
    (saX : PySem.W.findIn K (.ref CX) "__setattr__" = some (some (.builtin "object.__setattr__")))
    (mkX : PySem.W.makesIn K CX = true)
    (kcX : PySem.W.keepIn K (.ref CX) = true)
    (nX_one : PySem.W.findIn K (.ref CX) "one" = some none)
    (nX_other : PySem.W.findIn K (.ref CX) "other" = some none)
    (aY : PySem.W.nsIn K mainGlobals "Saying" = some (some (.ref CY)))
    (pgY : PySem.W.plainGet K CY Str.empty = true)
    (hdY : PySem.W.hasDictIn K CY = true)
    (poY : PySem.W.plainOver K CY = true)
    (saY : PySem.W.findIn K (.ref CY) "__setattr__" = some (some (.builtin "object.__setattr__")))
    (mkY : PySem.W.makesIn K CY = true)
    (kcY : PySem.W.keepIn K (.ref CY) = true)
    (inY : PySem.W.findIn K (.ref CY) "__init__" = some (some (.builtin "object.__init__")))
    (aQ : PySem.W.nsIn K mainGlobals "Less" = some (some (.ref CQ)))
    (pgQ : PySem.W.plainGet K CQ Str.empty = true)
    (hdQ : PySem.W.hasDictIn K CQ = true)
    (poQ : PySem.W.plainOver K CQ = true)
    (saQ : PySem.W.findIn K (.ref CQ) "__setattr__" = some (some (.builtin "object.__setattr__")))
    (mkQ : PySem.W.makesIn K CQ = true)
    (kcQ : PySem.W.keepIn K (.ref CQ) = true)
    (nQ_one : PySem.W.findIn K (.ref CQ) "one" = some none)
    (nQ_other : PySem.W.findIn K (.ref CQ) "other" = some none)
    (aA : PySem.W.nsIn K mainGlobals "AtMost" = some (some (.ref CA)))
    (pgA : PySem.W.plainGet K CA Str.empty = true)
    (hdA : PySem.W.hasDictIn K CA = true)
    (poA : PySem.W.plainOver K CA = true)
    (saA : PySem.W.findIn K (.ref CA) "__setattr__" = some (some (.builtin "object.__setattr__")))
    (mkA : PySem.W.makesIn K CA = true)
    (kcA : PySem.W.keepIn K (.ref CA) = true)
    (nA_one : PySem.W.findIn K (.ref CA) "one" = some none)
    (nA_other : PySem.W.findIn K (.ref CA) "other" = some none)
    (aE : PySem.W.nsIn K mainGlobals "Equal" = some (some (.ref CE)))
    (pgE : PySem.W.plainGet K CE Str.empty = true)
    (hdE : PySem.W.hasDictIn K CE = true)
    (poE : PySem.W.plainOver K CE = true)
    (saE : PySem.W.findIn K (.ref CE) "__setattr__" = some (some (.builtin "object.__setattr__")))
    (mkE : PySem.W.makesIn K CE = true)
    (kcE : PySem.W.keepIn K (.ref CE) = true)
    (nE_one : PySem.W.findIn K (.ref CE) "one" = some none)
    (nE_other : PySem.W.findIn K (.ref CE) "other" = some none)
    (aU : PySem.W.nsIn K mainGlobals "Unlike" = some (some (.ref CU)))
    (pgU : PySem.W.plainGet K CU Str.empty = true)
    (hdU : PySem.W.hasDictIn K CU = true)
    (poU : PySem.W.plainOver K CU = true)
    (saU : PySem.W.findIn K (.ref CU) "__setattr__" = some (some (.builtin "object.__setattr__")))
    (mkU : PySem.W.makesIn K CU = true)
    (kcU : PySem.W.keepIn K (.ref CU) = true)
    (nU_one : PySem.W.findIn K (.ref CU) "one" = some none)
    (nU_other : PySem.W.findIn K (.ref CU) "other" = some none)
    (aB : PySem.W.nsIn K mainGlobals "Both" = some (some (.ref CB)))
    (pgB : PySem.W.plainGet K CB Str.empty = true)
    (hdB : PySem.W.hasDictIn K CB = true)
    (poB : PySem.W.plainOver K CB = true)
    (saB : PySem.W.findIn K (.ref CB) "__setattr__" = some (some (.builtin "object.__setattr__")))
    (mkB : PySem.W.makesIn K CB = true)
    (kcB : PySem.W.keepIn K (.ref CB) = true)
    (nB_one : PySem.W.findIn K (.ref CB) "one" = some none)
    (nB_other : PySem.W.findIn K (.ref CB) "other" = some none)
    (aO : PySem.W.nsIn K mainGlobals "Either" = some (some (.ref CO)))
    (pgO : PySem.W.plainGet K CO Str.empty = true)
    (hdO : PySem.W.hasDictIn K CO = true)
    (poO : PySem.W.plainOver K CO = true)
    (saO : PySem.W.findIn K (.ref CO) "__setattr__" = some (some (.builtin "object.__setattr__")))
    (mkO : PySem.W.makesIn K CO = true)
    (kcO : PySem.W.keepIn K (.ref CO) = true)
    (nO_one : PySem.W.findIn K (.ref CO) "one" = some none)
    (nO_other : PySem.W.findIn K (.ref CO) "other" = some none)
    (aT : PySem.W.nsIn K mainGlobals "Not" = some (some (.ref CT)))
    (pgT : PySem.W.plainGet K CT Str.empty = true)
    (hdT : PySem.W.hasDictIn K CT = true)
    (poT : PySem.W.plainOver K CT = true)
    (saT : PySem.W.findIn K (.ref CT) "__setattr__" = some (some (.builtin "object.__setattr__")))
    (mkT : PySem.W.makesIn K CT = true)
    (kcT : PySem.W.keepIn K (.ref CT) = true)
    (nT_one : PySem.W.findIn K (.ref CT) "one" = some none)
    (aR : PySem.W.nsIn K mainGlobals "Reader" = some (some (.ref CR)))
    (pgR : PySem.W.plainGet K CR Str.empty = true)
    (hdR : PySem.W.hasDictIn K CR = true)
    (poR : PySem.W.plainOver K CR = true)
    (saR : PySem.W.findIn K (.ref CR) "__setattr__" = some (some (.builtin "object.__setattr__")))
    (mkR : PySem.W.makesIn K CR = true)
    (kcR : PySem.W.keepIn K (.ref CR) = true)
    (nR_pieces : PySem.W.findIn K (.ref CR) "pieces" = some none)
    (nR_place : PySem.W.findIn K (.ref CR) "place" = some none)
    (aS : PySem.W.nsIn K mainGlobals "Sum" = some (some (.ref CS)))
    (pgS : PySem.W.plainGet K CS Str.empty = true)
    (hdS : PySem.W.hasDictIn K CS = true)
    (poS : PySem.W.plainOver K CS = true)
    (saS : PySem.W.findIn K (.ref CS) "__setattr__" = some (some (.builtin "object.__setattr__")))
    (mkS : PySem.W.makesIn K CS = true)
    (kcS : PySem.W.keepIn K (.ref CS) = true)
    (inS : PySem.W.findIn K (.ref CS) "__init__" = some (some (.builtin "object.__init__")))
    (aNI : PySem.W.findIn K (.ref CN) "__init__" = some (some (.ref fNI)))
    (iNI : PySem.W.isFn K (.ref fNI) = true)
    (lNI : K.lookup fNI = some ⟨ocNI, odNI, .func (PySem.W.fnOf "__init__" "Number.__init__" (defArgs sNumI) (defBody sNumI) (defScope sNumI) .none kVNI dcNI pmNI anNI cdNI ctNI), slNI⟩)
    (cNI : PySem.W.codeIn K cdNI "Number.__init__" = true)
    (kNI : PySem.W.keepIn K (.ref fNI) = true)
    (aMI : PySem.W.findIn K (.ref CM) "__init__" = some (some (.ref fMI)))
    (iMI : PySem.W.isFn K (.ref fMI) = true)
    (lMI : K.lookup fMI = some ⟨ocMI, odMI, .func (PySem.W.fnOf "__init__" "Named.__init__" (defArgs sNamI) (defBody sNamI) (defScope sNamI) .none kVMI dcMI pmMI anMI cdMI ctMI), slMI⟩)
    (cMI : PySem.W.codeIn K cdMI "Named.__init__" = true)
    (kMI : PySem.W.keepIn K (.ref fMI) = true)
    (aTI : PySem.W.findIn K (.ref CP) "__init__" = some (some (.ref fTI)))
    (aTII : PySem.W.findIn K (.ref CI) "__init__" = some (some (.ref fTI)))
    (aTIX : PySem.W.findIn K (.ref CX) "__init__" = some (some (.ref fTI)))
    (iTI : PySem.W.isFn K (.ref fTI) = true)
    (lTI : K.lookup fTI = some ⟨ocTI, odTI, .func (PySem.W.fnOf "__init__" "Twofold.__init__" (defArgs sTwoI) (defBody sTwoI) (defScope sTwoI) .none kVTI dcTI pmTI anTI cdTI ctTI), slTI⟩)
    (cTI : PySem.W.codeIn K cdTI "Twofold.__init__" = true)
    (kTI : PySem.W.keepIn K (.ref fTI) = true)
    (aPI : PySem.W.findIn K (.ref CQ) "__init__" = some (some (.ref fPI)))
    (aPIA : PySem.W.findIn K (.ref CA) "__init__" = some (some (.ref fPI)))
    (aPIE : PySem.W.findIn K (.ref CE) "__init__" = some (some (.ref fPI)))
    (aPIU : PySem.W.findIn K (.ref CU) "__init__" = some (some (.ref fPI)))
    (aPIB : PySem.W.findIn K (.ref CB) "__init__" = some (some (.ref fPI)))
    (aPIO : PySem.W.findIn K (.ref CO) "__init__" = some (some (.ref fPI)))
    (iPI : PySem.W.isFn K (.ref fPI) = true)
    (lPI : K.lookup fPI = some ⟨ocPI, odPI, .func (PySem.W.fnOf "__init__" "Pairing.__init__" (defArgs sPaiI) (defBody sPaiI) (defScope sPaiI) .none kVPI dcPI pmPI anPI cdPI ctPI), slPI⟩)
    (cPI : PySem.W.codeIn K cdPI "Pairing.__init__" = true)
    (kPI : PySem.W.keepIn K (.ref fPI) = true)
    (aOI : PySem.W.findIn K (.ref CT) "__init__" = some (some (.ref fOI)))
    (iOI : PySem.W.isFn K (.ref fOI) = true)
    (lOI : K.lookup fOI = some ⟨ocOI, odOI, .func (PySem.W.fnOf "__init__" "Not.__init__" (defArgs sNotI) (defBody sNotI) (defScope sNotI) .none kVOI dcOI pmOI anOI cdOI ctOI), slOI⟩)
    (cOI : PySem.W.codeIn K cdOI "Not.__init__" = true)
    (kOI : PySem.W.keepIn K (.ref fOI) = true)
    (aRI : PySem.W.findIn K (.ref CR) "__init__" = some (some (.ref fRI)))
    (iRI : PySem.W.isFn K (.ref fRI) = true)
    (lRI : K.lookup fRI = some ⟨ocRI, odRI, .func (PySem.W.fnOf "__init__" "Reader.__init__" (defArgs sReaI) (defBody sReaI) (defScope sReaI) .none kVRI dcRI pmRI anRI cdRI ctRI), slRI⟩)
    (cRI : PySem.W.codeIn K cdRI "Reader.__init__" = true)
    (kRI : PySem.W.keepIn K (.ref fRI) = true)
    (aTN : PySem.W.findIn K (.ref CP) "named" = some (some (.ref fTN)))
    (aTNI : PySem.W.findIn K (.ref CI) "named" = some (some (.ref fTN)))
    (aTNX : PySem.W.findIn K (.ref CX) "named" = some (some (.ref fTN)))
    (iTN : PySem.W.isFn K (.ref fTN) = true)
    (lTN : K.lookup fTN = some ⟨ocTN, odTN, .func (PySem.W.fnOf "named" "Twofold.named" (defArgs sTwoN) (defBody sTwoN) (defScope sTwoN) .none kVTN dcTN pmTN anTN cdTN ctTN), slTN⟩)
    (cTN : PySem.W.codeIn K cdTN "Twofold.named" = true)
    (kTN : PySem.W.keepIn K (.ref fTN) = true)
    (aPN : PySem.W.findIn K (.ref CQ) "named" = some (some (.ref fPN)))
    (aPNA : PySem.W.findIn K (.ref CA) "named" = some (some (.ref fPN)))
    (aPNE : PySem.W.findIn K (.ref CE) "named" = some (some (.ref fPN)))
    (aPNU : PySem.W.findIn K (.ref CU) "named" = some (some (.ref fPN)))
    (aPNB : PySem.W.findIn K (.ref CB) "named" = some (some (.ref fPN)))
    (aPNO : PySem.W.findIn K (.ref CO) "named" = some (some (.ref fPN)))
    (iPN : PySem.W.isFn K (.ref fPN) = true)
    (lPN : K.lookup fPN = some ⟨ocPN, odPN, .func (PySem.W.fnOf "named" "Pairing.named" (defArgs sPaiN) (defBody sPaiN) (defScope sPaiN) .none kVPN dcPN pmPN anPN cdPN ctPN), slPN⟩)
    (cPN : PySem.W.codeIn K cdPN "Pairing.named" = true)
    (kPN : PySem.W.keepIn K (.ref fPN) = true)
    (aNS : PySem.W.findIn K (.ref CN) "shown" = some (some (.ref fNS)))
    (iNS : PySem.W.isFn K (.ref fNS) = true)
    (lNS : K.lookup fNS = some ⟨ocNS, odNS, .func (PySem.W.fnOf "shown" "Number.shown" (defArgs sNumS) (defBody sNumS) (defScope sNumS) .none kVNS dcNS pmNS anNS cdNS ctNS), slNS⟩)
    (cNS : PySem.W.codeIn K cdNS "Number.shown" = true)
    (kNS : PySem.W.keepIn K (.ref fNS) = true)
    (aMS : PySem.W.findIn K (.ref CM) "shown" = some (some (.ref fMS)))
    (iMS : PySem.W.isFn K (.ref fMS) = true)
    (lMS : K.lookup fMS = some ⟨ocMS, odMS, .func (PySem.W.fnOf "shown" "Named.shown" (defArgs sNamS) (defBody sNamS) (defScope sNamS) .none kVMS dcMS pmMS anMS cdMS ctMS), slMS⟩)
    (cMS : PySem.W.codeIn K cdMS "Named.shown" = true)
    (kMS : PySem.W.keepIn K (.ref fMS) = true)
    (aPS : PySem.W.findIn K (.ref CP) "shown" = some (some (.ref fPS)))
    (iPS : PySem.W.isFn K (.ref fPS) = true)
    (lPS : K.lookup fPS = some ⟨ocPS, odPS, .func (PySem.W.fnOf "shown" "Plus.shown" (defArgs sPluS) (defBody sPluS) (defScope sPluS) .none kVPS dcPS pmPS anPS cdPS ctPS), slPS⟩)
    (cPS : PySem.W.codeIn K cdPS "Plus.shown" = true)
    (kPS : PySem.W.keepIn K (.ref fPS) = true)
    (aIS : PySem.W.findIn K (.ref CI) "shown" = some (some (.ref fIS)))
    (iIS : PySem.W.isFn K (.ref fIS) = true)
    (lIS : K.lookup fIS = some ⟨ocIS, odIS, .func (PySem.W.fnOf "shown" "Minus.shown" (defArgs sMinS) (defBody sMinS) (defScope sMinS) .none kVIS dcIS pmIS anIS cdIS ctIS), slIS⟩)
    (cIS : PySem.W.codeIn K cdIS "Minus.shown" = true)
    (kIS : PySem.W.keepIn K (.ref fIS) = true)
    (aXS : PySem.W.findIn K (.ref CX) "shown" = some (some (.ref fXS)))
    (iXS : PySem.W.isFn K (.ref fXS) = true)
    (lXS : K.lookup fXS = some ⟨ocXS, odXS, .func (PySem.W.fnOf "shown" "Times.shown" (defArgs sTimS) (defBody sTimS) (defScope sTimS) .none kVXS dcXS pmXS anXS cdXS ctXS), slXS⟩)
    (cXS : PySem.W.codeIn K cdXS "Times.shown" = true)
    (kXS : PySem.W.keepIn K (.ref fXS) = true)
    (aNW : PySem.W.findIn K (.ref CN) "worth" = some (some (.ref fNW)))
    (iNW : PySem.W.isFn K (.ref fNW) = true)
    (lNW : K.lookup fNW = some ⟨ocNW, odNW, .func (PySem.W.fnOf "worth" "Number.worth" (defArgs sNumW) (defBody sNumW) (defScope sNumW) .none kVNW dcNW pmNW anNW cdNW ctNW), slNW⟩)
    (cNW : PySem.W.codeIn K cdNW "Number.worth" = true)
    (kNW : PySem.W.keepIn K (.ref fNW) = true)
    (aMW : PySem.W.findIn K (.ref CM) "worth" = some (some (.ref fMW)))
    (iMW : PySem.W.isFn K (.ref fMW) = true)
    (lMW : K.lookup fMW = some ⟨ocMW, odMW, .func (PySem.W.fnOf "worth" "Named.worth" (defArgs sNamW) (defBody sNamW) (defScope sNamW) .none kVMW dcMW pmMW anMW cdMW ctMW), slMW⟩)
    (cMW : PySem.W.codeIn K cdMW "Named.worth" = true)
    (kMW : PySem.W.keepIn K (.ref fMW) = true)
    (aPW : PySem.W.findIn K (.ref CP) "worth" = some (some (.ref fPW)))
    (iPW : PySem.W.isFn K (.ref fPW) = true)
    (lPW : K.lookup fPW = some ⟨ocPW, odPW, .func (PySem.W.fnOf "worth" "Plus.worth" (defArgs sPluW) (defBody sPluW) (defScope sPluW) .none kVPW dcPW pmPW anPW cdPW ctPW), slPW⟩)
    (cPW : PySem.W.codeIn K cdPW "Plus.worth" = true)
    (kPW : PySem.W.keepIn K (.ref fPW) = true)
    (aIW : PySem.W.findIn K (.ref CI) "worth" = some (some (.ref fIW)))
    (iIW : PySem.W.isFn K (.ref fIW) = true)
    (lIW : K.lookup fIW = some ⟨ocIW, odIW, .func (PySem.W.fnOf "worth" "Minus.worth" (defArgs sMinW) (defBody sMinW) (defScope sMinW) .none kVIW dcIW pmIW anIW cdIW ctIW), slIW⟩)
    (cIW : PySem.W.codeIn K cdIW "Minus.worth" = true)
    (kIW : PySem.W.keepIn K (.ref fIW) = true)
    (aXW : PySem.W.findIn K (.ref CX) "worth" = some (some (.ref fXW)))
    (iXW : PySem.W.isFn K (.ref fXW) = true)
    (lXW : K.lookup fXW = some ⟨ocXW, odXW, .func (PySem.W.fnOf "worth" "Times.worth" (defArgs sTimW) (defBody sTimW) (defScope sTimW) .none kVXW dcXW pmXW anXW cdXW ctXW), slXW⟩)
    (cXW : PySem.W.codeIn K cdXW "Times.worth" = true)
    (kXW : PySem.W.keepIn K (.ref fXW) = true)
    (aNN : PySem.W.findIn K (.ref CN) "named" = some (some (.ref fNN)))
    (iNN : PySem.W.isFn K (.ref fNN) = true)
    (lNN : K.lookup fNN = some ⟨ocNN, odNN, .func (PySem.W.fnOf "named" "Sum.named" (defArgs sSumN) (defBody sSumN) (defScope sSumN) .none kVNN dcNN pmNN anNN cdNN ctNN), slNN⟩)
    (cNN : PySem.W.codeIn K cdNN "Sum.named" = true)
    (kNN : PySem.W.keepIn K (.ref fNN) = true)
    (aMN : PySem.W.findIn K (.ref CM) "named" = some (some (.ref fMN)))
    (iMN : PySem.W.isFn K (.ref fMN) = true)
    (lMN : K.lookup fMN = some ⟨ocMN, odMN, .func (PySem.W.fnOf "named" "Named.named" (defArgs sNamN) (defBody sNamN) (defScope sNamN) .none kVMN dcMN pmMN anMN cdMN ctMN), slMN⟩)
    (cMN : PySem.W.codeIn K cdMN "Named.named" = true)
    (kMN : PySem.W.keepIn K (.ref fMN) = true)
    (aYS : PySem.W.findIn K (.ref CY) "shown" = some (some (.ref fYS)))
    (iYS : PySem.W.isFn K (.ref fYS) = true)
    (lYS : K.lookup fYS = some ⟨ocYS, odYS, .func (PySem.W.fnOf "shown" "Saying.shown" (defArgs sSayS) (defBody sSayS) (defScope sSayS) .none kVYS dcYS pmYS anYS cdYS ctYS), slYS⟩)
    (cYS : PySem.W.codeIn K cdYS "Saying.shown" = true)
    (kYS : PySem.W.keepIn K (.ref fYS) = true)
    (aLS : PySem.W.findIn K (.ref CQ) "shown" = some (some (.ref fLS)))
    (iLS : PySem.W.isFn K (.ref fLS) = true)
    (lLS : K.lookup fLS = some ⟨ocLS, odLS, .func (PySem.W.fnOf "shown" "Less.shown" (defArgs sLesS) (defBody sLesS) (defScope sLesS) .none kVLS dcLS pmLS anLS cdLS ctLS), slLS⟩)
    (cLS : PySem.W.codeIn K cdLS "Less.shown" = true)
    (kLS : PySem.W.keepIn K (.ref fLS) = true)
    (aAS : PySem.W.findIn K (.ref CA) "shown" = some (some (.ref fAS)))
    (iAS : PySem.W.isFn K (.ref fAS) = true)
    (lAS : K.lookup fAS = some ⟨ocAS, odAS, .func (PySem.W.fnOf "shown" "AtMost.shown" (defArgs sAtmS) (defBody sAtmS) (defScope sAtmS) .none kVAS dcAS pmAS anAS cdAS ctAS), slAS⟩)
    (cAS : PySem.W.codeIn K cdAS "AtMost.shown" = true)
    (kAS : PySem.W.keepIn K (.ref fAS) = true)
    (aES : PySem.W.findIn K (.ref CE) "shown" = some (some (.ref fES)))
    (iES : PySem.W.isFn K (.ref fES) = true)
    (lES : K.lookup fES = some ⟨ocES, odES, .func (PySem.W.fnOf "shown" "Equal.shown" (defArgs sEquS) (defBody sEquS) (defScope sEquS) .none kVES dcES pmES anES cdES ctES), slES⟩)
    (cES : PySem.W.codeIn K cdES "Equal.shown" = true)
    (kES : PySem.W.keepIn K (.ref fES) = true)
    (aUS : PySem.W.findIn K (.ref CU) "shown" = some (some (.ref fUS)))
    (iUS : PySem.W.isFn K (.ref fUS) = true)
    (lUS : K.lookup fUS = some ⟨ocUS, odUS, .func (PySem.W.fnOf "shown" "Unlike.shown" (defArgs sUnlS) (defBody sUnlS) (defScope sUnlS) .none kVUS dcUS pmUS anUS cdUS ctUS), slUS⟩)
    (cUS : PySem.W.codeIn K cdUS "Unlike.shown" = true)
    (kUS : PySem.W.keepIn K (.ref fUS) = true)
    (aBS : PySem.W.findIn K (.ref CB) "shown" = some (some (.ref fBS)))
    (iBS : PySem.W.isFn K (.ref fBS) = true)
    (lBS : K.lookup fBS = some ⟨ocBS, odBS, .func (PySem.W.fnOf "shown" "Both.shown" (defArgs sBotS) (defBody sBotS) (defScope sBotS) .none kVBS dcBS pmBS anBS cdBS ctBS), slBS⟩)
    (cBS : PySem.W.codeIn K cdBS "Both.shown" = true)
    (kBS : PySem.W.keepIn K (.ref fBS) = true)
    (aOS : PySem.W.findIn K (.ref CO) "shown" = some (some (.ref fOS)))
    (iOS : PySem.W.isFn K (.ref fOS) = true)
    (lOS : K.lookup fOS = some ⟨ocOS, odOS, .func (PySem.W.fnOf "shown" "Either.shown" (defArgs sEitS) (defBody sEitS) (defScope sEitS) .none kVOS dcOS pmOS anOS cdOS ctOS), slOS⟩)
    (cOS : PySem.W.codeIn K cdOS "Either.shown" = true)
    (kOS : PySem.W.keepIn K (.ref fOS) = true)
    (aTS : PySem.W.findIn K (.ref CT) "shown" = some (some (.ref fTS)))
    (iTS : PySem.W.isFn K (.ref fTS) = true)
    (lTS : K.lookup fTS = some ⟨ocTS, odTS, .func (PySem.W.fnOf "shown" "Not.shown" (defArgs sNotS) (defBody sNotS) (defScope sNotS) .none kVTS dcTS pmTS anTS cdTS ctTS), slTS⟩)
    (cTS : PySem.W.codeIn K cdTS "Not.shown" = true)
    (kTS : PySem.W.keepIn K (.ref fTS) = true)
    (aYH : PySem.W.findIn K (.ref CY) "holds" = some (some (.ref fYH)))
    (iYH : PySem.W.isFn K (.ref fYH) = true)
    (lYH : K.lookup fYH = some ⟨ocYH, odYH, .func (PySem.W.fnOf "holds" "Saying.holds" (defArgs sSayH) (defBody sSayH) (defScope sSayH) .none kVYH dcYH pmYH anYH cdYH ctYH), slYH⟩)
    (cYH : PySem.W.codeIn K cdYH "Saying.holds" = true)
    (kYH : PySem.W.keepIn K (.ref fYH) = true)
    (aLH : PySem.W.findIn K (.ref CQ) "holds" = some (some (.ref fLH)))
    (iLH : PySem.W.isFn K (.ref fLH) = true)
    (lLH : K.lookup fLH = some ⟨ocLH, odLH, .func (PySem.W.fnOf "holds" "Less.holds" (defArgs sLesH) (defBody sLesH) (defScope sLesH) .none kVLH dcLH pmLH anLH cdLH ctLH), slLH⟩)
    (cLH : PySem.W.codeIn K cdLH "Less.holds" = true)
    (kLH : PySem.W.keepIn K (.ref fLH) = true)
    (aAH : PySem.W.findIn K (.ref CA) "holds" = some (some (.ref fAH)))
    (iAH : PySem.W.isFn K (.ref fAH) = true)
    (lAH : K.lookup fAH = some ⟨ocAH, odAH, .func (PySem.W.fnOf "holds" "AtMost.holds" (defArgs sAtmH) (defBody sAtmH) (defScope sAtmH) .none kVAH dcAH pmAH anAH cdAH ctAH), slAH⟩)
    (cAH : PySem.W.codeIn K cdAH "AtMost.holds" = true)
    (kAH : PySem.W.keepIn K (.ref fAH) = true)
    (aEH : PySem.W.findIn K (.ref CE) "holds" = some (some (.ref fEH)))
    (iEH : PySem.W.isFn K (.ref fEH) = true)
    (lEH : K.lookup fEH = some ⟨ocEH, odEH, .func (PySem.W.fnOf "holds" "Equal.holds" (defArgs sEquH) (defBody sEquH) (defScope sEquH) .none kVEH dcEH pmEH anEH cdEH ctEH), slEH⟩)
    (cEH : PySem.W.codeIn K cdEH "Equal.holds" = true)
    (kEH : PySem.W.keepIn K (.ref fEH) = true)
    (aUH : PySem.W.findIn K (.ref CU) "holds" = some (some (.ref fUH)))
    (iUH : PySem.W.isFn K (.ref fUH) = true)
    (lUH : K.lookup fUH = some ⟨ocUH, odUH, .func (PySem.W.fnOf "holds" "Unlike.holds" (defArgs sUnlH) (defBody sUnlH) (defScope sUnlH) .none kVUH dcUH pmUH anUH cdUH ctUH), slUH⟩)
    (cUH : PySem.W.codeIn K cdUH "Unlike.holds" = true)
    (kUH : PySem.W.keepIn K (.ref fUH) = true)
    (aBH : PySem.W.findIn K (.ref CB) "holds" = some (some (.ref fBH)))
    (iBH : PySem.W.isFn K (.ref fBH) = true)
    (lBH : K.lookup fBH = some ⟨ocBH, odBH, .func (PySem.W.fnOf "holds" "Both.holds" (defArgs sBotH) (defBody sBotH) (defScope sBotH) .none kVBH dcBH pmBH anBH cdBH ctBH), slBH⟩)
    (cBH : PySem.W.codeIn K cdBH "Both.holds" = true)
    (kBH : PySem.W.keepIn K (.ref fBH) = true)
    (aOH : PySem.W.findIn K (.ref CO) "holds" = some (some (.ref fOH)))
    (iOH : PySem.W.isFn K (.ref fOH) = true)
    (lOH : K.lookup fOH = some ⟨ocOH, odOH, .func (PySem.W.fnOf "holds" "Either.holds" (defArgs sEitH) (defBody sEitH) (defScope sEitH) .none kVOH dcOH pmOH anOH cdOH ctOH), slOH⟩)
    (cOH : PySem.W.codeIn K cdOH "Either.holds" = true)
    (kOH : PySem.W.keepIn K (.ref fOH) = true)
    (aTH : PySem.W.findIn K (.ref CT) "holds" = some (some (.ref fTH)))
    (iTH : PySem.W.isFn K (.ref fTH) = true)
    (lTH : K.lookup fTH = some ⟨ocTH, odTH, .func (PySem.W.fnOf "holds" "Not.holds" (defArgs sNotH) (defBody sNotH) (defScope sNotH) .none kVTH dcTH pmTH anTH cdTH ctTH), slTH⟩)
    (cTH : PySem.W.codeIn K cdTH "Not.holds" = true)
    (kTH : PySem.W.keepIn K (.ref fTH) = true)
    (aYN : PySem.W.findIn K (.ref CY) "named" = some (some (.ref fYN)))
    (iYN : PySem.W.isFn K (.ref fYN) = true)
    (lYN : K.lookup fYN = some ⟨ocYN, odYN, .func (PySem.W.fnOf "named" "Saying.named" (defArgs sSayN) (defBody sSayN) (defScope sSayN) .none kVYN dcYN pmYN anYN cdYN ctYN), slYN⟩)
    (cYN : PySem.W.codeIn K cdYN "Saying.named" = true)
    (kYN : PySem.W.keepIn K (.ref fYN) = true)
    (aTNn : PySem.W.findIn K (.ref CT) "named" = some (some (.ref fTNn)))
    (iTNn : PySem.W.isFn K (.ref fTNn) = true)
    (lTNn : K.lookup fTNn = some ⟨ocTNn, odTNn, .func (PySem.W.fnOf "named" "Not.named" (defArgs sNotN) (defBody sNotN) (defScope sNotN) .none kVTNn dcTNn pmTNn anTNn cdTNn ctTNn), slTNn⟩)
    (cTNn : PySem.W.codeIn K cdTNn "Not.named" = true)
    (kTNn : PySem.W.keepIn K (.ref fTNn) = true)
    (aRA : PySem.W.findIn K (.ref CR) "ahead" = some (some (.ref fRA)))
    (iRA : PySem.W.isFn K (.ref fRA) = true)
    (lRA : K.lookup fRA = some ⟨ocRA, odRA, .func (PySem.W.fnOf "ahead" "Reader.ahead" (defArgs sReaA) (defBody sReaA) (defScope sReaA) .none kVRA dcRA pmRA anRA cdRA ctRA), slRA⟩)
    (cRA : PySem.W.codeIn K cdRA "Reader.ahead" = true)
    (kRA : PySem.W.keepIn K (.ref fRA) = true)
    (aRT : PySem.W.findIn K (.ref CR) "take" = some (some (.ref fRT)))
    (iRT : PySem.W.isFn K (.ref fRT) = true)
    (lRT : K.lookup fRT = some ⟨ocRT, odRT, .func (PySem.W.fnOf "take" "Reader.take" (defArgs sReaT) (defBody sReaT) (defScope sReaT) .none kVRT dcRT pmRT anRT cdRT ctRT), slRT⟩)
    (cRT : PySem.W.codeIn K cdRT "Reader.take" = true)
    (kRT : PySem.W.keepIn K (.ref fRT) = true)
    (aRW : PySem.W.findIn K (.ref CR) "take_word" = some (some (.ref fRW)))
    (iRW : PySem.W.isFn K (.ref fRW) = true)
    (lRW : K.lookup fRW = some ⟨ocRW, odRW, .func (PySem.W.fnOf "take_word" "Reader.take_word" (defArgs sReaW) (defBody sReaW) (defScope sReaW) .none kVRW dcRW pmRW anRW cdRW ctRW), slRW⟩)
    (cRW : PySem.W.codeIn K cdRW "Reader.take_word" = true)
    (kRW : PySem.W.keepIn K (.ref fRW) = true)
    (aRE : PySem.W.findIn K (.ref CR) "take_end" = some (some (.ref fRE)))
    (iRE : PySem.W.isFn K (.ref fRE) = true)
    (lRE : K.lookup fRE = some ⟨ocRE, odRE, .func (PySem.W.fnOf "take_end" "Reader.take_end" (defArgs sReaE) (defBody sReaE) (defScope sReaE) .none kVRE dcRE pmRE anRE cdRE ctRE), slRE⟩)
    (cRE : PySem.W.codeIn K cdRE "Reader.take_end" = true)
    (kRE : PySem.W.keepIn K (.ref fRE) = true)
    (aCe : PySem.W.nsIn K mainGlobals "_law_cell_at" = some (some (.ref fCe)))
    (lCe : K.lookup fCe = some ⟨ocCe, odCe, .func (PySem.W.fnOf "_law_cell_at" "_law_cell_at" (defArgs sCell) (defBody sCell) (defScope sCell) .none kVCe dcCe pmCe anCe cdCe ctCe), slCe⟩)
    (cCe : PySem.W.codeIn K cdCe "_law_cell_at" = true)
    (kCe : PySem.W.keepIn K (.ref fCe) = true)
    (aMi : PySem.W.nsIn K mainGlobals "_law_mix" = some (some (.ref fMi)))
    (lMi : K.lookup fMi = some ⟨ocMi, odMi, .func (PySem.W.fnOf "_law_mix" "_law_mix" (defArgs sMix) (defBody sMix) (defScope sMix) .none kVMi dcMi pmMi anMi cdMi ctMi), slMi⟩)
    (cMi : PySem.W.codeIn K cdMi "_law_mix" = true)
    (kMi : PySem.W.keepIn K (.ref fMi) = true)
    (aOw : PySem.W.nsIn K mainGlobals "_law_own" = some (some (.ref fOw)))
    (lOw : K.lookup fOw = some ⟨ocOw, odOw, .func (PySem.W.fnOf "_law_own" "_law_own" (defArgs sOwn) (defBody sOwn) (defScope sOwn) .none kVOw dcOw pmOw anOw cdOw ctOw), slOw⟩)
    (cOw : PySem.W.codeIn K cdOw "_law_own" = true)
    (kOw : PySem.W.keepIn K (.ref fOw) = true)
    (aPo : PySem.W.nsIn K mainGlobals "_law_pool" = some (some (.ref fPo)))
    (lPo : K.lookup fPo = some ⟨ocPo, odPo, .func (PySem.W.fnOf "_law_pool" "_law_pool" (defArgs sPool) (defBody sPool) (defScope sPool) .none kVPo dcPo pmPo anPo cdPo ctPo), slPo⟩)
    (cPo : PySem.W.codeIn K cdPo "_law_pool" = true)
    (kPo : PySem.W.keepIn K (.ref fPo) = true)
    (aLe : PySem.W.nsIn K mainGlobals "_law_leaf" = some (some (.ref fLe)))
    (lLe : K.lookup fLe = some ⟨ocLe, odLe, .func (PySem.W.fnOf "_law_leaf" "_law_leaf" (defArgs sLeaf) (defBody sLeaf) (defScope sLeaf) .none kVLe dcLe pmLe anLe cdLe ctLe), slLe⟩)
    (cLe : PySem.W.codeIn K cdLe "_law_leaf" = true)
    (kLe : PySem.W.keepIn K (.ref fLe) = true)
    (aSu : PySem.W.nsIn K mainGlobals "_law_sum" = some (some (.ref fSu)))
    (lSu : K.lookup fSu = some ⟨ocSu, odSu, .func (PySem.W.fnOf "_law_sum" "_law_sum" (defArgs sSum) (defBody sSum) (defScope sSum) .none kVSu dcSu pmSu anSu cdSu ctSu), slSu⟩)
    (cSu : PySem.W.codeIn K cdSu "_law_sum" = true)
    (kSu : PySem.W.keepIn K (.ref fSu) = true)
    (aSt : PySem.W.nsIn K mainGlobals "_law_sum_text" = some (some (.ref fSt)))
    (lSt : K.lookup fSt = some ⟨ocSt, odSt, .func (PySem.W.fnOf "_law_sum_text" "_law_sum_text" (defArgs sText) (defBody sText) (defScope sText) .none kVSt dcSt pmSt anSt cdSt ctSt), slSt⟩)
    (cSt : PySem.W.codeIn K cdSt "_law_sum_text" = true)
    (kSt : PySem.W.keepIn K (.ref fSt) = true)
    (aWo : PySem.W.nsIn K mainGlobals "_law_worth" = some (some (.ref fWo)))
    (lWo : K.lookup fWo = some ⟨ocWo, odWo, .func (PySem.W.fnOf "_law_worth" "_law_worth" (defArgs sWorth) (defBody sWorth) (defScope sWorth) .none kVWo dcWo pmWo anWo cdWo ctWo), slWo⟩)
    (cWo : PySem.W.codeIn K cdWo "_law_worth" = true)
    (kWo : PySem.W.keepIn K (.ref fWo) = true)
    (aSa : PySem.W.nsIn K mainGlobals "_law_saying" = some (some (.ref fSa)))
    (lSa : K.lookup fSa = some ⟨ocSa, odSa, .func (PySem.W.fnOf "_law_saying" "_law_saying" (defArgs sSaying) (defBody sSaying) (defScope sSaying) .none kVSa dcSa pmSa anSa cdSa ctSa), slSa⟩)
    (cSa : PySem.W.codeIn K cdSa "_law_saying" = true)
    (kSa : PySem.W.keepIn K (.ref fSa) = true)
    (aTe : PySem.W.nsIn K mainGlobals "_law_text" = some (some (.ref fTe)))
    (lTe : K.lookup fTe = some ⟨ocTe, odTe, .func (PySem.W.fnOf "_law_text" "_law_text" (defArgs sTxy) (defBody sTxy) (defScope sTxy) .none kVTe dcTe pmTe anTe cdTe ctTe), slTe⟩)
    (cTe : PySem.W.codeIn K cdTe "_law_text" = true)
    (kTe : PySem.W.keepIn K (.ref fTe) = true)
    (aHo : PySem.W.nsIn K mainGlobals "_law_holds" = some (some (.ref fHo)))
    (lHo : K.lookup fHo = some ⟨ocHo, odHo, .func (PySem.W.fnOf "_law_holds" "_law_holds" (defArgs sHolds) (defBody sHolds) (defScope sHolds) .none kVHo dcHo pmHo anHo cdHo ctHo), slHo⟩)
    (cHo : PySem.W.codeIn K cdHo "_law_holds" = true)
    (kHo : PySem.W.keepIn K (.ref fHo) = true)
    (aVa : PySem.W.nsIn K mainGlobals "_law_values" = some (some (.ref fVa)))
    (lVa : K.lookup fVa = some ⟨ocVa, odVa, .func (PySem.W.fnOf "_law_values" "_law_values" (defArgs sVals) (defBody sVals) (defScope sVals) .none kVVa dcVa pmVa anVa cdVa ctVa), slVa⟩)
    (cVa : PySem.W.codeIn K cdVa "_law_values" = true)
    (kVa : PySem.W.keepIn K (.ref fVa) = true)
    (aSp : PySem.W.nsIn K mainGlobals "_law_spaced" = some (some (.ref fSp)))
    (lSp : K.lookup fSp = some ⟨ocSp, odSp, .func (PySem.W.fnOf "_law_spaced" "_law_spaced" (defArgs sSpaced) (defBody sSpaced) (defScope sSpaced) .none kVSp dcSp pmSp anSp cdSp ctSp), slSp⟩)
    (cSp : PySem.W.codeIn K cdSp "_law_spaced" = true)
    (kSp : PySem.W.keepIn K (.ref fSp) = true)
    (aCm : PySem.W.nsIn K mainGlobals "compared" = some (some (.ref fCm)))
    (lCm : K.lookup fCm = some ⟨ocCm, odCm, .func (PySem.W.fnOf "compared" "compared" (defArgs sCmp) (defBody sCmp) (defScope sCmp) .none kVCm dcCm pmCm anCm cdCm ctCm), slCm⟩)
    (cCm : PySem.W.codeIn K cdCm "compared" = true)
    (kCm : PySem.W.keepIn K (.ref fCm) = true)
    (aTw : PySem.W.nsIn K mainGlobals "names_of_two" = some (some (.ref fTw)))
    (lTw : K.lookup fTw = some ⟨ocTw, odTw, .func (PySem.W.fnOf "names_of_two" "names_of_two" (defArgs sTwoO) (defBody sTwoO) (defScope sTwoO) .none kVTw dcTw pmTw anTw cdTw ctTw), slTw⟩)
    (cTw : PySem.W.codeIn K cdTw "names_of_two" = true)
    (kTw : PySem.W.keepIn K (.ref fTw) = true)
    (aMo : PySem.W.nsIn K mainGlobals "made_of" = some (some (.ref fMo)))
    (lMo : K.lookup fMo = some ⟨ocMo, odMo, .func (PySem.W.fnOf "made_of" "made_of" (defArgs sMade) (defBody sMade) (defScope sMade) .none kVMo dcMo pmMo anMo cdMo ctMo), slMo⟩)
    (cMo : PySem.W.codeIn K cdMo "made_of" = true)
    (kMo : PySem.W.keepIn K (.ref fMo) = true)
    (aNu : PySem.W.nsIn K mainGlobals "is_number" = some (some (.ref fNu)))
    (lNu : K.lookup fNu = some ⟨ocNu, odNu, .func (PySem.W.fnOf "is_number" "is_number" (defArgs sIsNum) (defBody sIsNum) (defScope sIsNum) .none kVNu dcNu pmNu anNu cdNu ctNu), slNu⟩)
    (cNu : PySem.W.codeIn K cdNu "is_number" = true)
    (kNu : PySem.W.keepIn K (.ref fNu) = true)
    (aNm : PySem.W.nsIn K mainGlobals "is_name" = some (some (.ref fNm)))
    (lNm : K.lookup fNm = some ⟨ocNm, odNm, .func (PySem.W.fnOf "is_name" "is_name" (defArgs sIsNam) (defBody sIsNam) (defScope sIsNam) .none kVNm dcNm pmNm anNm cdNm ctNm), slNm⟩)
    (cNm : PySem.W.codeIn K cdNm "is_name" = true)
    (kNm : PySem.W.keepIn K (.ref fNm) = true)
    (aFa : PySem.W.nsIn K mainGlobals "is_far_name" = some (some (.ref fFa)))
    (lFa : K.lookup fFa = some ⟨ocFa, odFa, .func (PySem.W.fnOf "is_far_name" "is_far_name" (defArgs sIsFar) (defBody sIsFar) (defScope sIsFar) .none kVFa dcFa pmFa anFa cdFa ctFa), slFa⟩)
    (cFa : PySem.W.codeIn K cdFa "is_far_name" = true)
    (kFa : PySem.W.keepIn K (.ref fFa) = true)
    (aWd : PySem.W.nsIn K mainGlobals "is_word" = some (some (.ref fWd)))
    (lWd : K.lookup fWd = some ⟨ocWd, odWd, .func (PySem.W.fnOf "is_word" "is_word" (defArgs sIsWord) (defBody sIsWord) (defScope sIsWord) .none kVWd dcWd pmWd anWd cdWd ctWd), slWd⟩)
    (cWd : PySem.W.codeIn K cdWd "is_word" = true)
    (kWd : PySem.W.keepIn K (.ref fWd) = true)
    (aOp : PySem.W.nsIn K mainGlobals "most_open" = some (some (.ref fOp)))
    (lOp : K.lookup fOp = some ⟨ocOp, odOp, .func (PySem.W.fnOf "most_open" "most_open" (defArgs sOpen) (defBody sOpen) (defScope sOpen) .none kVOp dcOp pmOp anOp cdOp ctOp), slOp⟩)
    (cOp : PySem.W.codeIn K cdOp "most_open" = true)
    (kOp : PySem.W.keepIn K (.ref fOp) = true)
    (aWs : PySem.W.nsIn K mainGlobals "words" = some (some (.ref fWs)))
    (lWs : K.lookup fWs = some ⟨ocWs, odWs, .func (PySem.W.fnOf "words" "words" (defArgs sWords) (defBody sWords) (defScope sWords) .none kVWs dcWs pmWs anWs cdWs ctWs), slWs⟩)
    (cWs : PySem.W.codeIn K cdWs "words" = true)
    (kWs : PySem.W.keepIn K (.ref fWs) = true)
    (aSi : PySem.W.nsIn K mainGlobals "sum_in" = some (some (.ref fSi)))
    (lSi : K.lookup fSi = some ⟨ocSi, odSi, .func (PySem.W.fnOf "sum_in" "sum_in" (defArgs sSumIn) (defBody sSumIn) (defScope sSumIn) .none kVSi dcSi pmSi anSi cdSi ctSi), slSi⟩)
    (cSi : PySem.W.codeIn K cdSi "sum_in" = true)
    (kSi : PySem.W.keepIn K (.ref fSi) = true)
    (aBi : PySem.W.nsIn K mainGlobals "bracketed_sum_in" = some (some (.ref fBi)))
    (lBi : K.lookup fBi = some ⟨ocBi, odBi, .func (PySem.W.fnOf "bracketed_sum_in" "bracketed_sum_in" (defArgs sBraIn) (defBody sBraIn) (defScope sBraIn) .none kVBi dcBi pmBi anBi cdBi ctBi), slBi⟩)
    (cBi : PySem.W.codeIn K cdBi "bracketed_sum_in" = true)
    (kBi : PySem.W.keepIn K (.ref fBi) = true)
    (aYi : PySem.W.nsIn K mainGlobals "saying_in" = some (some (.ref fYi)))
    (lYi : K.lookup fYi = some ⟨ocYi, odYi, .func (PySem.W.fnOf "saying_in" "saying_in" (defArgs sSayIn) (defBody sSayIn) (defScope sSayIn) .none kVYi dcYi pmYi anYi cdYi ctYi), slYi⟩)
    (cYi : PySem.W.codeIn K cdYi "saying_in" = true)
    (kYi : PySem.W.keepIn K (.ref fYi) = true)
    (aCi : PySem.W.nsIn K mainGlobals "compared_in" = some (some (.ref fCi)))
    (lCi : K.lookup fCi = some ⟨ocCi, odCi, .func (PySem.W.fnOf "compared_in" "compared_in" (defArgs sCmpIn) (defBody sCmpIn) (defScope sCmpIn) .none kVCi dcCi pmCi anCi cdCi ctCi), slCi⟩)
    (cCi : PySem.W.codeIn K cdCi "compared_in" = true)
    (kCi : PySem.W.keepIn K (.ref fCi) = true)
    (aBj : PySem.W.nsIn K mainGlobals "bracketed_saying_in" = some (some (.ref fBj)))
    (lBj : K.lookup fBj = some ⟨ocBj, odBj, .func (PySem.W.fnOf "bracketed_saying_in" "bracketed_saying_in" (defArgs sBrsIn) (defBody sBrsIn) (defScope sBrsIn) .none kVBj dcBj pmBj anBj cdBj ctBj), slBj⟩)
    (cBj : PySem.W.codeIn K cdBj "bracketed_saying_in" = true)
    (kBj : PySem.W.keepIn K (.ref fBj) = true)
    (aDi : PySem.W.nsIn K mainGlobals "denied_in" = some (some (.ref fDi)))
    (lDi : K.lookup fDi = some ⟨ocDi, odDi, .func (PySem.W.fnOf "denied_in" "denied_in" (defArgs sDenIn) (defBody sDenIn) (defScope sDenIn) .none kVDi dcDi pmDi anDi cdDi ctDi), slDi⟩)
    (cDi : PySem.W.codeIn K cdDi "denied_in" = true)
    (kDi : PySem.W.keepIn K (.ref fDi) = true)
    (aRs : PySem.W.nsIn K mainGlobals "read_sum" = some (some (.ref fRs)))
    (lRs : K.lookup fRs = some ⟨ocRs, odRs, .func (PySem.W.fnOf "read_sum" "read_sum" (defArgs sReadS) (defBody sReadS) (defScope sReadS) .none kVRs dcRs pmRs anRs cdRs ctRs), slRs⟩)
    (cRs : PySem.W.codeIn K cdRs "read_sum" = true)
    (kRs : PySem.W.keepIn K (.ref fRs) = true)
    (aRy : PySem.W.nsIn K mainGlobals "read_saying" = some (some (.ref fRy)))
    (lRy : K.lookup fRy = some ⟨ocRy, odRy, .func (PySem.W.fnOf "read_saying" "read_saying" (defArgs sReadY) (defBody sReadY) (defScope sReadY) .none kVRy dcRy pmRy anRy cdRy ctRy), slRy⟩)
    (cRy : PySem.W.codeIn K cdRy "read_saying" = true)
    (kRy : PySem.W.keepIn K (.ref fRy) = true)
    (aBr : PySem.W.nsIn K mainGlobals "bracketed_sums" = some (some (.ref fBr)))
    (lBr : K.lookup fBr = some ⟨ocBr, odBr, .func (PySem.W.fnOf "bracketed" "bracketed" (defArgs sBra) (defBody sBra) (defScope sBra) .none kVBr dcBr pmBr anBr cdBr ctBr), slBr⟩)
    (cBr : PySem.W.codeIn K cdBr "bracketed" = true)
    (kBr : PySem.W.keepIn K (.ref fBr) = true)
    (aBs : PySem.W.nsIn K mainGlobals "bracketed_sayings" = some (some (.ref fBs)))
    (lBs : K.lookup fBs = some ⟨ocBs, odBs, .func (PySem.W.fnOf "bracketed" "bracketed" (defArgs sBrs) (defBody sBrs) (defScope sBrs) .none kVBs dcBs pmBs anBs cdBs ctBs), slBs⟩)
    (cBs : PySem.W.codeIn K cdBs "bracketed" = true)
    (kBs : PySem.W.keepIn K (.ref fBs) = true)
    (aL : PySem.W.nsIn K mainGlobals "law" = some (some (.ref fL)))
    (lL : K.lookup fL = some ⟨ocL, odL, .func (PySem.W.fnOf "law" "law" (defArgs sLaw) (defBody sLaw) (defScope sLaw) .none kVL dcL pmL anL cdL ctL), slL⟩)
    (cL : PySem.W.codeIn K cdL "law" = true)
    (kL : PySem.W.keepIn K (.ref fL) = true)
    (z_len : PySem.W.nsIn K mainGlobals "len" = some none)
    (z_range : PySem.W.nsIn K mainGlobals "range" = some none)
    (z_isinstance : PySem.W.nsIn K mainGlobals "isinstance" = some none)
    (z_str : PySem.W.nsIn K mainGlobals "str" = some none)
    (z_int : PySem.W.nsIn K mainGlobals "int" = some none)
    (z_list : PySem.W.nsIn K mainGlobals "list" = some none)
    (z_tuple : PySem.W.nsIn K mainGlobals "tuple" = some none)
    (z_bool : PySem.W.nsIn K mainGlobals "bool" = some none)
    (z_dict : PySem.W.nsIn K mainGlobals "dict" = some none)
    (z_sorted : PySem.W.nsIn K mainGlobals "sorted" = some none)
    (z_set : PySem.W.nsIn K mainGlobals "set" = some none)
    (z_max : PySem.W.nsIn K mainGlobals "max" = some none)
    (z_all : PySem.W.nsIn K mainGlobals "all" = some none)
    (hn : PySem.W.specialIn K (.builtin "object.__class__") "__get__" = some (some (.builtin "getset_descriptor.__get__")))
    (ht : PySem.W.takesIn K (.builtin "object.__class__") = some true)
    (hcN : PySem.W.findIn K (.ref CN) "__class__" = some (some (.builtin "object.__class__")))
    (hmN : PySem.W.mroIn K CN (.type "object") = some true)
    (hkN : PySem.W.mroIn K CN (.ref CS) = some true)
    (hcM : PySem.W.findIn K (.ref CM) "__class__" = some (some (.builtin "object.__class__")))
    (hmM : PySem.W.mroIn K CM (.type "object") = some true)
    (hkM : PySem.W.mroIn K CM (.ref CS) = some true)
    (hcP : PySem.W.findIn K (.ref CP) "__class__" = some (some (.builtin "object.__class__")))
    (hmP : PySem.W.mroIn K CP (.type "object") = some true)
    (hkP : PySem.W.mroIn K CP (.ref CS) = some true)
    (hcI : PySem.W.findIn K (.ref CI) "__class__" = some (some (.builtin "object.__class__")))
    (hmI : PySem.W.mroIn K CI (.type "object") = some true)
    (hkI : PySem.W.mroIn K CI (.ref CS) = some true)
    (hcX : PySem.W.findIn K (.ref CX) "__class__" = some (some (.builtin "object.__class__")))
    (hmX : PySem.W.mroIn K CX (.type "object") = some true)
    (hkX : PySem.W.mroIn K CX (.ref CS) = some true)
    (hcY : PySem.W.findIn K (.ref CY) "__class__" = some (some (.builtin "object.__class__")))
    (hmY : PySem.W.mroIn K CY (.type "object") = some true)
    (hcQ : PySem.W.findIn K (.ref CQ) "__class__" = some (some (.builtin "object.__class__")))
    (hmQ : PySem.W.mroIn K CQ (.type "object") = some true)
    (hkQ : PySem.W.mroIn K CQ (.ref CY) = some true)
    (hcA : PySem.W.findIn K (.ref CA) "__class__" = some (some (.builtin "object.__class__")))
    (hmA : PySem.W.mroIn K CA (.type "object") = some true)
    (hkA : PySem.W.mroIn K CA (.ref CY) = some true)
    (hcE : PySem.W.findIn K (.ref CE) "__class__" = some (some (.builtin "object.__class__")))
    (hmE : PySem.W.mroIn K CE (.type "object") = some true)
    (hkE : PySem.W.mroIn K CE (.ref CY) = some true)
    (hcU : PySem.W.findIn K (.ref CU) "__class__" = some (some (.builtin "object.__class__")))
    (hmU : PySem.W.mroIn K CU (.type "object") = some true)
    (hkU : PySem.W.mroIn K CU (.ref CY) = some true)
    (hcB : PySem.W.findIn K (.ref CB) "__class__" = some (some (.builtin "object.__class__")))
    (hmB : PySem.W.mroIn K CB (.type "object") = some true)
    (hkB : PySem.W.mroIn K CB (.ref CY) = some true)
    (hcO : PySem.W.findIn K (.ref CO) "__class__" = some (some (.builtin "object.__class__")))
    (hmO : PySem.W.mroIn K CO (.type "object") = some true)
    (hkO : PySem.W.mroIn K CO (.ref CY) = some true)
    (hcT : PySem.W.findIn K (.ref CT) "__class__" = some (some (.builtin "object.__class__")))
    (hmT : PySem.W.mroIn K CT (.type "object") = some true)
    (hkT : PySem.W.mroIn K CT (.ref CY) = some true)
    (hmS : PySem.W.mroIn K CS (.type "object") = some true)
    (tyY : PySem.W.typeIn K (.ref CY) = some (.type "type"))
    (tyS : PySem.W.typeIn K (.ref CS) = some (.type "type"))
    (zLt : PySem.W.nsIn K mainGlobals "LETTERS" = some (some (.str xLt tLt)))
    (eLt : xLt = lettersW)
    (zFg : PySem.W.nsIn K mainGlobals "FIGURES" = some (some (.str xFg tFg)))
    (eFg : xFg = figuresW)
    (z8 : PySem.W.nsIn K mainGlobals "LONGEST_NAME" = some (some (.int 8 t8)))
    (z2 : PySem.W.nsIn K mainGlobals "LONGEST_NUMBER" = some (some (.int 2 t2)))
    (z300 : PySem.W.nsIn K mainGlobals "MOST_WORDS" = some (some (.int 300 t300)))
    (zM8 : PySem.W.nsIn K mainGlobals "MOST_OPEN" = some (some (.int 8 tM8)))
    (zO : PySem.W.nsIn K mainGlobals "OWN_WORDS" = some (some (.ref adO)))
    (zS : PySem.W.nsIn K mainGlobals "SIGNS" = some (some (.ref adS)))
    (lkO : K.lookup adO = some ⟨.type "tuple", odO, .seq itO nO, slO⟩)
    (szO : itO.size = 18)
    (vO : Vals (ownL.map V.str) itO.toList)
    (lkS : K.lookup adS = some ⟨.type "tuple", odS, .seq itS nS, slS⟩)
    (szS : itS.size = 13)
    (vS : Vals (signsW.map V.str) itS.toList)
    : ∃ fd : FuncData, (∀ (s : Shared) (v : Value), BindsTo s fd ⟨[v], []⟩ [("_law_script", v)]) ∧ ∀ base : Heap, K.In base → base.Ns mainGlobals mg → FnOk l.prog w K mg base CX0 60 fa fd ["_law_script"] (spLaw K) := by
  have e := hfa.symm.trans (PySem.W.mg_of X G aL)
  cases e
  have FNI := fun_mk (st := sNumI) lNI cNI kNI
  have bNI := FNI.binds (ps := ["self", "number"]) fun _ _ _ _ _ _ us hl => match us, hl with | [_, _], _ => rfl
  have FMI := fun_mk (st := sNamI) lMI cMI kMI
  have bMI := FMI.binds (ps := ["self", "name"]) fun _ _ _ _ _ _ us hl => match us, hl with | [_, _], _ => rfl
  have FTI := fun_mk (st := sTwoI) lTI cTI kTI
  have bTI := FTI.binds (ps := ["self", "one", "other"]) fun _ _ _ _ _ _ us hl => match us, hl with | [_, _, _], _ => rfl
  have FPI := fun_mk (st := sPaiI) lPI cPI kPI
  have bPI := FPI.binds (ps := ["self", "one", "other"]) fun _ _ _ _ _ _ us hl => match us, hl with | [_, _, _], _ => rfl
  have FOI := fun_mk (st := sNotI) lOI cOI kOI
  have bOI := FOI.binds (ps := ["self", "one"]) fun _ _ _ _ _ _ us hl => match us, hl with | [_, _], _ => rfl
  have FRI := fun_mk (st := sReaI) lRI cRI kRI
  have bRI := FRI.binds (ps := ["self", "pieces"]) fun _ _ _ _ _ _ us hl => match us, hl with | [_, _], _ => rfl
  have FTN := fun_mk (st := sTwoN) lTN cTN kTN
  have bTN := FTN.binds (ps := ["self"]) fun _ _ _ _ _ _ us hl => match us, hl with | [_], _ => rfl
  have FPN := fun_mk (st := sPaiN) lPN cPN kPN
  have bPN := FPN.binds (ps := ["self"]) fun _ _ _ _ _ _ us hl => match us, hl with | [_], _ => rfl
  have FNS := fun_mk (st := sNumS) lNS cNS kNS
  have bNS := FNS.binds (ps := ["self"]) fun _ _ _ _ _ _ us hl => match us, hl with | [_], _ => rfl
  have FMS := fun_mk (st := sNamS) lMS cMS kMS
  have bMS := FMS.binds (ps := ["self"]) fun _ _ _ _ _ _ us hl => match us, hl with | [_], _ => rfl
  have FPS := fun_mk (st := sPluS) lPS cPS kPS
  have bPS := FPS.binds (ps := ["self"]) fun _ _ _ _ _ _ us hl => match us, hl with | [_], _ => rfl
  have FIS := fun_mk (st := sMinS) lIS cIS kIS
  have bIS := FIS.binds (ps := ["self"]) fun _ _ _ _ _ _ us hl => match us, hl with | [_], _ => rfl
  have FXS := fun_mk (st := sTimS) lXS cXS kXS
  have bXS := FXS.binds (ps := ["self"]) fun _ _ _ _ _ _ us hl => match us, hl with | [_], _ => rfl
  have FNW := fun_mk (st := sNumW) lNW cNW kNW
  have bNW := FNW.binds (ps := ["self", "values"]) fun _ _ _ _ _ _ us hl => match us, hl with | [_, _], _ => rfl
  have FMW := fun_mk (st := sNamW) lMW cMW kMW
  have bMW := FMW.binds (ps := ["self", "values"]) fun _ _ _ _ _ _ us hl => match us, hl with | [_, _], _ => rfl
  have FPW := fun_mk (st := sPluW) lPW cPW kPW
  have bPW := FPW.binds (ps := ["self", "values"]) fun _ _ _ _ _ _ us hl => match us, hl with | [_, _], _ => rfl
  have FIW := fun_mk (st := sMinW) lIW cIW kIW
  have bIW := FIW.binds (ps := ["self", "values"]) fun _ _ _ _ _ _ us hl => match us, hl with | [_, _], _ => rfl
  have FXW := fun_mk (st := sTimW) lXW cXW kXW
  have bXW := FXW.binds (ps := ["self", "values"]) fun _ _ _ _ _ _ us hl => match us, hl with | [_, _], _ => rfl
  have FNN := fun_mk (st := sSumN) lNN cNN kNN
  have bNN := FNN.binds (ps := ["self"]) fun _ _ _ _ _ _ us hl => match us, hl with | [_], _ => rfl
  have FMN := fun_mk (st := sNamN) lMN cMN kMN
  have bMN := FMN.binds (ps := ["self"]) fun _ _ _ _ _ _ us hl => match us, hl with | [_], _ => rfl
  have FYS := fun_mk (st := sSayS) lYS cYS kYS
  have bYS := FYS.binds (ps := ["self"]) fun _ _ _ _ _ _ us hl => match us, hl with | [_], _ => rfl
  have FLS := fun_mk (st := sLesS) lLS cLS kLS
  have bLS := FLS.binds (ps := ["self"]) fun _ _ _ _ _ _ us hl => match us, hl with | [_], _ => rfl
  have FAS := fun_mk (st := sAtmS) lAS cAS kAS
  have bAS := FAS.binds (ps := ["self"]) fun _ _ _ _ _ _ us hl => match us, hl with | [_], _ => rfl
  have FES := fun_mk (st := sEquS) lES cES kES
  have bES := FES.binds (ps := ["self"]) fun _ _ _ _ _ _ us hl => match us, hl with | [_], _ => rfl
  have FUS := fun_mk (st := sUnlS) lUS cUS kUS
  have bUS := FUS.binds (ps := ["self"]) fun _ _ _ _ _ _ us hl => match us, hl with | [_], _ => rfl
  have FBS := fun_mk (st := sBotS) lBS cBS kBS
  have bBS := FBS.binds (ps := ["self"]) fun _ _ _ _ _ _ us hl => match us, hl with | [_], _ => rfl
  have FOS := fun_mk (st := sEitS) lOS cOS kOS
  have bOS := FOS.binds (ps := ["self"]) fun _ _ _ _ _ _ us hl => match us, hl with | [_], _ => rfl
  have FTS := fun_mk (st := sNotS) lTS cTS kTS
  have bTS := FTS.binds (ps := ["self"]) fun _ _ _ _ _ _ us hl => match us, hl with | [_], _ => rfl
  have FYH := fun_mk (st := sSayH) lYH cYH kYH
  have bYH := FYH.binds (ps := ["self", "values"]) fun _ _ _ _ _ _ us hl => match us, hl with | [_, _], _ => rfl
  have FLH := fun_mk (st := sLesH) lLH cLH kLH
  have bLH := FLH.binds (ps := ["self", "values"]) fun _ _ _ _ _ _ us hl => match us, hl with | [_, _], _ => rfl
  have FAH := fun_mk (st := sAtmH) lAH cAH kAH
  have bAH := FAH.binds (ps := ["self", "values"]) fun _ _ _ _ _ _ us hl => match us, hl with | [_, _], _ => rfl
  have FEH := fun_mk (st := sEquH) lEH cEH kEH
  have bEH := FEH.binds (ps := ["self", "values"]) fun _ _ _ _ _ _ us hl => match us, hl with | [_, _], _ => rfl
  have FUH := fun_mk (st := sUnlH) lUH cUH kUH
  have bUH := FUH.binds (ps := ["self", "values"]) fun _ _ _ _ _ _ us hl => match us, hl with | [_, _], _ => rfl
  have FBH := fun_mk (st := sBotH) lBH cBH kBH
  have bBH := FBH.binds (ps := ["self", "values"]) fun _ _ _ _ _ _ us hl => match us, hl with | [_, _], _ => rfl
  have FOH := fun_mk (st := sEitH) lOH cOH kOH
  have bOH := FOH.binds (ps := ["self", "values"]) fun _ _ _ _ _ _ us hl => match us, hl with | [_, _], _ => rfl
  have FTH := fun_mk (st := sNotH) lTH cTH kTH
  have bTH := FTH.binds (ps := ["self", "values"]) fun _ _ _ _ _ _ us hl => match us, hl with | [_, _], _ => rfl
  have FYN := fun_mk (st := sSayN) lYN cYN kYN
  have bYN := FYN.binds (ps := ["self"]) fun _ _ _ _ _ _ us hl => match us, hl with | [_], _ => rfl
  have FTNn := fun_mk (st := sNotN) lTNn cTNn kTNn
  have bTNn := FTNn.binds (ps := ["self"]) fun _ _ _ _ _ _ us hl => match us, hl with | [_], _ => rfl
  have FRA := fun_mk (st := sReaA) lRA cRA kRA
  have bRA := FRA.binds (ps := ["self"]) fun _ _ _ _ _ _ us hl => match us, hl with | [_], _ => rfl
  have FRT := fun_mk (st := sReaT) lRT cRT kRT
  have bRT := FRT.binds (ps := ["self"]) fun _ _ _ _ _ _ us hl => match us, hl with | [_], _ => rfl
  have FRW := fun_mk (st := sReaW) lRW cRW kRW
  have bRW := FRW.binds (ps := ["self", "word"]) fun _ _ _ _ _ _ us hl => match us, hl with | [_, _], _ => rfl
  have FRE := fun_mk (st := sReaE) lRE cRE kRE
  have bRE := FRE.binds (ps := ["self"]) fun _ _ _ _ _ _ us hl => match us, hl with | [_], _ => rfl
  have FCe := fun_mk (st := sCell) lCe cCe kCe
  have bCe := FCe.binds (ps := ["_law_script", "_law_k"]) fun _ _ _ _ _ _ us hl => match us, hl with | [_, _], _ => rfl
  have FMi := fun_mk (st := sMix) lMi cMi kMi
  have bMi := FMi.binds (ps := ["_law_cell", "_law_k"]) fun _ _ _ _ _ _ us hl => match us, hl with | [_, _], _ => rfl
  have FOw := fun_mk (st := sOwn) lOw cOw kOw
  have bOw := FOw.binds (ps := []) fun _ _ _ _ _ _ us hl => match us, hl with | [], _ => rfl
  have FPo := fun_mk (st := sPool) lPo cPo kPo
  have bPo := FPo.binds (ps := ["_law_cell", "_law_other"]) fun _ _ _ _ _ _ us hl => match us, hl with | [_, _], _ => rfl
  have FLe := fun_mk (st := sLeaf) lLe cLe kLe
  have bLe := FLe.binds (ps := ["_law_cell", "_law_pool_here"]) fun _ _ _ _ _ _ us hl => match us, hl with | [_, _], _ => rfl
  have FSu := fun_mk (st := sSum) lSu cSu kSu
  have bSu := FSu.binds (ps := ["_law_cells", "_law_pool_here"]) fun _ _ _ _ _ _ us hl => match us, hl with | [_, _], _ => rfl
  have FSt := fun_mk (st := sText) lSt cSt kSt
  have bSt := FSt.binds (ps := ["_law_some"]) fun _ _ _ _ _ _ us hl => match us, hl with | [_], _ => rfl
  have FWo := fun_mk (st := sWorth) lWo cWo kWo
  have bWo := FWo.binds (ps := ["_law_some", "_law_values_here"]) fun _ _ _ _ _ _ us hl => match us, hl with | [_, _], _ => rfl
  have FSa := fun_mk (st := sSaying) lSa cSa kSa
  have bSa := FSa.binds (ps := ["_law_cells", "_law_pool_here"]) fun _ _ _ _ _ _ us hl => match us, hl with | [_, _], _ => rfl
  have FTe := fun_mk (st := sTxy) lTe cTe kTe
  have bTe := FTe.binds (ps := ["_law_some"]) fun _ _ _ _ _ _ us hl => match us, hl with | [_], _ => rfl
  have FHo := fun_mk (st := sHolds) lHo cHo kHo
  have bHo := FHo.binds (ps := ["_law_some", "_law_values_here"]) fun _ _ _ _ _ _ us hl => match us, hl with | [_, _], _ => rfl
  have FVa := fun_mk (st := sVals) lVa cVa kVa
  have bVa := FVa.binds (ps := ["_law_cells", "_law_pool_here"]) fun _ _ _ _ _ _ us hl => match us, hl with | [_, _], _ => rfl
  have FSp := fun_mk (st := sSpaced) lSp cSp kSp
  have bSp := FSp.binds (ps := ["_law_text_here", "_law_cells"]) fun _ _ _ _ _ _ us hl => match us, hl with | [_, _], _ => rfl
  have FCm := fun_mk (st := sCmp) lCm cCm kCm
  have bCm := FCm.binds (ps := ["one", "sign", "other"]) fun _ _ _ _ _ _ us hl => match us, hl with | [_, _, _], _ => rfl
  have FTw := fun_mk (st := sTwoO) lTw cTw kTw
  have bTw := FTw.binds (ps := ["one", "other"]) fun _ _ _ _ _ _ us hl => match us, hl with | [_, _], _ => rfl
  have FMo := fun_mk (st := sMade) lMo cMo kMo
  have bMo := FMo.binds (ps := ["piece", "signs", "longest"]) fun _ _ _ _ _ _ us hl => match us, hl with | [_, _, _], _ => rfl
  have FNu := fun_mk (st := sIsNum) lNu cNu kNu
  have bNu := FNu.binds (ps := ["piece"]) fun _ _ _ _ _ _ us hl => match us, hl with | [_], _ => rfl
  have FNm := fun_mk (st := sIsNam) lNm cNm kNm
  have bNm := FNm.binds (ps := ["piece"]) fun _ _ _ _ _ _ us hl => match us, hl with | [_], _ => rfl
  have FFa := fun_mk (st := sIsFar) lFa cFa kFa
  have bFa := FFa.binds (ps := ["piece"]) fun _ _ _ _ _ _ us hl => match us, hl with | [_], _ => rfl
  have FWd := fun_mk (st := sIsWord) lWd cWd kWd
  have bWd := FWd.binds (ps := ["piece"]) fun _ _ _ _ _ _ us hl => match us, hl with | [_], _ => rfl
  have FOp := fun_mk (st := sOpen) lOp cOp kOp
  have bOp := FOp.binds (ps := ["pieces"]) fun _ _ _ _ _ _ us hl => match us, hl with | [_], _ => rfl
  have FWs := fun_mk (st := sWords) lWs cWs kWs
  have bWs := FWs.binds (ps := ["text"]) fun _ _ _ _ _ _ us hl => match us, hl with | [_], _ => rfl
  have FSi := fun_mk (st := sSumIn) lSi cSi kSi
  have bSi := FSi.binds (ps := ["reader"]) fun _ _ _ _ _ _ us hl => match us, hl with | [_], _ => rfl
  have FBi := fun_mk (st := sBraIn) lBi cBi kBi
  have bBi := FBi.binds (ps := ["reader"]) fun _ _ _ _ _ _ us hl => match us, hl with | [_], _ => rfl
  have FYi := fun_mk (st := sSayIn) lYi cYi kYi
  have bYi := FYi.binds (ps := ["reader"]) fun _ _ _ _ _ _ us hl => match us, hl with | [_], _ => rfl
  have FCi := fun_mk (st := sCmpIn) lCi cCi kCi
  have bCi := FCi.binds (ps := ["reader"]) fun _ _ _ _ _ _ us hl => match us, hl with | [_], _ => rfl
  have FBj := fun_mk (st := sBrsIn) lBj cBj kBj
  have bBj := FBj.binds (ps := ["reader"]) fun _ _ _ _ _ _ us hl => match us, hl with | [_], _ => rfl
  have FDi := fun_mk (st := sDenIn) lDi cDi kDi
  have bDi := FDi.binds (ps := ["reader"]) fun _ _ _ _ _ _ us hl => match us, hl with | [_], _ => rfl
  have FRs := fun_mk (st := sReadS) lRs cRs kRs
  have bRs := FRs.binds (ps := ["text"]) fun _ _ _ _ _ _ us hl => match us, hl with | [_], _ => rfl
  have FRy := fun_mk (st := sReadY) lRy cRy kRy
  have bRy := FRy.binds (ps := ["text"]) fun _ _ _ _ _ _ us hl => match us, hl with | [_], _ => rfl
  have FBr := fun_mk (st := sBra) lBr cBr kBr
  have bBr := FBr.binds (ps := ["one", "sign", "other"]) fun _ _ _ _ _ _ us hl => match us, hl with | [_, _, _], _ => rfl
  have FBs := fun_mk (st := sBrs) lBs cBs kBs
  have bBs := FBs.binds (ps := ["one", "word", "other"]) fun _ _ _ _ _ _ us hl => match us, hl with | [_, _, _], _ => rfl
  have FL := fun_mk (st := sLaw) lL cL kL
  have T : Txt K mg (ckOf CN CM CP CI CX) (cyOf CY CQ CA CE CU CB CO CT) CR CS adO adS fNI fMI fTI fPI fOI fRI fTN fPN fNS fMS fPS fIS fXS fNW fMW fPW fIW fXW fNN fMN fYS fLS fAS fES fUS fBS fOS fTS fYH fLH fAH fEH fUH fBH fOH fTH fYN fTNn fRA fRT fRW fRE fCe fMi fOw fPo fLe fSu fSt fWo fSa fTe fHo fVa fSp fCm fTw fMo fNu fNm fFa fWd fOp fWs fSi fBi fYi fCi fBj fDi fRs fRy fBr fBs _ _ _ _ _ _ _ _ _ _ _ _ _ _ _ _ _ _ _ _ _ _ _ _ _ _ _ _ _ _ _ _ _ _ _ _ _ _ _ _ _ _ _ _ _ _ _ _ _ _ _ _ _ _ _ _ _ _ _ _ _ _ _ _ _ _ _ _ _ _ _ _ _ _ :=
    { bl := ⟨PySem.W.mg_none_of X G z_len, PySem.W.mg_none_of X G z_range, PySem.W.mg_none_of X G z_isinstance, PySem.W.mg_none_of X G z_str, PySem.W.mg_none_of X G z_int, PySem.W.mg_none_of X G z_list, PySem.W.mg_none_of X G z_tuple, PySem.W.mg_none_of X G z_bool, PySem.W.mg_none_of X G z_dict, PySem.W.mg_none_of X G z_sorted, PySem.W.mg_none_of X G z_set, PySem.W.mg_none_of X G z_max, PySem.W.mg_none_of X G z_all⟩
      mkr :=
        { cls := ⟨fun k => match k with | .num => ⟨pgN, hdN, poN, saN⟩ | .nam => ⟨pgM, hdM, poM, saM⟩ | .op .plus => ⟨pgP, hdP, poP, saP⟩ | .op .minus => ⟨pgI, hdI, poI, saI⟩ | .op .times => ⟨pgX, hdX, poX, saX⟩, nN_number, nM_name, fun g => match g with | .plus => nP_one | .minus => nI_one | .times => nX_one, fun g => match g with | .plus => nP_other | .minus => nI_other | .times => nX_other⟩
          mkN := ⟨mkN, aNI, iNI, kcN⟩, mkM := ⟨mkM, aMI, iMI, kcM⟩
          mkT := fun g => match g with | .plus => ⟨mkP, aTI, iTI, kcP⟩ | .minus => ⟨mkI, aTII, iTI, kcI⟩ | .times => ⟨mkX, aTIX, iTI, kcX⟩
          gN := PySem.W.mg_of X G aN, gM := PySem.W.mg_of X G aM, gP := PySem.W.mg_of X G aP, gI := PySem.W.mg_of X G aI, gX := PySem.W.mg_of X G aX
          FN := FNI, FM := FMI, FT := FTI, bN := bNI, bM := bMI, bT := bTI }
      mks :=
        { cls := ⟨fun k => match k with | .yes => ⟨pgY, hdY, poY, saY⟩ | .cmp .lt => ⟨pgQ, hdQ, poQ, saQ⟩ | .cmp .le => ⟨pgA, hdA, poA, saA⟩ | .cmp .eq => ⟨pgE, hdE, poE, saE⟩ | .cmp .ne => ⟨pgU, hdU, poU, saU⟩ | .bin .and => ⟨pgB, hdB, poB, saB⟩ | .bin .or => ⟨pgO, hdO, poO, saO⟩ | .neg => ⟨pgT, hdT, poT, saT⟩, fun g => match g with | .lt => nQ_one | .le => nA_one | .eq => nE_one | .ne => nU_one, fun g => match g with | .lt => nQ_other | .le => nA_other | .eq => nE_other | .ne => nU_other, fun g => match g with | .and => nB_one | .or => nO_one, fun g => match g with | .and => nB_other | .or => nO_other, nT_one⟩
          mkP := fun g => match g with | .lt => ⟨mkQ, aPI, iPI, kcQ⟩ | .le => ⟨mkA, aPIA, iPI, kcA⟩ | .eq => ⟨mkE, aPIE, iPI, kcE⟩ | .ne => ⟨mkU, aPIU, iPI, kcU⟩
          mkB := fun g => match g with | .and => ⟨mkB, aPIB, iPI, kcB⟩ | .or => ⟨mkO, aPIO, iPI, kcO⟩
          mkN := ⟨mkT, aOI, iOI, kcT⟩, mkY := ⟨mkY, inY, kcY⟩
          gY := PySem.W.mg_of X G aY, gL := PySem.W.mg_of X G aQ, gA := PySem.W.mg_of X G aA, gE := PySem.W.mg_of X G aE, gU := PySem.W.mg_of X G aU, gB := PySem.W.mg_of X G aB, gO := PySem.W.mg_of X G aO, gN := PySem.W.mg_of X G aT
          FP := FPI, FN := FOI, bP := bPI, bN := bOI }
      lex :=
        { gL := ⟨tLt, by rw [← eLt]; exact PySem.W.mg_of X G zLt⟩, gF := ⟨tFg, by rw [← eFg]; exact PySem.W.mg_of X G zFg⟩
          g8 := ⟨_, PySem.W.mg_of X G z8⟩, g2 := ⟨_, PySem.W.mg_of X G z2⟩, g300 := ⟨_, PySem.W.mg_of X G z300⟩, gM8 := ⟨_, PySem.W.mg_of X G zM8⟩
          gO := PySem.W.mg_of X G zO, gS := PySem.W.mg_of X G zS
          own := fun H => .inr ⟨_, itO, nO, lkO, rfl, rfl, by rw [szO, sizeLine_eq]; decide, vO⟩
          sgn := fun H => .inr ⟨_, itS, nS, lkS, rfl, rfl, by rw [szS, sizeLine_eq]; decide, vS⟩ }
      cr := ⟨⟨pgR, hdR, poR, saR⟩, nR_pieces, nR_place⟩
      mkR := ⟨mkR, aRI, iRI, kcR⟩, gR := PySem.W.mg_of X G aR, FRI := FRI, bRI := bRI
      gSm := PySem.W.mg_of X G aS
      hn := hn, ht := ht
      hcK := fun k => match k with | .num => hcN | .nam => hcM | .op .plus => hcP | .op .minus => hcI | .op .times => hcX
      hmK := fun k => match k with | .num => hmN | .nam => hmM | .op .plus => hmP | .op .minus => hmI | .op .times => hmX
      hkK := fun k => match k with | .num => kit_of hkN hmS tyS | .nam => kit_of hkM hmS tyS | .op .plus => kit_of hkP hmS tyS | .op .minus => kit_of hkI hmS tyS | .op .times => kit_of hkX hmS tyS
      hcY := fun k => match k with | .yes => hcY | .cmp .lt => hcQ | .cmp .le => hcA | .cmp .eq => hcE | .cmp .ne => hcU | .bin .and => hcB | .bin .or => hcO | .neg => hcT
      hmY := fun k => match k with | .yes => hmY | .cmp .lt => hmQ | .cmp .le => hmA | .cmp .eq => hmE | .cmp .ne => hmU | .bin .and => hmB | .bin .or => hmO | .neg => hmT
      hkY := fun k => match k with | .yes => kit_self | .cmp .lt => kit_of hkQ hmY tyY | .cmp .le => kit_of hkA hmY tyY | .cmp .eq => kit_of hkE hmY tyY | .cmp .ne => kit_of hkU hmY tyY | .bin .and => kit_of hkB hmY tyY | .bin .or => kit_of hkO hmY tyY | .neg => kit_of hkT hmY tyY
      FTN := FTN, bTN := bTN, mTN := fun g => match g with | .plus => ⟨aTN, iTN, kTN⟩ | .minus => ⟨aTNI, iTN, kTN⟩ | .times => ⟨aTNX, iTN, kTN⟩
      FPN := FPN, bPN := bPN, mPN := fun g => match g with | .lt => ⟨aPN, iPN, kPN⟩ | .le => ⟨aPNA, iPN, kPN⟩ | .eq => ⟨aPNE, iPN, kPN⟩ | .ne => ⟨aPNU, iPN, kPN⟩
      mPB := fun g => match g with | .and => ⟨aPNB, iPN, kPN⟩ | .or => ⟨aPNO, iPN, kPN⟩
      gCe := PySem.W.mg_of X G aCe, gMi := PySem.W.mg_of X G aMi, gOw := PySem.W.mg_of X G aOw, gPo := PySem.W.mg_of X G aPo, gLe := PySem.W.mg_of X G aLe, gSu := PySem.W.mg_of X G aSu, gSt := PySem.W.mg_of X G aSt, gWo := PySem.W.mg_of X G aWo, gSa := PySem.W.mg_of X G aSa, gTe := PySem.W.mg_of X G aTe, gHo := PySem.W.mg_of X G aHo, gVa := PySem.W.mg_of X G aVa, gSp := PySem.W.mg_of X G aSp, gCm := PySem.W.mg_of X G aCm, gTw := PySem.W.mg_of X G aTw, gMo := PySem.W.mg_of X G aMo, gNu := PySem.W.mg_of X G aNu, gNm := PySem.W.mg_of X G aNm, gFa := PySem.W.mg_of X G aFa, gWd := PySem.W.mg_of X G aWd, gOp := PySem.W.mg_of X G aOp, gWs := PySem.W.mg_of X G aWs, gSi := PySem.W.mg_of X G aSi, gBi := PySem.W.mg_of X G aBi, gYi := PySem.W.mg_of X G aYi, gCi := PySem.W.mg_of X G aCi, gBj := PySem.W.mg_of X G aBj, gDi := PySem.W.mg_of X G aDi, gRs := PySem.W.mg_of X G aRs, gRy := PySem.W.mg_of X G aRy, gBr := PySem.W.mg_of X G aBr, gBs := PySem.W.mg_of X G aBs
      FNS := FNS, bNS := bNS, FMS := FMS, bMS := bMS, FPS := FPS, bPS := bPS, FIS := FIS, bIS := bIS, FXS := FXS, bXS := bXS, FNW := FNW, bNW := bNW, FMW := FMW, bMW := bMW, FPW := FPW, bPW := bPW, FIW := FIW, bIW := bIW, FXW := FXW, bXW := bXW, FNN := FNN, bNN := bNN, FMN := FMN, bMN := bMN, FYS := FYS, bYS := bYS, FLS := FLS, bLS := bLS, FAS := FAS, bAS := bAS, FES := FES, bES := bES, FUS := FUS, bUS := bUS, FBS := FBS, bBS := bBS, FOS := FOS, bOS := bOS, FTS := FTS, bTS := bTS, FYH := FYH, bYH := bYH, FLH := FLH, bLH := bLH, FAH := FAH, bAH := bAH, FEH := FEH, bEH := bEH, FUH := FUH, bUH := bUH, FBH := FBH, bBH := bBH, FOH := FOH, bOH := bOH, FTH := FTH, bTH := bTH, FYN := FYN, bYN := bYN, FTNn := FTNn, bTNn := bTNn, FRA := FRA, bRA := bRA, FRT := FRT, bRT := bRT, FRW := FRW, bRW := bRW, FRE := FRE, bRE := bRE, FCe := FCe, bCe := bCe, FMi := FMi, bMi := bMi, FOw := FOw, bOw := bOw, FPo := FPo, bPo := bPo, FLe := FLe, bLe := bLe, FSu := FSu, bSu := bSu, FSt := FSt, bSt := bSt, FWo := FWo, bWo := bWo, FSa := FSa, bSa := bSa, FTe := FTe, bTe := bTe, FHo := FHo, bHo := bHo, FVa := FVa, bVa := bVa, FSp := FSp, bSp := bSp, FCm := FCm, bCm := bCm, FTw := FTw, bTw := bTw, FMo := FMo, bMo := bMo, FNu := FNu, bNu := bNu, FNm := FNm, bNm := bNm, FFa := FFa, bFa := bFa, FWd := FWd, bWd := bWd, FOp := FOp, bOp := bOp, FWs := FWs, bWs := bWs, FSi := FSi, bSi := bSi, FBi := FBi, bBi := bBi, FYi := FYi, bYi := bYi, FCi := FCi, bCi := bCi, FBj := FBj, bBj := bBj, FDi := FDi, bDi := bDi, FRs := FRs, bRs := bRs, FRy := FRy, bRy := bRy, FBr := FBr, bBr := bBr, FBs := FBs, bBs := bBs
      mNS := ⟨aNS, iNS, kNS⟩, mMS := ⟨aMS, iMS, kMS⟩, mPS := ⟨aPS, iPS, kPS⟩, mIS := ⟨aIS, iIS, kIS⟩, mXS := ⟨aXS, iXS, kXS⟩, mNW := ⟨aNW, iNW, kNW⟩, mMW := ⟨aMW, iMW, kMW⟩, mPW := ⟨aPW, iPW, kPW⟩, mIW := ⟨aIW, iIW, kIW⟩, mXW := ⟨aXW, iXW, kXW⟩, mNN := ⟨aNN, iNN, kNN⟩, mMN := ⟨aMN, iMN, kMN⟩, mYS := ⟨aYS, iYS, kYS⟩, mLS := ⟨aLS, iLS, kLS⟩, mAS := ⟨aAS, iAS, kAS⟩, mES := ⟨aES, iES, kES⟩, mUS := ⟨aUS, iUS, kUS⟩, mBS := ⟨aBS, iBS, kBS⟩, mOS := ⟨aOS, iOS, kOS⟩, mTS := ⟨aTS, iTS, kTS⟩, mYH := ⟨aYH, iYH, kYH⟩, mLH := ⟨aLH, iLH, kLH⟩, mAH := ⟨aAH, iAH, kAH⟩, mEH := ⟨aEH, iEH, kEH⟩, mUH := ⟨aUH, iUH, kUH⟩, mBH := ⟨aBH, iBH, kBH⟩, mOH := ⟨aOH, iOH, kOH⟩, mTH := ⟨aTH, iTH, kTH⟩, mYN := ⟨aYN, iYN, kYN⟩, mTNn := ⟨aTNn, iTNn, kTNn⟩, mRA := ⟨aRA, iRA, kRA⟩, mRT := ⟨aRT, iRT, kRT⟩, mRW := ⟨aRW, iRW, kRW⟩, mRE := ⟨aRE, iRE, kRE⟩ }
  exact ⟨PySem.W.fnOf "law" "law" (defArgs sLaw) (defBody sLaw) (defScope sLaw) .none kVL dcL pmL anL cdL ctL, fun s v => .of_eq rfl, fun base _ _ => ok_law T FL⟩
theorem walk {l : PySem.W.OpenLaw} {q : Program} {loose : List Str} {XP : (Str → Option Value) → Heap → Prop} {YP : World → Heap → Prop} {d : DefRec} {K : Params → PySem.W.Frag} (hn : l.most = some 63) (hdf : d.params.defaults = [])
    (hY : ∀ (w : World) (h : Heap), YP w h → (K w.params).In h)
    (F : ∀ (w : World) (mg : Str → Option Value) (fa : Addr) (h : Heap), (K w.params).In h → h.Ns mainGlobals mg → mg d.name = some (.ref fa) →
      ∃ fd : FuncData, (∀ (s : Shared) (u : Value), BindsTo s fd ⟨[u], []⟩ [("_law_script", u)]) ∧ ∀ base : Heap, (K w.params).In base → base.Ns mainGlobals mg → FnOk l.prog w (K w.params) mg base CX0 60 fa fd ["_law_script"] (spLaw (K w.params))) :
    PySem.W.WalkO q loose XP YP l.row.toRowW d [] (fun f vs => PySem.call f vs) :=
  L2.walk_of (n := 63) (k := 60) (x := "_law_script") (CX := fun _ => CX0) (sp := fun w => spLaw (K w.params)) hn (by decide) hdf ⟨rfl, by decide, by decide⟩ hY F (fun _ _ a ns hl _ hS => ⟨a, ns, rfl, hS, hl, fun _ => rfl⟩) fun _ _ _ _ _ z => z
end Nw
open PySem PySem.W PyProof.Rows
namespace PySem.W.Fast
theorem tw9463400108256768866 : True := trivial
theorem tw14175172035677657600 : True := trivial
theorem tw10834204740574779753 : True := trivial
theorem tw2458153157084723296 : True := trivial
theorem tw6333896555692969611 : True := trivial
theorem tw14817200995159978758 : True := trivial
theorem tw13056554783129625236 : True := trivial
theorem tw1264930935781546580 : True := trivial
theorem tw4585828016138345791 : True := trivial
theorem tw8792033809636349900 : True := trivial
theorem tw8716451691043314810 : True := trivial
theorem tw1745686888445206072 : True := trivial
theorem tw1691931114523908622 : True := trivial
theorem tw7796854796692632404 : True := trivial
theorem tw1844354250948841350 : True := trivial
theorem tw15475323472233402599 : True := trivial
theorem tw8219318160518417444 : True := trivial
theorem tw9342428266697024096 : True := trivial
theorem tw17923663634134295014 : True := trivial
theorem tw15646601713499125577 : True := trivial
theorem tw10813986909271224695 : True := trivial
theorem tw766888141055863732 : True := trivial
theorem tw12473825120334246221 : True := trivial
theorem tw16958616713015207174 : True := trivial
theorem tw8058255032083236928 : True := trivial
theorem tw10582215106079287392 : True := trivial
theorem tw6259048871410493632 : True := trivial
theorem tw6931901045480186112 : True := trivial
theorem tw10220692722029229408 : True := trivial
theorem tw3803810448907002240 : True := trivial
theorem tw12621691887522298240 : True := trivial
theorem tw324636334633242016 : True := trivial
theorem tw17188914604826611168 : True := trivial
theorem tw7093091453194119648 : True := trivial
theorem tw17859614586257906144 : True := trivial
theorem tw11391689252949725760 : True := trivial
theorem tw6612833362701013600 : True := trivial
theorem tw13631525655695727232 : True := trivial
theorem tw14166581644881892992 : True := trivial
theorem tw9567748199768370816 : True := trivial
theorem tw17985998581675470496 : True := trivial
theorem tw8675498951444451040 : True := trivial
theorem tw17742785355121439456 : True := trivial
theorem tw2853371856443293408 : True := trivial
theorem tw17068885327355256576 : True := trivial
theorem tw1831650757582484224 : True := trivial
theorem tw10662711272552519584 : True := trivial
theorem tw16647891004814253984 : True := trivial
theorem tw2882223926728696833 : True := trivial
theorem tw5388908938473130017 : True := trivial
theorem tw4905049923032446017 : True := trivial
theorem tw17056553329932108897 : True := trivial
theorem tw1440505041257742465 : True := trivial
theorem tw10001397020552164481 : True := trivial
theorem tw8906749966054913185 : True := trivial
theorem tw8749087079341604033 : True := trivial
theorem tw1969191557454897473 : True := trivial
theorem tw8668880560709311841 : True := trivial
theorem tw17840230737254766945 : True := trivial
theorem tw5695563132039588193 : True := trivial
theorem tw9884786399546562945 : True := trivial
theorem tw2093421252254132609 : True := trivial
theorem tw5814714155904296353 : True := trivial
theorem tw3365461804381048321 : True := trivial
theorem tw5557948908056444417 : True := trivial
theorem tw8496169420432028193 : True := trivial
theorem tw7254609143475237473 : True := trivial
theorem tw5430555622631943809 : True := trivial
theorem tw14668785689305954945 : True := trivial
theorem tw8596209656510915233 : True := trivial
theorem tw13798457483218330273 : True := trivial
theorem tw12245935680027060993 : True := trivial
theorem tw14650366683619356417 : True := trivial
theorem tw7311851526177014561 : True := trivial
theorem tw9806498756503652161 : True := trivial
theorem tw468226402791341921 : True := trivial
theorem tw783525187275382625 : True := trivial
theorem tw1255253362260411265 : True := trivial
theorem tw2418115603671774177 : True := trivial
theorem tw408466174518276162 : True := trivial
theorem tw15893736057771081794 : True := trivial
theorem tw5751328697241981186 : True := trivial
theorem tw7046374857437647170 : True := trivial
theorem tw3497814232714720610 : True := trivial
theorem tw8062677568117886338 : True := trivial
theorem tw12515700126631352706 : True := trivial
theorem tw6098573362494863778 : True := trivial
theorem tw7800338821954486754 : True := trivial
theorem tw5813441004641830370 : True := trivial
theorem tw17483966224693839330 : True := trivial
theorem tw639543039146661378 : True := trivial
theorem tw17614782959823059522 : True := trivial
theorem tw11435964782122047074 : True := trivial
theorem tw15724447353692317282 : True := trivial
theorem tw1089582197222521506 : True := trivial
theorem tw6400351953728848546 : True := trivial
theorem tw6317317263853207298 : True := trivial
theorem tw11202839781286889218 : True := trivial
theorem tw5256115895865086754 : True := trivial
theorem tw11784212551241113410 : True := trivial
theorem tw5223060997062758210 : True := trivial
theorem tw10649575088631928674 : True := trivial
theorem tw220508145816033122 : True := trivial
theorem tw8054914974103822210 : True := trivial
theorem tw10098749760045678530 : True := trivial
theorem tw12568869253448193027 : True := trivial
theorem tw16302534999431213059 : True := trivial
theorem tw2561124180424110115 : True := trivial
theorem tw7367324125929404451 : True := trivial
theorem tw14274268225420273731 : True := trivial
theorem tw9577026137753763939 : True := trivial
theorem tw13499935225489960067 : True := trivial
theorem tw8710324119395170467 : True := trivial
theorem tw15178032906599962915 : True := trivial
theorem tw5720128682200606051 : True := trivial
theorem tw13473524267361311107 : True := trivial
theorem tw18423555960481947043 : True := trivial
theorem tw8397755687213175235 : True := trivial
theorem tw9093772117457252803 : True := trivial
theorem tw1457259916266398147 : True := trivial
theorem tw17185101913793534499 : True := trivial
theorem tw11545503624526844451 : True := trivial
theorem tw8666748457086479907 : True := trivial
theorem tw676227361533304483 : True := trivial
theorem tw13022082566862155427 : True := trivial
theorem tw8501430224171259555 : True := trivial
theorem tw4128837995420368579 : True := trivial
theorem tw11518016215623652035 : True := trivial
theorem tw1974254188449339331 : True := trivial
theorem tw6959776371358459875 : True := trivial
theorem tw14542958940981424132 : True := trivial
theorem tw10880839293287286788 : True := trivial
theorem tw2132525872856801284 : True := trivial
theorem tw12883878025145002052 : True := trivial
theorem tw6511915784382102596 : True := trivial
theorem tw7330118485665947748 : True := trivial
theorem tw9133978665815030948 : True := trivial
theorem tw11807007316140472516 : True := trivial
theorem tw4533457821621743812 : True := trivial
theorem tw1553765847299528932 : True := trivial
theorem tw16996625257091840356 : True := trivial
theorem tw6459573411330509188 : True := trivial
theorem tw10368088459782715780 : True := trivial
theorem tw6379930194872975780 : True := trivial
theorem tw860440803187408324 : True := trivial
theorem tw3015963819923982788 : True := trivial
theorem tw5535080260289682948 : True := trivial
theorem tw9792768618210289156 : True := trivial
theorem tw1852428631655797284 : True := trivial
theorem tw11481905174109075012 : True := trivial
theorem tw12087652869803135556 : True := trivial
theorem tw5864910185955656292 : True := trivial
theorem tw16477204251811665764 : True := trivial
theorem tw4534936465908358020 : True := trivial
theorem tw8013989000507459460 : True := trivial
theorem tw785719441143486372 : True := trivial
theorem tw7682358594807564228 : True := trivial
theorem tw3903199952731297764 : True := trivial
theorem tw8511738869175278597 : True := trivial
theorem tw461684434142072869 : True := trivial
theorem tw9186435897123946533 : True := trivial
theorem tw7997777367792629861 : True := trivial
theorem tw17987289727502485637 : True := trivial
theorem tw6012424173648131205 : True := trivial
theorem tw3252967839724004485 : True := trivial
theorem tw4930010264032333989 : True := trivial
theorem tw12946321682118289701 : True := trivial
theorem tw7731133284169932069 : True := trivial
theorem tw3851024157288576325 : True := trivial
theorem tw13835672912889161061 : True := trivial
theorem tw13655193252784769381 : True := trivial
theorem tw12453812575895065989 : True := trivial
theorem tw15869222725946276261 : True := trivial
theorem tw10225537238120969669 : True := trivial
theorem tw11741626568129648133 : True := trivial
theorem tw11104232578540262981 : True := trivial
theorem tw11987669143158106693 : True := trivial
theorem tw18370581030230445669 : True := trivial
theorem tw16924555562975597189 : True := trivial
theorem tw9177367767491343045 : True := trivial
theorem tw10337223738603064037 : True := trivial
theorem tw4204311735763718917 : True := trivial
theorem tw8533131258696110885 : True := trivial
theorem tw6547270781127203621 : True := trivial
theorem tw3829014993303306021 : True := trivial
theorem tw3173284867843875685 : True := trivial
theorem tw12447821256086384485 : True := trivial
theorem tw9250222516588221349 : True := trivial
theorem tw283849925048877094 : True := trivial
theorem tw1508953010120482886 : True := trivial
theorem tw11940266007290559558 : True := trivial
theorem tw2158687849125710918 : True := trivial
theorem tw17263685246426929254 : True := trivial
theorem tw5880258852927661158 : True := trivial
theorem tw7182488952009610374 : True := trivial
theorem tw9008749067449884838 : True := trivial
theorem tw11172415596000503974 : True := trivial
theorem tw8637467922144689318 : True := trivial
theorem tw15094557687883260134 : True := trivial
theorem tw11089882260812848390 : True := trivial
theorem tw6022968033779702054 : True := trivial
theorem tw2149509584185775526 : True := trivial
theorem tw6929254799969465798 : True := trivial
theorem tw3837276164638696902 : True := trivial
theorem tw13973494292679453126 : True := trivial
theorem tw17432404706178987462 : True := trivial
theorem tw2518051818810211782 : True := trivial
theorem tw2541852790506866182 : True := trivial
theorem tw16373972090675255814 : True := trivial
theorem tw6755324997622711846 : True := trivial
theorem tw17004546683620991590 : True := trivial
theorem tw11687710092132265606 : True := trivial
theorem tw16816238430620762758 : True := trivial
theorem tw4449972529215174342 : True := trivial
theorem tw16878608104792060742 : True := trivial
theorem tw11380975042174179142 : True := trivial
theorem tw14105114661866908518 : True := trivial
theorem tw2350339069787184038 : True := trivial
theorem tw5470898244678425542 : True := trivial
theorem tw6586187241176841158 : True := trivial
theorem tw4207895723372150791 : True := trivial
theorem tw17234228140263719943 : True := trivial
theorem tw12932154168352253063 : True := trivial
theorem tw5461284443772373159 : True := trivial
theorem tw9067143197665567943 : True := trivial
theorem tw6746368000535439591 : True := trivial
theorem tw1955424605209701639 : True := trivial
theorem tw8772872951277243687 : True := trivial
theorem tw17433898189906338087 : True := trivial
theorem tw97218727213025607 : True := trivial
theorem tw13345554805443774791 : True := trivial
theorem tw16091411392296181063 : True := trivial
theorem tw9473615462268807527 : True := trivial
theorem tw12209824018392119655 : True := trivial
theorem tw1211180176740906375 : True := trivial
theorem tw13148491657091215751 : True := trivial
theorem tw11790397314033091015 : True := trivial
theorem tw4165605044455514567 : True := trivial
theorem tw15787858818297098695 : True := trivial
theorem tw9395533356067550663 : True := trivial
theorem tw7395399130987861479 : True := trivial
theorem tw15436718350211862055 : True := trivial
theorem tw289564282768190119 : True := trivial
theorem tw2518622533300229799 : True := trivial
theorem tw15105574808304327 : True := trivial
theorem tw8458509078153450215 : True := trivial
theorem tw11534362721116469991 : True := trivial
theorem tw6297713970601638695 : True := trivial
theorem tw13081776675398700839 : True := trivial
theorem tw18034614396343869223 : True := trivial
theorem tw9249014064266346279 : True := trivial
theorem tw12815175901223665479 : True := trivial
theorem tw15277047920507494215 : True := trivial
theorem tw18004724347802542951 : True := trivial
theorem tw2773833303166340967 : True := trivial
theorem tw11519250710138953639 : True := trivial
theorem tw11538902743500468167 : True := trivial
theorem tw16325567247255717863 : True := trivial
theorem tw18064083763378760744 : True := trivial
theorem tw15104515664680521800 : True := trivial
theorem tw15906064974556012648 : True := trivial
theorem tw15157574540070448232 : True := trivial
theorem tw5548491448798965864 : True := trivial
theorem tw1386632561382539560 : True := trivial
theorem tw2141817840556880200 : True := trivial
theorem tw1216858956189008200 : True := trivial
theorem tw5294949004402801000 : True := trivial
theorem tw18123090494340885896 : True := trivial
theorem tw4139283793101772232 : True := trivial
theorem tw15271312864357845480 : True := trivial
theorem tw6580029291081150952 : True := trivial
theorem tw7473649767876406792 : True := trivial
theorem tw6110043725785790984 : True := trivial
theorem tw2738349073033943688 : True := trivial
theorem tw14001129552671267496 : True := trivial
theorem tw18228940539417384648 : True := trivial
theorem tw10765453932434377448 : True := trivial
theorem tw11330302346815536872 : True := trivial
theorem tw14271608329693049672 : True := trivial
theorem tw12726167273479203720 : True := trivial
theorem tw13768636156036625288 : True := trivial
theorem tw3467533261933831080 : True := trivial
theorem tw10489782255360729000 : True := trivial
theorem tw5529269590070928296 : True := trivial
theorem tw2684776093648571368 : True := trivial
theorem tw6556858754852173800 : True := trivial
theorem tw13733415885487486025 : True := trivial
theorem tw11758495884909355177 : True := trivial
theorem tw16146343303831753929 : True := trivial
theorem tw11847194471529788617 : True := trivial
theorem tw6608092446178387177 : True := trivial
theorem tw7764057886570607977 : True := trivial
theorem tw15505820019850354057 : True := trivial
theorem tw14163718882181475721 : True := trivial
theorem tw336782235764764073 : True := trivial
theorem tw13688369705089782185 : True := trivial
theorem tw14895387916268747209 : True := trivial
theorem tw5034050144916624841 : True := trivial
theorem tw8559160014145188329 : True := trivial
theorem tw11567257157339226633 : True := trivial
theorem tw5403383516535045641 : True := trivial
theorem tw17815736957752599081 : True := trivial
theorem tw14065937281842038409 : True := trivial
theorem tw9839613094787534537 : True := trivial
theorem tw17264869435134191561 : True := trivial
theorem tw1679831658171254826 : True := trivial
theorem tw833780913755469898 : True := trivial
theorem tw11552084763524512906 : True := trivial
theorem tw1441594520576882826 : True := trivial
theorem tw8929457144213420202 : True := trivial
theorem tw6887582829694139594 : True := trivial
theorem tw12535716004683576522 : True := trivial
theorem tw5640051836987532586 : True := trivial
theorem tw11820148227211103562 : True := trivial
theorem tw147694419551632714 : True := trivial
theorem tw10855555954436564362 : True := trivial
theorem tw16851612254041913770 : True := trivial
theorem tw2881977957686196714 : True := trivial
theorem tw15067941236386162186 : True := trivial
theorem tw10752275622651470378 : True := trivial
theorem tw10853356620036519466 : True := trivial
theorem tw6790191644109199914 : True := trivial
theorem tw7526799791541166666 : True := trivial
theorem tw6305925571003281002 : True := trivial
theorem tw4723347823026010730 : True := trivial
theorem tw13078977298367850154 : True := trivial
theorem tw604226604100003530 : True := trivial
theorem tw8790629901904119626 : True := trivial
theorem tw3047134276613906282 : True := trivial
theorem tw10774676396345879434 : True := trivial
theorem tw16872171567230551978 : True := trivial
theorem tw1645166484474358730 : True := trivial
theorem tw16153314499841906666 : True := trivial
theorem tw7916077075827786795 : True := trivial
theorem tw15376928200757492779 : True := trivial
theorem tw4522682078129568875 : True := trivial
theorem tw7929522803850521739 : True := trivial
theorem tw9846426392418361515 : True := trivial
theorem tw14029412802440269003 : True := trivial
theorem tw7410644966055486699 : True := trivial
theorem tw15126407870220795115 : True := trivial
theorem tw6571342847754496299 : True := trivial
theorem tw9329590691308633451 : True := trivial
theorem tw11725399313193142667 : True := trivial
theorem tw17159285694265943435 : True := trivial
theorem tw17240694839374843307 : True := trivial
theorem tw12041820807166280139 : True := trivial
theorem tw7280628269756976619 : True := trivial
theorem tw5891200784757564907 : True := trivial
theorem tw16497662778949154315 : True := trivial
theorem tw4195108990174692939 : True := trivial
theorem tw5446562975958263371 : True := trivial
theorem tw3434868516039268971 : True := trivial
theorem tw1329459671036695211 : True := trivial
theorem tw14780604563015468747 : True := trivial
theorem tw13675923301435850507 : True := trivial
theorem tw4563829307024043883 : True := trivial
theorem tw8055957793242446699 : True := trivial
theorem tw12523758070123900811 : True := trivial
theorem tw8378733845196662667 : True := trivial
theorem tw15040083431368822763 : True := trivial
theorem tw2164005395897763819 : True := trivial
theorem tw10325182549899006028 : True := trivial
theorem tw15336859353529381996 : True := trivial
theorem tw6051441372416444588 : True := trivial
theorem tw2555362060083511532 : True := trivial
theorem tw1437606905840246060 : True := trivial
theorem tw9958454118564978988 : True := trivial
theorem tw15007436101458782540 : True := trivial
theorem tw5781122249391458668 : True := trivial
theorem tw432356714930761196 : True := trivial
theorem tw13708077851386651148 : True := trivial
theorem tw3798756396562959916 : True := trivial
theorem tw15469043444711378476 : True := trivial
theorem tw8831526598850007596 : True := trivial
theorem tw10013675914649969228 : True := trivial
theorem tw5335562187657100908 : True := trivial
theorem tw1828044648169685612 : True := trivial
theorem tw5912460207500819052 : True := trivial
theorem tw4105396647475282604 : True := trivial
theorem tw13601856611885058764 : True := trivial
theorem tw6239413459509583564 : True := trivial
theorem tw66991441377008364 : True := trivial
theorem tw13932579805632400108 : True := trivial
theorem tw13254520755724455692 : True := trivial
theorem tw13796855480055537420 : True := trivial
theorem tw1243981571658006316 : True := trivial
theorem tw14897706420237863724 : True := trivial
theorem tw12878889618815316844 : True := trivial
theorem tw8718313927519984556 : True := trivial
theorem tw2689309930318899148 : True := trivial
theorem tw1137300630647251916 : True := trivial
theorem tw8012547375407024141 : True := trivial
theorem tw12229415283466072077 : True := trivial
theorem tw1992431475330764845 : True := trivial
theorem tw14959330492231192653 : True := trivial
theorem tw3452470681411658829 : True := trivial
theorem tw12479962938712241229 : True := trivial
theorem tw9480723585925692493 : True := trivial
theorem tw15009841798370895981 : True := trivial
theorem tw3227416042854371469 : True := trivial
theorem tw5029876693642640557 : True := trivial
theorem tw11848706172063812813 : True := trivial
theorem tw16627061610754685133 : True := trivial
theorem tw16522410387571449069 : True := trivial
theorem tw1713615456849996013 : True := trivial
theorem tw12928163302915732717 : True := trivial
theorem tw16688763062829021453 : True := trivial
theorem tw8114397430119278957 : True := trivial
theorem tw11344741260166918509 : True := trivial
theorem tw9227992734430034381 : True := trivial
theorem tw10191330349206054381 : True := trivial
theorem tw16376487185694862861 : True := trivial
theorem tw1560666335135729165 : True := trivial
theorem tw3370241483495113261 : True := trivial
theorem tw13004942247765573165 : True := trivial
theorem tw18053401335153448525 : True := trivial
theorem tw18213262065250755373 : True := trivial
theorem tw7475419309939873581 : True := trivial
theorem tw15852500737684412205 : True := trivial
theorem tw4776944436586261325 : True := trivial
theorem tw2887730993853364077 : True := trivial
theorem tw5273910025949522797 : True := trivial
theorem tw17687460752722339757 : True := trivial
theorem tw11518703534517942318 : True := trivial
theorem tw16436258230824145998 : True := trivial
theorem tw1884424326014669902 : True := trivial
theorem tw9787554661803370606 : True := trivial
theorem tw11985891436471960718 : True := trivial
theorem tw1586146893173034158 : True := trivial
theorem tw8885292734397725870 : True := trivial
theorem tw15664801676199903438 : True := trivial
theorem tw17778518652695316814 : True := trivial
theorem tw9966925676759606606 : True := trivial
theorem tw6186647564570967406 : True := trivial
theorem tw13585425590656005486 : True := trivial
theorem tw18069177666162308494 : True := trivial
theorem tw4543766261083449838 : True := trivial
theorem tw4447523805538144750 : True := trivial
theorem tw14278511841380884974 : True := trivial
theorem tw6840110686779681294 : True := trivial
theorem tw5970320959803378222 : True := trivial
theorem tw10335117071310851694 : True := trivial
theorem tw6100717788649323278 : True := trivial
theorem tw5828340114178197294 : True := trivial
theorem tw6802255210182862638 : True := trivial
theorem tw5948471620099370798 : True := trivial
theorem tw6482797364654406542 : True := trivial
theorem tw16221272860099791790 : True := trivial
theorem tw8333735076907759566 : True := trivial
theorem tw12440466303443892239 : True := trivial
theorem tw11587484640561219631 : True := trivial
theorem tw16623295184777544815 : True := trivial
theorem tw5680067502705215599 : True := trivial
theorem tw9850399178971036783 : True := trivial
theorem tw3259147764055773359 : True := trivial
theorem tw5389915596454639823 : True := trivial
theorem tw5575905135446933711 : True := trivial
theorem tw9339211341052169487 : True := trivial
theorem tw15466494889309035823 : True := trivial
theorem tw1388371787068566895 : True := trivial
theorem tw17988608241181820367 : True := trivial
theorem tw10228254902868240847 : True := trivial
theorem tw9300817366313116175 : True := trivial
theorem tw14545161524848793135 : True := trivial
theorem tw16831703942481490511 : True := trivial
theorem tw759963958102509167 : True := trivial
theorem tw9209844197447707439 : True := trivial
theorem tw7756781689875770159 : True := trivial
theorem tw15051878351047946031 : True := trivial
theorem tw4788882210684115823 : True := trivial
theorem tw6929247220545507183 : True := trivial
theorem tw11543125294052948016 : True := trivial
theorem tw4467277687648957520 : True := trivial
theorem tw7340996037465518192 : True := trivial
theorem tw13434252333042240624 : True := trivial
theorem tw6306468762487365776 : True := trivial
theorem tw9393565858805848272 : True := trivial
theorem tw9713731761242349776 : True := trivial
theorem tw11773726545639048528 : True := trivial
theorem tw13784201698115764656 : True := trivial
theorem tw16235515285250527696 : True := trivial
theorem tw14111970781179085328 : True := trivial
theorem tw17337432922981860912 : True := trivial
theorem tw7848093992938500656 : True := trivial
theorem tw15953599153861669456 : True := trivial
theorem tw17716088075422924400 : True := trivial
theorem tw1391324807917286032 : True := trivial
theorem tw16537174519373113008 : True := trivial
theorem tw12716542336477496016 : True := trivial
theorem tw17020517356033674960 : True := trivial
theorem tw11770019758412999408 : True := trivial
theorem tw4529196601332816624 : True := trivial
theorem tw6856463797991406352 : True := trivial
theorem tw11256607525377713936 : True := trivial
theorem tw9341915840939597616 : True := trivial
theorem tw10310827825886503760 : True := trivial
theorem tw16237622460629636944 : True := trivial
theorem tw12388040198533866352 : True := trivial
theorem tw11019372376096114544 : True := trivial
theorem tw10318127877945971600 : True := trivial
theorem tw10571879929807977392 : True := trivial
theorem tw17549470039068477424 : True := trivial
theorem tw2526111272871397360 : True := trivial
theorem tw6276686866072031249 : True := trivial
theorem tw16446230731187607633 : True := trivial
theorem tw9989411894310409329 : True := trivial
theorem tw5319474934307074161 : True := trivial
theorem tw9307572430789697681 : True := trivial
theorem tw2163569172002836721 : True := trivial
theorem tw16267313076577808657 : True := trivial
theorem tw8518459767312906513 : True := trivial
theorem tw15081229196775485745 : True := trivial
theorem tw14977998978890163505 : True := trivial
theorem tw12617863615219029297 : True := trivial
theorem tw16632702098250862993 : True := trivial
theorem tw12557673408956776849 : True := trivial
theorem tw1273576390151680433 : True := trivial
theorem tw18376244018986543537 : True := trivial
theorem tw4456132691797068273 : True := trivial
theorem tw17600333488655263217 : True := trivial
theorem tw14379871728409502225 : True := trivial
theorem tw4930135925531149873 : True := trivial
theorem tw15663251498158128753 : True := trivial
theorem tw3321433593176488657 : True := trivial
theorem tw2245801086378332913 : True := trivial
theorem tw16979094627414291249 : True := trivial
theorem tw8381185823243763537 : True := trivial
theorem tw4573814217616420753 : True := trivial
theorem tw6943315487731920817 : True := trivial
theorem tw10553898538004657105 : True := trivial
theorem tw8157289105220273202 : True := trivial
theorem tw5451601462141461554 : True := trivial
theorem tw5615686430455216178 : True := trivial
theorem tw11021222887344453682 : True := trivial
theorem tw14598505267034448978 : True := trivial
theorem tw13497829883156364370 : True := trivial
theorem tw4201973679128967314 : True := trivial
theorem tw14956013286633301138 : True := trivial
theorem tw5795329429409115314 : True := trivial
theorem tw15395689431597308082 : True := trivial
theorem tw7300750795539423442 : True := trivial
theorem tw3397889176063174898 : True := trivial
theorem tw11526573534578456850 : True := trivial
theorem tw4590031764312643858 : True := trivial
theorem tw6085656953509581106 : True := trivial
theorem tw16137266490561191218 : True := trivial
theorem tw15918839873457862034 : True := trivial
theorem tw12686986913967971762 : True := trivial
theorem tw10926039602640016850 : True := trivial
theorem tw2333917973705517522 : True := trivial
theorem tw14774649127279965714 : True := trivial
theorem tw6857675652440260114 : True := trivial
theorem tw10130834538278284850 : True := trivial
theorem tw5550515299782346354 : True := trivial
theorem tw4370418155994499762 : True := trivial
theorem tw10612150777095575218 : True := trivial
theorem tw13197223572749020850 : True := trivial
theorem tw126129808307782354 : True := trivial
theorem tw9205140197104456498 : True := trivial
theorem tw13130959581564692306 : True := trivial
theorem tw16967245821560485714 : True := trivial
theorem tw10319499707205610354 : True := trivial
theorem tw12832112981938529170 : True := trivial
theorem tw17086087334495938450 : True := trivial
theorem tw15793529013831766962 : True := trivial
theorem tw5324315155217160114 : True := trivial
theorem tw9115372679097762738 : True := trivial
theorem tw15825788463992201138 : True := trivial
theorem tw8110254411498989522 : True := trivial
theorem tw9256379146144857042 : True := trivial
theorem tw14467500462084255698 : True := trivial
theorem tw17960024579231117266 : True := trivial
theorem tw2534039579616747506 : True := trivial
theorem tw17219841187808388082 : True := trivial
theorem tw17681241503246511090 : True := trivial
theorem tw13009045641850847218 : True := trivial
theorem tw18149027478700817459 : True := trivial
theorem tw13163078967458902099 : True := trivial
theorem tw823208173620528275 : True := trivial
theorem tw15408670645510360243 : True := trivial
theorem tw962605050731444435 : True := trivial
theorem tw13523370575895818451 : True := trivial
theorem tw17463962848423323955 : True := trivial
theorem tw9205719065826903379 : True := trivial
theorem tw2102366448159270259 : True := trivial
theorem tw9607948429394789747 : True := trivial
theorem tw3428153767159632339 : True := trivial
theorem tw11759854591659092467 : True := trivial
theorem tw3010455432081029651 : True := trivial
theorem tw3181371135987911219 : True := trivial
theorem tw3434809354028130899 : True := trivial
theorem tw11120814706218163795 : True := trivial
theorem tw4661846406985874035 : True := trivial
theorem tw17183799571069375091 : True := trivial
theorem tw1715593027029425907 : True := trivial
theorem tw14724285997839983347 : True := trivial
theorem tw7297247941570004787 : True := trivial
theorem tw17834708320033156979 : True := trivial
theorem tw14669723332355328883 : True := trivial
theorem tw15604186557912738707 : True := trivial
theorem tw6029097533041560499 : True := trivial
theorem tw14707046651954861011 : True := trivial
theorem tw1057957462858605555 : True := trivial
theorem tw13268196154345858100 : True := trivial
theorem tw8716007207064927284 : True := trivial
theorem tw11880765359704243252 : True := trivial
theorem tw14448832586413847668 : True := trivial
theorem tw12804198332284139636 : True := trivial
theorem tw6561387501753631924 : True := trivial
theorem tw6910736392237009076 : True := trivial
theorem tw3182887430872260820 : True := trivial
theorem tw676355938445194452 : True := trivial
theorem tw17521928613132753140 : True := trivial
theorem tw13299201350761344244 : True := trivial
theorem tw1796007989210303732 : True := trivial
theorem tw11482308118886168852 : True := trivial
theorem tw7486647089102837012 : True := trivial
theorem tw1271639956921290068 : True := trivial
theorem tw6236372409011047796 : True := trivial
theorem tw5423334325155445204 : True := trivial
theorem tw11392352496000016884 : True := trivial
theorem tw8096033816985866772 : True := trivial
theorem tw17759453355597996564 : True := trivial
theorem tw715747087986362932 : True := trivial
theorem tw3927011196801792564 : True := trivial
theorem tw13102229322932549300 : True := trivial
theorem tw13459905494028429012 : True := trivial
theorem tw8950811711166809844 : True := trivial
theorem tw9677474844382007060 : True := trivial
theorem tw4758871544270349300 : True := trivial
theorem tw5409386914244194357 : True := trivial
theorem tw6798716748520918165 : True := trivial
theorem tw3900801538776340629 : True := trivial
theorem tw13944265724980160661 : True := trivial
theorem tw10943756103802787093 : True := trivial
theorem tw10257949860348079381 : True := trivial
theorem tw17011686180386062645 : True := trivial
theorem tw6160913546009470261 : True := trivial
theorem tw652773347929352533 : True := trivial
theorem tw6701216942661170549 : True := trivial
theorem tw10121948514154576277 : True := trivial
theorem tw32426228751595957 : True := trivial
theorem tw15975243738561426869 : True := trivial
theorem tw16072851538074331669 : True := trivial
theorem tw16647416530028522005 : True := trivial
theorem tw9804293014305221205 : True := trivial
theorem tw5313516171494507285 : True := trivial
theorem tw4530223446945001237 : True := trivial
theorem tw10819532849842910997 : True := trivial
theorem tw15150161009773611829 : True := trivial
theorem tw16174906277151610677 : True := trivial
theorem tw11373920167575180085 : True := trivial
theorem tw13558544865950553909 : True := trivial
theorem tw12305739773076380501 : True := trivial
theorem tw7970441850512576373 : True := trivial
theorem tw685350696506578805 : True := trivial
theorem tw16445638449286659957 : True := trivial
theorem tw16029685912192976789 : True := trivial
theorem tw16151843122975845269 : True := trivial
theorem tw16306922024736475029 : True := trivial
theorem tw906130271674132437 : True := trivial
theorem tw5505104209719237686 : True := trivial
theorem tw11951499083880520790 : True := trivial
theorem tw13162386925492907190 : True := trivial
theorem tw6193240669942965590 : True := trivial
theorem tw6783500209096485206 : True := trivial
theorem tw3242530170095171030 : True := trivial
theorem tw16852332316650267286 : True := trivial
theorem tw16350464137168703126 : True := trivial
theorem tw10136796058632348438 : True := trivial
theorem tw6591050047776866134 : True := trivial
theorem tw4878447284327434070 : True := trivial
theorem tw4482180335006744438 : True := trivial
theorem tw10367713480807975830 : True := trivial
theorem tw5769732598627831702 : True := trivial
theorem tw12520546179301335990 : True := trivial
theorem tw8041359064634532822 : True := trivial
theorem tw15225378402639112150 : True := trivial
theorem tw2521292656014164982 : True := trivial
theorem tw9000161593779914775 : True := trivial
theorem tw758755454880355351 : True := trivial
theorem tw8239323045678325783 : True := trivial
theorem tw12263066629190304791 : True := trivial
theorem tw5444997147120294967 : True := trivial
theorem tw3637350471166601303 : True := trivial
theorem tw16160031800637524087 : True := trivial
theorem tw17378732539545554039 : True := trivial
theorem tw1212522446184329335 : True := trivial
theorem tw7122419230655790199 : True := trivial
theorem tw5371214460775243991 : True := trivial
theorem tw517998191404185911 : True := trivial
theorem tw18149472042480042327 : True := trivial
theorem tw8603100682386914647 : True := trivial
theorem tw9864319616173673847 : True := trivial
theorem tw1507958401113362807 : True := trivial
theorem tw13879388673154523511 : True := trivial
theorem tw15983738790409648535 : True := trivial
theorem tw14685124427539455415 : True := trivial
theorem tw1374426687301688759 : True := trivial
theorem tw13233497261668299191 : True := trivial
theorem tw6313073801271484919 : True := trivial
theorem tw13913976353072099863 : True := trivial
theorem tw5245772971169967735 : True := trivial
theorem tw9592702149242544791 : True := trivial
theorem tw14130509396650616535 : True := trivial
theorem tw443410942693712631 : True := trivial
theorem tw17808601913428273911 : True := trivial
theorem tw4300184303689827095 : True := trivial
theorem tw14844283277138997015 : True := trivial
theorem tw8921882329869466519 : True := trivial
theorem tw4203815257415119863 : True := trivial
theorem tw11847162067879658520 : True := trivial
theorem tw14728408631059627128 : True := trivial
theorem tw5165880663772447864 : True := trivial
theorem tw15120087114911030424 : True := trivial
theorem tw7978811570004732088 : True := trivial
theorem tw9331063267930318008 : True := trivial
theorem tw12616238128872171736 : True := trivial
theorem tw8990255751690398968 : True := trivial
theorem tw18430443826496263480 : True := trivial
theorem tw653140409273937240 : True := trivial
theorem tw1143366944105322872 : True := trivial
theorem tw17396836772350707096 : True := trivial
theorem tw2772590846278822424 : True := trivial
theorem tw11351309445821659672 : True := trivial
theorem tw1185577925425878648 : True := trivial
theorem tw15385563241600336600 : True := trivial
theorem tw10174931380552144696 : True := trivial
theorem tw6676952574550113208 : True := trivial
theorem tw7159952375736495032 : True := trivial
theorem tw10262894609892024280 : True := trivial
theorem tw1755160137687136248 : True := trivial
theorem tw11464151749916689433 : True := trivial
theorem tw10522847979293890585 : True := trivial
theorem tw231229590074732665 : True := trivial
theorem tw17949041236894564505 : True := trivial
theorem tw11433771726790994105 : True := trivial
theorem tw865934649990012089 : True := trivial
theorem tw17505962057792779481 : True := trivial
theorem tw8145349242335154425 : True := trivial
theorem tw4604212456927381881 : True := trivial
theorem tw12156102419782637113 : True := trivial
theorem tw14079303763986187865 : True := trivial
theorem tw10825495383528355449 : True := trivial
theorem tw12255261636988715641 : True := trivial
theorem tw16598413461185480345 : True := trivial
theorem tw3126392132954137305 : True := trivial
theorem tw1920726153831570137 : True := trivial
theorem tw5198374011957537497 : True := trivial
theorem tw15894916990594122489 : True := trivial
theorem tw16922829524019251993 : True := trivial
theorem tw10687186202288469785 : True := trivial
theorem tw15983028314799923993 : True := trivial
theorem tw3824035050307520313 : True := trivial
theorem tw7572454715449105241 : True := trivial
theorem tw18441901858740335481 : True := trivial
theorem tw13140486573369506713 : True := trivial
theorem tw2623044581110992825 : True := trivial
theorem tw12368527720025880537 : True := trivial
theorem tw16058305621173774329 : True := trivial
theorem tw5339255323084013658 : True := trivial
theorem tw11287087464465403994 : True := trivial
theorem tw3001034260400250074 : True := trivial
theorem tw2435027432964381914 : True := trivial
theorem tw4450645897874533690 : True := trivial
theorem tw18067485784759412026 : True := trivial
theorem tw13337376686094594394 : True := trivial
theorem tw2712234041270331738 : True := trivial
theorem tw6888899173347325306 : True := trivial
theorem tw11900849375639276954 : True := trivial
theorem tw16722652494498234810 : True := trivial
theorem tw2157179705683602938 : True := trivial
theorem tw14818229024624553466 : True := trivial
theorem tw9147858983923107322 : True := trivial
theorem tw2401986648455628314 : True := trivial
theorem tw254116369111696922 : True := trivial
theorem tw6191845987107587674 : True := trivial
theorem tw5467518461911992026 : True := trivial
theorem tw11073836787981615898 : True := trivial
theorem tw17976281103627856666 : True := trivial
theorem tw15212320043352035130 : True := trivial
theorem tw1178941174535581530 : True := trivial
theorem tw4753384686134896506 : True := trivial
theorem tw16552438179807524730 : True := trivial
theorem tw16067232033721663386 : True := trivial
theorem tw2377051944226240442 : True := trivial
theorem tw10934680310476361690 : True := trivial
theorem tw9428215702899216346 : True := trivial
theorem tw7736265614475322362 : True := trivial
theorem tw13058378807469172763 : True := trivial
theorem tw6174992320077057051 : True := trivial
theorem tw8362529207338576955 : True := trivial
theorem tw18273818757450323003 : True := trivial
theorem tw5408936960376264763 : True := trivial
theorem tw14413269631470098491 : True := trivial
theorem tw10245827405716387899 : True := trivial
theorem tw2755168936906683515 : True := trivial
theorem tw5125122434260300987 : True := trivial
theorem tw14136804826730542299 : True := trivial
theorem tw13243428940556645627 : True := trivial
theorem tw15391193930788139291 : True := trivial
theorem tw1757469663043443995 : True := trivial
theorem tw13919864421615154459 : True := trivial
theorem tw7893753021996834107 : True := trivial
theorem tw12366976056712604987 : True := trivial
theorem tw17709499263418891611 : True := trivial
theorem tw17908744950565471611 : True := trivial
theorem tw11259258439793676667 : True := trivial
theorem tw12678216445180387739 : True := trivial
theorem tw15276364124110530107 : True := trivial
theorem tw12136373112442039867 : True := trivial
theorem tw9332625347485113051 : True := trivial
theorem tw3653323547965536987 : True := trivial
theorem tw11861665280820961051 : True := trivial
theorem tw1201014619808804667 : True := trivial
theorem tw2989081249873181531 : True := trivial
theorem tw3277304503867759483 : True := trivial
theorem tw4640233976361848731 : True := trivial
theorem tw8242801672554001307 : True := trivial
theorem tw11079523946960817083 : True := trivial
theorem tw6344499837986302971 : True := trivial
theorem tw3182066545377776668 : True := trivial
theorem tw4267370942614087708 : True := trivial
theorem tw8012314133294884892 : True := trivial
theorem tw10358553591175712828 : True := trivial
theorem tw15897751762484547644 : True := trivial
theorem tw2745975828463042652 : True := trivial
theorem tw7890119084441913436 : True := trivial
theorem tw15568590312123460700 : True := trivial
theorem tw571234486419386460 : True := trivial
theorem tw7766553078971997340 : True := trivial
theorem tw11327291804721966236 : True := trivial
theorem tw6474547981391791292 : True := trivial
theorem tw3596539772272190684 : True := trivial
theorem tw14895223758201777404 : True := trivial
theorem tw4866532616408675644 : True := trivial
theorem tw8175841828082645308 : True := trivial
theorem tw3371441826162766204 : True := trivial
theorem tw1220063123718784444 : True := trivial
theorem tw2718335584819230172 : True := trivial
theorem tw11596162240474916316 : True := trivial
theorem tw12899187539039004252 : True := trivial
theorem tw5232447694434443868 : True := trivial
theorem tw10922585996098230940 : True := trivial
theorem tw18075728725927584508 : True := trivial
theorem tw4942156116615212828 : True := trivial
theorem tw18160016908053131068 : True := trivial
theorem tw5444004729552602972 : True := trivial
theorem tw2345962117390206812 : True := trivial
theorem tw6289066267575825276 : True := trivial
theorem tw11587840852615733244 : True := trivial
theorem tw5615538246933593084 : True := trivial
theorem tw2577004603892754428 : True := trivial
theorem tw12647181976675057693 : True := trivial
theorem tw7173336427004594205 : True := trivial
theorem tw5153806258277876797 : True := trivial
theorem tw8622647684461954141 : True := trivial
theorem tw12564275881841631453 : True := trivial
theorem tw13439079447613911261 : True := trivial
theorem tw7447926269954507005 : True := trivial
theorem tw5894363331843800317 : True := trivial
theorem tw14511914372468194589 : True := trivial
theorem tw12546112091384814077 : True := trivial
theorem tw5155746909914488317 : True := trivial
theorem tw16003418387512608349 : True := trivial
theorem tw8276370314201991869 : True := trivial
theorem tw2344874265791932093 : True := trivial
theorem tw1988380387428154045 : True := trivial
theorem tw6115941722662255453 : True := trivial
theorem tw2411879115843171293 : True := trivial
theorem tw14445461251299451901 : True := trivial
theorem tw4601842708851808253 : True := trivial
theorem tw3283678634335141918 : True := trivial
theorem tw11169170629505121374 : True := trivial
theorem tw4335589168548002974 : True := trivial
theorem tw13236568462780611774 : True := trivial
theorem tw16805657564135159038 : True := trivial
theorem tw12937318829713667358 : True := trivial
theorem tw2713700265044037950 : True := trivial
theorem tw16049093288857484606 : True := trivial
theorem tw4663961915460001118 : True := trivial
theorem tw12472211002818780510 : True := trivial
theorem tw6197163739476308446 : True := trivial
theorem tw423932754749013470 : True := trivial
theorem tw13876968418172562910 : True := trivial
theorem tw9330871077883408990 : True := trivial
theorem tw8783414095976062590 : True := trivial
theorem tw5742496928188833438 : True := trivial
theorem tw16432437966253551294 : True := trivial
theorem tw10245305395832992478 : True := trivial
theorem tw3618199742528548574 : True := trivial
theorem tw8798234439551126302 : True := trivial
theorem tw7162800699837388606 : True := trivial
theorem tw1966650481214807071 : True := trivial
theorem tw2192104061647235167 : True := trivial
theorem tw12830009561047833727 : True := trivial
theorem tw16178539194165181599 : True := trivial
theorem tw380354284929070303 : True := trivial
theorem tw6771056668649076959 : True := trivial
theorem tw1154236357714667903 : True := trivial
theorem tw17437447896590218623 : True := trivial
theorem tw9955949723702287775 : True := trivial
theorem tw13312719382961666495 : True := trivial
theorem tw11285245170579873247 : True := trivial
theorem tw7656771425951796703 : True := trivial
theorem tw10611022197969446399 : True := trivial
theorem tw9267384480093931007 : True := trivial
theorem tw9233372132196491839 : True := trivial
theorem tw11358723435476101727 : True := trivial
theorem tw9603617104090857087 : True := trivial
theorem tw14540532868893435647 : True := trivial
theorem tw6510452282138563327 : True := trivial
theorem tw12420869901182743423 : True := trivial
theorem tw11728965027445131135 : True := trivial
theorem tw15134538260556929983 : True := trivial
theorem tw3838375720813097983 : True := trivial
theorem tw17243321226081401855 : True := trivial
end PySem.W.Fast
set_option maxRecDepth 100000 in
set_option maxHeartbeats 0 in
theorem PySem.Challenge.cw_nearerwork_k06_sums_and_sayings_read_holds : PySem.Challenge.rw_nearerwork_k06_sums_and_sayings_read.Holds := by
  w_on; o_law; k_head; (case hw => w_witness2)
  k_fill
  refine Nw.walk (l := PySem.Challenge.rw_nearerwork_k06_sums_and_sayings_read) rfl rfl (fun w h Y => PySem.W.kIn_of Y) ?F
  case F =>
    intro w mg fa h KX G hmg
    refine' Nw.all_mk KX G hmg ?aN ?pgN ?hdN ?poN ?saN ?mkN ?kcN ?nN_number ?aM ?pgM ?hdM ?poM ?saM ?mkM ?kcM ?nM_name ?aP ?pgP ?hdP ?poP ?saP ?mkP ?kcP ?nP_one ?nP_other ?aI ?pgI ?hdI ?poI ?saI ?mkI ?kcI ?nI_one ?nI_other ?aX ?pgX ?hdX ?poX ?saX ?mkX ?kcX ?nX_one ?nX_other ?aY ?pgY ?hdY ?poY ?saY ?mkY ?kcY ?inY ?aQ ?pgQ ?hdQ ?poQ ?saQ ?mkQ ?kcQ ?nQ_one ?nQ_other ?aA ?pgA ?hdA ?poA ?saA ?mkA ?kcA ?nA_one ?nA_other ?aE ?pgE ?hdE ?poE ?saE ?mkE ?kcE ?nE_one ?nE_other ?aU ?pgU ?hdU ?poU ?saU ?mkU ?kcU ?nU_one ?nU_other ?aB ?pgB ?hdB ?poB ?saB ?mkB ?kcB ?nB_one ?nB_other ?aO ?pgO ?hdO ?poO ?saO ?mkO ?kcO ?nO_one ?nO_other ?aT ?pgT ?hdT ?poT ?saT ?mkT ?kcT ?nT_one ?aR ?pgR ?hdR ?poR ?saR ?mkR ?kcR ?nR_pieces ?nR_place ?aS ?pgS ?hdS ?poS ?saS ?mkS ?kcS ?inS ?aNI ?iNI ?lNI ?cNI ?kNI ?aMI ?iMI ?lMI ?cMI ?kMI ?aTI ?aTII ?aTIX ?iTI ?lTI ?cTI ?kTI ?aPI ?aPIA ?aPIE ?aPIU ?aPIB ?aPIO ?iPI ?lPI ?cPI ?kPI ?aOI ?iOI ?lOI ?cOI ?kOI ?aRI ?iRI ?lRI ?cRI ?kRI ?aTN ?aTNI ?aTNX ?iTN ?lTN ?cTN ?kTN ?aPN ?aPNA ?aPNE ?aPNU ?aPNB ?aPNO ?iPN ?lPN ?cPN ?kPN ?aNS ?iNS ?lNS ?cNS ?kNS ?aMS ?iMS ?lMS ?cMS ?kMS ?aPS ?iPS ?lPS ?cPS ?kPS ?aIS ?iIS ?lIS ?cIS ?kIS ?aXS ?iXS ?lXS ?cXS ?kXS ?aNW ?iNW ?lNW ?cNW ?kNW ?aMW ?iMW ?lMW ?cMW ?kMW ?aPW ?iPW ?lPW ?cPW ?kPW ?aIW ?iIW ?lIW ?cIW ?kIW ?aXW ?iXW ?lXW ?cXW ?kXW ?aNN ?iNN ?lNN ?cNN ?kNN ?aMN ?iMN ?lMN ?cMN ?kMN ?aYS ?iYS ?lYS ?cYS ?kYS ?aLS ?iLS ?lLS ?cLS ?kLS ?aAS ?iAS ?lAS ?cAS ?kAS ?aES ?iES ?lES ?cES ?kES ?aUS ?iUS ?lUS ?cUS ?kUS ?aBS ?iBS ?lBS ?cBS ?kBS ?aOS ?iOS ?lOS ?cOS ?kOS ?aTS ?iTS ?lTS ?cTS ?kTS ?aYH ?iYH ?lYH ?cYH ?kYH ?aLH ?iLH ?lLH ?cLH ?kLH ?aAH ?iAH ?lAH ?cAH ?kAH ?aEH ?iEH ?lEH ?cEH ?kEH ?aUH ?iUH ?lUH ?cUH ?kUH ?aBH ?iBH ?lBH ?cBH ?kBH ?aOH ?iOH ?lOH ?cOH ?kOH ?aTH ?iTH ?lTH ?cTH ?kTH ?aYN ?iYN ?lYN ?cYN ?kYN ?aTNn ?iTNn ?lTNn ?cTNn ?kTNn ?aRA ?iRA ?lRA ?cRA ?kRA ?aRT ?iRT ?lRT ?cRT ?kRT ?aRW ?iRW ?lRW ?cRW ?kRW ?aRE ?iRE ?lRE ?cRE ?kRE ?aCe ?lCe ?cCe ?kCe ?aMi ?lMi ?cMi ?kMi ?aOw ?lOw ?cOw ?kOw ?aPo ?lPo ?cPo ?kPo ?aLe ?lLe ?cLe ?kLe ?aSu ?lSu ?cSu ?kSu ?aSt ?lSt ?cSt ?kSt ?aWo ?lWo ?cWo ?kWo ?aSa ?lSa ?cSa ?kSa ?aTe ?lTe ?cTe ?kTe ?aHo ?lHo ?cHo ?kHo ?aVa ?lVa ?cVa ?kVa ?aSp ?lSp ?cSp ?kSp ?aCm ?lCm ?cCm ?kCm ?aTw ?lTw ?cTw ?kTw ?aMo ?lMo ?cMo ?kMo ?aNu ?lNu ?cNu ?kNu ?aNm ?lNm ?cNm ?kNm ?aFa ?lFa ?cFa ?kFa ?aWd ?lWd ?cWd ?kWd ?aOp ?lOp ?cOp ?kOp ?aWs ?lWs ?cWs ?kWs ?aSi ?lSi ?cSi ?kSi ?aBi ?lBi ?cBi ?kBi ?aYi ?lYi ?cYi ?kYi ?aCi ?lCi ?cCi ?kCi ?aBj ?lBj ?cBj ?kBj ?aDi ?lDi ?cDi ?kDi ?aRs ?lRs ?cRs ?kRs ?aRy ?lRy ?cRy ?kRy ?aBr ?lBr ?cBr ?kBr ?aBs ?lBs ?cBs ?kBs ?aL ?lL ?cL ?kL ?z_len ?z_range ?z_isinstance ?z_str ?z_int ?z_list ?z_tuple ?z_bool ?z_dict ?z_sorted ?z_set ?z_max ?z_all ?hn ?ht ?hcN ?hmN ?hkN ?hcM ?hmM ?hkM ?hcP ?hmP ?hkP ?hcI ?hmI ?hkI ?hcX ?hmX ?hkX ?hcY ?hmY ?hcQ ?hmQ ?hkQ ?hcA ?hmA ?hkA ?hcE ?hmE ?hkE ?hcU ?hmU ?hkU ?hcB ?hmB ?hkB ?hcO ?hmO ?hkO ?hcT ?hmT ?hkT ?hmS ?tyY ?tyS ?zLt ?eLt ?zFg ?eFg ?z8 ?z2 ?z300 ?zM8 ?zO ?zS ?lkO ?szO ?vO ?lkS ?szS ?vS
    (case aN | pgN | hdN | poN | saN | mkN | kcN | nN_number | aM | pgM | hdM | poM | saM | mkM | kcM | nM_name | aP | pgP | hdP | poP | saP | mkP | kcP | nP_one | nP_other | aI | pgI | hdI | poI | saI | mkI | kcI | nI_one | nI_other | aX | pgX | hdX | poX | saX | mkX | kcX | nX_one | nX_other | aY | pgY | hdY | poY | saY | mkY | kcY | inY | aQ | pgQ | hdQ | poQ | saQ | mkQ | kcQ | nQ_one | nQ_other | aA | pgA | hdA | poA | saA | mkA | kcA | nA_one | nA_other | aE | pgE | hdE | poE | saE | mkE | kcE | nE_one | nE_other | aU | pgU | hdU | poU | saU | mkU | kcU | nU_one | nU_other | aB | pgB | hdB | poB | saB | mkB | kcB | nB_one | nB_other | aO | pgO | hdO | poO | saO | mkO | kcO | nO_one | nO_other | aT | pgT | hdT | poT | saT | mkT | kcT | nT_one | aR | pgR | hdR | poR | saR | mkR | kcR | nR_pieces | nR_place | aS | pgS | hdS | poS | saS | mkS | kcS | inS | aNI | iNI | lNI | cNI | kNI | aMI | iMI | lMI | cMI | kMI | aTI | aTII | aTIX | iTI | lTI | cTI | kTI | aPI | aPIA | aPIE | aPIU | aPIB | aPIO | iPI | lPI | cPI | kPI | aOI | iOI | lOI | cOI | kOI | aRI | iRI | lRI | cRI | kRI | aTN | aTNI | aTNX | iTN | lTN | cTN | kTN | aPN | aPNA | aPNE | aPNU | aPNB | aPNO | iPN | lPN | cPN | kPN | aNS | iNS | lNS | cNS | kNS | aMS | iMS | lMS | cMS | kMS | aPS | iPS | lPS | cPS | kPS | aIS | iIS | lIS | cIS | kIS | aXS | iXS | lXS | cXS | kXS | aNW | iNW | lNW | cNW | kNW | aMW | iMW | lMW | cMW | kMW | aPW | iPW | lPW | cPW | kPW | aIW | iIW | lIW | cIW | kIW | aXW | iXW | lXW | cXW | kXW | aNN | iNN | lNN | cNN | kNN | aMN | iMN | lMN | cMN | kMN | aYS | iYS | lYS | cYS | kYS | aLS | iLS | lLS | cLS | kLS | aAS | iAS | lAS | cAS | kAS | aES | iES | lES | cES | kES | aUS | iUS | lUS | cUS | kUS | aBS | iBS | lBS | cBS | kBS | aOS | iOS | lOS | cOS | kOS | aTS | iTS | lTS | cTS | kTS | aYH | iYH | lYH | cYH | kYH | aLH | iLH | lLH | cLH | kLH | aAH | iAH | lAH | cAH | kAH | aEH | iEH | lEH | cEH | kEH | aUH | iUH | lUH | cUH | kUH | aBH | iBH | lBH | cBH | kBH | aOH | iOH | lOH | cOH | kOH | aTH | iTH | lTH | cTH | kTH | aYN | iYN | lYN | cYN | kYN | aTNn | iTNn | lTNn | cTNn | kTNn | aRA | iRA | lRA | cRA | kRA | aRT | iRT | lRT | cRT | kRT | aRW | iRW | lRW | cRW | kRW | aRE | iRE | lRE | cRE | kRE | aCe | lCe | cCe | kCe | aMi | lMi | cMi | kMi | aOw | lOw | cOw | kOw | aPo | lPo | cPo | kPo | aLe | lLe | cLe | kLe | aSu | lSu | cSu | kSu | aSt | lSt | cSt | kSt | aWo | lWo | cWo | kWo | aSa | lSa | cSa | kSa | aTe | lTe | cTe | kTe | aHo | lHo | cHo | kHo | aVa | lVa | cVa | kVa | aSp | lSp | cSp | kSp | aCm | lCm | cCm | kCm | aTw | lTw | cTw | kTw | aMo | lMo | cMo | kMo | aNu | lNu | cNu | kNu | aNm | lNm | cNm | kNm | aFa | lFa | cFa | kFa | aWd | lWd | cWd | kWd | aOp | lOp | cOp | kOp | aWs | lWs | cWs | kWs | aSi | lSi | cSi | kSi | aBi | lBi | cBi | kBi | aYi | lYi | cYi | kYi | aCi | lCi | cCi | kCi | aBj | lBj | cBj | kBj | aDi | lDi | cDi | kDi | aRs | lRs | cRs | kRs | aRy | lRy | cRy | kRy | aBr | lBr | cBr | kBr | aBs | lBs | cBs | kBs | aL | lL | cL | kL | z_len | z_range | z_isinstance | z_str | z_int | z_list | z_tuple | z_bool | z_dict | z_sorted | z_set | z_max | z_all | hn | ht | hcN | hmN | hkN | hcM | hmM | hkM | hcP | hmP | hkP | hcI | hmI | hkI | hcX | hmX | hkX | hcY | hmY | hcQ | hmQ | hkQ | hcA | hmA | hkA | hcE | hmE | hkE | hcU | hmU | hkU | hcB | hmB | hkB | hcO | hmO | hkO | hcT | hmT | hkT | hmS | tyY | tyS => k_is)
    (case zLt => k_is)
    (case eLt => rfl)
    (case zFg => k_is)
    (case eFg => rfl)
    (case z8 => k_is)
    (case z2 => k_is)
    (case z300 => k_is)
    (case zM8 => k_is)
    (case zO => k_is)
    (case zS => k_is)
    (case lkO => k_is)
    (case szO => rfl)
    (case vO => exact .cons ⟨_, rfl⟩ (.cons ⟨_, rfl⟩ (.cons ⟨_, rfl⟩ (.cons ⟨_, rfl⟩ (.cons ⟨_, rfl⟩ (.cons ⟨_, rfl⟩ (.cons ⟨_, rfl⟩ (.cons ⟨_, rfl⟩ (.cons ⟨_, rfl⟩ (.cons ⟨_, rfl⟩ (.cons ⟨_, rfl⟩ (.cons ⟨_, rfl⟩ (.cons ⟨_, rfl⟩ (.cons ⟨_, rfl⟩ (.cons ⟨_, rfl⟩ (.cons ⟨_, rfl⟩ (.cons ⟨_, rfl⟩ (.cons ⟨_, rfl⟩ (.nil)))))))))))))))))))
    (case lkS => k_is)
    (case szS => rfl)
    (case vS => exact .cons ⟨_, rfl⟩ (.cons ⟨_, rfl⟩ (.cons ⟨_, rfl⟩ (.cons ⟨_, rfl⟩ (.cons ⟨_, rfl⟩ (.cons ⟨_, rfl⟩ (.cons ⟨_, rfl⟩ (.cons ⟨_, rfl⟩ (.cons ⟨_, rfl⟩ (.cons ⟨_, rfl⟩ (.cons ⟨_, rfl⟩ (.cons ⟨_, rfl⟩ (.cons ⟨_, rfl⟩ (.nil))))))))))))))
