import PyProof.Rows.All
import Wide.All
import OpenK.AllK
import Wide.FinOn
import Lean
import PyProof.EqAt
import PyProof.EqKinds
import PyProof.TupleCall
import PyProof.NeKinds
import KE.IntBitsLaws
import PyProof.ZipIter
import PyProof.StrCalls2
import PyProof.Rows.Range3
import PyProof.ListRange
import PyProof.LongRange
import KE.LcSums
import KE.KIntText
import PyProof.StrLawsTight
import PyProof.NsDelKeeps
import KE.KTryMore
import PyProof.ExcClass3
import PyProof.StrLawsIdx
import PyProof.StrLawsNeg
import PySem.Challenge.RW_nearerwork_k01_words_of_texts
set_option Elab.async false
set_option linter.all false
set_option maxRecDepth 100000
set_option maxHeartbeats 4000000
namespace L2
open PySem PySem.Spec PyProof.Rows
abbrev Key := Sum Int Str
def keyIs : Key → Value → Bool
  | .inl k, v => Value.isInt k v
  | .inr x, v => Value.isStrOf x v
def keyH (w : World) : Key → Int
  | .inl k => hashInt k
  | .inr x => hashStr w x
theorem keyIs_shape : ∀ {k : Key} {v : Value}, keyIs k v = true → (∃ i t, k = Sum.inl i ∧ v = Value.int i t) ∨ (∃ x t, k = Sum.inr x ∧ v = Value.str x t)
  | .inl i, v, h => by
    obtain ⟨t, e⟩ := Value.isInt_shape (k := i) (v := v) h
    exact .inl ⟨i, t, rfl, e⟩
  | .inr x, v, h => by
    obtain ⟨t, e⟩ := Value.isStrOf_shape (x := x) (v := v) h
    exact .inr ⟨x, t, rfl, e⟩
theorem keyIs_int (i : Int) (t : Tok) : keyIs (.inl i) (.int i t) = true := by simp [keyIs, Value.isInt]
theorem keyIs_str (x : Str) (t : Tok) : keyIs (.inr x) (.str x t) = true := by simp [keyIs, Value.isStrOf]
theorem key_ll (a b : Int) : decide ((Sum.inl a : Key) = Sum.inl b) = (a == b) := by
  by_cases e : a = b
  · subst e; simp
  · have h : ¬ (Sum.inl a : Key) = Sum.inl b := fun q => e (Sum.inl.inj q)
    rw [decide_eq_false h]
    exact (beq_eq_false_iff_ne.mpr e).symm
theorem key_rr (a b : Str) : decide ((Sum.inr a : Key) = Sum.inr b) = decide (a = b) := by
  by_cases e : a = b
  · subst e; simp
  · have h : ¬ (Sum.inr a : Key) = Sum.inr b := fun q => e (Sum.inr.inj q)
    rw [decide_eq_false h, decide_eq_false e]
theorem key_lr (a : Int) (b : Str) : decide ((Sum.inl a : Key) = Sum.inr b) = false := decide_eq_false (fun q => nomatch q)
theorem key_rl (a : Str) (b : Int) : decide ((Sum.inr a : Key) = Sum.inl b) = false := decide_eq_false (fun q => nomatch q)
def mixKind (prog : Program) (w : World) : PySem.KeyKind prog w Key where
  is := keyIs
  hash := keyH w
  inj := fun v a b ha hb => by
    rcases keyIs_shape ha with ⟨i, t, rfl, rfl⟩ | ⟨x, t, rfl, rfl⟩
    · rcases keyIs_shape hb with ⟨j, u, rfl, e⟩ | ⟨y, u, rfl, e⟩
      · injection e with e1 _; rw [e1]
      · exact nomatch e
    · rcases keyIs_shape hb with ⟨j, u, rfl, e⟩ | ⟨y, u, rfl, e⟩
      · exact nomatch e
      · injection e with e1 _; rw [e1]
  byValue := fun k v h => by
    rcases keyIs_shape h with ⟨i, t, rfl, rfl⟩ | ⟨x, t, rfl, rfl⟩ <;> rfl
  pyHash := fun hv h => by
    rcases keyIs_shape hv with ⟨i, t, rfl, rfl⟩ | ⟨x, t, rfl, rfl⟩
    · exact wpAny_pyHash_int h
    · exact wpAny_pyHash_str h
  eqBool := fun hu hv h => by
    rcases keyIs_shape hu with ⟨i, t, rfl, rfl⟩ | ⟨x, t, rfl, rfl⟩
    · rcases keyIs_shape hv with ⟨j, u, rfl, rfl⟩ | ⟨y, u, rfl, rfl⟩
      · rw [key_ll] at h; exact wpAny_eqBool_int h
      · rw [key_lr] at h; exact SeqAt.EqAt.int_str i t y u _ _ _ _ h
    · rcases keyIs_shape hv with ⟨j, u, rfl, rfl⟩ | ⟨y, u, rfl, rfl⟩
      · rw [key_rl] at h; exact SeqAt.EqAt.str_int x t j u _ _ _ _ h
      · rw [key_rr] at h; exact wpAny_eqBool_str h
  «strs» := fun k x t v h => by
    rcases keyIs_shape h with ⟨i, u, rfl, e⟩ | ⟨y, u, rfl, e⟩
    · exact nomatch e
    · injection e with e1 _
      subst e1
      cases v <;> rfl
theorem mixKind_int (prog : Program) (w : World) (i : Int) (t : Tok) : (mixKind prog w).is (.inl i) (.int i t) = true := keyIs_int i t
theorem mixKind_str (prog : Program) (w : World) (x : Str) (t : Tok) : (mixKind prog w).is (.inr x) (.str x t) = true := keyIs_str x t
end L2
namespace L2
open PySem PySem.Spec PyProof.Rows
inductive V where
  | non | bl (b : Bool) | int (i : Int) | str (x : Str) | byt (b : Array UInt8) | flt (b : UInt64) | ref (a : Addr) | ty (n : String)
  deriving DecidableEq
def RelV : V → Value → Prop
  | .non, u => u = Value.none
  | .bl b, u => u = Value.bool b
  | .int i, u => ∃ t, u = Value.int i t
  | .str x, u => ∃ t, u = Value.str x t
  | .byt b, u => ∃ t, u = Value.bytes b t
  | .flt b, u => ∃ t, u = Value.float b t
  | .ref a, u => u = Value.ref a
  | .ty n, u => u = Value.type n
abbrev Vals : List V → List Value → Prop := Paired RelV
theorem Vals.length {xs : List V} {us : List Value} (r : Vals xs us) : xs.length = us.length := Paired.length r
theorem Vals.get : ∀ {xs : List V} {us : List Value} {i : Nat} {x : V}, Vals xs us → xs[i]? = some x → ∃ u, us[i]? = some u ∧ RelV x u
  | _, _, _, _, .nil, e => by simp at e
  | _, _, 0, _, .cons r _, e => by simp at e; subst e; exact ⟨_, rfl, r⟩
  | _, _, i + 1, x, .cons _ t, e => by
    obtain ⟨u, h1, h2⟩ := Vals.get (i := i) (x := x) t (by simpa using e)
    exact ⟨u, by simpa using h1, h2⟩
theorem Vals.append : ∀ {xs ys : List V} {us ws : List Value}, Vals xs us → Vals ys ws → Vals (xs ++ ys) (us ++ ws)
  | _, _, _, _, .nil, s => s
  | _, _, _, _, .cons r t, s => .cons r (Vals.append t s)
theorem Vals.take : ∀ {xs : List V} {us : List Value} (n : Nat), Vals xs us → Vals (xs.take n) (us.take n)
  | _, _, 0, _ => .nil
  | _, _, _ + 1, .nil => .nil
  | _, _, n + 1, .cons r t => .cons r (Vals.take n t)
theorem Vals.drop : ∀ {xs : List V} {us : List Value} (n : Nat), Vals xs us → Vals (xs.drop n) (us.drop n)
  | _, _, 0, r => r
  | _, _, _ + 1, .nil => .nil
  | _, _, n + 1, .cons _ t => Vals.drop n t
def RelO : Option V → Option Value → Prop
  | some v, some u => RelV v u
  | none, none => True
  | _, _ => False
def KV {κ : Type} : List (κ × V) → List (κ × Value) → Prop := Paired fun (p : κ × V) (q : κ × Value) => p.1 = q.1 ∧ RelV p.2 q.2
def kV : Key → V
  | .inl i => .int i
  | .inr x => .str x
inductive HO where
  | lst (xs : List V)
  | tup (xs : List V)
  | dK (kvs : List (Key × V)) | dT (kvs : List (List Key × V))
  | set (S : Int → Bool) (n : Nat)
  | ins (C dx : Addr) (fs : List (Str × V))
  | own (x : Addr)
  | xd (fs : List (Str × V))
  | met (f x : Addr)
  | rng (lo hi : Int)
  | frz (o : Obj) (u : HO)
  | tbl (ps : Array Value)
  | ext (φ : Heap → Prop)
abbrev Hp := Addr → Option HO
def upd (H : Hp) (a : Addr) (o : HO) : Hp := fun b => if b = a then some o else H b
theorem upd_same {H : Hp} {a : Addr} {o : HO} : upd H a o a = some o := by unfold upd; rw [if_pos rfl]
theorem upd_ne {H : Hp} {a b : Addr} {o : HO} (h : b ≠ a) : upd H a o b = H b := by unfold upd; rw [if_neg h]
theorem upd_upd {H : Hp} {a : Addr} {o u : HO} : upd (upd H a o) a u = upd H a u := by
  funext b; unfold upd; split <;> rfl
theorem ne_of_none {H : Hp} {a b : Addr} {o : HO} (h : H a = some o) (h' : H b = none) : a ≠ b := by
  intro e; subst e; rw [h] at h'; cases h'
section
variable (P : Program) (w : World)
def ObjOk (H : Hp) (h : Heap) (a : Addr) : HO → Prop
  | .lst xs => xs.length ≤ sizeLine ∧ ∃ (its : List Value) (n : Nat), Vals xs its ∧ h.get? a = some { cls := .type "list", data := .seq its.toArray n }
  | .tup xs => xs.length ≤ sizeLine ∧ ∃ its : List Value, Vals xs its ∧ IsTup h a its.toArray
  | .dK kvs => kvs.length ≤ sizeLine ∧ (a == sysModules) = false ∧ ∃ vs, KV kvs vs ∧ h.DictOf (mixKind P w) a vs
  | .dT kvs => kvs.length ≤ sizeLine ∧ (a == sysModules) = false ∧ ∃ xs : List (List Key × Addr × Value),
      Paired (fun (p : List Key × V) (q : List Key × Addr × Value) => p.1 = q.1 ∧ H q.2.1 = some (.tup (p.1.map kV)) ∧ RelV p.2 q.2.2) kvs xs ∧
      ∃ o es ep, h.get? a = some o ∧ o.ExactDict ∧ o.data = .dict es ep ∧ es.toList = xs.map (entryOfKey (tupleKind (mixKind P w))) ∧ (xs.map (·.1)).Nodup
  | .set S n => h.SetOf (intKind P w) a S n
  | .ins C dx fs => H dx = some (.own a) ∧ fs.length ≤ 1000 ∧ dx ≠ a ∧ h.get? a = some (PySem.W.instObj C dx) ∧
      ∃ mA, h.Ns1 dx mA ∧ (∀ f, RelO (fs.lookup f) (mA f)) ∧ PySem.Within mA (fs.map (·.1))
  | .own _ => ∃ o, h.get? a = some o
  | .xd fs => ∃ mA, h.Ns1 a mA ∧ ∀ f, RelO (fs.lookup f) (mA f)
  | .rng lo hi => ∃ t u v, h.get? a = some { cls := .type "range", data := .fields #[.int lo t, .int hi u, .int 1 v] }
  | .frz o u => h.get? a = some o ∧ ObjOk H h a u
  | .tbl ps => h.get? a = some { cls := .none, data := .fields ps }
  | .met f x => h.get? a = some (PySem.W.methodObj (.ref f) (.ref x))
  | .ext φ => φ h ∧ (∃ o, h.get? a = some o) ∧ ∀ h1 h2 : Heap, φ h1 → (∀ o, h1.get? a = some o → h2.get? a = some o) → φ h2
def HOk (H : Hp) (h : Heap) : Prop := ∀ a o, H a = some o → ObjOk P w H h a o
end
section
variable {P : Program} {w : World} {H H' : Hp} {h h' : Heap} {a : Addr} {o : HO}
theorem ObjOk.lt (x : ObjOk P w H h a o) : a < h.objs.size := by
  cases o with
  | lst xs => obtain ⟨_, _, _, _, e⟩ := x; exact Heap.lt_size e
  | tup xs => obtain ⟨_, _, _, p⟩ := x; exact p.lt
  | dK kvs => obtain ⟨_, _, _, _, o, _, _, e, _⟩ := x; exact Heap.lt_size e
  | dT kvs => obtain ⟨_, _, _, _, o, _, _, e, _⟩ := x; exact Heap.lt_size e
  | set S n => obtain ⟨o, _, _, _, e, _⟩ := x; exact Heap.lt_size e
  | ins C dx fs => obtain ⟨_, _, _, e, _⟩ := x; exact Heap.lt_size e
  | own y => obtain ⟨_, e⟩ := x; exact Heap.lt_size e
  | xd fs => obtain ⟨_, ⟨_, _, _, e, _⟩, _⟩ := x; exact Heap.lt_size e
  | rng lo hi => obtain ⟨_, _, _, e⟩ := x; exact Heap.lt_size e
  | frz ob u => obtain ⟨e, _⟩ := x; exact Heap.lt_size e
  | tbl ps => exact Heap.lt_size (show h.get? a = some _ from x)
  | met f y => exact Heap.lt_size (show h.get? a = some _ from x)
  | ext φ => obtain ⟨_, ⟨_, e⟩, _⟩ := x; exact Heap.lt_size e
theorem Paired.mapP {α β : Type} {F G : α → β → Prop} : ∀ {l₁ : List α} {l₂ : List β}, Paired F l₁ l₂ → (∀ a b, F a b → G a b) → Paired G l₁ l₂
  | _, _, .nil, _ => .nil
  | _, _, .cons r t, f => .cons (f _ _ r) (Paired.mapP t f)
theorem ObjOk.stay (x : ObjOk P w H h a o) (k : ∀ b u, (b = a ∨ H b = some (.own a)) → h.get? b = some u → h'.get? b = some u)
    (ho : ∀ b, H b = some (.own a) → H' b = some (.own a)) (ht : ∀ b xs, H b = some (.tup xs) → H' b = some (.tup xs)) : ObjOk P w H' h' a o := by
  induction o with
  | lst xs => obtain ⟨z, its, n, r, e⟩ := x; exact ⟨z, its, n, r, k _ _ (.inl rfl) e⟩
  | tup xs => obtain ⟨z, its, r, ob, e, c⟩ := x; exact ⟨z, its, r, ob, k _ _ (.inl rfl) e, c⟩
  | dK kvs => obtain ⟨z, y, vs, r, ob, es, ep, e, c⟩ := x; exact ⟨z, y, vs, r, ob, es, ep, k _ _ (.inl rfl) e, c⟩
  | dT kvs =>
    obtain ⟨z, y, xs, r, ob, es, ep, e, c⟩ := x
    exact ⟨z, y, xs, Paired.mapP r fun p q z => ⟨z.1, ht _ _ z.2.1, z.2.2⟩, ob, es, ep, k _ _ (.inl rfl) e, c⟩
  | set S n => obtain ⟨ob, es, ep, t, e, c⟩ := x; exact ⟨ob, es, ep, t, k _ _ (.inl rfl) e, c⟩
  | ins C dx fs =>
    obtain ⟨d, z, ne, e, mA, ⟨od, es, ep, e2, c⟩, r⟩ := x
    exact ⟨ho _ d, z, ne, k _ _ (.inl rfl) e, mA, ⟨od, es, ep, k _ _ (.inr d) e2, c⟩, r⟩
  | own y => obtain ⟨ob, e⟩ := x; exact ⟨ob, k _ _ (.inl rfl) e⟩
  | xd fs => obtain ⟨mA, ⟨od, es, ep, e, c⟩, r⟩ := x; exact ⟨mA, ⟨od, es, ep, k _ _ (.inl rfl) e, c⟩, r⟩
  | rng lo hi => obtain ⟨t, u, v, e⟩ := x; exact ⟨t, u, v, k _ _ (.inl rfl) e⟩
  | frz ob u ih => obtain ⟨e, q⟩ := x; exact ⟨k _ _ (.inl rfl) e, ih q⟩
  | tbl ps =>
    have e : h.get? a = some { cls := .none, data := .fields ps } := x
    show h'.get? a = some { cls := .none, data := .fields ps }
    exact k a _ (.inl rfl) e
  | met f y =>
    have e : h.get? a = some (PySem.W.methodObj (.ref f) (.ref y)) := x
    show h'.get? a = some (PySem.W.methodObj (.ref f) (.ref y))
    exact k a _ (.inl rfl) e
  | ext φ => obtain ⟨p, ⟨o, e⟩, st⟩ := x; exact ⟨st _ _ p fun o q => k _ _ (.inl rfl) q, ⟨o, k _ _ (.inl rfl) e⟩, st⟩
theorem HOk.lt (x : HOk P w H h) (e : H a = some o) : a < h.objs.size := (x a o e).lt
theorem HOk.fresh (x : HOk P w H h) (e : h.objs.size ≤ a) : H a = none := by
  cases q : H a with
  | none => rfl
  | some u => exact absurd (Nat.lt_of_lt_of_le (x.lt q) e) (Nat.lt_irrefl _)
theorem HOk.kept (x : HOk P w H h) (k : ∀ b u, h.get? b = some u → h'.get? b = some u) : HOk P w H h' := fun a o e =>
  (x a o e).stay (fun b u _ q => k b u q) (fun _ q => q) fun _ _ q => q
theorem HOk.laid (x : HOk P w H h) (k : ∀ b u, h.get? b = some u → h'.get? b = some u) (hp : h.objs.size ≤ a) (new : ObjOk P w (upd H a o) h' a o) : HOk P w (upd H a o) h' := fun b u e => by
  have hn := x.fresh hp
  by_cases hb : b = a
  · subst hb; rw [upd_same] at e; cases e; exact new
  · rw [upd_ne hb] at e
    exact (x b u e).stay (fun c v _ q => k c v q) (fun c q => by rw [upd_ne (ne_of_none q hn)]; exact q) fun c xs q => by rw [upd_ne (ne_of_none q hn)]; exact q
end
def Rd (H : Hp) (a : Addr) (u : HO) : Prop := H a = some u ∨ ∃ o, H a = some (.frz o u)
theorem Rd.of {H : Hp} {a : Addr} {u : HO} (h : H a = some u) : Rd H a u := .inl h
theorem Rd.ok {P : Program} {w : World} {H : Hp} {h : Heap} {a : Addr} {u : HO} (r : Rd H a u) (x : HOk P w H h) : ObjOk P w H h a u := by
  rcases r with r | ⟨o, r⟩
  · exact x a u r
  · obtain ⟨_, q⟩ := x a _ r
    exact q
def Mut : Option HO → Prop
  | some (.lst _) => True
  | some (.dK _) => True
  | some (.dT _) => True
  | some (.set _ _) => True
  | some (.ins _ _ _) => True
  | some (.ext _) => True
  | _ => False
section
variable {P : Program} {w : World} {H : Hp} {h h' : Heap} {x e : Addr} {o' : HO}
theorem HOk.write (ok : HOk P w H h) (mu : Mut (H x)) (he : e = x ∨ H e = some (.own x)) (k : ∀ b u, b ≠ e → h.get? b = some u → h'.get? b = some u) (heo : ∃ u, h'.get? e = some u)
    (new : ObjOk P w (upd H x o') h' x o') : HOk P w (upd H x o') h' := fun b u q => by
  have nown : ∀ c y, H c = some (.own y) → c ≠ x := fun c y r z => by subst z; rw [r] at mu; exact mu
  have ntup : ∀ c xs, H c = some (.tup xs) → c ≠ x := fun c xs r z => by subst z; rw [r] at mu; exact mu
  by_cases hb : b = x
  · subst hb; rw [upd_same] at q; cases q; exact new
  · rw [upd_ne hb] at q
    by_cases hbe : b = e
    · have q' : H b = some (.own x) := by
        rcases he with z | z
        · exact absurd (hbe.trans z) hb
        · rw [hbe]; exact z
      rw [q] at q'; cases q'
      obtain ⟨v, hv⟩ := heo
      exact ⟨v, by rw [hbe]; exact hv⟩
    · refine (ok b u q).stay (fun c v hc r => k c v ?_ r) (fun c r => by rw [upd_ne (nown c b r)]; exact r) fun c xs r => by rw [upd_ne (ntup c xs r)]; exact r
      rcases hc with rfl | hc
      · exact hbe
      · rintro rfl
        rcases he with z | z
        · exact nown c b hc z
        · rw [hc] at z; cases z; exact hb rfl
end
structure Un (fs ex : List Addr) (H H' : Hp) (h h' : Heap) : Prop where
  keep : ∀ b o, h.get? b = some o → H b = none → b ∉ fs → b ∉ ex → h'.get? b = some o
  slot : ∀ b o, h.get? b = some o → H b = none → b ∈ fs → b ∉ ex → ∃ sl, h'.get? b = some { o with slots := sl }
  free : ∀ b o, h.get? b = some o → H b = none → b ∉ ex → H' b = none
  there : ∀ b o, h.get? b = some o → b ∉ ex → ∃ o', h'.get? b = some o'
  tups : ∀ b xs, H b = some (.tup xs) → H' b = some (.tup xs)
  frzs : ∀ b o u, H b = some (.frz o u) → H' b = some (.frz o u)
  tbls : ∀ b ps, H b = some (.tbl ps) → ∃ more, H' b = some (.tbl (ps ++ more))
section
variable {fs fs' ex ex' : List Addr} {H H1 H2 : Hp} {h h1 h2 h' : Heap} {a x e : Addr} {o : HO}
theorem Un.any (u : Un fs ex H H1 h h1) {b : Addr} {ob : Obj} (q : h.get? b = some ob) (n : H b = none) (hx : b ∉ ex) : ∃ sl, h1.get? b = some { ob with slots := sl } := by
  by_cases hb : b ∈ fs
  · exact u.slot b ob q n hb hx
  · exact ⟨ob.slots, u.keep b ob q n hb hx⟩
theorem Un.kept (k : ∀ b u, h.get? b = some u → h'.get? b = some u) : Un fs ex H H h h' :=
  ⟨fun b ob q _ _ _ => k b ob q, fun b ob q _ _ _ => ⟨ob.slots, k b ob q⟩, fun _ _ _ n _ => n, fun b ob q _ => ⟨ob, k b ob q⟩, fun _ _ q => q, fun _ _ _ q => q, fun _ ps q => ⟨#[], by rw [q]; simp⟩⟩
theorem Un.refl : Un fs ex H H h h := Un.kept fun _ _ q => q
theorem Un.laid (k : ∀ b u, h.get? b = some u → h'.get? b = some u) (hp : h.objs.size ≤ a) (hn : H a = none) : Un fs ex H (upd H a o) h h' where
  keep := fun b u q _ _ _ => k b u q
  slot := fun b u q _ _ _ => ⟨u.slots, k b u q⟩
  free := fun b u q n _ => by rw [upd_ne (Nat.ne_of_lt (Nat.lt_of_lt_of_le (Heap.lt_size q) hp))]; exact n
  there := fun b u q _ => ⟨u, k b u q⟩
  tups := fun b xs q => by rw [upd_ne (ne_of_none q hn)]; exact q
  frzs := fun b u xs q => by rw [upd_ne (ne_of_none q hn)]; exact q
  tbls := fun b ps q => ⟨#[], by rw [upd_ne (ne_of_none q hn), q]; simp⟩
theorem Un.write (mu : Mut (H x)) (he : e = x ∨ H e = some (.own x)) (k : ∀ b u, b ≠ e → h.get? b = some u → h'.get? b = some u) (heo : ∃ u, h'.get? e = some u) : Un fs ex H (upd H x o) h h' := by
  have hx : ∀ b, H b = none → b ≠ x := fun b n z => by subst z; rw [n] at mu; exact mu
  have hb : ∀ b, H b = none → b ≠ e := fun b n z => by
    subst z
    rcases he with r | r
    · exact hx b n r
    · rw [n] at r; cases r
  have hm : ∀ b u, H b = some u → ¬ Mut (some u) → b ≠ x := fun b u q nm z => by subst z; rw [q] at mu; exact nm mu
  refine ⟨fun b u q n _ _ => k b u (hb b n) q, fun b u q n _ _ => ⟨u.slots, k b u (hb b n) q⟩, fun b u q n _ => by rw [upd_ne (hx b n)]; exact n, fun b u q _ => ?_,
    fun b xs q => by rw [upd_ne (hm b _ q fun z => z)]; exact q, fun b u xs q => by rw [upd_ne (hm b _ q fun z => z)]; exact q, fun b ps q => ⟨#[], by rw [upd_ne (hm b _ q fun z => z), q]; simp⟩⟩
  by_cases hbe : b = e
  · subst hbe; exact heo
  · exact ⟨u, k b u hbe q⟩
end
def trk (h : Heap) (H : Hp) : List Addr := (List.range h.objs.size).filter fun a => (H a).isSome
def hidT (h : Heap) (H : Hp) : Heap := PySem.W.hideAll h (trk h H)
theorem hidT_size (h : Heap) (H : Hp) : (hidT h H).objs.size = h.objs.size := PySem.W.hideAll_size _ _
theorem hidT_get {h : Heap} {H : Hp} {b : Addr} {o : Obj} (e : h.get? b = some o) (n : H b = none) : (hidT h H).get? b = some o :=
  PySem.W.hideAll_get _ e fun hm => by
    have q : (H b).isSome = true := (List.mem_filter.mp hm).2
    rw [n] at q; simp at q
theorem of_hidT {h : Heap} {H : Hp} {b : Addr} {o : Obj} (e : (hidT h H).get? b = some o) : h.get? b = some o ∧ H b = none := by
  have e' : h.get? b = some o := PySem.W.of_hideAll (trk h H) e
  refine ⟨e', ?_⟩
  cases q : H b with
  | none => rfl
  | some x =>
    have hm : b ∈ trk h H := List.mem_filter.mpr ⟨List.mem_range.mpr (Heap.lt_size e'), by simp [q]⟩
    have z : (hidT h H).get? b = none := PySem.W.hideAll_none (trk h H) hm
    rw [z] at e; cases e
end L2
namespace L2
open PySem PySem.Spec PyProof.Rows
structure Mod (K : PySem.W.Frag) (mg : Str → Option Value) (base : Heap) : Prop where
  kin : K.In base
  glob : base.Ns mainGlobals mg
  blt : ∃ mb, base.Ns builtinsNs mb ∧ ∀ x : Str, x ≠ "__name__" → mb x = bootBuiltins x
  nolimit : base.NoLimit
structure Cx where
  prog : Program
  w : World
  K : PySem.W.Frag
  mg : Str → Option Value
  base : Heap
  A : Around
  N : List Str
  s₀ : Shared
  H₀ : Hp
  env : Env
  outer : List Env
  stack : List Env
  ex : List Addr
  fn : Str → Bool
  calm : Bool
  pn : List (Addr × Obj)
  xe : Value → Shared → Prop
def frs (l : List Env) : List Addr := l.filterMap (·.frame)
abbrev Cx.fs (X : Cx) : List Addr := frs X.outer
def Vis (sc : Scope) (x : Str) : Prop := sc.names.lookup x = some .local ∨ sc.names.lookup x = some .cell ∨ sc.names.lookup x = some .free
def Loc (sc : Scope) (x : Str) : Prop := sc.names.lookup x = some .local ∨ sc.names.lookup x = some .cell
def Look (env : Env) (h : Heap) (m : Str → Option Value) (x : Str) (u : Value) : Prop :=
  (env.kindOf x = some .local ∧ m x = some u) ∨ ((env.kindOf x = some .cell ∨ env.kindOf x = some .free) ∧ ∃ c, env.cells.lookup x = some c ∧ h.IsCell c (some u))
structure Cx.Ok (X : Cx) : Prop where
  mod : Mod X.K X.mg X.base
  kind : X.env.scope.kind = .function
  glob : X.env.globals = mainGlobals
  blt : X.env.builtins = builtinsNs
  above : X.s₀.heap.objs.size ≤ X.env.locals
  inj : ∀ x y c, X.env.cells.lookup x = some c → X.env.cells.lookup y = some c → x = y
  has : ∀ x, (X.env.kindOf x = some .cell ∨ X.env.kindOf x = some .free) → ∃ c, X.env.cells.lookup x = some c
  cab : ∀ x c, X.fn x = true → X.env.cells.lookup x = some c → X.s₀.heap.objs.size ≤ c
  hd : X.calm = true → X.A.handled = none
  frames : X.A.frames = some X.stack
  stk : X.stack = X.outer ∨ (X.stack = X.env :: X.outer ∧ X.env.frame = some X.env.locals)
  exf : ∀ b ∈ X.ex, b ≠ X.env.locals ∧ ∀ x c, X.env.cells.lookup x = some c → c ≠ b
  bs : ∀ b o, X.base.get? b = some o → X.s₀.heap.get? b = some o ∧ X.H₀ b = none
  bsz : X.base.objs.size ≤ X.s₀.heap.objs.size
  noex : ∀ b o, X.base.get? b = some o → b ∉ X.ex
  exfs : ∀ b ∈ X.ex, b ∉ X.fs
  funs : X.s₀.heap.FunFrames X.base X.outer
  frf : ∀ b ∈ X.fs, X.H₀ b = none
structure Inv (X : Cx) (pins : List (Addr × Obj)) (σ : List (Option V)) (H : Hp) (s : Shared) : Prop where
  ok : X.Ok
  os : s.os = X.s₀.os
  bare : AllBare s.gens
  base : Un X.fs X.ex X.H₀ H X.s₀.heap s.heap
  loc : ∃ m, s.heap.Ns X.env.locals m ∧ ∀ (i : Nat) (x : Str) (v : V), X.N[i]? = some x → σ[i]? = some (some v) → Vis X.env.scope x → ∃ u, RelV v u ∧ Look X.env s.heap m x u
  cell : ∀ x c, X.env.cells.lookup x = some c → ∃ v, s.heap.IsCell c v
  free : H X.env.locals = none
  freeC : ∀ x c, X.env.cells.lookup x = some c → H c = none
  pin : ∀ p ∈ X.pn ++ pins, s.heap.get? p.1 = some p.2 ∧ H p.1 = none ∧ p.1 ≠ X.env.locals ∧ p.1 ∉ X.fs ∧ ∀ v, p.2.data ≠ .cell v
  hok : HOk X.prog X.w H s.heap
  len : σ.length = X.N.length
section
variable {X : Cx} {pins : List (Addr × Obj)} {σ : List (Option V)} {H H' : Hp} {s : Shared} {h' : Heap}
theorem Cx.Ok.nofr (ok : X.Ok) {b : Addr} {o : Obj} (e : X.base.get? b = some o) : b ∉ X.fs := fun hb => by
  have := (ok.funs.mem hb).1
  rw [e] at this; cases this
theorem Inv.bs (I : Inv X pins σ H s) : ∀ b o, X.base.get? b = some o → s.heap.get? b = some o ∧ H b = none := fun b o e =>
  ⟨I.base.keep b o (I.ok.bs b o e).1 (I.ok.bs b o e).2 (I.ok.nofr e) (I.ok.noex b o e), I.base.free b o (I.ok.bs b o e).1 (I.ok.bs b o e).2 (I.ok.noex b o e)⟩
theorem Inv.bk (I : Inv X pins σ H s) : ∀ b o, X.base.get? b = some o → s.heap.get? b = some o := fun b o e => (I.bs b o e).1
theorem Inv.mod (I : Inv X pins σ H s) : Mod X.K X.mg X.base := I.ok.mod
theorem Inv.kIn (I : Inv X pins σ H s) : X.K.In s.heap := I.ok.mod.kin.keeps I.bk
theorem Inv.fr (I : Inv X pins σ H s) : ∃ m, Fr X.base X.env.locals s.heap m :=
  let ⟨m, hn, _⟩ := I.loc
  ⟨m, hn, I.bk, Nat.le_trans I.ok.bsz I.ok.above⟩
theorem Inv.lt (I : Inv X pins σ H s) : X.env.locals < s.heap.objs.size := let ⟨_, hn, _⟩ := I.loc; hn.lt
theorem Inv.sz (I : Inv X pins σ H s) : X.s₀.heap.objs.size ≤ s.heap.objs.size := Nat.le_trans I.ok.above (Nat.le_of_lt I.lt)
theorem Inv.nofs (I : Inv X pins σ H s) {a : Addr} (h : s.heap.objs.size ≤ a) : a ∉ X.fs := fun hb => by
  obtain ⟨_, o, ho, _⟩ := I.ok.funs.mem hb
  exact absurd (Nat.lt_of_lt_of_le (Heap.lt_size ho) (Nat.le_trans I.sz h)) (Nat.lt_irrefl _)
theorem Inv.cne (I : Inv X pins σ H s) : ∀ x c, X.env.cells.lookup x = some c → c ≠ X.env.locals := fun x c e z => by
  obtain ⟨v, o, ho, hd⟩ := I.cell x c e
  obtain ⟨m, ⟨o', es, ep, ho', hd', _⟩, _⟩ := I.loc
  rw [z, ho'] at ho; cases ho; rw [hd'] at hd; cases hd
theorem Inv.funs (I : Inv X pins σ H s) : s.heap.FunFrames X.base X.outer := by
  have all : ∀ (l : List Env), (∀ b ∈ frs l, b ∈ X.fs) → X.s₀.heap.FunFrames X.base l → s.heap.FunFrames X.base l := by
    intro l
    induction l with
    | nil => intro _ _; trivial
    | cons env r ih =>
      intro hs hl
      obtain ⟨hk, ⟨L, o, hf, hn, ho, hd⟩, hr⟩ := hl
      have hL : L ∈ X.fs := hs L (by unfold frs; rw [List.filterMap_cons, hf]; exact List.mem_cons_self)
      obtain ⟨sl, e⟩ := I.base.slot L o ho (I.ok.frf L hL) hL fun z => I.ok.exfs L z hL
      exact ⟨hk, ⟨L, _, hf, hn, e, hd⟩, ih (fun b hb => hs b (by unfold frs; rw [List.filterMap_cons, hf]; exact List.mem_cons_of_mem _ hb)) hr⟩
  exact all X.outer (fun _ hb => hb) I.ok.funs
theorem Inv.stack (I : Inv X pins σ H s) : s.heap.FunFrames X.base X.stack := by
  rcases I.ok.stk with e | ⟨e, hf⟩
  · rw [e]; exact I.funs
  · rw [e]
    obtain ⟨m, hn, _⟩ := I.loc
    refine .cons (by rw [I.ok.kind]; decide) hf hn ?_ I.funs
    exact Heap.get?_none_of_le (Nat.le_trans I.ok.bsz I.ok.above)
theorem Inv.stkSub (I : Inv X pins σ H s) : ∀ b ∈ frs X.stack, b ∈ X.env.locals :: X.fs := fun b hb => by
  rcases I.ok.stk with e | ⟨e, hf⟩
  · rw [e] at hb; exact List.mem_cons_of_mem _ hb
  · rw [e] at hb
    unfold frs at hb
    rw [List.filterMap_cons, hf] at hb
    exact hb
theorem Inv.stkFree (I : Inv X pins σ H s) : ∀ b ∈ frs X.stack, H b = none := fun b hb => by
  rcases List.mem_cons.mp (I.stkSub b hb) with e | hb
  · rw [e]; exact I.free
  · obtain ⟨_, o, ho, _⟩ := I.ok.funs.mem hb
    exact I.base.free b o ho (I.ok.frf b hb) fun z => I.ok.exfs b z hb
theorem Inv.step {g' : Array GenState} {t' : Nat} {d' : Drawn} {ch : List Addr} (I : Inv X pins σ H s)
    (hch : ∀ b ∈ ch, (b ∈ X.ex ∨ X.s₀.heap.objs.size ≤ b) ∧ b ≠ X.env.locals ∧ (∀ x c, X.env.cells.lookup x = some c → c ≠ b) ∧ ∀ p ∈ X.pn ++ pins, p.1 ≠ b)
    (keep : ∀ b o, b ≠ X.env.locals → b ∉ X.fs → b ∉ ch → s.heap.get? b = some o → H b = none → h'.get? b = some o)
    (slot : ∀ b o, b ≠ X.env.locals → b ∈ X.fs → b ∉ ch → s.heap.get? b = some o → H b = none → ∃ sl, h'.get? b = some { o with slots := sl }) (free : ∀ b o, b ∉ ch → s.heap.get? b = some o → H b = none → H' b = none)
    (there : ∀ b o, b ∉ ch → s.heap.get? b = some o → ∃ o', h'.get? b = some o')
    (tups : ∀ b xs, H b = some (.tup xs) → H' b = some (.tup xs)) (frzs : ∀ b o u, H b = some (.frz o u) → H' b = some (.frz o u)) (tbls : ∀ b ps, H b = some (.tbl ps) → ∃ more, H' b = some (.tbl (ps ++ more)))
    (ns : ∀ m, s.heap.Ns X.env.locals m → h'.Ns X.env.locals m) (hok : HOk X.prog X.w H' h') (hg : AllBare g') :
    Inv X pins σ H' { s with heap := h', gens := g', drawn := d', toks := t' } := by
  have neL : ∀ b o, X.s₀.heap.get? b = some o → b ≠ X.env.locals := fun b o e => Nat.ne_of_lt (Nat.lt_of_lt_of_le (Heap.lt_size e) I.ok.above)
  have neC : ∀ b o, X.s₀.heap.get? b = some o → b ∉ X.ex → b ∉ ch := fun b o e hx hb => by
    rcases (hch b hb).1 with z | z
    · exact hx z
    · exact absurd (Nat.lt_of_lt_of_le (Heap.lt_size e) z) (Nat.lt_irrefl _)
  have cellK : ∀ x c, X.env.cells.lookup x = some c → ∀ v, s.heap.IsCell c v → h'.IsCell c v := fun x c e v ⟨o, ho, hd⟩ => by
    have nch : c ∉ ch := fun z => (hch c z).2.2.1 x c e rfl
    by_cases hc : c ∈ X.fs
    · obtain ⟨sl, q⟩ := slot c o (I.cne x c e) hc nch ho (I.freeC x c e)
      exact ⟨_, q, hd⟩
    · exact ⟨o, keep c o (I.cne x c e) hc nch ho (I.freeC x c e), hd⟩
  refine ⟨I.ok, I.os, hg, ⟨fun b o e n hb hx => ?_, fun b o e n hb hx => ?_, fun b o e n hx => ?_, fun b o e hx => ?_, fun b xs e => tups b xs (I.base.tups b xs e), fun b o xs e => frzs b o xs (I.base.frzs b o xs e), fun b ps e => ?_⟩, ?_, fun x c e => ?_, ?_, fun x c e => ?_, fun p hp => ?_, hok, I.len⟩
  · exact keep b o (neL b o e) hb (neC b o e hx) (I.base.keep b o e n hb hx) (I.base.free b o e n hx)
  · obtain ⟨sl, e1⟩ := I.base.slot b o e n hb hx
    obtain ⟨sl', e2⟩ := slot b _ (neL b o e) hb (neC b o e hx) e1 (I.base.free b o e n hx)
    exact ⟨sl', e2⟩
  · obtain ⟨o', e1⟩ := I.base.there b o e hx
    exact free b o' (neC b o e hx) e1 (I.base.free b o e n hx)
  · obtain ⟨o', e1⟩ := I.base.there b o e hx
    exact there b o' (neC b o e hx) e1
  · obtain ⟨m1, e1⟩ := I.base.tbls b ps e
    obtain ⟨m2, e2⟩ := tbls b _ e1
    exact ⟨m1 ++ m2, by rw [e2, Array.append_assoc]⟩
  · obtain ⟨m, hn, hl⟩ := I.loc
    refine ⟨m, ns m hn, fun i x v e1 e2 e3 => ?_⟩
    obtain ⟨u, r, l⟩ := hl i x v e1 e2 e3
    refine ⟨u, r, ?_⟩
    rcases l with l | ⟨k, c, e, z⟩
    · exact .inl l
    · exact .inr ⟨k, c, e, cellK x c e _ z⟩
  · obtain ⟨v, z⟩ := I.cell x c e
    exact ⟨v, cellK x c e v z⟩
  · obtain ⟨m, ⟨o, _, _, ho, _⟩, _⟩ := I.loc
    exact free _ o (fun z => (hch _ z).2.1 rfl) ho I.free
  · obtain ⟨v, o, ho, hd⟩ := I.cell x c e
    exact free c o (fun z => (hch c z).2.2.1 x c e rfl) ho (I.freeC x c e)
  · obtain ⟨e, n, ne, nf, d⟩ := I.pin p hp
    have nch : p.1 ∉ ch := fun z => (hch p.1 z).2.2.2 p hp rfl
    exact ⟨keep p.1 p.2 ne nf nch e n, free p.1 p.2 nch e n, ne, nf, d⟩
theorem Inv.un {t' : Nat} (I : Inv X pins σ H s) (u : Un X.fs [] H H' s.heap h') (hok : HOk X.prog X.w H' h') : Inv X pins σ H' { s with heap := h', toks := t' } := by
  obtain ⟨m, ⟨o, es, ep, ho, r⟩, _⟩ := id I.loc
  obtain ⟨sl, hL⟩ := u.any ho I.free (by simp)
  exact I.step (g' := s.gens) (d' := s.drawn) (ch := []) (fun _ z => nomatch z) (fun b o _ hb _ e n => u.keep b o e n hb (by simp)) (fun b o _ hb _ e n => u.slot b o e n hb (by simp)) (fun b o _ e n => u.free b o e n (by simp)) (fun b o _ e => u.there b o e (by simp)) u.tups u.frzs u.tbls (fun m' hm => by
    obtain ⟨o', es', ep', ho', r'⟩ := hm
    rw [ho] at ho'; cases ho'
    exact ⟨_, es', ep', hL, r'⟩) hok I.bare
theorem Inv.call {g' : Array GenState} {t' : Nat} {d' : Drawn} {ch : List Addr} (I : Inv X pins σ H s) (u : Un (frs X.stack) ch H H' s.heap h') (hok : HOk X.prog X.w H' h') (hg : AllBare g')
    (hch : ∀ b ∈ ch, (b ∈ X.ex ∨ X.s₀.heap.objs.size ≤ b) ∧ b ≠ X.env.locals ∧ (∀ x c, X.env.cells.lookup x = some c → c ≠ b) ∧ ∀ p ∈ X.pn ++ pins, p.1 ≠ b) :
    Inv X pins σ H' { s with heap := h', gens := g', drawn := d', toks := t' } := by
  obtain ⟨m, ⟨o, es, ep, ho, r⟩, _⟩ := id I.loc
  obtain ⟨sl, hL⟩ := u.any ho I.free fun z => (hch _ z).2.1 rfl
  exact I.step (ch := ch) hch (fun b o hL hb hc e n => u.keep b o e n (fun z => (List.mem_cons.mp (I.stkSub b z)).elim hL hb) hc) (fun b o _ _ hc e n => u.any e n hc) (fun b o hc e n => u.free b o e n hc) (fun b o hc e => u.there b o e hc) u.tups u.frzs u.tbls (fun m' hm => by
    obtain ⟨o', es', ep', ho', r'⟩ := hm
    rw [ho] at ho'; cases ho'
    exact ⟨_, es', ep', hL, r'⟩) hok hg
theorem Inv.turned {t' : Nat} {it : Addr} (I : Inv X pins σ H s) (k : ∀ b o, b ≠ it → s.heap.get? b = some o → h'.get? b = some o) (hn : H it = none) (hL : it ≠ X.env.locals)
    (h1 : it ∈ X.ex ∨ X.s₀.heap.objs.size ≤ it) (h2 : ∀ x c, X.env.cells.lookup x = some c → c ≠ it) (h3 : ∀ p ∈ X.pn ++ pins, p.1 ≠ it) : Inv X pins σ H { s with heap := h', toks := t' } := by
  have nit : ∀ b u, H b = some u → b ≠ it := fun b u e z => by rw [z, hn] at e; cases e
  refine I.step (g' := s.gens) (d' := s.drawn) (ch := [it]) (fun b hb => ?_) (fun b o _ _ hc e _ => k b o (fun z => hc (by simp [z])) e) (fun b o _ _ hc e _ => ⟨o.slots, k b o (fun z => hc (by simp [z])) e⟩) (fun _ _ _ _ n => n)
    (fun b o hc e => ⟨o, k b o (fun z => hc (by simp [z])) e⟩) (fun _ _ e => e) (fun _ _ _ e => e) (fun b ps e => ⟨#[], by rw [e]; simp⟩) (fun m hm => ?_) (fun b u e => ?_) I.bare
  · have e : b = it := by simpa using hb
    subst e
    exact ⟨h1, hL, h2, h3⟩
  · obtain ⟨o, es, ep, ho, r⟩ := hm
    exact ⟨o, es, ep, k _ o (Ne.symm hL) ho, r⟩
  · refine (I.hok b u e).stay (fun c v hc q => k c v ?_ q) (fun _ q => q) fun _ _ q => q
    rcases hc with z | z
    · rw [z]; exact nit b u e
    · exact nit c _ z
theorem Inv.tok (I : Inv X pins σ H s) (t : Nat) : Inv X pins σ H { s with toks := t } := I.un (h' := s.heap) (t' := t) Un.refl I.hok
theorem Inv.kept {t' : Nat} (I : Inv X pins σ H s) (k : ∀ b u, s.heap.get? b = some u → h'.get? b = some u) : Inv X pins σ H { s with heap := h', toks := t' } := I.un (Un.kept k) (I.hok.kept k)
theorem Inv.laid {a : Addr} {o : HO} {t' : Nat} (I : Inv X pins σ H s) (k : ∀ b u, s.heap.get? b = some u → h'.get? b = some u) (hp : s.heap.objs.size ≤ a) (new : ObjOk X.prog X.w (upd H a o) h' a o) :
    Inv X pins σ (upd H a o) { s with heap := h', toks := t' } := I.un (Un.laid k hp (I.hok.fresh hp)) (I.hok.laid k hp new)
theorem Inv.write {x e : Addr} {o : HO} {t' : Nat} (I : Inv X pins σ H s) (mu : Mut (H x)) (he : e = x ∨ H e = some (.own x)) (k : ∀ b u, b ≠ e → s.heap.get? b = some u → h'.get? b = some u) (heo : ∃ u, h'.get? e = some u)
    (new : ObjOk X.prog X.w (upd H x o) h' x o) : Inv X pins σ (upd H x o) { s with heap := h', toks := t' } := I.un (Un.write mu he k heo) (I.hok.write mu he k heo new)
theorem Inv.weak {σ' : List (Option V)} (I : Inv X pins σ H s) (hl : σ'.length = σ.length) (w : ∀ (i : Nat) v, σ'[i]? = some (some v) → σ[i]? = some (some v)) : Inv X pins σ' H s :=
  ⟨I.ok, I.os, I.bare, I.base, let ⟨m, hn, hl'⟩ := I.loc; ⟨m, hn, fun i x v e1 e2 e3 => hl' i x v e1 (w i v e2) e3⟩, I.cell, I.free, I.freeC, I.pin, I.hok, hl.trans I.len⟩
theorem Inv.pins_of {pins' : List (Addr × Obj)} (I : Inv X pins σ H s) (h : ∀ p ∈ pins', s.heap.get? p.1 = some p.2 ∧ H p.1 = none ∧ p.1 ≠ X.env.locals ∧ p.1 ∉ X.fs ∧ ∀ v, p.2.data ≠ .cell v) : Inv X pins' σ H s :=
  ⟨I.ok, I.os, I.bare, I.base, I.loc, I.cell, I.free, I.freeC, fun p hp => (List.mem_append.mp hp).elim (fun z => I.pin p (List.mem_append_left _ z)) (h p), I.hok, I.len⟩
theorem nodup_ix {N : List Str} (hN : N.Nodup) {i j : Nat} {x : Str} (a : N[i]? = some x) (b : N[j]? = some x) : i = j := by
  obtain ⟨h1, e1⟩ := List.getElem?_eq_some_iff.mp a
  obtain ⟨h2, e2⟩ := List.getElem?_eq_some_iff.mp b
  exact (List.getElem_inj hN).mp (e1.trans e2.symm)
theorem store_ok2 {M : Model} {A : Around} {E : Value → Shared → Prop} {i : Nat} {x : Str} {v : V} {u : Value} {Q : Unit → Shared → Prop} (I : Inv X pins σ H s) (hN : X.N.Nodup) (hi : X.N[i]? = some x) (hx : Loc X.env.scope x) (r : RelV v u)
    (h : ∀ s', Inv X pins (σ.set i (some v)) H s' → (∃ a, Heap.SameBut a s.heap s'.heap ∧ (a = X.env.locals ∨ X.env.cells.lookup x = some a)) → Q () s') (hf : X.fn x = true ∨ X.env.scope.names.lookup x = some .local := by first | exact .inl rfl | exact .inr rfl | assumption) : wpAny M A (storeName X.env x u) Q E s := by
  obtain ⟨m, hn, hl⟩ := id I.loc
  have hcls : (X.env.scope.kind == .class || (X.env.scope.kind == .module && X.env.locals != X.env.globals)) = false := by rw [I.ok.kind]; rfl
  have hiσ : i < σ.length := by rw [I.len]; exact (List.getElem?_eq_some_iff.mp hi).1
  have cne := I.cne
  have tracked : ∀ {a : Addr} {h' : Heap}, (∃ o, s.heap.get? a = some o ∧ H a = none) → Heap.SameBut a s.heap h' → HOk X.prog X.w H h' := fun {a h'} ha hs b ob e => by
    obtain ⟨_, _, hfree⟩ := ha
    refine (I.hok b ob e).stay (fun c w' hc q => (hs.2 c ?_).trans q) (fun _ q => q) fun _ _ q => q
    rintro rfl
    rcases hc with rfl | hc
    · rw [hfree] at e; cases e
    · rw [hfree] at hc; cases hc
  rcases hx with hk | hk
  · refine wpAny_storeName_local hk hn (fun h' hn' hs => ?_) hcls
    obtain ⟨oL, _, _, hoL, _⟩ := id hn
    refine h _ ⟨I.ok, I.os, I.bare, ⟨fun b o e n hb hx => ?_, fun b o e n hb hx => ?_, I.base.free, fun b o e hx => ?_, I.base.tups, I.base.frzs, I.base.tbls⟩, ⟨_, hn', fun j y v' e1 e2 e3 => ?_⟩, fun y c e => ?_, I.free, I.freeC, fun p hp => ?_, tracked ⟨oL, hoL, I.free⟩ hs, by simpa using I.len⟩ ⟨_, hs, .inl rfl⟩
    · exact (hs.2 b (Nat.ne_of_lt (Nat.lt_of_lt_of_le (Heap.lt_size e) I.ok.above))).trans (I.base.keep b o e n hb hx)
    · obtain ⟨sl, e1⟩ := I.base.slot b o e n hb hx
      exact ⟨sl, (hs.2 b (Nat.ne_of_lt (Nat.lt_of_lt_of_le (Heap.lt_size e) I.ok.above))).trans e1⟩
    · obtain ⟨o', e1⟩ := I.base.there b o e hx
      exact ⟨o', (hs.2 b (Nat.ne_of_lt (Nat.lt_of_lt_of_le (Heap.lt_size e) I.ok.above))).trans e1⟩
    · by_cases hj : j = i
      · subst hj
        rw [hi] at e1; cases e1
        rw [List.getElem?_set_self hiσ] at e2
        cases e2
        exact ⟨u, r, .inl ⟨hk, by simp⟩⟩
      · rw [List.getElem?_set_ne (Ne.symm hj)] at e2
        obtain ⟨u', r', q⟩ := hl j y v' e1 e2 e3
        refine ⟨u', r', ?_⟩
        rcases q with ⟨k, e⟩ | ⟨k, c, e, z⟩
        · refine .inl ⟨k, ?_⟩
          have : y ≠ x := fun e => hj (nodup_ix hN e1 (e ▸ hi))
          simp [this, e]
        · exact .inr ⟨k, c, e, z.sameBut hs (cne y c e)⟩
    · obtain ⟨w', z⟩ := I.cell y c e
      exact ⟨w', z.sameBut hs (cne y c e)⟩
    · obtain ⟨e, n, ne, nf, d⟩ := I.pin p hp
      exact ⟨(hs.2 p.1 ne).trans e, n, ne, nf, d⟩
  · have hfn : X.fn x = true := by
      rcases hf with z | z
      · exact z
      · rw [z] at hk; cases hk
    obtain ⟨c, hc⟩ := I.ok.has x (.inl hk)
    obtain ⟨w', z⟩ := I.cell x c hc
    refine wpAny_storeName_cell I.ok.kind hk hc z (fun h' hc' hs => ?_)
    obtain ⟨oc, hoc, hocd⟩ := id z
    refine h { s with heap := h' } ⟨I.ok, I.os, I.bare, ⟨fun b o e n hb hx => ?_, fun b o e n hb hx => ?_, I.base.free, fun b o e hx => ?_, I.base.tups, I.base.frzs, I.base.tbls⟩, ⟨m, hn.sameBut hs (Ne.symm (cne x c hc)), fun j y v' e1 e2 e3 => ?_⟩, fun y c' e => ?_, I.free, I.freeC, fun p hp => ?_, tracked ⟨oc, hoc, I.freeC x c hc⟩ hs, by simpa using I.len⟩ ⟨c, hs, .inr hc⟩
    · exact (hs.2 b (Nat.ne_of_lt (Nat.lt_of_lt_of_le (Heap.lt_size e) (I.ok.cab x c hfn hc)))).trans (I.base.keep b o e n hb hx)
    · obtain ⟨sl, e1⟩ := I.base.slot b o e n hb hx
      exact ⟨sl, (hs.2 b (Nat.ne_of_lt (Nat.lt_of_lt_of_le (Heap.lt_size e) (I.ok.cab x c hfn hc)))).trans e1⟩
    · obtain ⟨o', e1⟩ := I.base.there b o e hx
      exact ⟨o', (hs.2 b (Nat.ne_of_lt (Nat.lt_of_lt_of_le (Heap.lt_size e) (I.ok.cab x c hfn hc)))).trans e1⟩
    · by_cases hj : j = i
      · subst hj
        rw [hi] at e1; cases e1
        rw [List.getElem?_set_self hiσ] at e2
        cases e2
        exact ⟨u, r, .inr ⟨.inl hk, c, hc, hc'⟩⟩
      · rw [List.getElem?_set_ne (Ne.symm hj)] at e2
        obtain ⟨u', r', q⟩ := hl j y v' e1 e2 e3
        refine ⟨u', r', ?_⟩
        rcases q with q | ⟨k, c', e, z'⟩
        · exact .inl q
        · refine .inr ⟨k, c', e, z'.sameBut hs ?_⟩
          rintro rfl
          exact hj (nodup_ix hN e1 (I.ok.inj _ _ _ e hc ▸ hi))
    · by_cases hcc : c' = c
      · subst hcc; exact ⟨_, hc'⟩
      · obtain ⟨w2, z2⟩ := I.cell y c' e
        exact ⟨w2, z2.sameBut hs hcc⟩
    · obtain ⟨e, n, ne, nf, d⟩ := I.pin p hp
      refine ⟨(hs.2 p.1 ?_).trans e, n, ne, nf, d⟩
      intro q
      rw [q, hoc] at e
      have q' : oc = p.2 := Option.some.inj e
      exact d w' (by rw [← q']; exact hocd)
theorem store_ok {M : Model} {A : Around} {E : Value → Shared → Prop} {i : Nat} {x : Str} {v : V} {u : Value} {Q : Unit → Shared → Prop} (I : Inv X pins σ H s) (hN : X.N.Nodup) (hi : X.N[i]? = some x) (hx : Loc X.env.scope x) (r : RelV v u)
    (h : ∀ s', Inv X pins (σ.set i (some v)) H s' → Q () s') (hf : X.fn x = true ∨ X.env.scope.names.lookup x = some .local := by first | exact .inl rfl | exact .inr rfl | assumption) : wpAny M A (storeName X.env x u) Q E s :=
  store_ok2 I hN hi hx r (fun s' I' _ => h s' I') hf
theorem Inv.call' {s' : Shared} {ch : List Addr} (I : Inv X pins σ H s) (ho : s'.os = s.os) (u : Un (frs X.stack) ch H H' s.heap s'.heap) (hok : HOk X.prog X.w H' s'.heap) (hg : AllBare s'.gens)
    (hch : ∀ b ∈ ch, (b ∈ X.ex ∨ X.s₀.heap.objs.size ≤ b) ∧ b ≠ X.env.locals ∧ (∀ x c, X.env.cells.lookup x = some c → c ≠ b) ∧ ∀ p ∈ X.pn ++ pins, p.1 ≠ b) : Inv X pins σ H' s' := by
  obtain ⟨h', g', d', t', o'⟩ := s'
  have e : o' = s.os := ho
  subst e
  exact I.call (g' := g') (t' := t') (d' := d') u hok hg hch
end
abbrev XK := Value → Option Addr → Hp → Prop
abbrev St := List (Option V)
abbrev VK := V → Hp → Prop
abbrev TE := St → Hp → VK → Prop
abbrev TT := St → Hp → (Bool → Hp → Prop) → Prop
abbrev TA := St → Hp → (List V → Hp → Prop) → Prop
structure Ends where
  nx : St → Hp → Prop
  rt : VK
  bk : St → Hp → Prop := fun _ _ => False
  ct : St → Hp → Prop := fun _ _ => False
abbrev TS := Ends → St → Hp → Prop
def EP (X : Cx) (pins : List (Addr × Obj)) (σ : St) (Q : VK) (u : Value) (s' : Shared) : Prop := ∃ v H', Inv X pins σ H' s' ∧ RelV v u ∧ Q v H'
def TP (X : Cx) (pins : List (Addr × Obj)) (σ : St) (Q : Bool → Hp → Prop) (b : Bool) (s' : Shared) : Prop := ∃ H', Inv X pins σ H' s' ∧ Q b H'
def AP (X : Cx) (pins : List (Addr × Obj)) (σ : St) (Q : List V → Hp → Prop) (us : List Value) (s' : Shared) : Prop := ∃ vs H', Inv X pins σ H' s' ∧ Vals vs us ∧ Q vs H'
def SP (X : Cx) (pins : List (Addr × Obj)) (D : Ends) (f : Flow) (s' : Shared) : Prop :=
  match f with
  | .next => ∃ σ' H', Inv X pins σ' H' s' ∧ D.nx σ' H'
  | .brk => ∃ σ' H', Inv X pins σ' H' s' ∧ D.bk σ' H'
  | .cont => ∃ σ' H', Inv X pins σ' H' s' ∧ D.ct σ' H'
  | .ret u => ∃ v σ' H', Inv X pins σ' H' s' ∧ RelV v u ∧ D.rt v H'
def PE (X : Cx) (e : Expr) (t : TE) : Prop :=
  ∀ (pins : List (Addr × Obj)) (s : Shared) (σ : St) (H : Hp) (Q : VK), Inv X pins σ H s → t σ H Q → wpAny (model X.prog X.w) X.A (eval e X.env) (EP X pins σ Q) X.xe s
def PT (X : Cx) (e : Expr) (t : TT) : Prop :=
  ∀ (pins : List (Addr × Obj)) (s : Shared) (σ : St) (H : Hp) (Q : Bool → Hp → Prop), Inv X pins σ H s → t σ H Q → wpAny (model X.prog X.w) X.A (isTrue e X.env (eval e X.env)) (TP X pins σ Q) X.xe s
def PW (X : Cx) (e : Expr) (t : TT) : Prop :=
  ∀ (whole : Sem Value) (pins : List (Addr × Obj)) (s : Shared) (σ : St) (H : Hp) (Q : Bool → Hp → Prop), Inv X pins σ H s → t σ H Q → wpAny (model X.prog X.w) X.A (isTrue e X.env whole) (TP X pins σ Q) X.xe s
theorem PW.pt {X : Cx} {e : Expr} {t : TT} (h : PW X e t) : PT X e t := h _
def PA (X : Cx) (es : List Expr) (t : TA) : Prop :=
  ∀ (pos : Pos) (pins : List (Addr × Obj)) (s : Shared) (σ : St) (H : Hp) (Q : List V → Hp → Prop), Inv X pins σ H s → t σ H Q → wpAny (model X.prog X.w) X.A (spliced (backTo pos (starEach es X.env))) (AP X pins σ Q) X.xe s
def PS (X : Cx) (st : Stmt) (t : TS) : Prop :=
  ∀ (pins : List (Addr × Obj)) (s : Shared) (σ : St) (H : Hp) (D : Ends), Inv X pins σ H s → t D σ H → wpAny (model X.prog X.w) X.A (exec st X.env) (SP X pins D) X.xe s
def PSs (X : Cx) (st : List Stmt) (t : TS) : Prop :=
  ∀ (pins : List (Addr × Obj)) (s : Shared) (σ : St) (H : Hp) (D : Ends), Inv X pins σ H s → t D σ H → wpAny (model X.prog X.w) X.A (execs st X.env) (SP X pins D) X.xe s
theorem thn {α : Type} {t : Sem α} {Q Q' : α → Shared → Prop} {M : Model} {A : Around} {E : Value → Shared → Prop} {s : Shared} (h : wpAny M A t Q E s) (hQ : ∀ a s, Q a s → Q' a s) : wpAny M A t Q' E s := wpAny_mono h hQ fun _ _ x => x
end L2
namespace L2
open PySem PySem.Spec PyProof.Rows
section
variable {X : Cx}
theorem bin {a b : Expr} {ta tb : TE} (ha : PE X a ta) (hb : PE X b tb) {pins : List (Addr × Obj)} {s : Shared} {σ : St} {H : Hp} {R : V → V → Hp → Prop} (I : Inv X pins σ H s) (h : ta σ H fun x H1 => tb σ H1 fun y H2 => R x y H2)
    {α : Type} {Q : α → Shared → Prop} {f : Value → Value → Sem α}
    (hf : ∀ v u s2 x y H2, Inv X pins σ H2 s2 → RelV x v → RelV y u → R x y H2 → wpAny (model X.prog X.w) X.A (f v u) Q X.xe s2) :
    wpAny (model X.prog X.w) X.A (eval a X.env) (fun v s₁ => wpAny (model X.prog X.w) X.A (eval b X.env) (fun u s₂ => wpAny (model X.prog X.w) X.A (f v u) Q X.xe s₂) X.xe s₁) X.xe s := by
  refine thn (ha pins s σ H _ I h) fun v s1 ⟨x, H1, I1, r1, q1⟩ => ?_
  refine thn (hb pins s1 σ H1 _ I1 q1) fun u s2 ⟨y, H2, I2, r2, q2⟩ => ?_
  exact hf v u s2 x y H2 I2 r1 r2 q2
def tVar (i : Nat) : TE := fun σ H Q => ∃ v, σ[i]? = some (some v) ∧ Q v H
def tC (v : V) : TE := fun _ H Q => Q v H
theorem pe_var {i : Nat} {x : Str} {pos : Pos} (hN : X.N[i]? = some x) (hv : Vis X.env.scope x) (hd : (x == ("__debug__" : Str)) = false := by decide) (hcd : (x == ("__classdict__" : Str)) = false := by decide) : PE X (.Name x pos) (tVar i) := by
  intro pins s σ H Q I h
  obtain ⟨v, e, h⟩ := h
  obtain ⟨m, hn, hl⟩ := I.loc
  obtain ⟨u, r, l⟩ := hl i x v hN e hv
  have fin : EP X pins σ Q u s := ⟨v, H, I, r, h⟩
  rcases l with ⟨hk, hm⟩ | ⟨hk, c, hc, hcell⟩
  · exact wpAny_Name (wpAny_loadName_local I.ok.kind hk hn hm fin) hd
  · rcases hk with hk | hk
    · exact wpAny_Name (wpAny_loadName_cell I.ok.kind hk hc hcell fin) hd
    · exact wpAny_Name (wpAny_loadName_free I.ok.kind hk hc hcell fin hcd) hd
theorem pe_int {i j pos} : PE X (.Constant (.int i) j pos) (tC (.int i)) := fun _ _ _ H _ I h => wpAny_Constant_int ⟨.int i, H, I.tok _, ⟨_, rfl⟩, h⟩
theorem pe_bl {b j pos} : PE X (.Constant (.bool b) j pos) (tC (.bl b)) := fun _ _ _ H _ I h => Constant_bool ⟨.bl b, H, I, rfl, h⟩
theorem pe_str {x j pos} : PE X (.Constant (.str x) j pos) (tC (.str x)) := fun _ _ _ H _ I h => Calls.Constant_str ⟨.str x, H, I.tok _, ⟨_, rfl⟩, h⟩
def Gl (X : Cx) (x : Str) : Prop := X.env.kindOf x = some .globalImplicit
theorem ld_glob {E : Value → Shared → Prop} {pins : List (Addr × Obj)} {s : Shared} {σ : St} {H : Hp} {x : Str} {u : Value} {pos : Pos} {Q : Value → Shared → Prop} (I : Inv X pins σ H s) (hg : Gl X x) (hm : X.mg x = some u) (h : Q u s)
    (hd : (x == ("__debug__" : Str)) = false := by decide) : wpAny (model X.prog X.w) X.A (eval (.Name x pos) X.env) Q E s :=
  Calls.Name_function_global I.ok.kind hg (Calls.loadGlobal_global (by rw [I.ok.glob]; exact I.mod.glob.keeps I.bk) hm h) hd
theorem ld_blt {E : Value → Shared → Prop} {pins : List (Addr × Obj)} {s : Shared} {σ : St} {H : Hp} {x : Str} {u : Value} {pos : Pos} {Q : Value → Shared → Prop} (I : Inv X pins σ H s) (hg : Gl X x) (hm : X.mg x = none) (hv : bootBuiltins x = some u) (h : Q u s)
    (hn : x ≠ "__name__" := by decide) (hd : (x == ("__debug__" : Str)) = false := by decide) : wpAny (model X.prog X.w) X.A (eval (.Name x pos) X.env) Q E s := by
  obtain ⟨mb, h1, h2⟩ := I.mod.blt
  exact Calls.Name_function_global I.ok.kind hg (Calls.loadGlobal_builtin (by rw [I.ok.glob]; exact I.mod.glob.keeps I.bk) hm (by rw [I.ok.blt]; exact h1.keeps I.bk) ((h2 x hn).trans hv) h) hd
theorem pe_glob {x : Str} {v : V} {u : Value} {pos : Pos} (hg : Gl X x) (hm : X.mg x = some u) (r : RelV v u) (hd : (x == ("__debug__" : Str)) = false := by decide) : PE X (.Name x pos) (tC v) :=
  fun _ _ _ H _ I h => ld_glob I hg hm ⟨v, H, I, r, h⟩ hd
theorem pe_bltn {x : Str} {v : V} {u : Value} {pos : Pos} (hg : Gl X x) (hm : X.mg x = none) (hv : bootBuiltins x = some u) (r : RelV v u) (hn : x ≠ "__name__" := by decide) (hd : (x == ("__debug__" : Str)) = false := by decide) : PE X (.Name x pos) (tC v) :=
  fun _ _ _ H _ I h => ld_blt I hg hm hv ⟨v, H, I, r, h⟩ hn hd
variable {a b : Expr} {ta tb : TE} {pos : Pos}
def PC (X : Cx) (op : CmpOp) (a b : Expr) (t : TE) : Prop :=
  ∀ (pins : List (Addr × Obj)) (s : Shared) (σ : St) (H : Hp) (Q : VK), Inv X pins σ H s → t σ H Q →
    wpAny (model X.prog X.w) X.A (eval a X.env) (fun v s₁ => wpAny (model X.prog X.w) X.A (eval b X.env) (fun u s₂ => wpAny (model X.prog X.w) X.A (compareOp op v u) (EP X pins σ Q) X.xe s₂) X.xe s₁) X.xe s
def tB (t : TE) : TT := fun σ H Q => t σ H fun x H1 => ∃ c, x = .bl c ∧ Q c H1
theorem pt_cmp {op : CmpOp} {t : TE} (h : PC X op a b t) (h1 : behindInMarks op b = false := by first | exact nobehind _ (by decide) (by decide) | rfl) : PT X (.Compare a [op] [b] pos) (tB t) := by
  intro pins s σ H Q I hw
  refine wpAny_isTrue_Compare1 (thn (h pins s σ H _ I hw) fun v s1 h1 => thn h1 fun u s2 h2 => thn h2 fun c s3 ⟨x, H1, I1, r1, q1⟩ => ?_) h1
  obtain ⟨d, rfl, q⟩ := q1
  cases r1
  exact wpAny_truthy_bool ⟨H1, I1, q⟩
theorem pt_val {e : Expr} {t : TE} (h : PE X e t) (he : ∀ whole, isTrue e X.env whole = (do let v ← whole; standAt e.pos; holding [v] (truthy v)) := by intro _; rfl) : PT X e (tB t) := by
  intro pins s σ H Q I hw
  refine isTrue_plain (thn (h pins s σ H _ I hw) fun v s1 ⟨x, H1, I1, r1, q1⟩ => ?_) (he _)
  obtain ⟨d, rfl, q⟩ := q1
  cases r1
  exact wpAny_truthy_bool ⟨H1, I1, q⟩
variable {tA tB' : TT} {rest : List Expr}
def tAnd (t u : TT) : TT := fun σ H Q => t σ H fun c H1 => if c = true then u σ H1 Q else Q false H1
def tOr (t u : TT) : TT := fun σ H Q => t σ H fun c H1 => if c = true then Q true H1 else u σ H1 Q
def tNot (t : TT) : TT := fun σ H Q => t σ H fun c H1 => Q (!c) H1
theorem pw_and1 (ha : PT X a tA) : PW X (.BoolOp .And [a] pos) tA := by
  intro wh pins s σ H Q I h
  refine isTrue_and (thn (ha pins s σ H Q I h) fun c s1 e => ?_)
  cases c with
  | true => exact isTrue_and_nil e
  | false => exact e
theorem pw_or1 (ha : PT X a tA) : PW X (.BoolOp .Or [a] pos) tA := by
  intro wh pins s σ H Q I h
  refine isTrue_or (thn (ha pins s σ H Q I h) fun c s1 e => ?_)
  cases c with
  | false => exact isTrue_or_nil e
  | true => exact e
theorem pw_and (ha : PT X a tA) (hb : PW X (.BoolOp .And (b :: rest) pos) tB') : PW X (.BoolOp .And (a :: b :: rest) pos) (tAnd tA tB') := by
  intro wh pins s σ H Q I h
  refine isTrue_and (thn (ha pins s σ H _ I h) fun c s1 ⟨H1, I1, q1⟩ => ?_)
  cases c with
  | true => exact hb wh pins s1 σ H1 Q I1 q1
  | false => exact ⟨H1, I1, q1⟩
theorem pw_or (ha : PT X a tA) (hb : PW X (.BoolOp .Or (b :: rest) pos) tB') : PW X (.BoolOp .Or (a :: b :: rest) pos) (tOr tA tB') := by
  intro wh pins s σ H Q I h
  refine isTrue_or (thn (ha pins s σ H _ I h) fun c s1 ⟨H1, I1, q1⟩ => ?_)
  cases c with
  | true => exact ⟨H1, I1, q1⟩
  | false => exact hb wh pins s1 σ H1 Q I1 q1
theorem pt_not (ha : PT X a tA) : PT X (.UnaryOp .Not a pos) (tNot tA) := by
  intro pins s σ H Q I h
  exact isTrue_not (ha pins s σ H (fun c H1 => Q (!c) H1) I h)
def tAndV (ta tb : TE) : TE := fun σ H Q => ta σ H fun x H1 => ∃ c, x = .bl c ∧ if c = true then tb σ H1 Q else Q (.bl false) H1
def tOrV (ta tb : TE) : TE := fun σ H Q => ta σ H fun x H1 => ∃ c, x = .bl c ∧ if c = true then Q (.bl true) H1 else tb σ H1 Q
def tNotV (ta : TE) : TE := fun σ H Q => ta σ H fun x H1 => ∃ c, x = .bl c ∧ Q (.bl (!c)) H1
theorem pe_one {op} {t : TE} (h : PE X a t) : PE X (.BoolOp op [a] pos) t := fun pins s σ H Q I hw => BoolOp_one (h pins s σ H Q I hw)
theorem pe_and (ha : PE X a ta) (hb : PE X (.BoolOp .And (b :: rest) pos) tb) : PE X (.BoolOp .And (a :: b :: rest) pos) (tAndV ta tb) := by
  intro pins s σ H Q I h
  refine BoolOp_and (thn (ha pins s σ H _ I h) fun v s1 ⟨x, H1, I1, r1, q1⟩ => ?_)
  obtain ⟨c, rfl, q1⟩ := q1
  cases r1
  refine wpAny_truthy_bool ?_
  cases c with
  | true => exact hb pins s1 σ H1 Q I1 q1
  | false => exact ⟨.bl false, H1, I1, rfl, q1⟩
theorem pe_or (ha : PE X a ta) (hb : PE X (.BoolOp .Or (b :: rest) pos) tb) : PE X (.BoolOp .Or (a :: b :: rest) pos) (tOrV ta tb) := by
  intro pins s σ H Q I h
  refine BoolOp_or (thn (ha pins s σ H _ I h) fun v s1 ⟨x, H1, I1, r1, q1⟩ => ?_)
  obtain ⟨c, rfl, q1⟩ := q1
  cases r1
  refine wpAny_truthy_bool ?_
  cases c with
  | false => exact hb pins s1 σ H1 Q I1 q1
  | true => exact ⟨.bl true, H1, I1, rfl, q1⟩
theorem pe_not (ha : PE X a ta) : PE X (.UnaryOp .Not a pos) (tNotV ta) := by
  intro pins s σ H Q I h
  refine UnaryOp_ (thn (ha pins s σ H _ I h) fun v s1 ⟨x, H1, I1, r1, q1⟩ => ?_)
  obtain ⟨c, rfl, q1⟩ := q1
  cases r1
  exact not_of (wpAny_truthy_bool ⟨.bl (!c), H1, I1, rfl, q1⟩)
end
end L2
namespace L2
open PySem PySem.Spec PyProof.Rows
def SqL (K : PySem.W.Frag) (H : Hp) (a : Addr) (xs : List V) : Prop :=
  Rd H a (.lst xs) ∨
    ∃ (o : Obj) (its : Array Value) (n : Nat), K.lookup a = some o ∧ o.cls = .type "list" ∧ o.dict = none ∧ o.data = .seq its n ∧ its.size ≤ sizeLine ∧ Vals xs its.toList
def SqT (K : PySem.W.Frag) (H : Hp) (a : Addr) (xs : List V) : Prop :=
  Rd H a (.tup xs) ∨
    ∃ (o : Obj) (its : Array Value) (n : Nat), K.lookup a = some o ∧ o.cls = .type "tuple" ∧ o.data = .seq its n ∧ its.size ≤ sizeLine ∧ Vals xs its.toList
def absV : Value → Option V
  | .none => some .non
  | .bool b => some (.bl b)
  | .int i _ => some (.int i)
  | .str x _ => some (.str x)
  | .bytes b _ => some (.byt b)
  | .float b _ => some (.flt b)
  | .ref a => some (.ref a)
  | .type n => some (.ty n)
  | _ => none
theorem RelV.abs {x : V} {u : Value} (r : RelV x u) : absV u = some x := by
  cases x with
  | non => cases r; rfl
  | bl _ => cases r; rfl
  | int _ => obtain ⟨t, rfl⟩ := r; rfl
  | str _ => obtain ⟨t, rfl⟩ := r; rfl
  | byt _ => obtain ⟨t, rfl⟩ := r; rfl
  | flt _ => obtain ⟨t, rfl⟩ := r; rfl
  | ref _ => cases r; rfl
  | ty _ => cases r; rfl
theorem RelV.inj {x y : V} {u : Value} (r : RelV x u) (q : RelV y u) : x = y := Option.some.inj (r.abs.symm.trans q.abs)
theorem Vals.inj : ∀ {xs ys : List V} {us : List Value}, Vals xs us → Vals ys us → xs = ys
  | _, _, _, .nil, .nil => rfl
  | _, _, _, .cons r t, .cons r' t' => by rw [r.inj r', Vals.inj t t']
section
variable {X : Cx} {pins : List (Addr × Obj)} {σ : St} {H : Hp} {s : Shared} {a : Addr} {xs ys : List V}
theorem SqL.of {K : PySem.W.Frag} (h : H a = some (.lst xs)) : SqL K H a xs := .inl (.inl h)
theorem SqT.of {K : PySem.W.Frag} (h : H a = some (.tup xs)) : SqT K H a xs := .inl (.inl h)
theorem Inv.list (I : Inv X pins σ H s) (h : SqL X.K H a xs) : ∃ its : List Value, Vals xs its ∧ PlainL s.heap a its.toArray ∧ xs.length ≤ sizeLine := by
  rcases h with h | ⟨o, its, n, hk, hc, hd, hs, hz, r⟩
  · obtain ⟨z, its, n, r, e⟩ := h.ok I.hok
    exact ⟨its, r, ⟨_, n, e, rfl, rfl, rfl⟩, z⟩
  · refine ⟨its.toList, r, ⟨o, n, I.kIn a o hk, hc, hd, by simpa using hs⟩, ?_⟩
    have e := r.length
    simp only [Array.length_toList] at e
    omega
theorem Inv.tuple (I : Inv X pins σ H s) (h : SqT X.K H a xs) : ∃ its : List Value, Vals xs its ∧ IsTup s.heap a its.toArray ∧ xs.length ≤ sizeLine := by
  rcases h with h | ⟨o, its, n, hk, hc, hs, hz, r⟩
  · obtain ⟨z, its, r, p⟩ := h.ok I.hok
    exact ⟨its, r, p, z⟩
  · refine ⟨its.toList, r, ⟨o, I.kIn a o hk, hc, n, by simpa using hs⟩, ?_⟩
    have e := r.length
    simp only [Array.length_toList] at e
    omega
theorem Inv.list_inj (I : Inv X pins σ H s) (h : SqL X.K H a xs) (h' : SqL X.K H a ys) : xs = ys := by
  obtain ⟨its, r, ⟨o, n, e, _, _, d⟩, _⟩ := I.list h
  obtain ⟨its', r', ⟨o', n', e', _, _, d'⟩, _⟩ := I.list h'
  rw [e] at e'; cases e'
  rw [d] at d'
  injection d' with d1 _
  have : its = its' := by simpa using congrArg Array.toList d1
  subst this
  exact r.inj r'
theorem Inv.tuple_inj (I : Inv X pins σ H s) (h : SqT X.K H a xs) (h' : SqT X.K H a ys) : xs = ys := by
  obtain ⟨its, r, ⟨o, e, _, n, d⟩, _⟩ := I.tuple h
  obtain ⟨its', r', ⟨o', e', _, n', d'⟩, _⟩ := I.tuple h'
  rw [e] at e'; cases e'
  rw [d] at d'
  injection d' with d1 _
  have : its = its' := by simpa using congrArg Array.toList d1
  subst this
  exact r.inj r'
end
abbrev Cx.wish (X : Cx) (E : Value → Shared → Prop) : Cx := { X with xe := E }
abbrev Cx.nox (X : Cx) : Cx := X.wish fun _ _ => False
theorem Cx.Ok.wish {X : Cx} (ok : X.Ok) (E : Value → Shared → Prop) : (X.wish E).Ok :=
  ⟨ok.mod, ok.kind, ok.glob, ok.blt, ok.above, ok.inj, ok.has, ok.cab, ok.hd, ok.frames, ok.stk, ok.exf, ok.bs, ok.bsz, ok.noex, ok.exfs, ok.funs, ok.frf⟩
theorem Cx.Ok.unwish {X : Cx} {E : Value → Shared → Prop} (ok : (X.wish E).Ok) : X.Ok :=
  ⟨ok.mod, ok.kind, ok.glob, ok.blt, ok.above, ok.inj, ok.has, ok.cab, ok.hd, ok.frames, ok.stk, ok.exf, ok.bs, ok.bsz, ok.noex, ok.exfs, ok.funs, ok.frf⟩
section
variable {X : Cx} {pins : List (Addr × Obj)} {σ : St} {H : Hp} {s : Shared} {E : Value → Shared → Prop}
theorem Inv.wish (I : Inv X pins σ H s) (E : Value → Shared → Prop) : Inv (X.wish E) pins σ H s := ⟨I.ok.wish E, I.os, I.bare, I.base, I.loc, I.cell, I.free, I.freeC, I.pin, I.hok, I.len⟩
theorem Inv.unwish (I : Inv (X.wish E) pins σ H s) : Inv X pins σ H s := ⟨I.ok.unwish, I.os, I.bare, I.base, I.loc, I.cell, I.free, I.freeC, I.pin, I.hok, I.len⟩
theorem SP.unwish {D : Ends} {f : Flow} {s' : Shared} (h : SP (X.wish E) pins D f s') : SP X pins D f s' := by
  cases f with
  | next => obtain ⟨σ', H', I, q⟩ := h; exact ⟨σ', H', I.unwish, q⟩
  | brk => obtain ⟨σ', H', I, q⟩ := h; exact ⟨σ', H', I.unwish, q⟩
  | cont => obtain ⟨σ', H', I, q⟩ := h; exact ⟨σ', H', I.unwish, q⟩
  | ret u => obtain ⟨v, σ', H', I, r, q⟩ := h; exact ⟨v, σ', H', I.unwish, r, q⟩
theorem PSs.nox {st : List Stmt} {t : TS} (h : PSs X.nox st t) : PSs X st t := fun pins s σ H D I hw =>
  wpAny_mono (h pins s σ H D (I.wish _) hw) (fun _ _ q => q.unwish) fun _ _ z => False.elim z
end
section
variable {X : Cx} {st : Stmt} {rest : List Stmt} {t u : TS} {e : Expr} {te : TE} {pos : Pos}
def tNext : TS := fun D σ H => D.nx σ H
def tSeq (t u : TS) : TS := fun D σ H => t { D with nx := u D } σ H
theorem pss_nil : PSs X [] tNext := fun _ _ σ H _ I h => wpAny_execs_nil ⟨σ, H, I, h⟩
theorem pss_cons (h1 : PS X st t) (h2 : PSs X rest u) : PSs X (st :: rest) (tSeq t u) := by
  intro pins s σ H D I h
  refine wpAny_execs_cons (thn (h1 pins s σ H { D with nx := u D } I h) fun f s1 q => ?_)
  cases f with
  | next =>
    obtain ⟨σ', H', I', q⟩ := q
    exact h2 pins s1 σ' H' D I' q
  | ret v => exact q
  | brk => exact q
  | cont => exact q
theorem pss_one (h1 : PS X st t) : PSs X [st] t := by
  intro pins s σ H D I h
  refine wpAny_execs_cons (thn (h1 pins s σ H D I h) fun f s1 q => ?_)
  cases f with
  | next => exact wpAny_execs_nil q
  | ret v => exact q
  | brk => exact q
  | cont => exact q
theorem Inv.quiet {pins : List (Addr × Obj)} {σ : St} {H : Hp} {s : Shared} (I : Inv X pins σ H s) : interactive X.env = false := by simp [interactive, I.ok.kind]
def tDrop (te : TE) : TS := fun D σ H => te σ H fun _ H1 => D.nx σ H1
theorem ps_expr (he : PE X e te) (hs : swapsWith e none pos.line X.env = pure false := by rfl) : PS X (.Expr e pos) (tDrop te) := by
  intro pins s σ H D I h
  exact wpAny_Expr_any (thn (he pins s σ H _ I h) fun v s1 ⟨x, H1, I1, r1, q1⟩ => ⟨σ, H1, I1, q1⟩) I.quiet hs
def tRet (te : TE) : TS := fun D σ H => te σ H D.rt
theorem ps_ret (he : PE X e te) : PS X (.Return (some e) pos) (tRet te) := by
  intro pins s σ H D I h
  exact wpAny_Return_some (thn (he pins s σ H _ I h) fun v s1 ⟨x, H1, I1, r1, q1⟩ => ⟨x, σ, H1, I1, r1, q1⟩)
def tIfS (c : TT) (t u : TS) : TS := fun D σ H => c σ H fun b H1 => if b = true then t D σ H1 else u D σ H1
theorem ps_if {c : Expr} {a b : List Stmt} {tc : TT} (hc : PT X c tc) (ha : PSs X a t) (hb : PSs X b u) : PS X (.If c a b pos) (tIfS tc t u) := by
  intro pins s σ H D I h
  refine wpAny_If (thn (hc pins s σ H _ I h) fun d s1 ⟨H1, I1, q1⟩ => ?_)
  cases d with
  | true => exact ha pins s1 σ H1 D I1 q1
  | false => exact hb pins s1 σ H1 D I1 q1
def tNever : TS := fun _ _ _ => False
theorem ps_never : PS X st tNever := fun _ _ _ _ _ _ h => h.elim
end
abbrev TG := V → St → Hp → (St → Hp → Prop) → Prop
def PG (X : Cx) (target : Expr) (t : TG) : Prop :=
  ∀ (pins : List (Addr × Obj)) (s : Shared) (σ : St) (H : Hp) (v : V) (u : Value) (Q : St → Hp → Prop), Inv X pins σ H s → RelV v u → t v σ H Q →
    wpAny (model X.prog X.w) X.A (assign target X.env u) (fun _ s' => ∃ σ' H', Inv X pins σ' H' s' ∧ Q σ' H') X.xe s
section
variable {X : Cx} {pos : Pos}
def gName (i : Nat) : TG := fun v σ H Q => Q (σ.set i (some v)) H
theorem pg_name {i : Nat} {x : Str} (hN : X.N.Nodup) (hi : X.N[i]? = some x) (hx : Loc X.env.scope x) (hf : X.fn x = true ∨ X.env.scope.names.lookup x = some .local := by first | exact .inl rfl | exact .inr rfl | assumption) : PG X (.Name x pos) (gName i) := by
  intro pins s σ H v u Q I r h
  exact wpAny_assign_Name (store_ok I hN hi hx r (fun s' I' => ⟨_, H, I', h⟩) hf)
def tAsg (te : TE) (g : TG) : TS := fun D σ H => te σ H fun x H1 => g x σ H1 D.nx
theorem ps_set {i : Nat} {x : Str} {e : Expr} {te : TE} {pos' : Pos} (hN : X.N.Nodup) (hi : X.N[i]? = some x) (hx : Loc X.env.scope x) (he : PE X e te) (hs : swapsWith e (some (.Name x pos')) pos.line X.env = pure false := by rfl) (hf : X.fn x = true ∨ X.env.scope.names.lookup x = some .local := by first | exact .inl rfl | exact .inr rfl | assumption) :
    PS X (.Assign [.Name x pos'] e pos) (tAsg te (gName i)) := by
  intro pins s σ H D I h
  refine wpAny_Assign_Name (thn (he pins s σ H _ I h) fun v s1 ⟨y, H1, I1, r1, q1⟩ => ?_) hs
  exact store_ok I1 hN hi hx r1 (fun s2 I2 => ⟨_, H1, I2, q1⟩) hf
end
section
variable {X : Cx} {pos : Pos}
end
structure It where
  go : Nat → Hp → Prop
  yld : Nat → Hp → V → Hp → Prop
  stop : Nat → Hp → Prop
def FpOk (X : Cx) (pins : List (Addr × Obj)) (H : Hp) (b : Addr) : Prop :=
  H b = none ∧ b ≠ X.env.locals ∧ b ∉ X.fs ∧ (b ∈ X.ex ∨ X.s₀.heap.objs.size ≤ b) ∧ (∀ x c, X.env.cells.lookup x = some c → c ≠ b) ∧ ∀ p ∈ X.pn ++ pins, p.1 ≠ b
theorem Inv.fpOk {X : Cx} {pins : List (Addr × Obj)} {σ : St} {H H' : Hp} {s : Shared} {b : Addr} (I : Inv X pins σ H s) (hb : s.heap.objs.size ≤ b) (hn : H' b = none) : FpOk X pins H' b := by
  refine ⟨hn, Nat.ne_of_gt (Nat.lt_of_lt_of_le I.lt hb), I.nofs hb, .inr (Nat.le_trans I.sz hb), fun x c e z => ?_, fun p hp z => ?_⟩
  · obtain ⟨v, q⟩ := I.cell x c e
    exact absurd (Nat.lt_of_lt_of_le q.lt (by rw [z]; exact hb)) (Nat.lt_irrefl _)
  · exact absurd (Nat.lt_of_lt_of_le (Heap.lt_size (I.pin p hp).1) (by rw [z]; exact hb)) (Nat.lt_irrefl _)
structure Turn (P : Program) (w : World) (K : PySem.W.Frag) (tg : Expr) (J : It) (fp : List Addr) (it : Addr) (tn : Nat → Heap → Prop) : Prop where
  mem : it ∈ fp
  obj : ∀ i h, tn i h → ∀ b ∈ fp, ∃ o, h.get? b = some o ∧ ∀ v, o.data ≠ .cell v
  keep : ∀ i h h', tn i h → (∀ b ∈ fp, ∀ o, h.get? b = some o → h'.get? b = some o) → tn i h'
  item : ∀ (X : Cx), X.prog = P → X.w = w → X.K = K → X.calm = true → ∀ (i : Nat) (pins : List (Addr × Obj)) (s : Shared) (σ : St) (H : Hp) (E : Value → Shared → Prop), Inv X pins σ H s → (∀ b ∈ fp, FpOk X pins H b) → tn i s.heap → J.go i H →
    wpAny (model P w) X.A (pyNext (.ref it)) (fun r s1 => ∃ u, r = some u ∧
      wpAny (model P w) X.A (letOwnedTupleGo tg (.ref it) u) (fun _ s2 => ∃ x H', Inv X pins σ H' s2 ∧ RelV x u ∧ J.yld i H x H' ∧ tn (i + 1) s2.heap ∧ ∀ b ∈ fp, H' b = none) E s1) E s
  done : ∀ (X : Cx), X.prog = P → X.w = w → X.K = K → X.calm = true → ∀ (i : Nat) (pins : List (Addr × Obj)) (s : Shared) (σ : St) (H : Hp) (E : Value → Shared → Prop), Inv X pins σ H s → (∀ b ∈ fp, FpOk X pins H b) → tn i s.heap → J.stop i H →
    wpAny (model P w) X.A (pyNext (.ref it)) (fun r s1 => r = none ∧ Inv X pins σ H s1) E s
  self : ∀ (A : Around) (i : Nat) (s : Shared) (Q : Value → Shared → Prop) (E : Value → Shared → Prop), tn i s.heap → Q (.ref it) s → wpAny (model P w) A (pyIter (.ref it)) Q E s
abbrev TI := St → Hp → (It → Hp → Prop) → Prop
def PIE (X : Cx) (pins : List (Addr × Obj)) (σ : St) (tg : Expr) (R : It → Hp → Prop) (itv : Value) (s2 : Shared) : Prop :=
  ∃ (it : Addr) (fp : List Addr) (tn : Nat → Heap → Prop) (J : It) (H' : Hp), itv = .ref it ∧ Inv X pins σ H' s2 ∧ Turn X.prog X.w X.K tg J fp it tn ∧ tn 0 s2.heap ∧ (∀ b ∈ fp, FpOk X pins H' b) ∧ R J H'
def PI (X : Cx) (tg iter : Expr) (wi : TI) : Prop :=
  ∀ (pins : List (Addr × Obj)) (s : Shared) (σ : St) (H : Hp) (R : It → Hp → Prop), Inv X pins σ H s → wi σ H R →
    wpAny (model X.prog X.w) X.A (eval iter X.env) (fun v s1 => wpAny (model X.prog X.w) X.A (pyIter v) (PIE X pins σ tg R) X.xe s1) X.xe s
theorem go_of {M : Model} {A : Around} {E : Value → Shared → Prop} {s : Shared} {tg : Expr} {it : Addr} {u : Value} {o : Obj} {n : String} {vs : Array Value} {Q : Unit → Shared → Prop} (ho : s.heap.get? it = some o) (hc : o.cls = .type n) (hd : o.data = .fields vs)
    (hn : ["enumerate", "zip", "dict_itemiterator", "dict_reverseitemiterator", "odict_iterator", "itertools.zip_longest", "itertools.pairwise"].contains n = false) (hQ : Q () s) : wpAny M A (letOwnedTupleGo tg (.ref it) u) Q E s := by
  unfold letOwnedTupleGo
  cases tg <;> first
    | exact wpAny_pure hQ
    | (cases u <;> first
        | exact wpAny_pure hQ
        | (refine wpAny_bind (wpAny_load ho ?_)
           rw [hc, hd]
           show wpAny M A (if (["enumerate", "zip", "dict_itemiterator", "dict_reverseitemiterator", "odict_iterator", "itertools.zip_longest", "itertools.pairwise"].contains n && vs[0]? == some (rawInt _)) = true then _ else _) Q E s
           rw [if_neg (by intro h; rw [hn, Bool.false_and] at h; cases h)]
           exact wpAny_pure hQ))
def Itl (K : PySem.W.Frag) (a : Addr) : It :=
  ⟨fun i H => ∃ xs x, SqL K H a xs ∧ xs[i]? = some x, fun i H x H' => H' = H ∧ ∀ xs, SqL K H a xs → xs[i]? = some x, fun i H => ∃ xs, SqL K H a xs ∧ xs.length ≤ i⟩
def Itr (lo : Int) (n : Nat) : It := ⟨fun i _ => i < n, fun i H x H' => H' = H ∧ x = .int (lo + i), fun i _ => n ≤ i⟩
theorem turn_list {P : Program} {w : World} {K : PySem.W.Frag} {tg : Expr} (a it : Addr) : Turn P w K tg (Itl K a) [it] it (fun i h => h.IsListIter it a i) where
  mem := by simp
  obj := fun i h st b hb => by
    have e : b = it := by simpa using hb
    subst e
    obtain ⟨o, e, c, d⟩ := st
    exact ⟨o, e, fun v z => by rw [d] at z; cases z⟩
  keep := fun i h h' st k => st.at fun o e => k it (by simp) o e
  item := by
    intro X hP hw hK hc i pins s σ H E I hf st hg
    subst hP hw hK
    obtain ⟨xs, x, hq, hx⟩ := hg
    obtain ⟨its, rv, p, hz⟩ := I.list hq
    obtain ⟨u, hu, ru⟩ := rv.get hx
    obtain ⟨f0, f1, f2, f3, f4, f5⟩ := hf it (by simp)
    refine wpAny_pyNext_list_item st p.isList (x := u) (by simpa using hu) fun h' st' sb => ?_
    have I1 : Inv X pins σ H { s with heap := h' } := I.turned (t' := s.toks) (fun b o hb e => (sb.2 b hb).trans e) f0 f1 f3 f4 f5
    obtain ⟨o, e, c, d⟩ := id st'
    exact ⟨u, rfl, go_of (s := { s with heap := h' }) e c d (by decide) ⟨x, H, I1, ru, ⟨rfl, fun ys hy => by rw [I.list_inj hy hq]; exact hx⟩, st', fun b hb => (hf b hb).1⟩⟩
  done := by
    intro X hP hw hK hc i pins s σ H E I hf st hg
    subst hP hw hK
    obtain ⟨xs, hq, hx⟩ := hg
    obtain ⟨its, rv, p, hz⟩ := I.list hq
    obtain ⟨f0, f1, f2, f3, f4, f5⟩ := hf it (by simp)
    have hl := rv.length
    exact wpAny_pyNext_list_end (I.ok.hd hc) st p.isList (by simp; omega) fun h' eb => ⟨rfl, I.turned (t' := s.toks) (fun b o hb e => eb b o hb e) f0 f1 f3 f4 f5⟩
  self := fun _ _ _ _ _ st h => wpAny_pyIter_listiter st h
theorem turn_range {P : Program} {w : World} {K : PySem.W.Frag} {tg : Expr} (it : Addr) (lo : Int) (n : Nat) : Turn P w K tg (Itr lo n) [it] it (fun i h => IsRangeIter h it (lo + (i : Nat) * 1) ((n : Int) - (i : Nat)) 1) where
  mem := by simp
  obj := fun i h st b hb => by
    have e : b = it := by simpa using hb
    subst e
    exact ⟨_, st, fun v z => by
      have z' : Data.fields _ = Data.cell v := z
      cases z'⟩
  keep := fun i h h' st k => k it (by simp) _ st
  item := by
    intro X hP hw hK hc i pins s σ H E I hf st hg
    subst hP hw hK
    obtain ⟨f0, f1, f2, f3, f4, f5⟩ := hf it (by simp)
    have W := Walks.range (prog := X.prog) (w := X.w) (I.ok.hd hc) it lo 1 n
    refine W.item i s _ _ hg st fun v h' tk hv st' kk => ?_
    obtain ⟨t, rfl⟩ := hv
    have I1 : Inv X pins σ H { s with heap := h', toks := tk } := I.turned (fun b o hb e => kk b o (by simpa using hb) e) f0 f1 f3 f4 f5
    refine ⟨_, rfl, go_of (s := { s with heap := h', toks := tk }) (n := "range_iterator") st' rfl rfl (by decide) ⟨.int (lo + i), H, I1, ⟨t, ?_⟩, ⟨rfl, rfl⟩, st', fun b hb => (hf b hb).1⟩⟩
    rw [Int.mul_one]
  done := by
    intro X hP hw hK hc i pins s σ H E I hf st hg
    subst hP hw hK
    obtain ⟨f0, f1, f2, f3, f4, f5⟩ := hf it (by simp)
    exact wpAny_pyNext_range_end (I.ok.hd hc) st (by have : n ≤ i := hg; omega) fun h' eb => ⟨rfl, I.turned (t' := s.toks) (fun b o hb e => eb b o hb e) f0 f1 f3 f4 f5⟩
  self := fun _ _ _ _ _ st h => wpAny_pyIter_rangeiter st h
end L2
namespace L2
open PySem PySem.Spec PyProof.Rows
section
variable {X : Cx} {tg : Expr}
def iList (K : PySem.W.Frag) (tl : TE) : TI := fun σ H R => tl σ H fun x H1 => ∃ a, x = .ref a ∧ (∃ xs, SqL K H1 a xs) ∧ R (Itl K a) H1
theorem pi_list {l : Expr} {tl : TE} (hl : PE X l tl) : PI X tg l (iList X.K tl) := by
  intro pins s σ H R I h
  refine thn (hl pins s σ H _ I h) fun v s1 ⟨x, H1, I1, r1, q1⟩ => ?_
  obtain ⟨a, e, ⟨xs, hq⟩, q⟩ := q1
  subst e
  cases r1
  obtain ⟨its, rv, p, hz⟩ := I1.list hq
  refine wpAny_pyIter_list p.isList ?_
  refine ⟨s1.heap.objs.size, [s1.heap.objs.size], _, _, H1, rfl, I1.kept (t' := s1.toks) fun b o e => Heap.get?_push_of_some _ e, turn_list a _, ⟨_, Heap.get?_push_size _ rfl, rfl, rfl⟩, fun b hb => ?_, q⟩
  have e : b = s1.heap.objs.size := by simpa using hb
  subst e
  exact I1.fpOk (Nat.le_refl _) (I1.hok.fresh (Nat.le_refl _))
theorem range_it {pins : List (Addr × Obj)} {σ : St} {H : Hp} {s : Shared} {R : It → Hp → Prop} {E : Value → Shared → Prop} {lo hi : Int} {t u v : Tok} {tk : Nat} (I : Inv X pins σ H s) (h1 : -(2 ^ 62) ≤ lo) (h2 : lo < 2 ^ 62) (h3 : -(2 ^ 62) ≤ hi) (h4 : hi < 2 ^ 62)
    (q : R (Itr lo (hi - lo).toNat) H) : wpAny (model X.prog X.w) X.A (pyIter (.ref s.heap.objs.size)) (PIE X pins σ tg R) E { s with heap := s.heap.push { cls := .type "range", data := .fields #[.int lo t, .int hi u, .int 1 v] }, toks := tk } := by
  refine wpAny_pyIter_range (IsRange.new ..) (small_one h1 h2 h3 h4) ?_
  have I1 : Inv X pins σ H { s with heap := s.heap.push { cls := .type "range", data := .fields #[.int lo t, .int hi u, .int 1 v] }, toks := tk } := I.kept fun b o e => Heap.get?_push_of_some _ e
  refine ⟨(s.heap.push { cls := .type "range", data := .fields #[.int lo t, .int hi u, .int 1 v] }).objs.size, [(s.heap.push { cls := .type "range", data := .fields #[.int lo t, .int hi u, .int 1 v] }).objs.size], _, _, H, rfl,
    I1.kept (t' := tk) fun b o e => Heap.get?_push_of_some _ e, turn_range _ lo (hi - lo).toNat, ?_, fun b hb => ?_, q⟩
  · have e1 : lo + ((0 : Nat) : Int) * 1 = lo := by simp
    have e2 : (((hi - lo).toNat : Nat) : Int) - ((0 : Nat) : Int) = Builtin.Range.rangeSize lo hi 1 := by rw [rangeSize_one]; split <;> omega
    show IsRangeIter _ _ (lo + ((0 : Nat) : Int) * 1) ((((hi - lo).toNat : Nat) : Int) - ((0 : Nat) : Int)) 1
    rw [e1, e2]
    exact Heap.get?_push_size _ rfl
  · have e : b = (s.heap.push { cls := .type "range", data := .fields #[.int lo t, .int hi u, .int 1 v] }).objs.size := by simpa using hb
    subst e
    exact I1.fpOk (Nat.le_refl _) (I1.hok.fresh (Nat.le_refl _))
def iRng1 (ta : TA) : TI := fun σ H R => ta σ H fun vs H1 => ∃ j : Int, vs = [.int j] ∧ -(2 ^ 62) ≤ j ∧ j < 2 ^ 62 ∧ R (Itr 0 j.toNat) H1
theorem pi_range1 {a : Expr} {ta : TA} {p pos : Pos} (hg : Gl X "range") (hm : X.mg "range" = none) (ha : PA X [a] ta) (hs : starEach [a] X.env = [(false, eval a X.env)] := by rfl) : PI X tg (.Call (.Name "range" p) [a] [] pos) (iRng1 ta) := by
  intro pins s σ H R I h
  refine Call_ (ld_blt I hg hm boot_range (PyProof.Rows.callWith_type1 (thn (ha pos pins s σ H _ I h) fun us s1 ⟨vs, H1, I1, r1, q1⟩ => ?_) hs rfl))
  obtain ⟨j, e, q1, q2, q⟩ := q1
  subst e
  cases r1 with
  | cons r rr =>
    cases rr
    obtain ⟨t, rfl⟩ := r
    exact call_range_1 (range_it I1 (by omega) (by omega) q1 q2 (by simpa using q))
def tFor (wi : TI) (g : TG) (tb : TS) : TS := fun D σ H => wi σ H fun J H1 => ∃ W : Nat → Nat → St → Hp → Prop, (∃ m, W 0 m σ H1) ∧ ∀ i m σ H, W i m σ H →
  (J.stop i H ∧ D.nx σ H) ∨ (J.go i H ∧ ∃ N : St → Hp → Prop, (∀ σ' H', N σ' H' → ∃ m', m' < m ∧ W (i + 1) m' σ' H') ∧ ∀ x H', J.yld i H x H' → g x σ H' fun σ2 H2 => tb { D with nx := N, ct := N, bk := D.nx } σ2 H2)
def pinsAt (fp : List Addr) (h : Heap) : List (Addr × Obj) := fp.filterMap fun b => (h.get? b).map fun o => (b, o)
theorem mem_pinsAt {fp : List Addr} {h : Heap} {b : Addr} {o : Obj} (hb : b ∈ fp) (e : h.get? b = some o) : (b, o) ∈ pinsAt fp h := List.mem_filterMap.mpr ⟨b, hb, by rw [e]; rfl⟩
theorem of_pinsAt {fp : List Addr} {h : Heap} {p : Addr × Obj} (hp : p ∈ pinsAt fp h) : p.1 ∈ fp ∧ h.get? p.1 = some p.2 := by
  obtain ⟨b, hb, e⟩ := List.mem_filterMap.mp hp
  cases q : h.get? b with
  | none => rw [q] at e; cases e
  | some o =>
    rw [q] at e
    have e' : (b, o) = p := Option.some.inj e
    subst e'
    exact ⟨hb, q⟩
theorem Inv.pinned {pins : List (Addr × Obj)} {σ : St} {H : Hp} {s : Shared} {fp : List Addr} (I : Inv X pins σ H s) (hf : ∀ b ∈ fp, FpOk X pins H b) (ho : ∀ b ∈ fp, ∃ o, s.heap.get? b = some o ∧ ∀ v, o.data ≠ .cell v) : Inv X (pins ++ pinsAt fp s.heap) σ H s :=
  I.pins_of fun p hp => (List.mem_append.mp hp).elim (fun z => I.pin p (List.mem_append_right _ z)) fun z => by
    obtain ⟨hb, e⟩ := of_pinsAt z
    obtain ⟨f0, f1, f2, _⟩ := hf p.1 hb
    obtain ⟨o, e', d⟩ := ho p.1 hb
    rw [e] at e'; cases e'
    exact ⟨e, f0, f1, f2, d⟩
theorem Inv.unpinned {pins pl : List (Addr × Obj)} {σ : St} {H : Hp} {s : Shared} (I : Inv X (pins ++ pl) σ H s) : Inv X pins σ H s := I.pins_of fun p hp => I.pin p (List.mem_append_right _ (List.mem_append_left _ hp))
theorem ps_for {iter : Expr} {body : List Stmt} {wi : TI} {g : TG} {tb : TS} {pos : Pos} (hp : PassesOwn (model X.prog X.w) X.A X.env X.xe) (hc : X.calm = true) (hi : PI X tg iter wi) (hg : PG X tg g) (hb : PSs X body tb)
    (hs : ∀ x, foldedSetIterable iter X.env x = pure x := by intro _; rfl) : PS X (.For tg iter body [] pos) (tFor wi g tb) := by
  intro pins s σ H D I h
  refine wpAny_For (thn (hi pins s σ H _ I h) fun v s1 h1 => thn h1 fun itv s2 h2 => ?_) hs
  obtain ⟨it, fp, tn, J, H2, e, I2, T, st2, f2, W, ⟨m0, w0⟩, turn⟩ := h2
  subst e
  have stat : ∀ {H' : Hp}, (∀ b ∈ fp, H' b = none) → ∀ b ∈ fp, FpOk X pins H' b := fun hn b hb => ⟨hn b hb, (f2 b hb).2⟩
  refine codeAny_forLoop_any (fun n s' => ∃ i σ' H', Inv X pins σ' H' s' ∧ tn i s'.heap ∧ (∀ b ∈ fp, H' b = none) ∧ W i n σ' H') ?_ m0 ⟨0, σ, H2, I2, st2, fun b hb => (f2 b hb).1, w0⟩
  rintro n s3 ⟨i, σ3, H3, I3, st3, fr3, w3⟩
  rcases turn i n σ3 H3 w3 with ⟨stop, qn⟩ | ⟨go, N, hN, step⟩
  · refine wpAny_passesOwn hp (thn (T.done X rfl rfl rfl hc i pins s3 σ3 H3 X.xe I3 (stat fr3) st3 stop) fun r s4 ⟨hr, I4⟩ => ?_)
    subst hr
    exact wpAny_execs_nil ⟨σ3, H3, I4, qn⟩
  · refine wpAny_passesOwn hp (thn (T.item X rfl rfl rfl hc i pins s3 σ3 H3 X.xe I3 (stat fr3) st3 go) fun r s4 ⟨u, hr, h4⟩ => ?_)
    subst hr
    refine wpAny_passesOwn hp (thn h4 fun _ s5 ⟨x, H5, I5, r5, y5, st5, fr5⟩ => ?_)
    have I5' := I5.pinned (stat fr5) (T.obj _ _ st5)
    refine wpAny_passesOwn hp (thn (hg _ s5 σ3 H5 x u _ I5' r5 (step x H5 y5)) fun _ s6 ⟨σ6, H6, I6, q6⟩ => ?_)
    refine wpAny_passesOwn hp (thn (hb _ s6 σ6 H6 _ I6 q6) fun f s7 q7 => ?_)
    have again : ∀ {σ7 : St} {H7 : Hp}, Inv X (pins ++ pinsAt fp s5.heap) σ7 H7 s7 → N σ7 H7 → ∃ m, m < n ∧ ∃ i σ' H', Inv X pins σ' H' s7 ∧ tn i s7.heap ∧ (∀ b ∈ fp, H' b = none) ∧ W i m σ' H' := fun {σ7 H7} I7 n7 => by
      obtain ⟨m', hm, w7⟩ := hN σ7 H7 n7
      refine ⟨m', hm, i + 1, σ7, H7, I7.unpinned, T.keep _ _ _ st5 fun b hb o e => (I7.pin (b, o) (List.mem_append_right _ (List.mem_append_right _ (mem_pinsAt hb e)))).1, fun b hb => ?_, w7⟩
      obtain ⟨o, e, d⟩ := T.obj _ _ st5 b hb
      exact (I7.pin (b, o) (List.mem_append_right _ (List.mem_append_right _ (mem_pinsAt hb e)))).2.1
    cases f with
    | next => obtain ⟨σ7, H7, I7, n7⟩ := q7; exact again I7 n7
    | cont => obtain ⟨σ7, H7, I7, n7⟩ := q7; exact again I7 n7
    | brk => obtain ⟨σ7, H7, I7, q7⟩ := q7; exact ⟨σ7, H7, I7.unpinned, q7⟩
    | ret v => obtain ⟨x7, σ7, H7, I7, r7, q7⟩ := q7; exact ⟨x7, σ7, H7, I7.unpinned, r7, q7⟩
end
theorem for_list {K : PySem.W.Frag} {a : Addr} {xs : List V} {g : TG} {tb : TS} {D : Ends} {σ : St} {H : Hp} (Pv : Nat → St → Hp → Prop) (h0 : Pv 0 σ H) (hl : ∀ i σ H, i ≤ xs.length → Pv i σ H → SqL K H a xs)
    (hs : ∀ i x σ H, xs[i]? = some x → Pv i σ H → g x σ H fun σ2 H2 => tb { D with nx := Pv (i + 1), ct := Pv (i + 1), bk := D.nx } σ2 H2) (hd : ∀ σ H, Pv xs.length σ H → D.nx σ H) :
    ∃ W : Nat → Nat → St → Hp → Prop, (∃ m, W 0 m σ H) ∧ ∀ i m σ H, W i m σ H →
      ((Itl K a).stop i H ∧ D.nx σ H) ∨ ((Itl K a).go i H ∧ ∃ N : St → Hp → Prop, (∀ σ' H', N σ' H' → ∃ m', m' < m ∧ W (i + 1) m' σ' H') ∧ ∀ x H', (Itl K a).yld i H x H' → g x σ H' fun σ2 H2 => tb { D with nx := N, ct := N, bk := D.nx } σ2 H2) := by
  refine ⟨fun i m σ H => m = xs.length - i ∧ i ≤ xs.length ∧ Pv i σ H, ⟨xs.length, by simp, Nat.zero_le _, h0⟩, ?_⟩
  rintro i m σ H ⟨rfl, hi, p⟩
  have q := hl i σ H hi p
  by_cases hlt : i < xs.length
  · refine .inr ⟨⟨xs, xs[i], q, by simp [hlt]⟩, Pv (i + 1), fun σ' H' p' => ⟨xs.length - (i + 1), by omega, rfl, hlt, p'⟩, fun x H' y => ?_⟩
    obtain ⟨e, y⟩ := y
    subst e
    exact hs i x σ _ (y xs q) p
  · have e : i = xs.length := by omega
    subst e
    exact .inl ⟨⟨xs, q, Nat.le_refl _⟩, hd σ H p⟩
theorem for_range {lo : Int} {n : Nat} {g : TG} {tb : TS} {D : Ends} {σ : St} {H : Hp} (Pv : Nat → St → Hp → Prop) (h0 : Pv 0 σ H)
    (hs : ∀ i σ H, i < n → Pv i σ H → g (.int (lo + i)) σ H fun σ2 H2 => tb { D with nx := Pv (i + 1), ct := Pv (i + 1), bk := D.nx } σ2 H2) (hd : ∀ σ H, Pv n σ H → D.nx σ H) :
    ∃ W : Nat → Nat → St → Hp → Prop, (∃ m, W 0 m σ H) ∧ ∀ i m σ H, W i m σ H →
      ((Itr lo n).stop i H ∧ D.nx σ H) ∨ ((Itr lo n).go i H ∧ ∃ N : St → Hp → Prop, (∀ σ' H', N σ' H' → ∃ m', m' < m ∧ W (i + 1) m' σ' H') ∧ ∀ x H', (Itr lo n).yld i H x H' → g x σ H' fun σ2 H2 => tb { D with nx := N, ct := N, bk := D.nx } σ2 H2) := by
  refine ⟨fun i m σ H => m = n - i ∧ i ≤ n ∧ Pv i σ H, ⟨n, by simp, Nat.zero_le _, h0⟩, ?_⟩
  rintro i m σ H ⟨rfl, hi, p⟩
  by_cases hlt : i < n
  · refine .inr ⟨hlt, Pv (i + 1), fun σ' H' p' => ⟨n - (i + 1), by omega, rfl, hlt, p'⟩, fun x H' y => ?_⟩
    obtain ⟨e, y⟩ := y
    subst e y
    exact hs i σ _ hlt p
  · have e : i = n := by omega
    subst e
    exact .inl ⟨Nat.le_refl _, hd σ H p⟩
end L2
namespace L2
open PySem PySem.Spec PyProof.Rows
abbrev R2 := V → V → Hp → VK → Prop
def OpR (X : Cx) (f : Value → Value → Sem Value) (r : R2) : Prop :=
  ∀ (pins : List (Addr × Obj)) (s : Shared) (σ : St) (H : Hp) (x y : V) (v u : Value) (Q : VK), Inv X pins σ H s → RelV x v → RelV y u → r x y H Q →
    wpAny (model X.prog X.w) X.A (f v u) (EP X pins σ Q) X.xe s
def UnR (X : Cx) (f : Value → Sem Value) (r : V → Hp → VK → Prop) : Prop :=
  ∀ (pins : List (Addr × Obj)) (s : Shared) (σ : St) (H : Hp) (x : V) (v : Value) (Q : VK), Inv X pins σ H s → RelV x v → r x H Q →
    wpAny (model X.prog X.w) X.A (f v) (EP X pins σ Q) X.xe s
def CallR (X : Cx) (f : Value) (r : List V → Hp → VK → Prop) : Prop :=
  ∀ (pins : List (Addr × Obj)) (s : Shared) (σ : St) (H : Hp) (xs : List V) (us : List Value) (Q : VK), Inv X pins σ H s → Vals xs us → r xs H Q →
    wpAny (model X.prog X.w) X.A (call f us) (EP X pins σ Q) X.xe s
def tOp (r : R2) (ta tb : TE) : TE := fun σ H Q => ta σ H fun x H1 => tb σ H1 fun y H2 => r x y H2 Q
def tUn (r : V → Hp → VK → Prop) (ta : TE) : TE := fun σ H Q => ta σ H fun x H1 => r x H1 Q
def rI (C : Int → Int → Prop) (g : Int → Int → V) : R2 := fun x y H Q => ∃ i j, x = .int i ∧ y = .int j ∧ C i j ∧ Q (g i j) H
def rI0 (g : Int → Int → V) : R2 := fun x y H Q => ∃ i j, x = .int i ∧ y = .int j ∧ Q (g i j) H
def rU (g : Int → V) : V → Hp → VK → Prop := fun x H Q => ∃ i, x = .int i ∧ Q (g i) H
section
variable {X : Cx} {a b c : Expr} {ta tb tc : TE} {pos : Pos}
theorem binT (ha : PE X a ta) (hb : PE X b tb) {pins : List (Addr × Obj)} {s : Shared} {σ : St} {H : Hp} {R : V → V → Hp → Prop} (I : Inv X pins σ H s)
    (h : ta σ H fun x H1 => tb σ H1 fun y H2 => R x y H2) {Q : Value → Shared → Prop} {f : Value → Value → Sem Value}
    (hf : ∀ v u s2 x y H2, Inv X pins σ H2 s2 → RelV x v → RelV y u → R x y H2 → wpAny (model X.prog X.w) X.A (f v u) Q X.xe s2) :
    wpAny (model X.prog X.w) X.A (eval a X.env) (fun v s₁ => wpAny (model X.prog X.w) X.A (eval b X.env) (fun u s₂ => wpAny (model X.prog X.w) X.A (f v u) Q X.xe s₂) X.xe s₁) X.xe s := by
  refine thn (ha pins s σ H _ I h) fun v s1 ⟨x, H1, I1, r1, q1⟩ => ?_
  refine thn (hb pins s1 σ H1 _ I1 q1) fun u s2 ⟨y, H2, I2, r2, q2⟩ => ?_
  exact hf v u s2 x y H2 I2 r1 r2 q2
theorem pe_op {op : Operator} {r : R2} (ho : OpR X (binaryOp op) r) (ha : PE X a ta) (hb : PE X b tb) : PE X (.BinOp a op b pos) (tOp r ta tb) := by
  intro pins s σ H Q I h
  exact wpAny_BinOp (binT ha hb I h fun v u s2 x y H2 I2 rx ry q => ho pins s2 σ H2 x y v u Q I2 rx ry q)
theorem pe_un {op : UnaryOp} {r : V → Hp → VK → Prop} (ho : UnR X (unaryOp op) r) (ha : PE X a ta) : PE X (.UnaryOp op a pos) (tUn r ta) := by
  intro pins s σ H Q I h
  exact UnaryOp_ (thn (ha pins s σ H _ I h) fun v s1 ⟨x, H1, I1, r1, q1⟩ => ho pins s1 σ H1 x v Q I1 r1 q1)
theorem opI {f : Value → Value → Sem Value} {C : Int → Int → Prop} {g : Int → Int → Int}
    (rule : ∀ (i j : Int) (t u : Tok) (s : Shared) (Q : Value → Shared → Prop) (E : Value → Shared → Prop), C i j → Q (.int (g i j) s.toks) { s with toks := s.toks + 1 } → wpAny (model X.prog X.w) X.A (f (.int i t) (.int j u)) Q E s) :
    OpR X f (rI C fun i j => .int (g i j)) := by
  intro pins s σ H x y v u Q I rx ry h
  obtain ⟨i, j, rfl, rfl, hc, q⟩ := h
  obtain ⟨t, rfl⟩ := rx
  obtain ⟨t', rfl⟩ := ry
  exact rule i j t t' s _ _ hc ⟨.int (g i j), H, I.tok _, ⟨_, rfl⟩, q⟩
theorem opI0 {f : Value → Value → Sem Value} {g : Int → Int → Int}
    (rule : ∀ (i j : Int) (t u : Tok) (s : Shared) (Q : Value → Shared → Prop) (E : Value → Shared → Prop), Q (.int (g i j) s.toks) { s with toks := s.toks + 1 } → wpAny (model X.prog X.w) X.A (f (.int i t) (.int j u)) Q E s) :
    OpR X f (rI0 fun i j => .int (g i j)) := by
  intro pins s σ H x y v u Q I rx ry h
  obtain ⟨i, j, rfl, rfl, q⟩ := h
  obtain ⟨t, rfl⟩ := rx
  obtain ⟨t', rfl⟩ := ry
  exact rule i j t t' s _ _ ⟨.int (g i j), H, I.tok _, ⟨_, rfl⟩, q⟩
theorem opB0 {f : Value → Value → Sem Value} {g : Int → Int → Bool}
    (rule : ∀ (i j : Int) (t u : Tok) (s : Shared) (Q : Value → Shared → Prop) (E : Value → Shared → Prop), Q (.bool (g i j)) s → wpAny (model X.prog X.w) X.A (f (.int i t) (.int j u)) Q E s) :
    OpR X f (rI0 fun i j => .bl (g i j)) := by
  intro pins s σ H x y v u Q I rx ry h
  obtain ⟨i, j, rfl, rfl, q⟩ := h
  obtain ⟨t, rfl⟩ := rx
  obtain ⟨t', rfl⟩ := ry
  exact rule i j t t' s _ _ ⟨.bl (g i j), H, I, rfl, q⟩
def CDiv (i j : Int) : Prop := 0 < j ∧ j < 1073741824
def CMul (i j : Int) : Prop := (-(2 ^ 64) < i ∧ i < 2 ^ 64) ∨ (-(2 ^ 64) < j ∧ j < 2 ^ 64)
theorem CMul.ok {i j : Int} (h : CMul i j) : IntMulOk i j := by
  rcases h with ⟨h1, h2⟩ | ⟨h1, h2⟩
  · exact .of_left (intBits_le_64 h1 h2)
  · exact .of_right (intBits_le_64 h1 h2)
theorem op_add : OpR X (binaryOp .Add) (rI0 fun i j => .int (i + j)) := opI0 fun _ _ _ _ _ _ _ q => add_int q
theorem op_sub : OpR X (binaryOp .Sub) (rI0 fun i j => .int (i - j)) := opI0 fun _ _ _ _ _ _ _ q => sub_int q
theorem op_mul : OpR X (binaryOp .Mult) (rI CMul fun i j => .int (i * j)) := opI fun _ _ _ _ _ _ _ hc q => mul_int q hc.ok
theorem op_fdiv : OpR X (binaryOp .FloorDiv) (rI CDiv fun i j => .int (i / j)) := opI fun i j _ _ _ _ _ hc q => by
  have h1 : (0 : Int) < j := hc.1
  have h2 : j < 1073741824 := hc.2
  exact floordiv_int (by omega) (by rw [Int.fdiv_eq_ediv_of_nonneg i (by omega)]; exact q) (.inl (PyProof.noPylong_small (by omega)))
theorem op_mod : OpR X (binaryOp .Mod) (rI (fun _ j => 0 < j) fun i j => .int (i % j)) := opI fun i j _ _ _ _ _ hc q => by
  have h1 : (0 : Int) < j := hc
  exact mod_int' (by omega) (by rw [Int.fmod_eq_emod_of_nonneg i (by omega)]; exact q)
theorem unI {f : Value → Sem Value} {g : Int → Int}
    (rule : ∀ (i : Int) (t : Tok) (s : Shared) (Q : Value → Shared → Prop) (E : Value → Shared → Prop), Q (.int (g i) s.toks) { s with toks := s.toks + 1 } → wpAny (model X.prog X.w) X.A (f (.int i t)) Q E s) :
    UnR X f (rU fun i => .int (g i)) := by
  intro pins s σ H x v Q I rx h
  obtain ⟨i, rfl, q⟩ := h
  obtain ⟨t, rfl⟩ := rx
  exact rule i t s _ _ ⟨.int (g i), H, I.tok _, ⟨_, rfl⟩, q⟩
theorem un_neg : UnR X (unaryOp .USub) (rU fun i => .int (-i)) := unI fun _ _ _ _ _ q => neg_int q
end
def scal : V → V → Bool
  | .non, .non => true | .non, .int _ => true | .int _, .non => true | .non, .bl _ => true | .bl _, .non => true | .non, .str _ => true | .str _, .non => true
  | .int _, .int _ => true | .bl _, .bl _ => true | .str _, .str _ => true | .byt _, .byt _ => true
  | .int _, .str _ => true | .str _, .int _ => true | .bl _, .str _ => true | .str _, .bl _ => true
  | _, _ => false
def rEq : R2 := fun x y H Q => scal x y = true ∧ Q (.bl (decide (x = y))) H
def rNe : R2 := fun x y H Q => scal x y = true ∧ Q (.bl (!decide (x = y))) H
theorem dec_int {i j : Int} : decide (V.int i = V.int j) = (i == j) := by
  rw [Bool.eq_iff_iff]
  simp
theorem dec_bl {i j : Bool} : decide (V.bl i = V.bl j) = (i == j) := by
  rw [Bool.eq_iff_iff]
  simp
theorem dec_str {i j : Str} : decide (V.str i = V.str j) = (i == j) := by
  rw [Bool.eq_iff_iff]
  simp
theorem dec_byt {i j : Array UInt8} : decide (V.byt i = V.byt j) = (i.toList == j.toList) := by
  rw [Bool.eq_iff_iff]
  cases i
  cases j
  simp
section
variable {X : Cx} {a b c : Expr} {ta tb tc : TE} {pos : Pos}
theorem fin_bl {pins : List (Addr × Obj)} {σ : St} {H : Hp} {s : Shared} {Q : VK} {k k' : Bool} (I : Inv X pins σ H s) (q : Q (.bl k) H) (e : k = k') : EP X pins σ Q (.bool k') s := by
  subst e
  exact ⟨.bl k, H, I, rfl, q⟩
theorem op_eq : OpR X (compareOp .Eq) rEq := by
  intro pins s σ H x y v u Q I rx ry h
  obtain ⟨hs, q⟩ := h
  cases x with
  | non =>
    cases rx
    cases y with
    | non => cases ry; exact PySem.EqNone.eq_none_none (fin_bl I q (by simp))
    | bl j => cases ry; exact PySem.EqNone.eq_none_bool (fin_bl I q (by simp))
    | int j => obtain ⟨t', rfl⟩ := ry; exact PySem.EqNone.eq_none_int (fin_bl I q (by simp))
    | str j => obtain ⟨t', rfl⟩ := ry; exact PySem.EqNone.eq_none_str (fin_bl I q (by simp))
    | _ => exact absurd (show false = true from hs) Bool.false_ne_true
  | bl i =>
    cases rx
    cases y with
    | non => cases ry; exact PySem.EqNone.eq_bool_none (fin_bl I q (by simp))
    | bl j => cases ry; exact eq_bool (fin_bl I q dec_bl)
    | str j => obtain ⟨t', rfl⟩ := ry; exact PySem.EqMixed.eq_bool_str (fin_bl I q (by simp))
    | _ => exact absurd (show false = true from hs) Bool.false_ne_true
  | int i =>
    obtain ⟨t, rfl⟩ := rx
    cases y with
    | non => cases ry; exact PySem.EqNone.eq_int_none (fin_bl I q (by simp))
    | int j => obtain ⟨t', rfl⟩ := ry; exact eq_int (fin_bl I q dec_int)
    | str j => obtain ⟨t', rfl⟩ := ry; exact PySem.EqMixed.eq_int_str (fin_bl I q (by simp))
    | _ => exact absurd (show false = true from hs) Bool.false_ne_true
  | str i =>
    obtain ⟨t, rfl⟩ := rx
    cases y with
    | non => cases ry; exact PySem.EqNone.eq_str_none (fin_bl I q (by simp))
    | bl j => cases ry; exact PySem.EqMixed.eq_str_bool (fin_bl I q (by simp))
    | int j => obtain ⟨t', rfl⟩ := ry; exact PySem.EqMixed.eq_str_int (fin_bl I q (by simp))
    | str j => obtain ⟨t', rfl⟩ := ry; exact eq_str (fin_bl I q dec_str)
    | _ => exact absurd (show false = true from hs) Bool.false_ne_true
  | byt i =>
    obtain ⟨t, rfl⟩ := rx
    cases y with
    | byt j => obtain ⟨t', rfl⟩ := ry; exact PySem.W.eq_bytes (fin_bl I q dec_byt)
    | _ => exact absurd (show false = true from hs) Bool.false_ne_true
  | _ => cases y <;> exact absurd (show false = true from hs) Bool.false_ne_true
theorem op_ne : OpR X (compareOp .NotEq) rNe := by
  intro pins s σ H x y v u Q I rx ry h
  obtain ⟨hs, q⟩ := h
  cases x with
  | non =>
    cases rx
    cases y with
    | non => cases ry; exact PySem.EqNone.ne_none_none (fin_bl I q (by simp))
    | bl j => cases ry; exact PySem.EqNone.ne_none_bool (fin_bl I q (by simp))
    | int j => obtain ⟨t', rfl⟩ := ry; exact PySem.EqNone.ne_none_int (fin_bl I q (by simp))
    | str j => obtain ⟨t', rfl⟩ := ry; exact PySem.EqNone.ne_none_str (fin_bl I q (by simp))
    | _ => exact absurd (show false = true from hs) Bool.false_ne_true
  | bl i =>
    cases rx
    cases y with
    | non => cases ry; exact PySem.EqNone.ne_bool_none (fin_bl I q (by simp))
    | bl j => cases ry; exact ne_bool (fin_bl I q (congrArg not dec_bl))
    | str j => obtain ⟨t', rfl⟩ := ry; exact PySem.EqMixed.ne_bool_str (fin_bl I q (by simp))
    | _ => exact absurd (show false = true from hs) Bool.false_ne_true
  | int i =>
    obtain ⟨t, rfl⟩ := rx
    cases y with
    | non => cases ry; exact PySem.EqNone.ne_int_none (fin_bl I q (by simp))
    | int j => obtain ⟨t', rfl⟩ := ry; exact ne_int (fin_bl I q (congrArg not dec_int))
    | str j => obtain ⟨t', rfl⟩ := ry; exact PySem.EqMixed.ne_int_str (fin_bl I q (by simp))
    | _ => exact absurd (show false = true from hs) Bool.false_ne_true
  | str i =>
    obtain ⟨t, rfl⟩ := rx
    cases y with
    | non => cases ry; exact PySem.EqNone.ne_str_none (fin_bl I q (by simp))
    | bl j => cases ry; exact PySem.EqMixed.ne_str_bool (fin_bl I q (by simp))
    | int j => obtain ⟨t', rfl⟩ := ry; exact PySem.EqMixed.ne_str_int (fin_bl I q (by simp))
    | str j => obtain ⟨t', rfl⟩ := ry; exact ne_str (fin_bl I q (congrArg not dec_str))
    | _ => exact absurd (show false = true from hs) Bool.false_ne_true
  | byt i =>
    obtain ⟨t, rfl⟩ := rx
    cases y with
    | byt j => obtain ⟨t', rfl⟩ := ry; exact PySem.W.ne_bytes (fin_bl I q (congrArg not dec_byt))
    | _ => exact absurd (show false = true from hs) Bool.false_ne_true
  | _ => cases y <;> exact absurd (show false = true from hs) Bool.false_ne_true
theorem op_lt : OpR X (compareOp .Lt) (rI0 fun i j => .bl (decide (i < j))) := opB0 fun _ _ _ _ _ _ _ q => lt_int q
theorem op_gt : OpR X (compareOp .Gt) (rI0 fun i j => .bl (decide (j < i))) := opB0 fun _ _ _ _ _ _ _ q => gt_int q
theorem op_in_str : OpR X (compareOp .In) (fun x y H Q => ∃ i j, x = .str i ∧ y = .str j ∧ Q (.bl (!(Builtin.Str.occurrences j i 0 j.length 1).isEmpty)) H) := by
  intro pins s σ H x y v u Q I rx ry h
  obtain ⟨i, j, rfl, rfl, q⟩ := h
  obtain ⟨t, rfl⟩ := rx
  obtain ⟨t', rfl⟩ := ry
  exact in_str (fin_bl I q rfl)
theorem nomark (b : Expr) {op : CmpOp} (h : op ≠ .In := by decide) (h2 : op ≠ .NotIn := by decide) : behindInMarks op b = false := by
  have e1 : (op == CmpOp.In) = false := by cases op <;> first | rfl | exact absurd rfl h
  have e2 : (op == CmpOp.NotIn) = false := by cases op <;> first | rfl | exact absurd rfl h2
  cases b <;> simp [behindInMarks, e1, e2]
theorem pe_cmpR {op : CmpOp} {r : R2} (ho : OpR X (compareOp op) r) (ha : PE X a ta) (hb : PE X b tb) (hm : behindInMarks op b = false) : PE X (.Compare a [op] [b] pos) (tOp r ta tb) := by
  intro pins s σ H Q I h
  exact wpAny_Compare1 (binT ha hb I h fun v u s2 x y H2 I2 rx ry q => ho pins s2 σ H2 x y v u Q I2 rx ry q) hm
def tTest (t : TE) : TT := fun σ H Q => t σ H fun x H' => ∃ k, x = .bl k ∧ Q k H'
theorem pt_cmpR {op : CmpOp} {r : R2} (ho : OpR X (compareOp op) r) (ha : PE X a ta) (hb : PE X b tb) (hm : behindInMarks op b = false) : PT X (.Compare a [op] [b] pos) (tTest (tOp r ta tb)) := by
  intro pins s σ H Q I h
  refine wpAny_isTrue_Compare1 (thn (ha pins s σ H _ I h) fun v s1 ⟨x, H1, I1, r1, q1⟩ => thn (hb pins s1 σ H1 _ I1 q1) fun u s2 ⟨y, H2, I2, r2, q2⟩ =>
    thn (ho pins s2 σ H2 x y v u _ I2 r1 r2 q2) fun c s3 ⟨z, H3, I3, r3, k, e, q3⟩ => ?_) hm
  subst e
  cases r3
  exact wpAny_truthy_bool ⟨H3, I3, q3⟩
theorem line63 : (sizeLine : Nat) < 2 ^ 63 := by rw [sizeLine_eq]; decide
theorem op_add_str : OpR X (binaryOp .Add) (fun x y H Q => ∃ i j, x = .str i ∧ y = .str j ∧ i.length + j.length ≤ sizeLine ∧ Q (.str (i ++ j)) H) := by
  intro pins s σ H x y v u Q I rx ry h
  obtain ⟨i, j, rfl, rfl, hz, q⟩ := h
  obtain ⟨t, rfl⟩ := rx
  obtain ⟨t', rfl⟩ := ry
  exact add_str (fun t' tk => ⟨.str (i ++ j), H, I.tok _, ⟨_, rfl⟩, q⟩) hz
theorem vals1 {x : V} {us : List Value} (r : Vals [x] us) : ∃ u, us = [u] ∧ RelV x u := by
  cases r with
  | cons r1 r2 => cases r2; exact ⟨_, rfl, r1⟩
theorem vals2 {x y : V} {us : List Value} (r : Vals [x, y] us) : ∃ u w', us = [u, w'] ∧ RelV x u ∧ RelV y w' := by
  cases r with
  | cons r1 r2 =>
    cases r2 with
    | cons r3 r4 => cases r4; exact ⟨_, _, rfl, r1, r3⟩
theorem call_max2 (hc : X.calm = true) : CallR X (.builtin "max") (fun xs H Q => ∃ i j, xs = [.int i, .int j] ∧ Q (.int (if j > i then j else i)) H) := by
  intro pins s σ H xs us Q I r h
  obtain ⟨i, j, rfl, q⟩ := h
  obtain ⟨u, w', rfl, ⟨t, rfl⟩, ⟨t', rfl⟩⟩ := vals2 r
  refine max_two_ints (I.ok.hd hc) fun h' tk k => ⟨_, H, I.kept k, ?_, q⟩
  by_cases hj : j > i
  · rw [if_pos hj, if_pos hj]; exact ⟨_, rfl⟩
  · rw [if_neg hj, if_neg hj]; exact ⟨_, rfl⟩
theorem call_str_int : CallR X (.type "str") (fun xs H Q => ∃ i, xs = [.int i] ∧ i.natAbs.log2 < 1920 ∧ Q (.str (toString i)) H) := by
  intro pins s σ H xs us Q I r h
  obtain ⟨i, rfl, hz, q⟩ := h
  obtain ⟨u, rfl, t, rfl⟩ := vals1 r
  exact PySem.P.str_of_int hz ⟨.str _, H, I.tok _, ⟨_, rfl⟩, q⟩
end
end L2
namespace L2
open PySem PySem.Spec PyProof.Rows
structure ObjM (h : Heap) (x dx C : Addr) (mA : Str → Option Value) : Prop where
  obj : h.get? x = some (PySem.W.instObj C dx)
  ns : h.Ns1 dx mA
  ne : dx ≠ x
theorem lookIn_ns {h : Heap} {dx : Addr} {mA : Str → Option Value} (n : h.Ns1 dx mA) : ∃ od, h.get? dx = some od ∧ ∀ name, PySem.W.lookIn name od = some (mA name) := by
  obtain ⟨o, es, ep, ho, hd, hk, _, hm⟩ := n
  refine ⟨o, ho, fun name => ?_⟩
  have e := hm name
  unfold nsFind findBy at e
  rw [← Array.find?_toList] at e
  unfold PySem.W.lookIn
  rw [hd]
  dsimp only
  split
  · rename_i y q
    rw [q] at e
    exact congrArg some e
  · rename_i q
    rw [q] at e
    have a : es.toList.any (·.refKey) = false := by
      rw [List.any_eq_false]
      intro y hy
      obtain ⟨z, t, hkey⟩ := hk y (Array.mem_toList_iff.mp hy)
      simp [DictEntry.refKey, hkey]
    have a' : ¬ es.toList.any (·.refKey) = true := by rw [a]; exact Bool.false_ne_true
    rw [if_neg a']
    exact congrArg some e
theorem ObjM.look {h : Heap} {x dx C : Addr} {mA : Str → Option Value} (I : ObjM h x dx C mA) : ∃ od, PySem.W.InstAt h x (PySem.W.instObj C dx) C (some od) ∧ ∀ name, PySem.W.lookIn name od = some (mA name) :=
  let ⟨od, ho, hl⟩ := lookIn_ns I.ns
  ⟨od, ⟨I.obj, rfl, rfl, ho⟩, hl⟩
section
variable {prog : Program} {w : World} {A : Around} {E : Value → Shared → Prop} {s : Shared} {K : PySem.W.Frag} {x dx C f : Addr} {mA : Str → Option Value} {name : Str} {v : Value}
end
section
variable {P : Program} {w : World} {H H' : Hp} {h h' : Heap} {a C dx : Addr} {fs fs' : List (Str × V)}
theorem ins_get (hok : HOk P w H h) (e : H a = some (.ins C dx fs)) : ∃ mA, ObjM h a dx C mA ∧ (∀ f, RelO (fs.lookup f) (mA f)) ∧ PySem.Within mA (fs.map (·.1)) ∧ fs.length ≤ 1000 ∧ H dx = some (.own a) := by
  obtain ⟨d, z, ne, ob, mA, n, r, q⟩ := (show ObjOk P w H h a (.ins C dx fs) from hok a _ e)
  exact ⟨mA, ⟨ob, n, ne⟩, r, q, z, d⟩
end
structure Cls (K : PySem.W.Frag) (C : Addr) : Prop where
  pg : PySem.W.plainGet K C Str.empty = true
  hd : PySem.W.hasDictIn K C = true
  po : PySem.W.plainOver K C = true
  sa : PySem.W.findIn K (.ref C) "__setattr__" = some (some (.builtin "object.__setattr__"))
theorem Cls.get {K : PySem.W.Frag} {C : Addr} (c : Cls K C) (f : Str) : PySem.W.plainGet K C f = true := c.pg
section
variable {X : Cx} {pins : List (Addr × Obj)} {σ : St} {H : Hp} {s : Shared} {a C dx : Addr} {fs : List (Str × V)} {f : Str} {v : V} {A : Around} {E : Value → Shared → Prop}
end
section
variable {X : Cx} {o e value : Expr} {f : Str} {pos pos' tpos : Pos} {ta tv : TE}
end
section
variable {X : Cx} {pins : List (Addr × Obj)} {σ : St} {H : Hp} {s : Shared} {A : Around} {E : Value → Shared → Prop} {Q : Value → Shared → Prop} {c : Value} {b : Bool}
inductive TyOf (K : PySem.W.Frag) (H : Hp) : V → Value → Prop where
  | non : TyOf K H .non (.type "NoneType")
  | bl (x : Bool) : TyOf K H (.bl x) (.type "bool")
  | int (i : Int) : TyOf K H (.int i) (.type "int")
  | str (x : Str) : TyOf K H (.str x) (.type "str")
  | flt (x : UInt64) : TyOf K H (.flt x) (.type "float")
  | lst {a : Addr} {xs : List V} (e : H a = some (.lst xs)) : TyOf K H (.ref a) (.type "list")
  | frz {a : Addr} {o : Obj} {xs : List V} (e : H a = some (.frz o (.lst xs))) : TyOf K H (.ref a) (.type "list")
  | tup {a : Addr} {xs : List V} (e : H a = some (.tup xs)) : TyOf K H (.ref a) (.type "tuple")
  | dK {a : Addr} {kvs : List (Key × V)} (e : H a = some (.dK kvs)) : TyOf K H (.ref a) (.type "dict")
  | dT {a : Addr} {kvs : List (List Key × V)} (e : H a = some (.dT kvs)) : TyOf K H (.ref a) (.type "dict")
  | ins {a C dx : Addr} {fs : List (Str × V)} (e : H a = some (.ins C dx fs)) (cl : Cls K C) (ha : PySem.W.findIn K (.ref C) "__class__" = some (some (.builtin "object.__class__")))
      (hn : PySem.W.specialIn K (.builtin "object.__class__") "__get__" = some (some (.builtin "getset_descriptor.__get__"))) (htk : PySem.W.takesIn K (.builtin "object.__class__") = some true)
      (hm : PySem.W.mroIn K C (.type "object") = some true) : TyOf K H (.ref a) (.ref C)
theorem isinst_ok {x : V} {u t : Value} (I : Inv X pins σ H s) (rx : RelV x u) (ty : TyOf X.K H x t) (e : PySem.W.kitOne X.K t c = some b) (h : ∀ tk, Q (.bool b) { s with toks := tk }) :
    wpAny (model X.prog X.w) A (call (.builtin "isinstance") [u, c]) Q E s := by
  cases ty with
  | non => cases (show u = Value.none from rx); exact PySem.W.kia_one PySem.W.kitx_none I.kIn True.intro e (fun z => nomatch z) h
  | bl y => cases (show u = Value.bool y from rx); exact PySem.W.kia_one PySem.W.kitx_bool I.kIn True.intro e (fun z => nomatch z) h
  | int i => obtain ⟨t, q⟩ := (show ∃ t, u = Value.int i t from rx); cases q; exact PySem.W.kia_one PySem.W.kitx_int I.kIn True.intro e (fun z => nomatch z) h
  | str y => obtain ⟨t, q⟩ := (show ∃ t, u = Value.str y t from rx); cases q; exact PySem.W.kia_one PySem.W.kitx_str I.kIn True.intro e (fun z => nomatch z) h
  | flt y => obtain ⟨t, q⟩ := (show ∃ t, u = Value.float y t from rx); cases q; exact PySem.W.kia_one PySem.W.kitx_float I.kIn True.intro e (fun z => nomatch z) h
  | @lst a xs ea =>
    cases (show u = Value.ref a from rx)
    obtain ⟨_, _, n, _, h1⟩ := (show ObjOk X.prog X.w H s.heap a (.lst xs) from I.hok a _ ea)
    exact PySem.W.kia_one PySem.W.kitx_list I.kIn ⟨_, h1, rfl⟩ e (fun z => nomatch z) h
  | @frz a ob xs ea =>
    cases (show u = Value.ref a from rx)
    obtain ⟨_, _, _, n, _, h1⟩ := (show ObjOk X.prog X.w H s.heap a (.frz ob (.lst xs)) from I.hok a _ ea)
    exact PySem.W.kia_one PySem.W.kitx_list I.kIn ⟨_, h1, rfl⟩ e (fun z => nomatch z) h
  | @tup a xs ea =>
    cases (show u = Value.ref a from rx)
    obtain ⟨_, _, _, p⟩ := (show ObjOk X.prog X.w H s.heap a (.tup xs) from I.hok a _ ea)
    obtain ⟨o, h1, h2, _⟩ := p
    exact PySem.W.kia_one PySem.W.kitx_tuple I.kIn ⟨o, h1, h2⟩ e (fun z => nomatch z) h
  | @dK a kvs ea =>
    cases (show u = Value.ref a from rx)
    obtain ⟨_, _, vs, _, p⟩ := (show ObjOk X.prog X.w H s.heap a (.dK kvs) from I.hok a _ ea)
    obtain ⟨o, es, ep, h1, h2, _⟩ := p
    exact PySem.W.kia_one PySem.W.kitx_dict I.kIn ⟨o, h1, h2.1⟩ e (fun z => nomatch z) h
  | @dT a kvs ea =>
    cases (show u = Value.ref a from rx)
    obtain ⟨_, _, xs, _, o, es, ep, h1, h2, _⟩ := (show ObjOk X.prog X.w H s.heap a (.dT kvs) from I.hok a _ ea)
    exact PySem.W.kia_one PySem.W.kitx_dict I.kIn ⟨o, h1, h2.1⟩ e (fun z => nomatch z) h
  | @ins a C dx fs ea cl ha hn htk hm =>
    cases (show u = Value.ref a from rx)
    obtain ⟨mA, O, _⟩ := ins_get I.hok ea
    obtain ⟨od, J, _⟩ := O.look
    exact PySem.W.kia_one (PySem.W.kitx_own (cl.get _) cl.hd ha hn htk hm) I.kIn J e (fun z => nomatch z) h
end
end L2
namespace L2
open PySem PySem.Spec PyProof.Rows
structure Room (k : Nat) (A : Around) : Prop where
  hd : A.handled = none
  dp : A.depth + 3 * k + 5 < recursionLimit
  un : A.units + 16 * k + 200 < cLine
theorem Room.mono {j k : Nat} {A : Around} (r : Room k A) (h : j ≤ k) : Room j A := ⟨r.hd, by have := r.dp; omega, by have := r.un; omega⟩
theorem Room.deeper {k : Nat} {A : Around} (r : Room (k + 1) A) (env : Env) : Room k (A.deeper env) :=
  ⟨r.hd, by have := r.dp; show A.depth + 1 + 3 * k + 5 < _; omega, by have := r.un; show A.units + 3 + 16 * k + 200 < _; omega⟩
theorem Room.depth {k : Nat} {A : Around} (r : Room k A) : A.depth < recursionLimit := by have := r.dp; omega
def tNil : TA := fun _ H Q => Q [] H
def tCons (ta : TE) (tr : TA) : TA := fun σ H Q => ta σ H fun x H1 => tr σ H1 fun xs H2 => Q (x :: xs) H2
section
variable {X : Cx} {e : Expr} {es : List Expr} {te : TE} {t : TA} {pos : Pos}
theorem pa_nil : PA X [] tNil := fun _ _ _ _ H Q I h => Calls.spliced_nil ⟨[], H, I, .nil, h⟩
theorem pa_cons (ha : PE X e te) (hr : PA X es t) (hs : starEach (e :: es) X.env = (false, eval e X.env) :: starEach es X.env := by rfl) : PA X (e :: es) (tCons te t) := by
  intro pos pins s σ H Q I h
  rw [hs]
  show wpAny _ _ (spliced ((false, eval e X.env) :: backTo pos (starEach es X.env))) _ _ s
  refine Calls.spliced_cons (thn (ha pins s σ H _ I h) fun u s1 ⟨x, H1, I1, r1, q1⟩ => ?_)
  exact thn (hr pos pins s1 σ H1 _ I1 q1) fun us s2 ⟨xs, H2, I2, r2, q2⟩ => ⟨x :: xs, H2, I2, .cons r1 r2, q2⟩
def tTup (t : TA) : TE := fun σ H Q => t σ H fun xs H1 => xs.length ≤ sizeLine ∧ ∀ p, H1 p = none → Q (.ref p) (upd H1 p (.tup xs))
def tLst (t : TA) : TE := fun σ H Q => t σ H fun xs H1 => xs.length ≤ sizeLine ∧ ∀ p, H1 p = none → Q (.ref p) (upd H1 p (.lst xs))
theorem pe_tup {x1} (h : PA X es t) : PE X (.Tuple es x1 pos) (tTup t) := by
  intro pins s σ H Q I hq
  refine wpAny_Tuple_spliced (thn (h pos pins s σ H _ I hq) fun us s1 ⟨xs, H1, I1, r, z, q⟩ => ⟨by rw [← r.length]; exact z, ?_⟩)
  have hf : H1 s1.heap.objs.size = none := I1.hok.fresh (Nat.le_refl _)
  refine ⟨.ref s1.heap.objs.size, upd H1 s1.heap.objs.size (.tup xs), I1.laid (t' := s1.toks) (fun b u e => Heap.get?_push_of_some _ e) (Nat.le_refl _) ?_, rfl, q _ hf⟩
  exact ⟨z, us, r, ⟨_, Heap.get?_push_size _ rfl, rfl, _, rfl⟩⟩
theorem pe_lst (h : PA X es t) : PE X (.List es pos) (tLst t) := by
  intro pins s σ H Q I hq
  refine wpAny_List_spliced (thn (h pos pins s σ H _ I hq) fun us s1 ⟨xs, H1, I1, r, z, q⟩ => ⟨by rw [← r.length]; exact z, ?_⟩)
  have hf : H1 s1.heap.objs.size = none := I1.hok.fresh (Nat.le_refl _)
  refine ⟨.ref s1.heap.objs.size, upd H1 s1.heap.objs.size (.lst xs), I1.laid (t' := s1.toks) (fun b u e => Heap.get?_push_of_some _ e) (Nat.le_refl _) ?_, rfl, q _ hf⟩
  exact ⟨z, us, 0, r, Heap.get?_push_size _ rfl⟩
end
abbrev Sp := List V → Hp → VK → XK → Prop
abbrev CXT := List Env → Hp → Shared → XK → Value → Shared → Prop
structure Env0 (P : Program) (w : World) (K : PySem.W.Frag) (mg : Str → Option Value) (base : Heap) (A : Around) (outer : List Env) (s : Shared) (H : Hp) : Prop where
  frames : A.frames = some outer
  mod : Mod K mg base
  bs : ∀ b o, base.get? b = some o → s.heap.get? b = some o ∧ H b = none
  bsz : base.objs.size ≤ s.heap.objs.size
  funs : s.heap.FunFrames base outer
  frf : ∀ b ∈ frs outer, H b = none
  hok : HOk P w H s.heap
  bare : AllBare s.gens
def CE (outer : List Env) (P : Program) (w : World) (H : Hp) (s : Shared) (Q : VK) (u : Value) (s' : Shared) : Prop :=
  ∃ v H', s'.os = s.os ∧ AllBare s'.gens ∧ Un (frs outer) [] H H' s.heap s'.heap ∧ HOk P w H' s'.heap ∧ RelV v u ∧ Q v H'
def CR (CX : CXT) (outer : List Env) (P : Program) (w : World) (H : Hp) (s : Shared) (Q : VK) (E : XK) (r : Result) (s' : Shared) : Prop :=
  match r with
  | .ok (.ret u) => CE outer P w H s Q u s'
  | .ok _ => False
  | .error e => CX outer H s E e s'
structure FnOk (P : Program) (w : World) (K : PySem.W.Frag) (mg : Str → Option Value) (base : Heap) (CX : CXT) (k : Nat) (f : Addr) (fd : FuncData) (ps : List Str) (sp : Sp) : Prop where
  len : ∀ vs H Q E, sp vs H Q E → vs.length = ps.length
  run : ∀ (A : Around) (outer : List Env) (s : Shared) (H : Hp) (args : Args) (us : List Value) (vs : List V) (Q : VK) (E : XK), Room k A → Env0 P w K mg base A outer s H → BindsTo s fd args (ps.zip us) → Vals vs us → sp vs H Q E →
    codeAny (model P w) A (.call (.ref f) args) (CR CX outer P w H s Q E) s
section
variable {X : Cx} {pins : List (Addr × Obj)} {σ : St} {H : Hp} {s s' : Shared}
theorem Inv.env0 (I : Inv X pins σ H s) : Env0 X.prog X.w X.K X.mg X.base X.A X.stack s H :=
  ⟨I.ok.frames, I.ok.mod, I.bs, Nat.le_trans I.ok.bsz I.sz, I.stack, I.stkFree, I.hok, I.bare⟩
theorem Inv.after {Q : VK} {u : Value} (I : Inv X pins σ H s) (h : CE X.stack X.prog X.w H s Q u s') : EP X pins σ Q u s' := by
  obtain ⟨v, H', os, bare, un, hok, r, q⟩ := h
  obtain ⟨hh, g, d, t, os'⟩ := s'
  obtain rfl : os' = s.os := os
  exact ⟨v, H', I.call (h' := hh) (g' := g) (d' := d) (t' := t) (ch := []) un hok bare (fun b z => absurd z (by simp)), r, q⟩
end
def tCall (sp : Sp) (dvs : List V) (E : XK) (t : TA) : TE := fun σ H Q => t σ H fun vs H1 => sp (vs ++ dvs) H1 Q E
def Binds (K : PySem.W.Frag) (fd : FuncData) (ps : List Str) (ds : List Value) : Prop :=
  ∀ (s : Shared) (us : List Value), K.In s.heap → (us ++ ds).length = ps.length → BindsTo s fd ⟨us, []⟩ (ps.zip (us ++ ds))
theorem Binds.all {K : PySem.W.Frag} {fd : FuncData} {ps : List Str} (h : ∀ us : List Value, us.length = ps.length → bindArgs fd ⟨us, []⟩ = pure (ps.zip us)) : Binds K fd ps [] := fun s us _ hl => by
  rw [List.append_nil] at hl ⊢
  exact .of_eq (h us hl)
def Passes (CX : CXT) (X : Cx) (E : XK) : Prop := ∀ (pins : List (Addr × Obj)) (σ : St) (H : Hp) (s : Shared) (e : Value) (s' : Shared), Inv X pins σ H s → CX X.stack H s E e s' → X.xe e s'
section
variable {X : Cx} {CX : CXT} {k : Nat} {f C : Addr} {fd : FuncData} {ps : List Str} {sp : Sp} {dvs : List V} {ds : List Value} {E : XK} {x m : Str} {p pos apos : Pos} {e o : Expr} {es : List Expr} {ta : TE} {t : TA}
theorem run_fn {pins : List (Addr × Obj)} {σ : St} {H : Hp} {s : Shared} {Q : VK} {us : List Value} {vs : List V} (F : FnOk X.prog X.w X.K X.mg X.base CX k f fd ps sp) (hr : Room k X.A) (hb : Binds X.K fd ps ds) (hd : Vals dvs ds) (hx : Passes CX X E)
    (I : Inv X pins σ H s) (r : Vals vs us) (h : sp (vs ++ dvs) H Q E) : wpAny (model X.prog X.w) X.A (call (.ref f) us) (EP X pins σ Q) X.xe s := by
  have r2 : Vals (vs ++ dvs) (us ++ ds) := r.append hd
  have hl : (us ++ ds).length = ps.length := by rw [← r2.length]; exact F.len _ _ _ _ h
  refine wpAny_call (codeAny_mono (F.run X.A X.stack s H ⟨us, []⟩ (us ++ ds) (vs ++ dvs) Q E hr I.env0 (hb s us I.kIn hl) r2 h) fun r s' hq => ?_)
  cases r with
  | error e => exact hx pins σ H s e s' I hq
  | ok fl =>
    cases fl with
    | ret u => exact I.after hq
    | next => exact False.elim hq
    | brk => exact False.elim hq
    | cont => exact False.elim hq
theorem pe_call (F : FnOk X.prog X.w X.K X.mg X.base CX k f fd ps sp) (hr : Room k X.A) (hg : Gl X x) (hm : X.mg x = some (.ref f)) (hk : PySem.W.keepIn X.K (.ref f) = true) (hb : Binds X.K fd ps ds) (hd : Vals dvs ds) (hx : Passes CX X E)
    (ha : PA X (e :: es) t) (hdb : (x == ("__debug__" : Str)) = false := by decide) (he : starEach (e :: es) X.env = (false, eval e X.env) :: starEach es X.env := by rfl) (hpl : (backTo pos (starEach es X.env)).any (·.1) = false := by rfl) :
    PE X (.Call (.Name x p) (e :: es) [] pos) (tCall sp dvs E t) := by
  intro pins s σ H Q I h
  refine wpAny_Call_Name_kw (ld_glob I hg hm ?_ hdb)
  refine PySem.W.callWith_K (h₀ := X.base) I.ok.mod.kin hk (thn (ha pos pins s σ H _ I h) fun us s1 ⟨vs, H1, I1, r, q⟩ => ⟨I1.kIn, ?_⟩) he hpl
  exact run_fn F hr hb hd hx I1 r q
theorem pe_call0 (F : FnOk X.prog X.w X.K X.mg X.base CX k f fd ps sp) (hr : Room k X.A) (hg : Gl X x) (hm : X.mg x = some (.ref f)) (hk : PySem.W.keepIn X.K (.ref f) = true) (hb : Binds X.K fd ps ds) (hd : Vals dvs ds) (hx : Passes CX X E)
    (hdb : (x == ("__debug__" : Str)) = false := by decide) : PE X (.Call (.Name x p) [] [] pos) (tCall sp dvs E tNil) := by
  intro pins s σ H Q I h
  refine wpAny_Call_Name_kw (ld_glob I hg hm ?_ hdb)
  exact PySem.W.callWith_K0 I.kIn hk (run_fn (us := []) F hr hb hd hx I .nil h)
end
section
variable {X : Cx} {CX : CXT} {k : Nat} {f C : Addr} {fd : FuncData} {ps ks : List Str} {sp : Sp} {E : XK} {x m : Str} {p pos apos kpos : Pos} {e o : Expr} {es : List Expr} {kws : List Keyword} {te ta : TE} {t tk : TA} {nm : Option Str}
variable {g : List Value → List Value → List Value} {gV : List V → List V → List V}
end
structure FnScope (N P : List Str) (sc : Scope) : Prop where
  kind : sc.kind = .function
  co : sc.isCoroutine = false
  gen : sc.isGenerator = false
  nd : N.Nodup
  pre : N.take P.length = P
  par : ∀ x ∈ P, sc.names.lookup x = some .local ∨ sc.names.lookup x = some .cell
  nofree : ∀ y ∈ sc.names, y.2 ≠ .free
theorem bindL_out {kindOf : Str → Option NameKind} {x : Str} : ∀ {binds : List (Str × Value)} {m : Str → Option Value}, (∀ v, (x, v) ∉ binds) → bindL kindOf binds m x = m x
  | [], _, _ => rfl
  | (n, v) :: r, m, h => by
    unfold bindL
    rw [bindL_out fun w hw => h w (List.mem_cons_of_mem _ hw)]
    split
    · have : x ≠ n := by rintro rfl; exact h v List.mem_cons_self
      simp [this]
    · rfl
theorem bindC_out {kindOf : Str → Option NameKind} {x : Str} : ∀ {binds : List (Str × Value)} {m : Str → Option Value}, (∀ v, (x, v) ∉ binds) → bindC kindOf binds m x = m x
  | [], _, _ => rfl
  | (n, v) :: r, m, h => by
    unfold bindC
    rw [bindC_out fun w hw => h w (List.mem_cons_of_mem _ hw)]
    split
    · rfl
    · have : x ≠ n := by rintro rfl; exact h v List.mem_cons_self
      simp [this]
theorem bindL_get {kindOf : Str → Option NameKind} {x : Str} {v : Value} : ∀ {P : List Str} {vs : List Value} {i : Nat} {m : Str → Option Value}, P.Nodup → P[i]? = some x → vs[i]? = some v → kindOf x = some .local →
    bindL kindOf (P.zip vs) m x = some v
  | [], _, _, _, _, h, _, _ => by simp at h
  | _ :: _, [], _, _, _, _, h, _ => by simp at h
  | p :: P, w :: vs, 0, m, nd, h1, h2, hk => by
    simp at h1 h2; subst h1; subst h2
    show bindL kindOf ((p, w) :: P.zip vs) m p = _
    unfold bindL
    rw [bindL_out fun v hv => (List.nodup_cons.mp nd).1 (List.of_mem_zip hv).1, if_pos hk]
    simp
  | p :: P, w :: vs, i + 1, m, nd, h1, h2, hk => by
    show bindL kindOf ((p, w) :: P.zip vs) m x = _
    unfold bindL
    exact bindL_get (i := i) (List.nodup_cons.mp nd).2 (by simpa using h1) (by simpa using h2) hk
theorem bindC_get {kindOf : Str → Option NameKind} {x : Str} {v : Value} : ∀ {P : List Str} {vs : List Value} {i : Nat} {m : Str → Option Value}, P.Nodup → P[i]? = some x → vs[i]? = some v → kindOf x ≠ some .local →
    bindC kindOf (P.zip vs) m x = some v
  | [], _, _, _, _, h, _, _ => by simp at h
  | _ :: _, [], _, _, _, _, h, _ => by simp at h
  | p :: P, w :: vs, 0, m, nd, h1, h2, hk => by
    simp at h1 h2; subst h1; subst h2
    show bindC kindOf ((p, w) :: P.zip vs) m p = _
    unfold bindC
    rw [bindC_out fun v hv => (List.nodup_cons.mp nd).1 (List.of_mem_zip hv).1, if_neg hk]
    simp
  | p :: P, w :: vs, i + 1, m, nd, h1, h2, hk => by
    show bindC kindOf ((p, w) :: P.zip vs) m x = _
    unfold bindC
    exact bindC_get (i := i) (List.nodup_cons.mp nd).2 (by simpa using h1) (by simpa using h2) hk
def start (N : List Str) (vs : List V) : St := vs.map some ++ List.replicate (N.length - vs.length) none
def cxOf (CX : CXT) (P : Program) (w : World) (K : PySem.W.Frag) (mg : Str → Option Value) (base : Heap) (N : List Str) (qual : Str) (scope : Scope) (f : Addr) (cd : Value) (A : Around) (outer : List Env) (s : Shared) (H : Hp) (E : XK) : Cx where
  prog := P
  w := w
  K := K
  mg := mg
  base := base
  A := A.deeper (envOfC qual scope s.heap.objs.size f cd)
  N := N
  s₀ := s
  H₀ := H
  env := envOfC qual scope s.heap.objs.size f cd
  outer := outer
  stack := envOfC qual scope s.heap.objs.size f cd :: outer
  ex := []
  calm := true
  fn := fun _ => true
  pn := []
  xe := fun e s' => wpAny (model P w) (A.deeper (envOfC qual scope s.heap.objs.size f cd)) (leaving (envOfC qual scope s.heap.objs.size f cd) e) (fun _ s'' => CX outer H s E e s'') (fun e' s'' => CX outer H s E e' s'') s'
theorem cell_has {sc : Scope} {n : Nat} {x : Str} (h : sc.names.lookup x = some .cell) : ∃ c, (cellsFrom n sc.names []).lookup x = some c := by
  have q := PySem.W.cellsFrom_some sc.names n [] (.inl h)
  exact Option.isSome_iff_exists.mp q
theorem inv_start {CX : CXT} {P : Program} {w : World} {K : PySem.W.Frag} {mg : Str → Option Value} {base : Heap} {N ps : List Str} {qual : Str} {scope : Scope} {f : Addr} {cd : Value} {A : Around} {outer : List Env} {s s1 : Shared} {H : Hp} {E : XK} {us : List Value} {vs : List V}
    (S : FnScope N ps scope) (hd : A.handled = none) (e0 : Env0 P w K mg base A outer s H) (hl : vs.length = ps.length) (r : Vals vs us)
    (x : InCallC s s.heap.objs.size (bindL (envOfC qual scope s.heap.objs.size f cd).kindOf (ps.zip us) fun _ => none) (cellsFrom (s.heap.objs.size + 1) scope.names []) (bindC (envOfC qual scope s.heap.objs.size f cd).kindOf (ps.zip us) fun _ => none) s1) :
    Inv (cxOf CX P w K mg base N qual scope f cd A outer s H E) [] (start N vs) H s1 := by
  have hpl : ps.length ≤ N.length := by have := congrArg List.length S.pre; rw [List.length_take] at this; omega
  obtain ⟨h1, tk, rfl, hk⟩ := x.done
  have noA : ∀ b : Addr, b ∉ (cxOf CX P w K mg base N qual scope f cd A outer s H E).ex := fun b z => absurd (show b ∈ ([] : List Addr) from z) (by simp)
  refine ⟨⟨e0.mod, S.kind, rfl, rfl, Nat.le_refl _, fun y z c h1 h2 => ?_, fun y hy => ?_, fun y c _ h => ?_, fun _ => hd, Around.frames_deeper e0.frames, .inr ⟨rfl, rfl⟩, fun b z => absurd z (noA b), e0.bs, e0.bsz, fun b _ _ => noA b, fun b z => absurd z (noA b), e0.funs, e0.frf⟩,
    rfl, e0.bare, Un.kept hk, ⟨_, x.toInCall.ns, fun i y v h1 h2 h3 => ?_⟩, fun y c h => ⟨_, x.cell y c h⟩, e0.hok.fresh (Nat.le_refl _), fun y c h => ?_, fun p hp => absurd (show p ∈ ([] : List (Addr × Obj)) from hp) (by simp), e0.hok.kept hk, ?_⟩
  · exact name_of_addr x.apart (PySem.mem_of_lookup h1) (PySem.mem_of_lookup h2)
  · have hy : scope.names.lookup y = some .cell ∨ scope.names.lookup y = some .free := hy
    rcases hy with hy | hy
    · exact cell_has hy
    · exact absurd rfl (S.nofree _ (PySem.mem_of_lookup hy))
  · exact Nat.le_of_lt (x.above y c (PySem.mem_of_lookup h))
  · have hi : i < vs.length := by
      unfold start at h2
      by_cases hi : i < vs.length
      · exact hi
      · rw [List.getElem?_append_right (by simpa using hi)] at h2
        rw [List.getElem?_replicate] at h2
        split at h2 <;> cases h2
    have ha : vs[i]? = some v := by
      unfold start at h2
      rw [List.getElem?_append_left (by simpa using hi), List.getElem?_map] at h2
      cases e : vs[i]? with
      | none => rw [e] at h2; cases h2
      | some a => rw [e] at h2; cases h2; rfl
    obtain ⟨u, hu, rv⟩ := r.get ha
    have hp : ps[i]? = some y := by
      rw [← S.pre, List.getElem?_take_of_lt (by omega)]; exact h1
    have ndP : ps.Nodup := by rw [← S.pre]; exact S.nd.sublist (List.take_sublist _ _)
    refine ⟨u, rv, ?_⟩
    rcases S.par y (List.mem_of_getElem? hp) with k | k
    · exact .inl ⟨k, bindL_get ndP hp hu k⟩
    · obtain ⟨c, e⟩ := cell_has (n := s.heap.objs.size + 1) k
      refine .inr ⟨.inl k, c, e, ?_⟩
      have q := x.cell y c e
      rw [bindC_get ndP hp hu (by show scope.names.lookup y ≠ _; rw [k]; decide)] at q
      exact q
  · exact e0.hok.fresh (Nat.le_of_lt (x.above y c (PySem.mem_of_lookup h)))
  · unfold start
    show _ = N.length
    rw [List.length_append, List.length_map, List.length_replicate]
    omega
theorem fn_of {CX : CXT} {P : Program} {w : World} {K : PySem.W.Frag} {mg : Str → Option Value} {base : Heap} {k : Nat} {f : Addr} {name qual : Str} {params : Arguments} {body : List Stmt} {scope : Scope} {dV kV doc pm cdv ct oc : Value} {an od : Option Addr}
    {osl : Array (Option Value)} {N ps : List Str} {sp : Sp} (lk : K.lookup f = some ⟨oc, od, .func (PySem.W.fnOf name qual params body scope dV kV doc pm an cdv ct), osl⟩) (hcd : PySem.W.codeIn K cdv qual = true) (S : FnScope N ps scope)
    (len : ∀ vs H Q E, sp vs H Q E → vs.length = ps.length)
    (hbody : ∀ (A : Around) (outer : List Env) (s : Shared) (H : Hp) (vs : List V) (Q : VK) (E : XK), Room k (A.deeper (envOfC qual scope s.heap.objs.size f cdv)) → sp vs H Q E →
      ∃ t, PSs (cxOf CX P w K mg base N qual scope f cdv A outer s H E) body t ∧ t { nx := fun _ H' => Q .non H', rt := Q } (start N vs) H) :
    FnOk P w K mg base CX (k + 1) f (PySem.W.fnOf name qual params body scope dV kV doc pm an cdv ct) ps sp := by
  refine ⟨len, fun A outer s H args us vs Q E hr e0 hb r hsp => ?_⟩
  have hl := len _ _ _ _ hsp
  have KX : K.In s.heap := e0.mod.kin.keeps fun b o e => (e0.bs b o e).1
  have lim : s.heap.NoLimit := e0.mod.nolimit.keeps fun b o e => (e0.bs b o e).1
  have hkind : ∀ y ∈ ps.zip us, scope.names.lookup y.1 = some .local ∨ (scope.names.lookup y.1 = some .cell ∧ ((cellsFrom (s.heap.objs.size + 1) scope.names []).lookup y.1).isSome = true) := fun ⟨n, v⟩ hy => by
    rcases S.par n (List.of_mem_zip hy).1 with q | q
    · exact .inl q
    · exact .inr ⟨q, PySem.W.cellsFrom_some _ _ _ (.inl q)⟩
  refine codeAny_call_function hr.depth (KX _ _ lk) rfl S.co S.gen rfl (PySem.W.codeRec_of KX hcd) (hb _ _ _ _ ?_)
  refine wpAny_newFunctionEnv_cells S.kind hkind fun env he s1 x => ?_
  subst he
  refine ⟨lim.keeps x.toInCall.keep, codeAny_func ?_⟩
  obtain ⟨t, ht, hq⟩ := hbody A outer s H vs Q E (hr.deeper _) hsp
  have I : Inv (cxOf CX P w K mg base N qual scope f cdv A outer s H E) [] (start N vs) H s1 := inv_start S hr.hd e0 hl r x
  refine wpAny_mono (ht [] s1 (start N vs) H _ I hq) (fun fl s' hs => ?_) fun e s' hs => hs
  have fin : ∀ {σ' : St} {H' : Hp} {v : V} {u : Value}, Inv (cxOf CX P w K mg base N qual scope f cdv A outer s H E) [] σ' H' s' → RelV v u → Q v H' → CE outer P w H s Q u s' :=
    fun {σ' H' v u} J rv q => ⟨v, H', J.os, J.bare, J.base, J.hok, rv, q⟩
  cases fl with
  | ret u =>
    obtain ⟨v, σ', H', J, rv, q⟩ := hs
    exact fin J rv q
  | next =>
    obtain ⟨σ', H', J, q⟩ := hs
    exact fin (v := V.non) (u := Value.none) J rfl q
  | brk =>
    obtain ⟨_, _, _, q⟩ := hs
    exact False.elim q
  | cont =>
    obtain ⟨_, _, _, q⟩ := hs
    exact False.elim q
end L2
namespace L2
open PySem PySem.Spec PyProof.Rows
section
variable {X : Cx} {x : Str} {p pos : Pos} {e : Expr} {es : List Expr} {t : TA} {id T : String} {r : List V → Hp → VK → Prop}
def tCB (r : List V → Hp → VK → Prop) (t : TA) : TE := fun σ H Q => t σ H fun vs H1 => r vs H1 Q
theorem pe_callB (hc : CallR X (.builtin id) r) (hg : Gl X x) (hm : X.mg x = none) (hv : bootBuiltins x = some (.builtin id)) (ha : PA X (e :: es) t) (hn : x ≠ "__name__" := by decide) (hdb : (x == ("__debug__" : Str)) = false := by decide)
    (he : starEach (e :: es) X.env = (false, eval e X.env) :: starEach es X.env := by rfl) (hpl : (backTo pos (starEach es X.env)).any (·.1) = false := by rfl) : PE X (.Call (.Name x p) (e :: es) [] pos) (tCB r t) := by
  intro pins s σ H Q I h
  refine wpAny_Call_Name_kw (ld_blt I hg hm hv ?_ hn hdb)
  exact PyProof.Rows.callWith_builtin1 (thn (ha pos pins s σ H _ I h) fun us s1 ⟨vs, H1, I1, r1, q1⟩ => hc pins s1 σ H1 vs us Q I1 r1 q1) he hpl
theorem pe_callTy (hc : CallR X (.type T) r) (hg : Gl X x) (hm : X.mg x = none) (hv : bootBuiltins x = some (.type T)) (ha : PA X (e :: es) t) (hn : x ≠ "__name__" := by decide) (hdb : (x == ("__debug__" : Str)) = false := by decide)
    (he : starEach (e :: es) X.env = (false, eval e X.env) :: starEach es X.env := by rfl) (hpl : (backTo pos (starEach es X.env)).any (·.1) = false := by rfl) : PE X (.Call (.Name x p) (e :: es) [] pos) (tCB r t) := by
  intro pins s σ H Q I h
  refine wpAny_Call_Name_kw (ld_blt I hg hm hv ?_ hn hdb)
  exact PyProof.Rows.callWith_type1 (thn (ha pos pins s σ H _ I h) fun us s1 ⟨vs, H1, I1, r1, q1⟩ => hc pins s1 σ H1 vs us Q I1 r1 q1) he hpl
end
end L2
namespace HT
open PySem PyProof.Rows
section
open PySem.SeqAt
open PySem.AutoSeq1 (wpAny_loadPart')
open PySem.MeetsSeq PySem.MeetsSeq2 PySem.MeetsSeq3
end
section
variable {prog : Program} {w : World} {A : Around} {E : Value → Shared → Prop} {s : Shared}
def sIx (n d : Nat) : Option Int → Nat
  | none => d
  | some v => if v < 0 then (v + (n : Int)).toNat else min v.toNat n
end
end HT
namespace L2
open PySem PySem.Spec PyProof.Rows
abbrev TO := St → Hp → (Option Int → Hp → Prop) → Prop
def PO (X : Cx) (e : Option Expr) (t : TO) : Prop :=
  ∀ (pins : List (Addr × Obj)) (s : Shared) (σ : St) (H : Hp) (Q : Option Int → Hp → Prop), Inv X pins σ H s → t σ H Q →
    wpAny (model X.prog X.w) X.A (evalPart e X.env) (fun u s' => ∃ o H', Inv X pins σ H' s' ∧ IsPart u o ∧ Q o H') X.xe s
def tNoPart : TO := fun _ H Q => Q none H
def tPart (t : TE) : TO := fun σ H Q => t σ H fun x H1 => ∃ i, x = .int i ∧ Q (some i) H1
section
variable {X : Cx} {e : Expr} {te : TE} {lo hi : Option Expr} {tl th : TO} {pos p2 : Pos}
theorem po_none : PO X none tNoPart := by
  intro pins s σ H Q I h
  rw [evalPart_none]
  exact wpAny_pure ⟨none, H, I, .none, h⟩
theorem po_some (h : PE X e te) : PO X (some e) (tPart te) := by
  intro pins s σ H Q I hw
  rw [evalPart_some]
  refine thn (h pins s σ H _ I hw) fun u s1 ⟨x, H1, I1, r1, q1⟩ => ?_
  obtain ⟨i, rfl, q⟩ := q1
  obtain ⟨t, rfl⟩ := r1
  exact ⟨some i, H1, I1, .int i t, q⟩
def SlR (X : Cx) (r : V → Option Int → Option Int → Hp → VK → Prop) : Prop :=
  ∀ (pins : List (Addr × Obj)) (s : Shared) (σ : St) (H : Hp) (x : V) (v vl vu : Value) (lo hi : Option Int) (sl : Addr) (Q : VK), Inv X pins σ H s → RelV x v → s.heap.IsSliceOf sl vl vu .none → IsPart vl lo → IsPart vu hi → r x lo hi H Q →
    ∃ T id, typeLookup (.type T) "__getitem__" = pure (some (.builtin id)) ∧ s.TypeIs v T ∧ wpAny (model X.prog X.w) X.A (getItem v (.ref sl)) (EP X pins σ Q) X.xe s
def tSl (r : V → Option Int → Option Int → Hp → VK → Prop) (te : TE) (tl th : TO) : TE := fun σ H Q => te σ H fun x H1 => tl σ H1 fun l H2 => th σ H2 fun u H3 => r x l u H3 Q
theorem pe_slice {r : V → Option Int → Option Int → Hp → VK → Prop} (hr : SlR X r) (he : PE X e te) (hl : PO X lo tl) (hu : PO X hi th) : PE X (.Subscript e (.Slice lo hi none p2) pos) (tSl r te tl th) := by
  intro pins s σ H Q I h
  refine Subscript_ (thn (he pins s σ H _ I h) fun v s1 ⟨x, H1, I1, r1, q1⟩ => ?_)
  refine wpAny_Slice (thn (hl pins s1 σ H1 _ I1 q1) fun vl s2 ⟨l, H2, I2, pl, q2⟩ => thn (hu pins s2 σ H2 _ I2 q2) fun vu s3 ⟨u, H3, I3, pu, q3⟩ => ?_)
  rw [evalPart_none]
  refine wpAny_pure ?_
  have I4 : Inv X pins σ H3 { s3 with heap := s3.heap.push { cls := .type "slice", data := .fields #[vl, vu, .none] } } := I3.kept (t' := s3.toks) fun b ob q => Heap.get?_push_of_some _ q
  obtain ⟨T, id, hT, ht, hg⟩ := hr pins { s3 with heap := s3.heap.push { cls := .type "slice", data := .fields #[vl, vu, .none] } } σ H3 x v vl vu l u s3.heap.objs.size Q I4 r1 (Heap.IsSliceOf.new ..) pl pu q3
  show wpAny (model X.prog X.w) X.A (subscriptTail e (.Slice lo hi none p2) v (.ref s3.heap.objs.size)) (EP X pins σ Q) X.xe { s3 with heap := s3.heap.push { cls := .type "slice", data := .fields #[vl, vu, .none] } }
  exact tail_any (ops := [.ref s3.heap.objs.size, v]) ht hT hg (by with_unfolding_all rfl)
def cutV (xs : List V) (lo hi : Option Int) : List V := (xs.drop (HT.sIx xs.length 0 lo)).take (HT.sIx xs.length xs.length hi - HT.sIx xs.length 0 lo)
theorem cutV_length (xs : List V) (lo hi : Option Int) : (cutV xs lo hi).length ≤ xs.length := by
  unfold cutV
  rw [List.length_take, List.length_drop]
  omega
theorem Vals.nil_iff {xs : List V} {us : List Value} (r : Vals xs us) : us = [] ↔ xs = [] := by
  cases r with
  | nil => simp
  | cons _ _ => simp
end
end L2
namespace L2
open PySem PySem.Spec PyProof.Rows
def ixN (n : Nat) (i : Int) : Option Nat := if 0 ≤ i then (if i < n then some i.toNat else none) else if -(n : Int) ≤ i then some (i + n).toNat else none
def atI {α : Type} (xs : List α) (i : Int) : Option α := (ixN xs.length i).bind fun j => xs[j]?
theorem ixN_seq {n : Nat} {i : Int} {j : Nat} (h : ixN n i = some j) : seqIndex? i n = some j ∧ j < n ∧ -(n : Int) ≤ i ∧ i < n := by
  unfold ixN at h
  by_cases h0 : 0 ≤ i
  · rw [if_pos h0] at h
    by_cases h1 : i < n
    · rw [if_pos h1] at h
      have e : i.toNat = j := Option.some.inj h
      exact ⟨by rw [seqIndex_of h0 h1, e], by omega, by omega, h1⟩
    · rw [if_neg h1] at h; cases h
  · rw [if_neg h0] at h
    by_cases h1 : -(n : Int) ≤ i
    · rw [if_pos h1] at h
      have e : (i + n).toNat = j := Option.some.inj h
      exact ⟨by rw [seqIndex_neg (by omega) h1, e], by omega, h1, by omega⟩
    · rw [if_neg h1] at h; cases h
theorem atI_get {α : Type} {xs : List α} {i : Int} {v : α} (h : atI xs i = some v) : ∃ j, seqIndex? i xs.length = some j ∧ xs[j]? = some v ∧ j < xs.length ∧ -(xs.length : Int) ≤ i ∧ i < xs.length := by
  unfold atI at h
  cases e : ixN xs.length i with
  | none => rw [e] at h; cases h
  | some j =>
    rw [e] at h
    obtain ⟨h1, h2, h3, h4⟩ := ixN_seq e
    exact ⟨j, h1, h, h2, h3, h4⟩
theorem atI_nat {α : Type} {xs : List α} {j : Nat} {v : α} (h : xs[j]? = some v) : atI xs (j : Int) = some v := by
  have hj : j < xs.length := (List.getElem?_eq_some_iff.mp h).1
  have e : ixN xs.length (j : Int) = some j := by
    unfold ixN
    rw [if_pos (by omega), if_pos (by omega)]; simp
  unfold atI; rw [e]; exact h
def PlainIx (b : Expr) : Prop := ∀ o i, subscripted b false o i = operate [o, i] (getItem o i)
def IxR (X : Cx) (r : R2) : Prop :=
  ∀ (value slice : Expr) (pins : List (Addr × Obj)) (s : Shared) (σ : St) (H : Hp) (x y : V) (v u : Value) (Q : VK), Inv X pins σ H s → RelV x v → RelV y u → r x y H Q →
    subscripted slice false v u = operate [v, u] (getItem v u) → wpAny (model X.prog X.w) X.A (subscriptTail value slice v u) (EP X pins σ Q) X.xe s
def MtR (X : Cx) (id : String) (r : V → List V → Hp → VK → Prop) : Prop :=
  ∀ (pins : List (Addr × Obj)) (s : Shared) (σ : St) (H : Hp) (x : V) (xs : List V) (v : Value) (us : List Value) (Q : VK), Inv X pins σ H s → RelV x v → Vals xs us → r x xs H Q →
    wpAny (model X.prog X.w) X.A (call (.builtin id) (v :: us)) (EP X pins σ Q) X.xe s
section
variable {X : Cx} {a b : Expr} {ta tb : TE} {pos : Pos}
theorem pe_ix {r : R2} (hr : IxR X r) (ha : PE X a ta) (hb : PE X b tb) (hs : PlainIx b) : PE X (.Subscript a b pos) (tOp r ta tb) := by
  intro pins s σ H Q I h
  exact Subscript_ (binT ha hb I h fun v u s2 x y H2 I2 rx ry q => hr a b pins s2 σ H2 x y v u Q I2 rx ry q (hs _ _))
def rIxL (K : PySem.W.Frag) : R2 := fun x y H Q => ∃ p xs i v, x = .ref p ∧ y = .int i ∧ SqL K H p xs ∧ atI xs i = some v ∧ Q v H
def rIxS : R2 := fun x y H Q => ∃ z i c, x = .str z ∧ y = .int i ∧ z.length ≤ sizeLine ∧ atI z.cps.toList i = some c ∧ Q (.str ⟨#[c]⟩) H
theorem ix_list : IxR X (rIxL X.K) := by
  intro value slice pins s σ H x y v u Q I rx ry h hs
  obtain ⟨p, xs, i, z, rfl, rfl, hq, he, q⟩ := h
  cases rx
  obtain ⟨t, rfl⟩ := ry
  obtain ⟨its, r, pl, hz⟩ := I.list hq
  obtain ⟨j, h1, h2, h3, h4, h5⟩ := atI_get he
  obtain ⟨w, ew, rw'⟩ := r.get h2
  have hl := r.length
  have hn := line63
  have fin : EP X pins σ Q w s := ⟨z, H, I, rw', q⟩
  by_cases h0 : 0 ≤ i
  · have hj : i.toNat = j := by
      rw [seqIndex_of h0 h5] at h1
      exact Option.some.inj h1
    exact item_listR pl.isList h0 (by omega) (by rw [hj]; simpa using ew) fin hs
  · have hj : (i + (its.toArray.size : Int)).toNat = j := by
      rw [seqIndex_neg (by omega) h4] at h1
      rw [List.size_toArray, ← hl]
      exact Option.some.inj h1
    exact subscriptTail_builtinR (x := w) pl.isList.typeIs slot_list_getitem.lookup
      (wpAny_getItem_list_neg (Q := fun r s' => r = w ∧ EP X pins σ Q r s') pl.isList (by omega) (by rw [List.size_toArray] <;> omega) (by omega) (by rw [hj]; simpa using ew) ⟨rfl, fin⟩) hs
theorem ix_str : IxR X rIxS := by
  intro value slice pins s σ H x y v u Q I rx ry h hs
  obtain ⟨z, i, c, rfl, rfl, hz, he, q⟩ := h
  obtain ⟨t, rfl⟩ := rx
  obtain ⟨t', rfl⟩ := ry
  obtain ⟨j, h1, h2, h3, h4, h5⟩ := atI_get he
  have hl : z.cps.toList.length = z.length := by simp [Str.length]
  rw [hl] at h1 h4 h5
  have hn := line63
  exact tail_any (typeIs_str s z t) slot_str_getitem.lookup (getItem_str (c := c) (by
    have e1 : decide (i < -(2 ^ 63 : Int)) = false := decide_eq_false (by omega)
    have e2 : decide (i ≥ 2 ^ 63) = false := decide_eq_false (by omega)
    rw [e1, e2, Bool.or_false]) (by rw [h1]; simpa using h2) ⟨.str ⟨#[c]⟩, H, I.tok _, ⟨_, rfl⟩, q⟩) hs
theorem slice_bounds (lo hi : Option Int) (n : Nat) : (sliceBounds lo hi none n).1 = ((HT.sIx n 0 lo : Nat) : Int) ∧ (sliceBounds lo hi none n).2.1 = ((HT.sIx n n hi : Nat) : Int) ∧ (sliceBounds lo hi none n).2.2 = 1 := by
  refine ⟨?_, ?_, rfl⟩
  · cases lo with
    | none => simp [sliceBounds, HT.sIx]
    | some i =>
      simp only [sliceBounds, HT.sIx, Option.getD_none, show (1 : Int) > 0 by decide, if_true]
      by_cases h : i < 0
      · simp only [h, if_true] <;> omega
      · simp only [h, if_false] <;> omega
  · cases hi with
    | none => simp [sliceBounds, HT.sIx]
    | some i =>
      simp only [sliceBounds, HT.sIx, Option.getD_none, show (1 : Int) > 0 by decide, if_true]
      by_cases h : i < 0
      · simp only [h, if_true] <;> omega
      · simp only [h, if_false] <;> omega
theorem slicePick_cut (its : List Value) (lo hi : Option Int) : slicePick its.toArray lo hi none = ((its.drop (HT.sIx its.length 0 lo)).take (HT.sIx its.length its.length hi - HT.sIx its.length 0 lo)).toArray := by
  obtain ⟨h1, h2, h3⟩ := slice_bounds lo hi its.toArray.size
  unfold slicePick
  rw [h1, h2, h3]
  simp only [sliceRange_one, pick_run, List.size_toArray] <;> rfl
def rSlL (K : PySem.W.Frag) : V → Option Int → Option Int → Hp → VK → Prop := fun x lo hi H Q => ∃ a xs, x = .ref a ∧ SqL K H a xs ∧ ∀ p, H p = none → Q (.ref p) (upd H p (.lst (cutV xs lo hi)))
theorem sl_list : SlR X (rSlL X.K) := by
  intro pins s σ H x v vl vu lo hi sl Q I rx hs pl pu h
  obtain ⟨a, xs, rfl, hx, q⟩ := h
  cases rx
  obtain ⟨its, r, ht, hz⟩ := I.list hx
  have hlen := r.length
  refine ⟨"list", _, slot_list_getitem.lookup, ht.isList.typeIs, ?_⟩
  refine wpAny_getItem_list_slice ht.isList hs pl pu .none (by simp) ?_ (by rw [List.size_toArray] <;> omega)
  rw [slicePick_cut, ← hlen]
  refine ⟨.ref s.heap.objs.size, _, I.laid (t' := s.toks) (o := .lst (cutV xs lo hi)) (fun b ob q => Heap.get?_push_of_some _ q) (Nat.le_refl _) ?_, rfl, q _ (I.hok.fresh (Nat.le_refl _))⟩
  exact ⟨Nat.le_trans (cutV_length xs lo hi) hz, _, 0, (r.drop (HT.sIx xs.length 0 lo)).take (HT.sIx xs.length xs.length hi - HT.sIx xs.length 0 lo), Heap.get?_push_size _ rfl⟩
def flatV : V → Bool
  | .non => true
  | .bl _ => true
  | .int _ => true
  | .str _ => true
  | _ => false
def eqV : V → V → Bool
  | .non, .non => true
  | .bl a, .bl b => a == b
  | .bl a, .int b => (if a then 1 else 0) == b
  | .int a, .bl b => a == (if b then 1 else 0)
  | .int a, .int b => a == b
  | .str a, .str b => a == b
  | _, _ => false
theorem eqAt_V {A : Around} {s : Shared} {y x : V} {u v : Value} (ry : RelV y u) (rx : RelV x v) (fy : flatV y = true) (fx : flatV x = true) : SeqAt.EqAt A s u v (eqV y x) := by
  cases y with
  | non =>
    cases ry
    cases x with
    | non => cases rx; exact SeqAt.EqAt.same _
    | bl b => cases rx; exact SeqAt.EqAt.none_bool b
    | int b => obtain ⟨t, rfl⟩ := rx; exact SeqAt.EqAt.none_int b t
    | str b => obtain ⟨t, rfl⟩ := rx; exact SeqAt.EqAt.none_str b t
    | _ => exact absurd (show false = true from fx) Bool.false_ne_true
  | bl a =>
    cases ry
    cases x with
    | non => cases rx; exact SeqAt.EqAt.bool_none a
    | bl b => cases rx; exact SeqAt.EqAt.bool_bool a b
    | int b => obtain ⟨t, rfl⟩ := rx; exact SeqAt.EqAt.bool_int a b t
    | str b => obtain ⟨t, rfl⟩ := rx; exact SeqAt.EqAt.bool_str a b t
    | _ => exact absurd (show false = true from fx) Bool.false_ne_true
  | int a =>
    obtain ⟨t', rfl⟩ := ry
    cases x with
    | non => cases rx; exact SeqAt.EqAt.int_none a t'
    | bl b => cases rx; exact SeqAt.EqAt.int_bool a t' b
    | int b => obtain ⟨t, rfl⟩ := rx; exact SeqAt.EqAt.int_int a t' b t
    | str b => obtain ⟨t, rfl⟩ := rx; exact SeqAt.EqAt.int_str a t' b t
    | _ => exact absurd (show false = true from fx) Bool.false_ne_true
  | str a =>
    obtain ⟨t', rfl⟩ := ry
    cases x with
    | non => cases rx; exact SeqAt.EqAt.str_none a t'
    | bl b => cases rx; exact SeqAt.EqAt.str_bool a t' b
    | int b => obtain ⟨t, rfl⟩ := rx; exact SeqAt.EqAt.str_int a t' b t
    | str b => obtain ⟨t, rfl⟩ := rx; exact SeqAt.EqAt.str_str a t' b t
    | _ => exact absurd (show false = true from fx) Bool.false_ne_true
  | _ => exact absurd (show false = true from fy) Bool.false_ne_true
def eqU (x : V) (u : Value) : Bool := match u with
  | .none => eqV .non x
  | .bool b => eqV (.bl b) x
  | .int i _ => eqV (.int i) x
  | .str z _ => eqV (.str z) x
  | _ => false
theorem eqU_of {x y : V} {u : Value} (r : RelV y u) (f : flatV y = true) : eqU x u = eqV y x := by
  cases y with
  | non => cases r; rfl
  | bl b => cases r; rfl
  | int i => obtain ⟨t, rfl⟩ := r; rfl
  | str z => obtain ⟨t, rfl⟩ := r; rfl
  | _ => exact absurd (show false = true from f) Bool.false_ne_true
theorem any_eqU {x : V} : ∀ {xs : List V} {us : List Value}, Vals xs us → xs.all flatV = true → us.any (eqU x) = xs.any fun y => eqV y x
  | _, _, .nil, _ => rfl
  | y :: xs, u :: us, .cons r t, f => by
    rw [List.all_cons, Bool.and_eq_true] at f
    rw [List.any_cons, List.any_cons, eqU_of r f.1, any_eqU t f.2]
theorem mem_eqAt {A : Around} {s : Shared} {x : V} {v : Value} (rx : RelV x v) (fx : flatV x = true) : ∀ {xs : List V} {us : List Value}, Vals xs us → xs.all flatV = true → ∀ u ∈ us, SeqAt.EqAt A s u v (eqU x u)
  | _, _, .nil, _ => fun u hu => by cases hu
  | y :: xs, u :: us, .cons r t, f => fun u' hu => by
    rw [List.all_cons, Bool.and_eq_true] at f
    rcases List.mem_cons.mp hu with rfl | hu
    · rw [eqU_of r f.1]; exact eqAt_V r rx f.1 fx
    · exact mem_eqAt rx fx t f.2 u' hu
def inV (x : V) (xs : List V) : Bool := xs.any fun y => eqV y x
def rIn (K : PySem.W.Frag) (neg : Bool) : R2 := fun x y H Q => ∃ p xs, y = .ref p ∧ (SqL K H p xs ∨ SqT K H p xs) ∧ flatV x = true ∧ xs.all flatV = true ∧ Q (.bl (if neg then !inV x xs else inV x xs)) H
theorem op_in_seq : OpR X (compareOp .In) (rIn X.K false) := by
  intro pins s σ H x y v u Q I rx ry h
  obtain ⟨p, xs, rfl, hq, fx, fs, q⟩ := h
  cases ry
  rcases hq with hq | hq
  · obtain ⟨its, r, pl, hz⟩ := I.list hq
    refine SeqAt.in_listAt (eqU x) pl.isList (fun w hw => mem_eqAt rx fx r fs w (by simpa using hw)) ⟨.bl _, H, I, rfl, ?_⟩
    rw [show its.toArray.any (eqU x) = its.any (eqU x) by simp, any_eqU r fs]
    exact q
  · obtain ⟨its, r, pl, hz⟩ := I.tuple hq
    refine SeqAt.in_tupleAt (eqU x) pl (fun w hw => mem_eqAt rx fx r fs w (by simpa using hw)) ⟨.bl _, H, I, rfl, ?_⟩
    rw [show its.toArray.any (eqU x) = its.any (eqU x) by simp, any_eqU r fs]
    exact q
theorem op_notIn_seq : OpR X (compareOp .NotIn) (rIn X.K true) := by
  intro pins s σ H x y v u Q I rx ry h
  obtain ⟨p, xs, rfl, hq, fx, fs, q⟩ := h
  cases ry
  rcases hq with hq | hq
  · obtain ⟨its, r, pl, hz⟩ := I.list hq
    refine SeqAt.notIn_listAt (eqU x) pl.isList (fun w hw => mem_eqAt rx fx r fs w (by simpa using hw)) ⟨.bl _, H, I, rfl, ?_⟩
    rw [show its.toArray.any (eqU x) = its.any (eqU x) by simp, any_eqU r fs]
    exact q
  · obtain ⟨its, r, pl, hz⟩ := I.tuple hq
    refine SeqAt.notIn_tupleAt (eqU x) pl (fun w hw => mem_eqAt rx fx r fs w (by simpa using hw)) ⟨.bl _, H, I, rfl, ?_⟩
    rw [show its.toArray.any (eqU x) = its.any (eqU x) by simp, any_eqU r fs]
    exact q
theorem call_len_seq : CallR X (.builtin "len") (fun xs H Q => ∃ p ys, xs = [.ref p] ∧ (SqL X.K H p ys ∨ SqT X.K H p ys) ∧ Q (.int ys.length) H) := by
  intro pins s σ H xs us Q I r h
  obtain ⟨p, ys, rfl, hq, q⟩ := h
  obtain ⟨u, rfl, rx⟩ := vals1 r
  cases rx
  have hn := line63
  rcases hq with hq | hq
  · obtain ⟨its, r', pl, hz⟩ := I.list hq
    have hlen := r'.length
    exact Calls.call_len_list pl.isList (by simp only [List.size_toArray] <;> omega) ⟨.int ys.length, H, I.tok _, ⟨s.toks + 1, by rw [List.size_toArray, hlen]⟩, q⟩
  · obtain ⟨its, r', pl, hz⟩ := I.tuple hq
    have hlen := r'.length
    exact len_tuple pl (by simp only [List.size_toArray] <;> omega) ⟨.int ys.length, H, I.tok _, ⟨s.toks + 1, by rw [List.size_toArray, hlen]⟩, q⟩
theorem call_len_str : CallR X (.builtin "len") (fun xs H Q => ∃ z, xs = [.str z] ∧ z.length ≤ sizeLine ∧ Q (.int z.length) H) := by
  intro pins s σ H xs us Q I r h
  obtain ⟨z, rfl, hz, q⟩ := h
  obtain ⟨u, rfl, t, rfl⟩ := vals1 r
  have hn := line63
  exact len_str (by omega) ⟨.int z.length, H, I.tok _, ⟨_, rfl⟩, q⟩
def tyV (K : PySem.W.Frag) (T : String) (x : V) (H : Hp) : Prop := match x with
  | .str _ => T = "str"
  | .int _ => T = "int"
  | .ref p => (T = "list" ∧ ∃ xs, SqL K H p xs) ∨ (T = "tuple" ∧ ∃ o, K.lookup p = some o ∧ o.cls = .type "tuple" ∧ o.dict = none) ∨
      (T = "dict" ∧ ((∃ kvs, H p = some (.dK kvs)) ∨ ∃ kvs, H p = some (.dT kvs))) ∨ (T = "set" ∧ ∃ S n, H p = some (.set S n))
  | _ => False
theorem tyV_is {pins : List (Addr × Obj)} {σ : St} {H : Hp} {s : Shared} {T : String} {x : V} {v : Value} (I : Inv X pins σ H s) (r : RelV x v) (ty : tyV X.K T x H) :
    s.TypeIs v T ∧ ∀ a, v = .ref a → ∃ ob, s.heap.get? a = some ob ∧ ob.dict = none := by
  cases x with
  | str z =>
    obtain ⟨t, rfl⟩ := r
    cases (show T = "str" from ty)
    exact ⟨typeIs_str s z t, fun _ e => nomatch e⟩
  | int i =>
    obtain ⟨t, rfl⟩ := r
    cases (show T = "int" from ty)
    exact ⟨typeIs_int s i t, fun _ e => nomatch e⟩
  | ref p =>
    cases r
    rcases ty with ⟨rfl, xs, hq⟩ | ⟨rfl, o, hk, hc, hd⟩ | ⟨rfl, hk⟩ | ⟨rfl, S, n, hk⟩
    · obtain ⟨its, _, pl, _⟩ := I.list hq
      refine ⟨pl.isList.typeIs, fun a e => ?_⟩
      cases e
      obtain ⟨o, n, e, c, hd, _⟩ := pl
      exact ⟨o, e, hd⟩
    · refine ⟨⟨o, I.kIn p o hk, hc⟩, fun a e => ?_⟩
      cases e
      exact ⟨o, I.kIn _ o hk, hd⟩
    · have z : ∃ o, s.heap.get? p = some o ∧ o.ExactDict := by
        rcases hk with ⟨kvs, hk⟩ | ⟨kvs, hk⟩
        · obtain ⟨_, _, _, _, o, _, _, e, ex, _⟩ := I.hok p _ hk
          exact ⟨o, e, ex⟩
        · obtain ⟨_, _, _, _, o, _, _, e, ex, _⟩ := I.hok p _ hk
          exact ⟨o, e, ex⟩
      obtain ⟨o, e, ex⟩ := z
      refine ⟨⟨o, e, ex.1⟩, fun a e2 => ?_⟩
      cases e2
      exact ⟨o, e, ex.2.1⟩
    · obtain ⟨o, _, _, _, e, ex, _⟩ := I.hok p _ hk
      refine ⟨⟨o, e, ex.1⟩, fun a e2 => ?_⟩
      cases e2
      exact ⟨o, e, ex.2.1⟩
  | _ => exact False.elim ty
def tBM0 (K : PySem.W.Frag) (T : String) (r : V → List V → Hp → VK → Prop) (to : TE) : TE := fun σ H Q => to σ H fun x H1 => tyV K T x H1 ∧ r x [] H1 Q
def tBM (K : PySem.W.Frag) (T : String) (r : V → List V → Hp → VK → Prop) (to : TE) (t : TA) : TE := fun σ H Q => to σ H fun x H1 => tyV K T x H1 ∧ t σ H1 fun xs H2 => r x xs H2 Q
variable {o e : Expr} {es : List Expr} {to : TE} {t : TA} {name : Str} {apos cpos : Pos} {T id : String} {r : V → List V → Hp → VK → Prop}
theorem pe_bm0 (pa : PlainAttrs T) (slot : Slot T name id) (hty : typeOf (.builtin id) = pure (.type "method_descriptor")) (hm : MtR X id r) (ho : PE X o to)
    (hbase : attributeBase o name X.env (eval o X.env) = eval o X.env := by rfl) (hline : (apos.endLine == cpos.line) = true := by rfl) : PE X (.Call (.Attribute o name apos) [] [] cpos) (tBM0 X.K T r to) := by
  intro pins s σ H Q I h
  refine wpAny_Call_method0_late hbase hline (thn (ho pins s σ H _ I h) fun v s1 ⟨x, H1, I1, r1, ty, q1⟩ => ?_)
  obtain ⟨h1, h2⟩ := tyV_is I1 r1 ty
  exact ⟨T, id, pa, slot, hty, h1, h2, Calls.callWith_builtin rfl (PySem.evalArgs_none (hm pins s1 σ H1 x [] v [] Q I1 r1 .nil q1))⟩
theorem pe_bm (pa : PlainAttrs T) (slot : Slot T name id) (hty : typeOf (.builtin id) = pure (.type "method_descriptor")) (hm : MtR X id r) (ho : PE X o to) (ha : PA X (e :: es) t)
    (hbase : attributeBase o name X.env (eval o X.env) = eval o X.env := by rfl)
    (hfew : ((backTo cpos (starEach (e :: es) X.env)).all (fun x => !x.1) && (backToKw cpos (keywordEach [] X.env)).all (fun x => x.1.isSome)
      && decide ((e :: es).length + ([] : List Keyword).length + (if ([] : List Keyword).isEmpty then 0 else 1) < 30)) = true := by rfl)
    (hline : (apos.endLine == cpos.line) = true := by rfl) (hs : starEach (e :: es) X.env = (false, eval e X.env) :: starEach es X.env := by rfl) (hplain : (backTo cpos (starEach es X.env)).any (·.1) = false := by rfl) :
    PE X (.Call (.Attribute o name apos) (e :: es) [] cpos) (tBM X.K T r to t) := by
  intro pins s σ H Q I h
  refine wpAny_Call_method_late hbase hfew hline rfl (thn (ho pins s σ H _ I h) fun v s1 ⟨x, H1, I1, r1, ty, q1⟩ => ?_)
  obtain ⟨h1, h2⟩ := tyV_is I1 r1 ty
  refine ⟨T, id, pa, slot, hty, h1, h2, ?_⟩
  have hA := ha cpos pins s1 σ H1 _ I1 q1
  rw [hs] at hA ⊢
  refine Calls.callWith_builtin (by show (false || (backTo cpos (starEach es X.env)).any (·.1)) = false; rw [hplain] <;> rfl) (Calls.evalArgs_plain ?_)
  exact thn hA fun us s2 ⟨vs, H2, I2, r2, q2⟩ => hm pins s2 σ H2 x vs v us Q I2 r1 r2 q2
end
end L2
namespace L2
open PySem PySem.Spec PyProof.Rows
def MtM (X : Cx) (id : String) (r : V → List V → Hp → VK → Prop) : Prop :=
  ∀ (pins : List (Addr × Obj)) (s : Shared) (σ : St) (H : Hp) (x : V) (xs : List V) (v : Value) (us : List Value) (Q : VK), Inv X pins σ H s → RelV x v → Vals xs us → r x xs H Q →
    wpAny (model X.prog X.w) X.A (call (.builtin id) (v :: us)) (EP X pins σ Q) X.xe s
theorem Vals.one : ∀ {x : V} {us : List Value}, Vals [x] us → ∃ u, us = [u] ∧ RelV x u
  | _, _, .cons r .nil => ⟨_, rfl, r⟩
theorem Vals.zero : ∀ {us : List Value}, Vals [] us → us = []
  | _, .nil => rfl
theorem Vals.dropLast {xs : List V} {us : List Value} (h : Vals xs us) : Vals xs.dropLast us.dropLast := by
  induction h with
  | nil => exact .nil
  | cons r t ih =>
    cases t with
    | nil => exact .nil
    | cons q t' => exact .cons r ih
theorem erase_last {α : Type} (l : List α) : l.eraseIdx (l.length - 1) = l.dropLast := by
  induction l with
  | nil => rfl
  | cons a r ih =>
    cases r with
    | nil => rfl
    | cons b r =>
      have e : (a :: b :: r).length - 1 = ((b :: r).length - 1) + 1 := by
        have h1 : (a :: b :: r).length = r.length + 2 := rfl
        have h2 : (b :: r).length = r.length + 1 := rfl
        omega
      rw [e, List.eraseIdx_cons_succ, ih]
      all_goals rfl
section
variable {X : Cx} {pins : List (Addr × Obj)} {σ : St} {H : Hp} {s : Shared} {l b : Addr} {xs ys zs : List V}
theorem Inv.lset {its its' : List Value} {n : Nat} {f : Array Value → Array Value} {t' : Nat} (I : Inv X pins σ H s) (hH : H l = some (.lst xs))
    (e : s.heap.get? l = some { cls := .type "list", data := .seq its.toArray n }) (hf : f its.toArray = its'.toArray) (hv : Vals ys its') (hz : ys.length ≤ sizeLine) :
    Inv X pins σ (upd H l (.lst ys)) { s with heap := s.heap.update l (Obj.mapSeq f), toks := t' } := by
  have q := PySem.IsL.update e f
  rw [hf] at q
  refine I.write (x := l) (e := l) (by rw [hH]; exact trivial) (.inl rfl) (fun b' u hb hu => (Heap.get?_update_other s.heap (Obj.mapSeq f) (Ne.symm hb)).trans hu) ⟨_, q⟩ ?_
  exact ⟨hz, its', _, hv, q⟩
theorem Inv.lnew {its : List Value} {t' : Nat} (I : Inv X pins σ H s) (hv : Vals ys its) (hz : ys.length ≤ sizeLine) :
    Inv X pins σ (upd H s.heap.objs.size (.lst ys)) { s with heap := s.heap.push { cls := .type "list", data := .seq its.toArray }, toks := t' } :=
  I.laid (fun _ _ q => Heap.get?_push_of_some _ q) (Nat.le_refl _) ⟨hz, its, 0, hv, Heap.get?_push_size _ rfl⟩
theorem Inv.fresh (I : Inv X pins σ H s) : H s.heap.objs.size = none := I.hok.fresh (Nat.le_refl _)
theorem Inv.lstM (I : Inv X pins σ H s) (hH : H l = some (.lst xs)) : xs.length ≤ sizeLine ∧ ∃ (its : List Value) (n : Nat), Vals xs its ∧ xs.length = its.length ∧ s.heap.get? l = some { cls := .type "list", data := .seq its.toArray n } := by
  obtain ⟨z, its, n, r, e⟩ := I.hok l _ hH
  exact ⟨z, its, n, r, r.length, e⟩
theorem notLongL {n : Nat} (h : n ≤ sizeLine) : Builtin.List.listTooLong n = false := by
  unfold Builtin.List.listTooLong
  exact decide_eq_false (by omega)
end
section
variable {X : Cx}
def rAppend : V → List V → Hp → VK → Prop := fun x vs H Q => ∃ l xs y, x = .ref l ∧ vs = [y] ∧ H l = some (.lst xs) ∧ xs.length < sizeLine ∧ Q .non (upd H l (.lst (xs ++ [y])))
theorem mt_append : MtM X "list.append" rAppend := by
  intro pins s σ H x vs v us Q I rx rv h
  obtain ⟨l, xs, y, rfl, rfl, hH, hz, q⟩ := h
  cases rx
  obtain ⟨u, rfl, ru⟩ := rv.one
  obtain ⟨z, its, n, r, hl, e⟩ := I.lstM hH
  refine call_meets F.slot_list_append ⟨_, e, rfl⟩ F.entry_list_append (F.args_list_append_2 _ _) (PySem.list_append l its.toArray n u (by rw [List.size_toArray]; omega)) ⟨e, ?_⟩
  refine ⟨.non, _, I.lset (its' := its ++ [u]) hH e (by simp) (r.append (.cons ru .nil)) ?_, rfl, q⟩
  rw [List.length_append, List.length_singleton]
  omega
def rExtend : V → List V → Hp → VK → Prop := fun x vs H Q => ∃ l b xs zs, x = .ref l ∧ vs = [.ref b] ∧ H l = some (.lst xs) ∧ H b = some (.lst zs) ∧ xs.length + zs.length ≤ sizeLine ∧ Q .non (upd H l (.lst (xs ++ zs)))
theorem mt_extend : MtM X "list.extend" rExtend := by
  intro pins s σ H x vs v us Q I rx rv h
  obtain ⟨l, b, xs, zs, rfl, rfl, hH, hB, hz, q⟩ := h
  cases rx
  obtain ⟨u, rfl, ru⟩ := rv.one
  cases ru
  obtain ⟨z, its, n, r, hl, e⟩ := I.lstM hH
  obtain ⟨z2, its2, n2, r2, hl2, e2⟩ := I.lstM hB
  have hsz : its.toArray.size + its2.toArray.size ≤ sizeLine := by rw [List.size_toArray, List.size_toArray]; omega
  have hlong : ¬ (!its.toArray.isEmpty && Builtin.List.listTooLong (its.toArray.size + its2.toArray.size)) = true := by
    rw [notLongL hsz, Bool.and_false]
    exact Bool.false_ne_true
  refine call_meets F.slot_list_extend ⟨_, e, rfl⟩ F.entry_list_extend (F.args_list_extend_2 _ _)
    (AutoSeq1.list_extend_list_list_0 l its.toArray n b its2.toArray n2 hlong (by rw [List.size_toArray]; omega) (by omega)) ⟨e, e2, ?_⟩
  refine ⟨.non, _, I.lset (its' := its ++ its2) hH e (by simp) (r.append r2) ?_, rfl, q⟩
  rw [List.length_append]
  omega
def rPop : V → List V → Hp → VK → Prop := fun x vs H Q => ∃ l xs y, x = .ref l ∧ vs = [] ∧ H l = some (.lst xs) ∧ xs[xs.length - 1]? = some y ∧ Q y (upd H l (.lst xs.dropLast))
theorem mt_pop : MtM X "list.pop" rPop := by
  intro pins s σ H x vs v us Q I rx rv h
  obtain ⟨l, xs, y, rfl, rfl, hH, hy, q⟩ := h
  cases rx
  have hus := rv.zero
  subst hus
  obtain ⟨z, its, n, r, hl, e⟩ := I.lstM hH
  obtain ⟨u, hu, ru⟩ := r.get hy
  have hy' : its.toArray[its.toArray.size - 1]? = some u := by
    show its.toArray[its.length - 1]? = some u
    rw [← Array.getElem?_toList, ← hl]
    exact hu
  refine call_meets F.slot_list_pop ⟨_, e, rfl⟩ F.entry_list_pop (F.args_list_pop_1 _) (MeetsSeq.list_pop_last l its.toArray n u hy' (by rw [List.size_toArray]; omega)) ⟨e, ?_⟩
  refine ⟨y, _, I.lset (its' := its.dropLast) hH e ?_ r.dropLast ?_, ru, q⟩
  · show its.toArray.eraseIdxIfInBounds (its.toArray.size - 1) = its.dropLast.toArray
    rw [List.size_toArray, List.eraseIdxIfInBounds_toArray, erase_last]
  · rw [List.length_dropLast]
    omega
def rClear : V → List V → Hp → VK → Prop := fun x vs H Q => ∃ l xs, x = .ref l ∧ vs = [] ∧ H l = some (.lst xs) ∧ Q .non (upd H l (.lst []))
theorem mt_clear : MtM X "list.clear" rClear := by
  intro pins s σ H x vs v us Q I rx rv h
  obtain ⟨l, xs, rfl, rfl, hH, q⟩ := h
  cases rx
  have hus := rv.zero
  subst hus
  obtain ⟨z, its, n, r, hl, e⟩ := I.lstM hH
  refine call_meets F.slot_list_clear ⟨_, e, rfl⟩ F.entry_list_clear (F.args_list_clear_1 _) (AutoSeq1.list_clear_list_0 l its.toArray n (by rw [List.size_toArray]; omega)) ⟨e, ?_⟩
  exact ⟨.non, _, I.lset (its' := []) (ys := []) hH e rfl .nil (Nat.zero_le _), rfl, q⟩
def rCat : R2 := fun x y H Q => ∃ l b xs zs, x = .ref l ∧ y = .ref b ∧ H l = some (.lst xs) ∧ H b = some (.lst zs) ∧ xs.length + zs.length ≤ sizeLine ∧ ∀ p, H p = none → Q (.ref p) (upd H p (.lst (xs ++ zs)))
theorem op_cat : OpR X (binaryOp .Add) rCat := by
  intro pins s σ H x y v u Q I rx ry h
  obtain ⟨l, b, xs, zs, rfl, rfl, hH, hB, hz, q⟩ := h
  cases rx
  cases ry
  obtain ⟨z, its, n, r, hl, e⟩ := I.lstM hH
  obtain ⟨z2, its2, n2, r2, hl2, e2⟩ := I.lstM hB
  refine PySem.P.add_list e e2 ?_ (by rw [List.size_toArray, List.size_toArray]; omega)
  have ea : its.toArray ++ its2.toArray = (its ++ its2).toArray := by simp
  rw [ea]
  exact ⟨.ref _, _, I.lnew (t' := s.toks) (r.append r2) (by rw [List.length_append]; omega), rfl, q _ I.fresh⟩
end
section
variable {prog : Program} {w : World} {A : Around} {E : Value → Shared → Prop} {s : Shared}
set_option maxRecDepth 100000 in
end
section
variable {X : Cx}
end
end L2
namespace L2
open PySem PySem.Spec PyProof.Rows
section
variable {κ : Type} [DecidableEq κ]
def valV (kvs : List (κ × V)) (k : κ) : Option V := (kvs.find? fun kv => decide (kv.1 = k)).map (·.2)
def putK (kvs : List (κ × V)) (k : κ) (v : V) : List (κ × V) :=
  if (kvs.any fun kv => decide (kv.1 = k)) = true then kvs.map (fun kv => if kv.1 = k then (kv.1, v) else kv) else kvs ++ [(k, v)]
theorem valV_nil {k : κ} : valV ([] : List (κ × V)) k = none := rfl
theorem valV_pos {p : κ × V} {r : List (κ × V)} {k : κ} (e : p.1 = k) : valV (p :: r) k = some p.2 := by simp [valV, List.find?_cons, e]
theorem valV_neg {p : κ × V} {r : List (κ × V)} {k : κ} (e : ¬ p.1 = k) : valV (p :: r) k = valV r k := by simp [valV, List.find?_cons, e]
theorem valV_any (k : κ) : ∀ kvs : List (κ × V), (kvs.any fun kv => decide (kv.1 = k)) = (valV kvs k).isSome
  | [] => rfl
  | p :: r => by
    rw [List.any_cons]
    by_cases e : p.1 = k
    · simp only [valV_pos e, decide_eq_true e, Bool.true_or, Option.isSome_some]
    · rw [valV_neg e, decide_eq_false e, Bool.false_or]; exact valV_any k r
theorem valV_map (k j : κ) (y : V) : ∀ kvs : List (κ × V), valV (kvs.map fun kv => if kv.1 = k then (kv.1, y) else kv) j = (valV kvs j).map fun x => if j = k then y else x
  | [] => rfl
  | p :: r => by
    have ih := valV_map k j y r
    rw [List.map_cons]
    by_cases h : p.1 = k
    · rw [if_pos h]
      by_cases e : p.1 = j
      · rw [valV_pos (p := (p.1, y)) e, valV_pos e, Option.map_some, if_pos (e.symm.trans h)]
      · rw [valV_neg (p := (p.1, y)) e, valV_neg e, ih]
    · rw [if_neg h]
      by_cases e : p.1 = j
      · rw [valV_pos (p := p) e, valV_pos e, Option.map_some, if_neg (fun z => h (e.trans z))]
      · rw [valV_neg (p := p) e, valV_neg e, ih]
theorem valV_snoc (k j : κ) (y : V) : ∀ kvs : List (κ × V), valV kvs k = none → valV (kvs ++ [(k, y)]) j = if j = k then some y else valV kvs j
  | [], _ => by
    by_cases e : k = j
    · rw [if_pos e.symm]; exact valV_pos (p := (k, y)) e
    · rw [if_neg (fun z => e z.symm)]; exact valV_neg (p := (k, y)) e
  | p :: r, hn => by
    rw [List.cons_append]
    have hk : ¬ p.1 = k := fun z => by rw [valV_pos z] at hn; cases hn
    rw [valV_neg hk] at hn
    have ih := valV_snoc k j y r hn
    by_cases e : p.1 = j
    · rw [valV_pos e, valV_pos e, if_neg (fun z => hk (e.trans z))]
    · rw [valV_neg e, valV_neg e, ih]
theorem valV_put (kvs : List (κ × V)) (k j : κ) (y : V) : valV (putK kvs k y) j = if j = k then some y else valV kvs j := by
  unfold putK
  by_cases a : (kvs.any fun kv => decide (kv.1 = k)) = true
  · rw [if_pos a, valV_map]
    rw [valV_any] at a
    by_cases e : j = k
    · obtain ⟨x, hx⟩ := Option.isSome_iff_exists.mp a
      rw [if_pos e, e, hx, Option.map_some, if_pos rfl]
    · rw [if_neg e]
      cases valV kvs j with
      | none => rfl
      | some x => rw [Option.map_some, if_neg e]
  · rw [if_neg a]
    refine valV_snoc k j y kvs ?_
    rw [valV_any] at a
    cases q : valV kvs k with
    | none => rfl
    | some x => rw [q] at a; exact (a rfl).elim
theorem length_putK (kvs : List (κ × V)) (k : κ) (v : V) : (putK kvs k v).length ≤ kvs.length + 1 := by
  unfold putK
  split
  · rw [List.length_map]; omega
  · rw [List.length_append, List.length_cons, List.length_nil]; omega
theorem RelO.getD {o : Option V} {u : Option Value} {d : V} {d' : Value} (r : RelO o u) (rd : RelV d d') : RelV (o.getD d) (u.getD d') := by
  cases o with
  | none => cases u with
    | none => exact rd
    | some _ => exact (show False from r).elim
  | some _ => cases u with
    | none => exact (show False from r).elim
    | some _ => exact r
theorem KV.val {kvs : List (κ × V)} {vs : List (κ × Value)} (r : KV kvs vs) (k : κ) : RelO (valV kvs k) (valueAt vs k) := by
  unfold KV at r
  induction r with
  | nil => exact True.intro
  | @cons p q ps qs h t ih =>
    obtain ⟨h1, h2⟩ := h
    by_cases e : p.1 = k
    · have e' : q.1 = k := h1.symm.trans e
      have b : valueAt (q :: qs) k = some q.2 := by simp [valueAt, List.find?_cons, e']
      rw [valV_pos e, b]; exact h2
    · have e' : ¬ q.1 = k := fun z => e (h1.trans z)
      have b : valueAt (q :: qs) k = valueAt qs k := by simp [valueAt, List.find?_cons, e']
      rw [valV_neg e, b]; exact ih
theorem KV.any {kvs : List (κ × V)} {vs : List (κ × Value)} (r : KV kvs vs) (k : κ) : (kvs.any fun kv => decide (kv.1 = k)) = vs.any fun kv => decide (kv.1 = k) := by
  unfold KV at r
  induction r with
  | nil => rfl
  | cons h t ih => rw [List.any_cons, List.any_cons, ih, h.1]
theorem KV.repl {kvs : List (κ × V)} {vs : List (κ × Value)} (r : KV kvs vs) (k : κ) {y : V} {u : Value} (ry : RelV y u) :
    KV (kvs.map fun kv => if kv.1 = k then (kv.1, y) else kv) (vs.map fun kv => if kv.1 = k then (kv.1, u) else kv) := by
  unfold KV at r ⊢
  induction r with
  | nil => exact .nil
  | @cons p q ps qs h t ih =>
    rw [List.map_cons, List.map_cons]
    refine .cons ?_ ih
    obtain ⟨h1, h2⟩ := h
    by_cases e : p.1 = k
    · rw [if_pos e, if_pos (h1.symm.trans e)]; exact ⟨h1, ry⟩
    · rw [if_neg e, if_neg (fun z => e (h1.trans z))]; exact ⟨h1, h2⟩
theorem KV.put {kvs : List (κ × V)} {vs : List (κ × Value)} (r : KV kvs vs) (k : κ) {y : V} {u : Value} (ry : RelV y u) : KV (putK kvs k y) (stored vs k u) := by
  unfold putK stored
  rw [r.any k]
  by_cases e : (vs.any fun kv => decide (kv.1 = k)) = true
  · rw [if_pos e, if_pos e]; exact r.repl k ry
  · rw [if_neg e, if_neg e]; exact Paired.snoc r ⟨rfl, ry⟩
end
theorem kV_is {P : Program} {w : World} {k : Key} {u : Value} (r : RelV (kV k) u) : (mixKind P w).is k u = true := by
  cases k with
  | inl i => obtain ⟨t, e⟩ := (show ∃ t, u = Value.int i t from r); subst e; exact mixKind_int P w i t
  | inr x => obtain ⟨t, e⟩ := (show ∃ t, u = Value.str x t from r); subst e; exact mixKind_str P w x t
theorem items_are {P : Program} {w : World} : ∀ {ks : List Key} {us : List Value}, Vals (ks.map kV) us → ItemsAre (mixKind P w) ks us
  | [], _, r => by rw [List.map_nil] at r; cases r; exact .nil
  | k :: ks, _, r => by
    rw [List.map_cons] at r
    cases r with
    | cons h t => exact .cons (kV_is h) (items_are t)
abbrev KT (H : Hp) : List (List Key × V) → List (List Key × Addr × Value) → Prop := Paired fun p q => p.1 = q.1 ∧ H q.2.1 = some (.tup (p.1.map kV)) ∧ RelV p.2 q.2.2
theorem KT.val {H : Hp} {kvs : List (List Key × V)} {xs : List (List Key × Addr × Value)} (r : KT H kvs xs) (k : List Key) : RelO (valV kvs k) ((atKey xs k).map (·.2)) := by
  induction r with
  | nil => exact True.intro
  | @cons p q ps qs h t ih =>
    obtain ⟨h1, _, h2⟩ := h
    by_cases e : p.1 = k
    · have e' : q.1 = k := h1.symm.trans e
      have b : atKey (q :: qs) k = some q.2 := by simp [atKey, List.find?_cons, e']
      rw [valV_pos e, b]; exact h2
    · have e' : ¬ q.1 = k := fun z => e (h1.trans z)
      have b : atKey (q :: qs) k = atKey qs k := by simp [atKey, List.find?_cons, e']
      rw [valV_neg e, b]; exact ih
section
variable {P : Program} {w : World} {H : Hp} {h : Heap} {a : Addr}
theorem rd_of {u : HO} (ok : HOk P w H h) (e : Rd H a u) : ObjOk P w H h a u := e.ok ok
theorem dk_rd {kvs : List (Key × V)} (ok : HOk P w H h) (e : Rd H a (.dK kvs)) : kvs.length ≤ sizeLine ∧ (a == sysModules) = false ∧ ∃ vs, KV kvs vs ∧ h.DictOf (mixKind P w) a vs :=
  show ObjOk P w H h a (.dK kvs) from rd_of ok e
theorem dk_of {kvs : List (Key × V)} (ok : HOk P w H h) (e : H a = some (.dK kvs)) : kvs.length ≤ sizeLine ∧ (a == sysModules) = false ∧ ∃ vs, KV kvs vs ∧ h.DictOf (mixKind P w) a vs := dk_rd ok (.inl e)
theorem key_of {ks : List Key} (ok : HOk P w H h) (e : H a = some (.tup (ks.map kV))) : (tupleKind (mixKind P w)).is h ks a := by
  obtain ⟨_, its, r, o, h1, h2, n, h3⟩ := (show ObjOk P w H h a (.tup (ks.map kV)) from ok a _ e)
  exact ⟨o, its.toArray, n, h1, h2, h3, by simpa using items_are r⟩
theorem dt_rd {kvs : List (List Key × V)} (ok : HOk P w H h) (e : Rd H a (.dT kvs)) : kvs.length ≤ sizeLine ∧ (a == sysModules) = false ∧
    ∃ xs, KT H kvs xs ∧ h.DictOfH (tupleKind (mixKind P w)) a xs := by
  obtain ⟨z, y, xs, r, o, es, ep, h1, h2, h3, h4, h5⟩ := (show ObjOk P w H h a (.dT kvs) from rd_of ok e)
  refine ⟨z, y, xs, r, o, es, ep, h1, h2, h3, h4, fun x hx => ?_, h5⟩
  have all : ∀ {l : List (List Key × V)} {m : List (List Key × Addr × Value)}, KT H l m → ∀ x ∈ m, (tupleKind (mixKind P w)).is h x.1 x.2.1 := by
    intro l m q
    induction q with
    | nil => intro x hx; exact nomatch hx
    | @cons p q ps qs hq t ih =>
      intro x hx
      rcases List.mem_cons.mp hx with e | hx
      · subst e
        exact key_of ok (by rw [← hq.1]; exact hq.2.1)
      · exact ih x hx
  exact all r x hx
end
def DGet (H : Hp) (a : Addr) (y : V) (r : Option V) : Prop :=
  (∃ kvs k, Rd H a (.dK kvs) ∧ y = kV k ∧ r = valV kvs k) ∨ ∃ kvs k b, Rd H a (.dT kvs) ∧ y = .ref b ∧ H b = some (.tup (k.map kV)) ∧ r = valV kvs k
section
variable {X : Cx} {pins : List (Addr × Obj)} {σ : St} {H : Hp} {s : Shared} {a : Addr} {y v : V} {u r : Value} {o : Option V} {A : Around} {E : Value → Shared → Prop}
theorem Inv.big (I : Inv X pins σ H s) : sysModules < s.heap.objs.size := by
  have h : mainGlobals < s.heap.objs.size := (I.mod.glob.keeps I.bk).lt
  exact Nat.lt_trans (by decide) h
theorem d_write {h' : Heap} {t' : Nat} {ob : HO} (I : Inv X pins σ H s) (mu : Mut (H a)) (hs : Heap.SameBut a s.heap h') (he : ∃ q, h'.get? a = some q) (new : ObjOk X.prog X.w (upd H a ob) h' a ob) :
    Inv X pins σ (upd H a ob) { s with heap := h', toks := t' } :=
  I.write (x := a) (e := a) mu (.inl rfl) (fun b q hb z => (hs.2 b hb).trans z) he new
theorem dk_new {P : Program} {w : World} {H' : Hp} {h' : Heap} {kvs : List (Key × V)} {vs : List (Key × Value)} (z : kvs.length ≤ sizeLine) (hd : (a == sysModules) = false) (rel : KV kvs vs) (dd : h'.DictOf (mixKind P w) a vs) :
    ObjOk P w H' h' a (.dK kvs) := ⟨z, hd, vs, rel, dd⟩
end
section
variable {X : Cx} {pins : List (Addr × Obj)} {σ : St} {H : Hp} {s : Shared} {a : Addr} {kvs : List (Key × V)} {k : Key} {u : Value} {A : Around} {E : Value → Shared → Prop}
end
section
variable {X : Cx} {o i e value : Expr} {pos pos' tpos : Pos} {td ty tv : TE}
end
theorem dk_empty {P : Program} {w : World} {H : Hp} (h : Heap) (hb : sysModules < h.objs.size) : ObjOk P w H (h.push { cls := .type "dict", data := .dict #[] }) h.objs.size (.dK []) :=
  ⟨Nat.zero_le _, beq_eq_false_iff_ne.mpr (Ne.symm (Nat.ne_of_lt hb)), [], .nil, Heap.DictOf.new h⟩
section
variable {X : Cx} {pos : Pos}
end
def tPairs : List (TE × TE) → St → Hp → (List (V × V) → Hp → Prop) → Prop
  | [], _, H, Q => Q [] H
  | (tk, tv) :: r, σ, H, Q => tk σ H fun x H1 => tv σ H1 fun y H2 => tPairs r σ H2 fun ps H3 => Q ((x, y) :: ps) H3
abbrev VV : List (V × V) → List (Value × Value) → Prop := Paired fun p q => RelV p.1 q.1 ∧ RelV p.2 q.2
def PPs (X : Cx) (pos : Pos) (keys : List (Option Expr)) (values : List Expr) (trs : List (TE × TE)) : Prop :=
  ∀ (pins : List (Addr × Obj)) (s : Shared) (σ : St) (H : Hp) (Q : List (V × V) → Hp → Prop), Inv X pins σ H s → tPairs trs σ H Q →
    wpAny (model X.prog X.w) X.A (evalPairs (pairTrees keys values X.env pos)) (fun vs s' => ∃ ps H', Inv X pins σ H' s' ∧ VV ps vs ∧ Q ps H') X.xe s
theorem pps_nil {X : Cx} {pos : Pos} : PPs X pos [] [] [] := fun pins s σ H Q I h => pairTrees_nil_walk ⟨[], H, I, .nil, h⟩
theorem pps_cons {X : Cx} {pos : Pos} {k v : Expr} {ks : List (Option Expr)} {vs : List Expr} {tk tv : TE} {trs : List (TE × TE)} (hk : PE X k tk) (hv : PE X v tv) (hr : PPs X pos ks vs trs) :
    PPs X pos (some k :: ks) (v :: vs) ((tk, tv) :: trs) := fun pins s σ H Q I h =>
  pairTrees_cons_walk (thn (hk pins s σ H _ I h) fun u s1 ⟨x, H1, I1, rx, q1⟩ => thn (hv pins s1 σ H1 _ I1 q1) fun w2 s2 ⟨y, H2, I2, ry, q2⟩ =>
    thn (hr pins s2 σ H2 _ I2 q2) fun ws s3 ⟨ps, H3, I3, rel, q3⟩ => ⟨(x, y) :: ps, H3, I3, .cons ⟨rx, ry⟩ rel, q3⟩)
def mergeK (kvs more : List (Key × V)) : List (Key × V) := more.foldl (fun acc kv => putK acc kv.1 kv.2) kvs
theorem KV.merge : ∀ {more : List (Key × V)} {rs : List (Key × Value)} {kvs : List (Key × V)} {vs : List (Key × Value)}, KV more rs → KV kvs vs → KV (mergeK kvs more) (merged vs rs) := by
  intro more rs kvs vs r
  unfold KV at r
  induction r generalizing kvs vs with
  | nil => intro q; exact q
  | @cons p q ps qs h t ih =>
    intro r0
    have e : KV (putK kvs p.1 p.2) (stored vs q.1 q.2) := by
      have := r0.put p.1 h.2
      rw [← h.1]; exact this
    exact ih e
theorem length_mergeK : ∀ (more kvs : List (Key × V)), (mergeK kvs more).length ≤ kvs.length + more.length
  | [], kvs => by show kvs.length ≤ kvs.length + 0; omega
  | p :: r, kvs => by
    have h1 := length_mergeK r (putK kvs p.1 p.2)
    have h2 := length_putK kvs p.1 p.2
    show (mergeK (putK kvs p.1 p.2) r).length ≤ _
    rw [List.length_cons]; omega
theorem carries_of {P : Program} {w : World} : ∀ {kvs : List (Key × V)} {ws : List (Value × Value)}, VV (kvs.map fun kv => (kV kv.1, kv.2)) ws → ∃ rs, Carries (mixKind P w) ws rs ∧ KV kvs rs
  | [], _, r => by rw [List.map_nil] at r; cases r; exact ⟨[], True.intro, .nil⟩
  | p :: kvs, _, r => by
    rw [List.map_cons] at r
    cases r with
    | @cons a b as bs h t =>
      obtain ⟨rs, c, q⟩ := carries_of (P := P) (w := w) t
      obtain ⟨b1, b2⟩ := b
      exact ⟨(p.1, b2) :: rs, ⟨kV_is h.1, rfl, c⟩, .cons ⟨rfl, h.2⟩ q⟩
def tDisp (trs : List (TE × TE)) : TE := fun σ H Q => ∀ p, H p = none → tPairs trs σ (upd H p (.dK [])) fun ps H2 => H2 p = some (.dK []) ∧ ∃ kvs : List (Key × V), ps = kvs.map (fun kv => (kV kv.1, kv.2)) ∧ kvs.length ≤ 15 ∧ Q (.ref p) (upd H2 p (.dK (mergeK [] kvs)))
theorem pe_disp {X : Cx} {pos : Pos} {keys : List (Option Expr)} {values : List Expr} {trs : List (TE × TE)} (h : PPs X pos keys values trs) (hall : keys.all (·.isSome) = true) (hl : keys.length = values.length) (h0 : keys ≠ [])
    (h15 : keys.length ≤ 15) : PE X (.Dict keys values pos) (tDisp trs) := by
  intro pins s σ H Q I q
  have hn := I.hok.fresh (Nat.le_refl s.heap.objs.size)
  have I1 := I.laid (a := s.heap.objs.size) (o := .dK []) (h' := s.heap.push { cls := .type "dict", data := .dict #[] }) (t' := s.toks) (fun _ _ q => Heap.get?_push_of_some _ q) (Nat.le_refl _) (dk_empty s.heap I.big)
  refine wpAny_Dict_walk (knd := mixKind X.prog X.w) hall hl h0 h15 (thn (h pins _ σ _ _ I1 (q _ hn)) fun ws s2 ⟨ps, H2, I2, rel, e, kvs, ep, lk, q2⟩ => ?_)
  subst ep
  obtain ⟨rs, c, rk⟩ := carries_of (P := X.prog) (w := X.w) rel
  obtain ⟨z, hd, vs0, r0, dd⟩ := dk_of I2.hok e
  cases r0
  refine ⟨rs, c, dd, fun h' dd' hs => ⟨.ref s.heap.objs.size, _, ?_, rfl, q2⟩⟩
  have hz : (mergeK [] kvs).length ≤ sizeLine := by
    have h1 := length_mergeK kvs []
    rw [List.length_nil] at h1
    rw [sizeLine_eq]; omega
  have he : ∃ q, h'.get? s.heap.objs.size = some q := let ⟨q, _, _, hq, _⟩ := dd'; ⟨q, hq⟩
  exact d_write I2 (by rw [e]; exact True.intro) hs he (dk_new hz hd (rk.merge .nil) dd')
structure M2 (X : Cx) (o : Expr) (m : Str) (apos : Pos) (e f : Expr) (cpos : Pos) : Prop where
  base : attributeBase o m X.env (eval o X.env) = eval o X.env
  few : ((backTo cpos (starEach [e, f] X.env)).all (fun x => !x.1) && (backToKw cpos (keywordEach [] X.env)).all (fun x => x.1.isSome)
    && decide (([e, f] : List Expr).length + ([] : List Keyword).length + (if ([] : List Keyword).isEmpty then 0 else 1) < 30)) = true
  line : (apos.endLine == cpos.line) = true
  trees : backTo cpos (starEach [e, f] X.env) = [(false, eval e X.env), (false, eval f X.env)]
def IsD (H : Hp) (a : Addr) : Prop := (∃ kvs, Rd H a (.dK kvs)) ∨ ∃ kvs, Rd H a (.dT kvs)
theorem isD_at {X : Cx} {pins : List (Addr × Obj)} {σ : St} {H : Hp} {s : Shared} {a : Addr} (I : Inv X pins σ H s) (d : IsD H a) :
    s.TypeIs (.ref a) "dict" ∧ (∀ b, Value.ref a = .ref b → ∃ ob, s.heap.get? b = some ob ∧ ob.dict = none) ∧ (a == sysModules) = false := by
  rcases d with ⟨kvs, e⟩ | ⟨kvs, e⟩
  · obtain ⟨_, hd, vs, _, dd⟩ := dk_rd I.hok e
    refine ⟨dd.typeIs, fun b q => ?_, hd⟩
    cases q
    obtain ⟨ob, _, _, h1, h2, _⟩ := dd
    exact ⟨ob, h1, h2.2.1⟩
  · obtain ⟨_, hd, xs, _, dd⟩ := dt_rd I.hok e
    refine ⟨dd.typeIs, fun b q => ?_, hd⟩
    cases q
    obtain ⟨ob, _, _, h1, h2, _⟩ := dd
    exact ⟨ob, h1, h2.2.1⟩
section
variable {X : Cx} {pins : List (Addr × Obj)} {σ : St} {H : Hp} {s : Shared} {a : Addr} {y d : V} {u r : Value} {o : Option V} {A : Around} {E : Value → Shared → Prop}
theorem d_get2 {Q : Value → Shared → Prop} (hu : A.units + 1 < cLine) (I : Inv X pins σ H s) (g : DGet H a y o) (ry : RelV y u) (rd : RelV d r) (h : ∀ w' s', Inv X pins σ H s' → RelV (o.getD d) w' → Q w' s') :
    wpAny (model X.prog X.w) A (call (.builtin "dict.get") [.ref a, u, r]) Q E s := by
  rcases g with ⟨kvs, k, e, ey, l⟩ | ⟨kvs, k, b, e, ey, eb, l⟩
  · subst ey
    obtain ⟨z, hd, vs, rel, dd⟩ := dk_rd I.hok e
    refine call_meetsIn PySem.F.slot_dict_get dd.typeIs PySem.F.entry_dict_get (PySem.F.args_dict_get_3 _ _ _) (meets_dict_get_default (mixKind X.prog X.w) a (kV_is ry) hd r) ⟨_, dd.mapOf, h _ _ (I.tok _) ?_⟩
    rw [l]
    exact (rel.val k).getD rd
  · subst ey
    cases (show u = Value.ref b from ry)
    obtain ⟨z, hd, xs, rel, dd⟩ := dt_rd I.hok e
    refine call_meetsIn PySem.F.slot_dict_get dd.typeIs PySem.F.entry_dict_get (PySem.F.args_dict_get_3 _ _ _) (meetsH_dict_get_default (tupleKind (mixKind X.prog X.w)) a b hd r) ⟨tupleKind_room_in1 hu, k, xs, key_of I.hok eb, dd, h _ _ (I.tok _) ?_⟩
    rw [l]
    exact (rel.val k).getD rd
end
def tDGet2 (td ty tx : TE) : TE := fun σ H Q => td σ H fun x H1 => ∃ a, x = .ref a ∧ IsD H1 a ∧ ty σ H1 fun y H2 => tx σ H2 fun z H3 => ∃ o, DGet H3 a y o ∧ Q (o.getD z) H3
section
variable {X : Cx} {o e f : Expr} {apos cpos : Pos} {td ty tx : TE}
theorem pe_dget2 (hu : X.A.units + 1 < cLine) (ho : PE X o td) (he : PE X e ty) (hf : PE X f tx) (m : M2 X o "get" apos e f cpos) : PE X (.Call (.Attribute o "get" apos) [e, f] [] cpos) (tDGet2 td ty tx) := by
  intro pins s σ H Q I h
  refine wpAny_Call_method m.base m.few m.line PySem.F.plainAttrs_dict PySem.F.slot_dict_get PySem.F.type_dict_get (thn (ho pins s σ H _ I h) fun u s1 ⟨x, H1, I1, rx, a, ex, d, q1⟩ => ?_)
  subst ex
  obtain rfl : u = Value.ref a := rx
  obtain ⟨t1, t2, _⟩ := isD_at I1 d
  refine ⟨t1, t2, ?_⟩
  rw [m.trees]
  refine Calls.callWith_builtin rfl (Calls.evalArgs_plain (Calls.spliced_cons (thn (he pins s1 σ H1 _ I1 q1) fun iv s2 ⟨y, H2, I2, ry, q2⟩ =>
    Calls.spliced_cons (thn (hf pins s2 σ H2 _ I2 q2) fun fv s3 ⟨z, H3, I3, rz, ov, g, q3⟩ => Calls.spliced_nil ?_))))
  exact d_get2 hu I3 g ry rz fun w' s4 I4 rw' => ⟨_, H3, I4, rw', q3⟩
end
section
variable {X : Cx} {pins : List (Addr × Obj)} {σ : St} {H : Hp} {s : Shared} {a : Addr} {kvs : List (Key × V)} {A : Around} {E : Value → Shared → Prop}
end
section
variable {X : Cx} {pins : List (Addr × Obj)} {σ : St} {H : Hp} {s : Shared} {a : Addr} {y : V} {u : Value} {A : Around} {E : Value → Shared → Prop}
end
end L2
namespace Att
open PySem PySem.W PySem.Calls PyProof.Rows
theorem ints_of_wellAll {P : Params} {h : Heap} : ∀ (ns : List Int) (vs : List Value), WellAll P h vs (ns.map WData.int) → IntsAre vs ns := by
  intro ns
  induction ns with
  | nil =>
    intro vs w
    rw [List.map_nil] at w
    cases w
    exact .nil
  | cons n ns ih =>
    intro vs w
    rw [List.map_cons] at w
    cases w with
    | cons a b =>
      cases a
      exact .cons _ _ (ih _ b)
theorem script_of {l : OpenLaw} {n : Nat} (hn : l.most = some n) {P : Params} {h : Heap} {args : List WData} {vals : List Value}
    (hpre : l.row.toRowW.claim.pre args = true) (hwl : WellAll P h vals args) :
    ∃ a vs ns, vals = [Value.ref a] ∧ args = [WData.list (ns.map WData.int)] ∧ h.get? a = some { cls := .type "list", data := .seq vs.toArray } ∧ IntsAre vs ns ∧ ns.length ≤ n := by
  have hsh : WShape.hasAll [] args [.list .int] = true := (pre_splitW hpre).1
  have hc : l.pre.holds [] { args := args } = true := (pre_splitW hpre).2
  obtain ⟨d, r, rfl, h1, h2⟩ := hasAllW_cons hsh
  obtain rfl := hasAllW_nil h2
  obtain ⟨xs, rfl, h3⟩ := hasW_list h1
  obtain ⟨ns, rfl⟩ := items_int h3
  have hlen : ns.length ≤ n := by
    unfold OpenLaw.pre at hc
    have h4 : (WTm.not (.lt (.lit (.int (n : Int))) (.len (.arg 0)))).holds [] { args := [.list (ns.map .int)] } = true := by
      have h4 := (holds_andW hc).1
      rw [hn] at h4
      exact h4
    have h5 := condW_of h4 (w_not (w_lt w_lit (w_len_list (w_arg rfl))))
    rw [List.length_map] at h5
    refine Nat.le_of_not_lt fun q => ?_
    have q' : (n : Int) < ((ns.length : Nat) : Int) := by omega
    first
      | (rw [decide_eq_true q'] at h5; exact absurd h5 (by decide))
      | (simp at h5; omega)
  cases hwl with
  | cons w1 w2 =>
    cases w2
    cases w1 with
    | list ho hall => exact ⟨_, _, ns, rfl, rfl, ho, ints_of_wellAll ns _ hall, hlen⟩
theorem post_true (l : OpenLaw) (args : List WData) : l.row.toRowW.claim.post args (.bool true) args = true :=
  postW_of (r := l.row.toRowW) (X := (true == true))
    (show WShape.has [] (.bool true) .bool = true by first | rfl | decide | simp [WShape.has, WShape.arms, WShape.armsAll])
    (show (WTm.eq .res (.lit (.bool true))).value [] { args := args, res := some (.bool true), after := args } = some (.bool (true == true)) from w_eq_bool (w_res rfl) w_lit) rfl
theorem attach_call {l : OpenLaw} {n : Nat} {q : Program} {loose : List Str} {XP : (Str → Option Value) → Heap → Prop} {YP : World → Heap → Prop} {d : DefRec}
    (hn : l.most = some n) (hdf : d.params.defaults = [])
    (call : ∀ (w : World) (s₀ s₁ : Shared) (mg mb : Str → Option Value) (fa : Addr) (o : Obj) (pm cd doc : Value) (a : Addr) (vs : List Value) (ns : List Int),
      Ground q loose [] XP w s₀ mg mb s₁.heap → YP w s₁.heap →
      s₁.heap.get? fa = some o → o.data = .func (docDef d.name d.params d.body d.scope pm cd doc) → s₁.heap.CodeRec cd d.name → mg d.name = some (.ref fa) →
      s₁.heap.get? a = some { cls := .type "list", data := .seq vs.toArray } → IntsAre vs ns → ns.length ≤ n → s₁.gens = #[] →
      codeAny (model l.prog w) callerA (.call (.ref fa) ⟨[.ref a], []⟩) (fun r s' => r = .ok (.ret (.bool true)) ∧ OldK s₁.heap s'.heap ∧ s'.os = s₁.os ∧ AllBare s'.gens) s₁) :
    WalkO q loose XP YP l.row.toRowW d [] (fun f vs => PySem.call f vs) := by
  intro w s₀ s₁ mg mb G Y fa o pm cd doc dV kV ho hd hcd hD hmg hg args vals as hpre hlay hrd hwl hlo
  obtain rfl : dV = .none := Dflts.none hD hdf
  obtain rfl : kV = .none := Dflts.noKw hD
  obtain ⟨a, vs, ns, rfl, rfl, hobj, hints, hlen⟩ := script_of hn hpre hwl
  refine enter_call (codeAny_mono (call w s₀ s₁ mg mb fa o pm cd doc a vs ns G Y ho (fd_plain hd) hcd hmg hobj hints hlen hg) fun r s' hq => ?_)
  obtain ⟨rfl, h2, h3, h4⟩ := hq
  exact ⟨.inl ⟨.bool true, .bool true, [], rfl, fun _ => rfl, .bool true, post_true l _, fun _ => ⟨List.Pairwise.nil, fun _ hm => (nomatch hm)⟩⟩, h2, h3, h4⟩
section
variable {prog : Program} {w : World} {A : Around} {E : Value → Shared → Prop} {s : Shared} {K : Frag}
end
end Att
namespace L2
open PySem PySem.Spec PyProof.Rows
theorem vals_ints : ∀ {vs : List Value} {ns : List Int}, IntsAre vs ns → Vals (ns.map V.int) vs
  | _, _, .nil => .nil
  | _, _, .cons n t h => .cons ⟨t, rfl⟩ (vals_ints h)
def Only (H : Hp) : Prop := ∀ b, H b = none ∨ ∃ o xs, H b = some (.frz o (.lst xs))
theorem law_call {P : Program} {w : World} {K : PySem.W.Frag} {mg mb : Str → Option Value} {CX : CXT} {k : Nat} {fa a : Addr} {fd : FuncData} {x : Str} {sp : Sp} {s₁ : Shared} {vs : List Value} {ns : List Int}
    (KX : K.In s₁.heap) (hns : s₁.heap.Ns mainGlobals mg) (hb : s₁.heap.Ns builtinsNs mb) (hbb : ∀ x : Str, x ≠ "__name__" → mb x = bootBuiltins x) (hlim : s₁.heap.NoLimit) (hg : s₁.gens = #[])
    (ha : s₁.heap.get? a = some { cls := .type "list", data := .seq vs.toArray }) (hi : IntsAre vs ns) (hl : ns.length ≤ sizeLine) (hr : Room k callerA)
    (F : ∀ base : Heap, K.In base → base.Ns mainGlobals mg → FnOk P w K mg base CX k fa fd [x] sp) (hbind : ∀ (s : Shared) (u : Value), BindsTo s fd ⟨[u], []⟩ [(x, u)])
    (hsp : ∀ H : Hp, Only H → SqL K H a (ns.map V.int) → sp [.ref a] H (fun v _ => v = .bl true) fun _ _ _ => False)
    (hCX : ∀ H e s', CX [] H s₁ (fun _ _ _ => False) e s' → False) :
    codeAny (model P w) callerA (.call (.ref fa) ⟨[.ref a], []⟩) (fun r s' => r = .ok (.ret (.bool true)) ∧ OldK s₁.heap s'.heap ∧ s'.os = s₁.os ∧ AllBare s'.gens) s₁ := by
  have rv := vals_ints hi
  have lenV := hi.length
  have core : ∀ H : Hp, Only H → SqL K H a (ns.map V.int) → HOk P w H s₁.heap → (∀ b, H b ≠ none → b = a) → (H a ≠ none → K.lookup a = none) →
      codeAny (model P w) callerA (.call (.ref fa) ⟨[.ref a], []⟩) (fun r s' => r = .ok (.ret (.bool true)) ∧ OldK s₁.heap s'.heap ∧ s'.os = s₁.os ∧ AllBare s'.gens) s₁ := by
    intro H hO hS hok hA hK
    have base_of : ∀ {b : Addr} {o : Obj}, s₁.heap.get? b = some o → H b = none → (hidT s₁.heap H).get? b = some o := fun e n => hidT_get e n
    have noA : ∀ {b : Addr} {o : Obj} {es : Array DictEntry} {ep : Nat}, s₁.heap.get? b = some o → o.data = .dict es ep → H b = none := fun {b o es ep} e d => by
      cases q : H b with
      | none => rfl
      | some u =>
        have e' : b = a := hA b (by rw [q]; simp)
        subst e'
        rw [ha] at e; cases e
        have d' : Data.seq vs.toArray _ = Data.dict es ep := d
        cases d'
    have nsK : ∀ {b : Addr} {m : Str → Option Value}, s₁.heap.Ns b m → (hidT s₁.heap H).Ns b m := fun {b m} ⟨o, es, ep, e, d, r⟩ => ⟨o, es, ep, base_of e (noA e d), d, r⟩
    have hKb : K.In (hidT s₁.heap H) := fun b o e => base_of (KX b o e) (by
      cases q : H b with
      | none => rfl
      | some u =>
        have e' : b = a := hA b (by rw [q]; simp)
        subst e'
        rw [hK (by rw [q]; simp)] at e; cases e)
    have hM : Mod K mg (hidT s₁.heap H) := ⟨hKb, nsK hns, ⟨mb, nsK hb, hbb⟩, let ⟨mc, h1, h2⟩ := hlim; ⟨mc, nsK h1, h2⟩⟩
    have e0 : Env0 P w K mg (hidT s₁.heap H) callerA [] s₁ H := ⟨rfl, hM, fun b o e => of_hidT e, Nat.le_of_eq (hidT_size _ _), trivial, fun b hb => absurd (show b ∈ ([] : List Addr) from hb) (by simp), hok, .of_eq hg⟩
    refine codeAny_mono ((F _ hKb (nsK hns)).run callerA [] s₁ H ⟨[.ref a], []⟩ [.ref a] [.ref a] _ _ hr e0 (hbind s₁ (.ref a)) (.cons rfl .nil) (hsp H hO hS)) fun r s' h => ?_
    cases r with
    | error e => exact (hCX H e s' h).elim
    | ok fl =>
      cases fl with
      | next => exact False.elim h
      | brk => exact False.elim h
      | cont => exact False.elim h
      | ret u =>
        obtain ⟨v, H', os, bare, un, hok', r', q⟩ := h
        have q' : v = .bl true := q
        subst q'
        obtain rfl : u = Value.bool true := r'
        refine ⟨rfl, OldK.of_keep fun b o e => ?_, os, bare⟩
        cases q : H b with
        | none => exact un.keep b o e q (by intro z; exact absurd (show b ∈ ([] : List Addr) from z) (by simp)) (by simp)
        | some u =>
          rcases hO b with z | ⟨ob, xs, z⟩
          · rw [q] at z; cases z
          · have z2 := un.frzs b ob _ z
            obtain ⟨e1, _⟩ := hok b _ z
            obtain ⟨e2, _⟩ := hok' b _ z2
            rw [e] at e1; cases e1
            exact e2
  cases hk : K.lookup a with
  | some o =>
    have e := KX a o hk
    rw [ha] at e
    cases e
    refine core (fun _ => none) (fun _ => .inl rfl) (.inr ⟨_, vs.toArray, _, hk, rfl, rfl, rfl, by rw [List.size_toArray, lenV]; exact hl, by simpa using rv⟩) (fun b u z => by have z' : (none : Option HO) = some u := z; cases z') (fun b z => absurd rfl z) fun z => absurd rfl z
  | none =>
    refine core (fun b => if b = a then some (.frz { cls := .type "list", data := .seq vs.toArray } (.lst (ns.map V.int))) else none) (fun b => ?_) (.inl (.inr ⟨{ cls := .type "list", data := .seq vs.toArray }, if_pos rfl⟩)) (fun b u z => ?_) (fun b z => ?_) fun _ => hk
    · by_cases hb : b = a
      · exact .inr ⟨_, _, if_pos hb⟩
      · exact .inl (if_neg hb)
    · by_cases hb : b = a
      · have z' := (if_pos hb).symm.trans z
        cases z'
        subst hb
        exact ⟨ha, by rw [List.length_map]; exact hl, vs, _, rv, ha⟩
      · have z' := (if_neg hb).symm.trans z
        cases z'
    · by_cases hb : b = a
      · exact hb
      · exact absurd (if_neg hb) z
end L2
namespace L2
open PySem PySem.Spec PyProof.Rows
theorem walk_of {l : PySem.W.OpenLaw} {n k : Nat} {q : Program} {loose : List Str} {XP : (Str → Option Value) → Heap → Prop} {YP : World → Heap → Prop} {d : DefRec} {K : Params → PySem.W.Frag} {CX : World → CXT} {sp : World → Sp} {x : Str}
    (hn : l.most = some n) (hn2 : n ≤ sizeLine) (hdf : d.params.defaults = []) (hr : Room k callerA)
    (hY : ∀ (w : World) (h : Heap), YP w h → (K w.params).In h)
    (F : ∀ (w : World) (mg : Str → Option Value) (fa : Addr) (h : Heap), (K w.params).In h → h.Ns mainGlobals mg → mg d.name = some (.ref fa) →
      ∃ fd : FuncData, (∀ (s : Shared) (u : Value), BindsTo s fd ⟨[u], []⟩ [(x, u)]) ∧
        ∀ base : Heap, (K w.params).In base → base.Ns mainGlobals mg → FnOk l.prog w (K w.params) mg base (CX w) k fa fd [x] (sp w))
    (hsp : ∀ (w : World) (H : Hp) (a : Addr) (ns : List Int), ns.length ≤ n → Only H → SqL (K w.params) H a (ns.map V.int) → sp w [.ref a] H (fun v _ => v = .bl true) fun _ _ _ => False)
    (hCX : ∀ (w : World) (H : Hp) (s : Shared) (e : Value) (s' : Shared), CX w [] H s (fun _ _ _ => False) e s' → False) :
    PySem.W.WalkO q loose XP YP l.row.toRowW d [] (fun f vs => PySem.call f vs) := by
  refine Att.attach_call hn hdf fun w s₀ s₁ mg mb fa o pm cd doc a vs ns G Y ho hd hcd hmg hobj hints hlen hg => ?_
  have KX := hY w _ Y
  obtain ⟨fd, hb, hF⟩ := F w mg fa _ KX G.T.g hmg
  exact law_call KX G.T.g G.T.b G.T.builtins G.T.nolimit hg hobj hints (Nat.le_trans hlen hn2) hr hF hb (fun H hO hS => hsp w H a ns hlen hO hS) fun H e s' => hCX w H s₁ e s'
end L2
namespace L2
open PySem PySem.Spec PyProof.Rows
def defArgs (s : Stmt) : Arguments := match s with
  | .FunctionDef _ a _ _ _ _ _ _ _ _ => a
  | _ => { posonlyargs := [], args := [], vararg := none, kwonlyargs := [], kw_defaults := [], kwarg := none, defaults := [] }
def defBody (s : Stmt) : List Stmt := match s with
  | .FunctionDef _ _ b _ _ _ _ _ _ _ => b
  | _ => []
def defScope (s : Stmt) : Scope := match s with
  | .FunctionDef _ _ _ _ _ _ sc _ _ _ => sc
  | _ => { kind := .function, names := [], isGenerator := false, isCoroutine := false }
abbrev CX0 : CXT := fun _ _ _ _ _ _ => False
abbrev E0 : XK := fun _ _ _ => False
theorem pass0 {X : Cx} : Passes CX0 X E0 := fun _ _ _ _ _ _ _ h => h.elim
structure Fun (K : PySem.W.Frag) (x qual : Str) (st : Stmt) (f : Addr) (fd : FuncData) : Prop where
  ex : ∃ (oc : Value) (od : Option Addr) (kV doc pm : Value) (an : Option Addr) (cdv ct : Value) (osl : Array (Option Value)),
    fd = PySem.W.fnOf x qual (defArgs st) (defBody st) (defScope st) .none kV doc pm an cdv ct ∧ K.lookup f = some ⟨oc, od, .func fd, osl⟩ ∧ PySem.W.codeIn K cdv qual = true
  kp : PySem.W.keepIn K (.ref f) = true
section
variable {P : Program} {w : World} {K : PySem.W.Frag} {mg : Str → Option Value} {base : Heap}
theorem Fun.ok {x qual : Str} {st : Stmt} {f : Addr} {fd : FuncData} {N ps : List Str} {k : Nat} {sp : Sp} (F : Fun K x qual st f fd) (S : FnScope N ps (defScope st)) (len : ∀ vs H Q E, sp vs H Q E → vs.length = ps.length)
    (hbody : ∀ (cdv : Value) (A : Around) (outer : List Env) (s : Shared) (H : Hp) (vs : List V) (Q : VK) (E : XK), Room k (A.deeper (envOfC qual (defScope st) s.heap.objs.size f cdv)) → sp vs H Q E →
      ∃ t, PSs (cxOf CX0 P w K mg base N qual (defScope st) f cdv A outer s H E).nox (defBody st) t ∧ t { nx := fun _ H' => Q .non H', rt := Q } (start N vs) H) : FnOk P w K mg base CX0 (k + 1) f fd ps sp := by
  obtain ⟨oc, od, kV, doc, pm, an, cdv, ct, osl, rfl, lk, hcd⟩ := F.ex
  refine fn_of lk hcd S len fun A outer s H vs Q E hr hsp => ?_
  obtain ⟨t, h, q⟩ := hbody cdv A outer s H vs Q E hr hsp
  exact ⟨t, h.nox, q⟩
theorem Fun.binds {x qual : Str} {st : Stmt} {f : Addr} {fd : FuncData} {ps : List Str} (F : Fun K x qual st f fd)
    (h : ∀ (kV doc pm : Value) (an : Option Addr) (cdv ct : Value) (us : List Value), us.length = ps.length → bindArgs (PySem.W.fnOf x qual (defArgs st) (defBody st) (defScope st) .none kV doc pm an cdv ct) ⟨us, []⟩ = pure (ps.zip us)) : Binds K fd ps [] := by
  obtain ⟨oc, od, kV, doc, pm, an, cdv, ct, osl, rfl, lk, hcd⟩ := F.ex
  exact .all (h kV doc pm an cdv ct)
theorem fun_mk {x qual : Str} {st : Stmt} {f : Addr} {oc : Value} {od an : Option Addr} {osl : Array (Option Value)} {kV doc pm cdv ct : Value} (l : K.lookup f = some ⟨oc, od, .func (PySem.W.fnOf x qual (defArgs st) (defBody st) (defScope st) .none kV doc pm an cdv ct), osl⟩)
    (c : PySem.W.codeIn K cdv qual = true) (k : PySem.W.keepIn K (.ref f) = true) : Fun K x qual st f (PySem.W.fnOf x qual (defArgs st) (defBody st) (defScope st) .none kV doc pm an cdv ct) := ⟨⟨oc, od, kV, doc, pm, an, cdv, ct, osl, rfl, l, c⟩, k⟩
end
theorem small1000 {n : Nat} (h : n ≤ 1000) : n < sizeLine := Nat.lt_of_le_of_lt h (by decide)
section
variable {X : Cx}
theorem pv (i : Nat) {x : Str} {pos : Pos} (hN : X.N[i]? = some x := by rfl) (hv : Vis X.env.scope x := by first | exact Or.inl rfl | exact Or.inr (Or.inl rfl) | exact Or.inr (Or.inr rfl)) (hd : (x == ("__debug__" : Str)) = false := by decide)
    (hcd : (x == ("__classdict__" : Str)) = false := by decide) : PE X (.Name x pos) (tVar i) := pe_var hN hv hd hcd
end
theorem iteF {A B : Prop} (h : B) : if false = true then A else B := by
  rw [if_neg Bool.false_ne_true]
  exact h
theorem iteT {A B : Prop} (h : A) : if true = true then A else B := by
  rw [if_pos rfl]
  exact h
theorem ite2 {c A B : Prop} [Decidable c] (h1 : c → A) (h2 : ¬ c → B) : if c then A else B := by
  by_cases h : c
  · rw [if_pos h]
    exact h1 h
  · rw [if_neg h]
    exact h2 h
def Same (H H' : Hp) : Prop := ∀ b o, H b = some o → H' b = some o
theorem Same.refl (H : Hp) : Same H H := fun _ _ h => h
theorem Same.trans {H H1 H2 : Hp} (a : Same H H1) (b : Same H1 H2) : Same H H2 := fun c o h => b c o (a c o h)
theorem Same.free {H H' : Hp} (e : Same H H') {l : Addr} (h : H' l = Option.none) : H l = Option.none := by
  cases q : H l with
  | none => rfl
  | some o =>
    rw [e l o q] at h
    cases h
theorem Same.seq {K : PySem.W.Frag} {H H' : Hp} {a : Addr} {xs : List V} (e : Same H H') (h : SqL K H a xs) : SqL K H' a xs := by
  rcases h with (h | ⟨o, h⟩) | h
  · exact .inl (.inl (e _ _ h))
  · exact .inl (.inr ⟨o, e _ _ h⟩)
  · exact .inr h
end L2
namespace L2
open PySem PySem.Spec PyProof.Rows
section
variable {X : Cx}
end
section
variable {κ : Type} [DecidableEq κ]
end
end L2
namespace L2
open PySem PySem.Spec PyProof.Rows
def clos (cells : List (Str × Addr)) : List (Str × NameKind) → List (Str × Addr) → List (Str × Addr)
  | [], acc => acc
  | (n, k) :: r, acc => clos cells r (if k == .free then (n, (cells.lookup n).getD 0) :: acc else acc)
theorem clos_go {env : Env} : ∀ (names : List (Str × NameKind)) (acc : List (Str × Addr)), (∀ x ∈ names, x.2 = .free → ∃ c, env.cells.lookup x.1 = some c) →
    (forIn (m := Sem) names acc fun x r => if (x.2 == NameKind.free) = true then (do let a ← cellOf env x.1; pure (ForInStep.yield ((x.1, a) :: r))) else pure (ForInStep.yield r)) = pure (clos env.cells names acc)
  | [], acc, _ => rfl
  | (n, k) :: r, acc, h => by
    have hr : ∀ x ∈ r, x.2 = .free → ∃ c, env.cells.lookup x.1 = some c := fun x hx => h x (List.mem_cons_of_mem _ hx)
    rw [List.forIn_cons]
    by_cases hk : k = .free
    · subst hk
      obtain ⟨c, hc⟩ := h (n, .free) List.mem_cons_self rfl
      have hc : env.cells.lookup n = some c := hc
      have e : cellOf env n = pure c := by unfold cellOf; rw [hc]
      have q := clos_go r ((n, c) :: acc) hr
      show ((do let a ← cellOf env n; pure (ForInStep.yield ((n, a) :: acc))) >>= _) = _
      rw [e]
      refine Eq.trans ?goalA (Eq.trans q ?goalB)
      case goalA => rfl
      case goalB =>
        show _ = pure (clos env.cells r ((n, (env.cells.lookup n).getD 0) :: acc))
        rw [hc]
        rfl
    · have hb : (k == NameKind.free) = false := by simpa using hk
      have q := clos_go r acc hr
      show ((if (k == NameKind.free) = true then _ else _) >>= _) = pure (clos env.cells r (if k == .free then _ else acc))
      rw [hb]
      exact q
theorem closureFor_eq {scope : Scope} {env : Env} (h : ∀ x ∈ scope.names, x.2 = .free → ∃ c, env.cells.lookup x.1 = some c) : closureFor scope env = pure (clos env.cells scope.names []) := by
  have q := clos_go scope.names [] h
  unfold closureFor
  show (forIn scope.names [] _ >>= fun cs => pure cs) = _
  refine Eq.trans (congrArg (fun t => t >>= fun cs => pure cs) (Eq.trans ?_ q)) ?_
  · rfl
  · rfl
theorem clos_lookup {cells : List (Str × Addr)} : ∀ (names : List (Str × NameKind)) (acc : List (Str × Addr)), (∀ y ∈ names, y.2 = .free → ∃ c, cells.lookup y.1 = some c) → (∀ x c, acc.lookup x = some c → cells.lookup x = some c) →
    ∀ x c, (clos cells names acc).lookup x = some c → cells.lookup x = some c
  | [], acc, _, h2 => h2
  | (n, k) :: r, acc, h1, h2 => by
    have hr : ∀ x ∈ r, x.2 = .free → ∃ c, cells.lookup x.1 = some c := fun x hx => h1 x (List.mem_cons_of_mem _ hx)
    refine clos_lookup r _ hr ?_
    intro x c e
    by_cases hk : k = .free
    · subst hk
      obtain ⟨c', hc⟩ := h1 (n, .free) List.mem_cons_self rfl
      have hc : cells.lookup n = some c' := hc
      rw [show (if (NameKind.free == NameKind.free) = true then (n, (cells.lookup n).getD 0) :: acc else acc) = (n, (cells.lookup n).getD 0) :: acc from rfl, hc] at e
      rw [List.lookup_cons] at e
      cases q : x == n with
      | true =>
        rw [q] at e
        have e1 : x = n := by simpa using q
        have e2 : c' = c := Option.some.inj e
        rw [e1, hc, e2]
      | false =>
        rw [q] at e
        exact h2 x c e
    · have hb : (k == NameKind.free) = false := by simpa using hk
      rw [hb] at e
      exact h2 x c e
theorem clos_has {cells : List (Str × Addr)} : ∀ (names : List (Str × NameKind)) (acc : List (Str × Addr)) (x : Str), ((x, NameKind.free) ∈ names ∨ ∃ c, acc.lookup x = some c) → ∃ c, (clos cells names acc).lookup x = some c
  | [], acc, x, h => h.elim (fun z => nomatch z) id
  | (n, k) :: r, acc, x, h => by
    refine clos_has r _ x ?_
    rcases h with h | ⟨c, h⟩
    · rcases List.mem_cons.mp h with e | e
      · have e1 : x = n := congrArg Prod.fst e
        have e2 : NameKind.free = k := congrArg Prod.snd e
        subst e2
        subst e1
        exact .inr ⟨(cells.lookup x).getD 0, by show List.lookup x ((x, _) :: acc) = _; rw [List.lookup_cons, beq_self_eq_true]⟩
      · exact .inl e
    · right
      by_cases hk : (k == NameKind.free) = true
      · rw [if_pos hk, List.lookup_cons]
        cases x == n with
        | true => exact ⟨_, rfl⟩
        | false => exact ⟨c, h⟩
      · rw [if_neg hk]
        exact ⟨c, h⟩
section
variable {X : Cx} {pins : List (Addr × Obj)} {σ : St} {H : Hp} {s : Shared} {a : Addr} {o : HO}
theorem Inv.track (I : Inv X pins σ H s) (hn : H a = none) (h0 : X.s₀.heap.objs.size ≤ a) (hL : a ≠ X.env.locals) (h2 : ∀ x c, X.env.cells.lookup x = some c → c ≠ a) (h3 : ∀ p ∈ X.pn ++ pins, p.1 ≠ a)
    (new : ObjOk X.prog X.w (upd H a o) s.heap a o) : Inv X pins σ (upd H a o) s := by
  have old : ∀ b u, X.s₀.heap.get? b = some u → b ≠ a := fun b u e => Nat.ne_of_lt (Nat.lt_of_lt_of_le (Heap.lt_size e) h0)
  have trk : ∀ b u, H b = some u → b ≠ a := fun b u e z => by rw [z, hn] at e; cases e
  refine ⟨I.ok, I.os, I.bare, ⟨I.base.keep, I.base.slot, fun b u e n hx => ?_, I.base.there, fun b xs e => ?_, fun b u v e => ?_, fun b ps e => ?_⟩, I.loc, I.cell, ?_, fun x c e => ?_, fun p hp => ?_, fun b u e => ?_, I.len⟩
  · rw [upd_ne (old b u e)]; exact I.base.free b u e n hx
  · have q := I.base.tups b xs e; rw [upd_ne (trk _ _ q)]; exact q
  · have q := I.base.frzs b u v e; rw [upd_ne (trk _ _ q)]; exact q
  · obtain ⟨m, q⟩ := I.base.tbls b ps e; exact ⟨m, by rw [upd_ne (trk _ _ q)]; exact q⟩
  · rw [upd_ne (Ne.symm hL)]; exact I.free
  · rw [upd_ne (h2 x c e)]; exact I.freeC x c e
  · obtain ⟨e1, e2, e3⟩ := I.pin p hp
    exact ⟨e1, by rw [upd_ne (h3 p hp)]; exact e2, e3⟩
  · by_cases hb : b = a
    · subst hb; rw [upd_same] at e; cases e; exact new
    · rw [upd_ne hb] at e
      exact (I.hok b u e).stay (fun c v _ q => q) (fun c q => by rw [upd_ne (trk _ _ q)]; exact q) fun c xs q => by rw [upd_ne (trk _ _ q)]; exact q
theorem Inv.untrack {ys : List V} (I : Inv X pins σ (upd H a (.lst ys)) s) (hn : H a = none) : Inv X pins σ H s := by
  have off : ∀ b, upd H a (.lst ys) b = none → H b = none := fun b e => by
    by_cases hb : b = a
    · rw [hb, upd_same] at e; cases e
    · rw [upd_ne hb] at e; exact e
  have off2 : ∀ b u, upd H a (.lst ys) b = some u → u ≠ .lst ys → H b = some u := fun b u e ne => by
    by_cases hb : b = a
    · rw [hb, upd_same] at e; cases e; exact absurd rfl ne
    · rw [upd_ne hb] at e; exact e
  refine ⟨I.ok, I.os, I.bare, ⟨I.base.keep, I.base.slot, fun b u e n hx => off _ (I.base.free b u e n hx), I.base.there, fun b xs e => off2 _ _ (I.base.tups b xs e) (by intro z; cases z), fun b u v e => off2 _ _ (I.base.frzs b u v e) (by intro z; cases z), fun b ps e => ?_⟩, I.loc, I.cell, off _ I.free, fun x c e => off _ (I.freeC x c e), fun p hp => ?_, fun b u e => ?_, I.len⟩
  · obtain ⟨m, q⟩ := I.base.tbls b ps e; exact ⟨m, off2 _ _ q (by intro z; cases z)⟩
  · obtain ⟨e1, e2, e3⟩ := I.pin p hp
    exact ⟨e1, off _ e2, e3⟩
  · have hb : b ≠ a := fun z => by rw [z, hn] at e; cases e
    exact (I.hok b u (by rw [upd_ne hb]; exact e)).stay (fun c v _ q => q) (fun c q => off2 _ _ q (by intro z; cases z)) fun c xs q => off2 _ _ q (by intro z; cases z)
end
def maskS : List Bool → St → St
  | [], _ => []
  | _ :: bs, [] => none :: maskS bs []
  | b :: bs, v :: σ => cond b v none :: maskS bs σ
theorem maskS_length : ∀ (ms : List Bool) (σ : St), (maskS ms σ).length = ms.length
  | [], _ => rfl
  | _ :: bs, [] => by show (maskS bs []).length + 1 = bs.length + 1; rw [maskS_length bs []]
  | b :: bs, v :: σ => by show (maskS bs σ).length + 1 = bs.length + 1; rw [maskS_length bs σ]
theorem maskS_get : ∀ {ms : List Bool} {σ : St} {i : Nat} {v : V}, (maskS ms σ)[i]? = some (some v) → ms[i]? = some true ∧ σ[i]? = some (some v)
  | [], _, i, v, h => by simp [maskS] at h
  | b :: bs, [], 0, v, h => by simp [maskS] at h
  | b :: bs, [], i + 1, v, h => by
    have h' : (maskS bs [])[i]? = some (some v) := h
    have q := (maskS_get (ms := bs) (σ := []) (i := i) h').2
    simp at q
  | true :: bs, w :: σ, 0, v, h => ⟨rfl, h⟩
  | false :: bs, w :: σ, 0, v, h => by simp [maskS] at h
  | b :: bs, w :: σ, i + 1, v, h => by
    have h' : (maskS bs σ)[i]? = some (some v) := h
    exact maskS_get (ms := bs) (σ := σ) (i := i) h'
def okMask (sc : Scope) : List Str → List Str → List Bool → Bool
  | [], _, [] => true
  | x :: N, y :: NX, true :: ms => decide (x = y) && decide (sc.names.lookup x ≠ some .local) && okMask sc N NX ms
  | _ :: N, NX, false :: ms => okMask sc N NX.tail ms
  | _, _, _ => false
theorem okMask_len {sc : Scope} : ∀ {N NX : List Str} {ms : List Bool}, okMask sc N NX ms = true → ms.length = N.length
  | [], _, [], _ => rfl
  | x :: N, y :: NX, true :: ms, h => by
    rw [okMask, Bool.and_eq_true] at h
    rw [List.length_cons, List.length_cons, okMask_len h.2]
  | x :: N, [], false :: ms, h => by
    rw [okMask] at h
    rw [List.length_cons, List.length_cons, okMask_len h]
  | x :: N, y :: NX, false :: ms, h => by
    rw [okMask] at h
    rw [List.length_cons, List.length_cons, okMask_len h]
  | [], _, _ :: _, h => by simp [okMask] at h
  | _ :: _, _, [], h => by simp [okMask] at h
  | _ :: _, [], true :: _, h => by simp [okMask] at h
theorem okMask_at {sc : Scope} : ∀ {N NX : List Str} {ms : List Bool} {i : Nat} {x : Str}, okMask sc N NX ms = true → N[i]? = some x → ms[i]? = some true → NX[i]? = some x ∧ sc.names.lookup x ≠ some .local
  | x :: N, y :: NX, true :: ms, 0, z, h, h1, h2 => by
    rw [okMask, Bool.and_eq_true, Bool.and_eq_true] at h
    have e : x = z := Option.some.inj h1
    have e2 : x = y := of_decide_eq_true h.1.1
    subst e
    exact ⟨by rw [← e2]; rfl, of_decide_eq_true h.1.2⟩
  | x :: N, y :: NX, true :: ms, i + 1, z, h, h1, h2 => by
    rw [okMask, Bool.and_eq_true] at h
    exact okMask_at (i := i) h.2 h1 h2
  | x :: N, NX, false :: ms, 0, z, h, h1, h2 => by simp at h2
  | x :: N, [], false :: ms, i + 1, z, h, h1, h2 => by
    rw [okMask] at h
    have q := (okMask_at (i := i) h h1 h2).1
    simp at q
  | x :: N, y :: NX, false :: ms, i + 1, z, h, h1, h2 => by
    rw [okMask] at h
    exact okMask_at (i := i) h h1 h2
  | [], _, [], i, z, h, h1, h2 => by simp at h1
  | [], _, _ :: _, i, z, h, h1, h2 => by simp [okMask] at h
  | _ :: _, _, [], i, z, h, h1, h2 => by simp [okMask] at h
  | _ :: _, [], true :: _, i, z, h, h1, h2 => by simp [okMask] at h
structure CompScope (out sc : Scope) (NX N : List Str) (ms : List Bool) : Prop where
  kind : sc.kind = .function
  nocell : ∀ x ∈ sc.names, x.2 ≠ .cell
  own : ∀ x ∈ sc.names, x.2 = .local → sc.names.lookup x.1 = some .local
  fre : ∀ x ∈ sc.names, x.2 = .free → out.names.lookup x.1 = some .cell ∨ out.names.lookup x.1 = some .free
  nd : N.Nodup
  mask : okMask sc N NX ms = true
def Sets (g : TG) (ks : List Nat) : Prop := ∀ (x : V) (σ : St) (H : Hp) (Q Q' : St → Hp → Prop), g x σ H Q → (∀ σ2 H2, (σ2.length = σ.length ∧ ∀ i, i ∉ ks → σ2[i]? = σ[i]?) → Q σ2 H2 → Q' σ2 H2) → g x σ H Q'
theorem sets_name (i : Nat) : Sets (gName i) [i] := fun x σ H Q Q' h k => k _ _ ⟨List.length_set, fun j hj => by
  rw [List.getElem?_set_ne (fun z => hj (by simp [z]))]⟩ h
def cxComp (X : Cx) (sc : Scope) (N : List Str) (C : Addr) (ex : List Addr) (s : Shared) (H : Hp) : Cx :=
  { X with N := N, s₀ := s, H₀ := H, env := compEnvC sc (clos X.env.cells sc.names []) C X.env, outer := X.stack, ex := ex, fn := fun _ => false, pn := [], xe := fun _ _ => False }
def PTs (X : Cx) (ifs : List Expr) (t : TT) : Prop :=
  ∀ (pins : List (Addr × Obj)) (s : Shared) (σ : St) (H : Hp) (Q : Bool → Hp → Prop), Inv X pins σ H s → t σ H Q →
    wpAny (model X.prog X.w) X.A (forIn ifs true fun c r => if r = true then do let ok ← isTrue c X.env (eval c X.env); pure (ForInStep.yield ok) else pure (ForInStep.yield r)) (TP X pins σ Q) X.xe s
def tYes : TT := fun _ H Q => Q true H
theorem pts_nil {X : Cx} : PTs X [] tYes := fun pins s σ H Q I h => wpAny_tests_nil ⟨H, I, h⟩
theorem pts_one {X : Cx} {c : Expr} {t : TT} (h : PT X c t) : PTs X [c] t := fun pins s σ H Q I q => wpAny_tests_one (h pins s σ H Q I q)
def tComp (ms : List Bool) (wi : TI) (g : TG) (tc : TT) (te : TE) : TE := fun σ H Q => wi σ H fun J H1 =>
  ∃ W : Nat → Nat → List V → Hp → Prop, (∃ m, W 0 m [] H1) ∧ ∀ i m ys H, W i m ys H →
    (J.stop i H ∧ ∀ D, H D = none → Q (.ref D) (upd H D (.lst ys))) ∨
    (J.go i H ∧ ys.length < sizeLine ∧ ∃ N : List V → Hp → Prop, (∀ ys' H', N ys' H' → ∃ m', m' < m ∧ W (i + 1) m' ys' H') ∧
      ∀ x H', J.yld i H x H' → g x (maskS ms σ) H' fun σ2 H2 => tc σ2 H2 fun b H3 => if b = true then te σ2 H3 fun v H4 => N (ys ++ [v]) H4 else N ys H3)
section
variable {prog : Program} {w : World} {A : Around} {R : Result → Shared → Prop} {s : Shared}
theorem codeAny_compLoop_own {elt target iter : Expr} {ifs : List Expr} {scope : Scope} {pos : Pos} {it acc : Value} {env : Env} (I : Nat → Shared → Prop)
    (turn : ∀ n s, I n s → wpAny (model prog w) A (pyNext it) (fun r s₁ => match r with
      | none => R (.ok .next) s₁
      | some v => wpAny (model prog w) A (letOwnedTupleGo target it v) (fun _ s₁' => wpAny (model prog w) A (assign target env v) (fun _ s₂ =>
          wpAny (model prog w) A (forIn ifs true fun c r => if r = true then do let ok ← isTrue c env (eval c env); pure (ForInStep.yield ok) else pure (ForInStep.yield r)) (fun ok s₃ =>
            if ok = true then wpAny (model prog w) A (eval elt env) (fun x s₄ =>
              wpAny (model prog w) A (call (.builtin "list.append") [acc, x]) (fun _ s₅ => ∃ m, m < n ∧ I m s₅) (fun _ _ => False) s₄) (fun _ _ => False) s₃
            else ∃ m, m < n ∧ I m s₃) (fun _ _ => False) s₂) (fun _ _ => False) s₁') (fun _ _ => False) s₁) (fun _ _ => False) s)
    (n : Nat) (h : I n s) :
    codeAny (model prog w) A (.compLoop (.ListComp elt [⟨target, iter, ifs, 0⟩] scope pos) 0 it acc env) R s := by
  have fe : ∀ {α : Type} {t : Sem α} {Q : α → Shared → Prop} {E : Value → Shared → Prop} {s : Shared}, wpAny (model prog w) A t Q (fun _ _ => False) s → wpAny (model prog w) A t Q E s := fun h => wpAny_mono h (fun _ _ q => q) fun _ _ f => f.elim
  refine codeAny_loop rfl I (fun n s hI => ?_) n h
  show wpAny _ A ((compTurn (.ListComp elt [⟨target, iter, ifs, 0⟩] scope pos) 0 it acc env).onRaise (fun x => do noteFrame x env; theTreesLotGoes x)) _ _ s
  refine wpAny_noted ?_
  rw [compTurn_list]
  refine wpAny_bind (wpAny_standAt (wpAny_bind (wpAny_mono (turn n s hI) (fun r s₁ h₁ => ?_) fun _ _ f => f.elim)))
  cases r with
  | none => exact wpAny_pure h₁
  | some v =>
    refine wpAny_bind (wpAny_mono h₁ (fun _ s₁' h₁' => ?_) fun _ _ f => f.elim)
    refine wpAny_bind (wpAny_mono h₁' (fun _ s₂ h₂ => wpAny_bind (wpAny_mono h₂ (fun ok s₃ h₃ => ?_) fun _ _ f => f.elim)) fun _ _ f => f.elim)
    cases ok with
    | false => exact wpAny_pure ⟨rfl, h₃⟩
    | true =>
      exact wpAny_bind (wpAny_bind (wpAny_mono h₃ (fun x s₄ h₄ => wpAny_bind (wpAny_mono h₄ (fun _ s₅ h₅ => wpAny_pure (wpAny_pure ⟨rfl, h₅⟩)) fun _ _ f => f.elim)) fun _ _ f => f.elim))
end
section
variable {X : Cx} {pins : List (Addr × Obj)} {σ : St} {H : Hp} {s s1 : Shared} {out sc : Scope} {N : List Str} {ms : List Bool}
theorem CompScope.cells (S : CompScope out sc X.N N ms) (ho : X.env.scope = out) (ok : X.Ok) : ∀ x ∈ sc.names, x.2 = .free → ∃ c, X.env.cells.lookup x.1 = some c := fun x hx hf => by
  subst ho
  exact ok.has x.1 (S.fre x hx hf)
theorem lookup_mem {α β : Type} [BEq α] [LawfulBEq α] : ∀ {l : List (α × β)} {x : α} {y : β}, l.lookup x = some y → (x, y) ∈ l
  | [], _, _, h => by simp at h
  | (a, b) :: r, x, y, h => by
    rw [List.lookup_cons] at h
    cases q : x == a with
    | true =>
      rw [q] at h
      have e1 : x = a := by simpa using q
      have e2 : b = y := Option.some.inj h
      rw [e1, e2]
      exact List.mem_cons_self
    | false =>
      rw [q] at h
      exact List.mem_cons_of_mem _ (lookup_mem h)
theorem relabel_lookup {env : Env} : ∀ {names : List (Str × NameKind)} {x : Str} {k : NameKind}, (∀ y ∈ names, y.2 ≠ .cell) →
    (names.map fun (n, k) => if (k == NameKind.free && env.scope.kind == .function && env.kindOf n == some .cell) then (n, NameKind.cell) else (n, k)).lookup x = some k → (k = .cell ∨ k = .free) → names.lookup x = some .free
  | [], _, _, _, h, _ => by simp at h
  | (n, k') :: r, x, k, hc, h, hk => by
    have hc' : ∀ y ∈ r, y.2 ≠ .cell := fun y hy => hc y (List.mem_cons_of_mem _ hy)
    have ih := @relabel_lookup env r x k hc'
    have hk' : k' ≠ .cell := hc (n, k') List.mem_cons_self
    replace h : List.lookup x ((if (k' == NameKind.free && env.scope.kind == .function && env.kindOf n == some .cell) = true then (n, NameKind.cell) else (n, k')) :: _) = some k := h
    cases hx : x == n with
    | true =>
      by_cases hb : (k' == NameKind.free && env.scope.kind == .function && env.kindOf n == some .cell) = true
      · rw [Bool.and_eq_true, Bool.and_eq_true] at hb
        have e : k' = .free := by simpa using hb.1.1
        rw [List.lookup_cons, hx, e]
      · rw [if_neg hb, List.lookup_cons, hx] at h
        have e : k' = k := Option.some.inj h
        rw [List.lookup_cons, hx, e]
        rcases hk with z | z
        · exact absurd (e.trans z) hk'
        · rw [z]
    | false =>
      have h2 : List.lookup x (r.map fun (n, k) => if (k == NameKind.free && env.scope.kind == .function && env.kindOf n == some .cell) then (n, NameKind.cell) else (n, k)) = some k := by
        by_cases hb : (k' == NameKind.free && env.scope.kind == .function && env.kindOf n == some .cell) = true
        · rw [if_pos hb, List.lookup_cons, hx] at h; exact h
        · rw [if_neg hb, List.lookup_cons, hx] at h; exact h
      rw [List.lookup_cons, hx]
      exact ih h2 hk
theorem relabel_local {env : Env} : ∀ {names : List (Str × NameKind)} {x : Str},
    (names.map fun (n, k) => if (k == NameKind.free && env.scope.kind == .function && env.kindOf n == some .cell) then (n, NameKind.cell) else (n, k)).lookup x = some .local → names.lookup x = some .local
  | [], _, h => by simp at h
  | (n, k') :: r, x, h => by
    have ih := @relabel_local env r x
    replace h : List.lookup x ((if (k' == NameKind.free && env.scope.kind == .function && env.kindOf n == some .cell) = true then (n, NameKind.cell) else (n, k')) :: _) = some .local := h
    cases hx : x == n with
    | true =>
      by_cases hb : (k' == NameKind.free && env.scope.kind == .function && env.kindOf n == some .cell) = true
      · rw [if_pos hb, List.lookup_cons, hx] at h
        have e : NameKind.cell = .local := Option.some.inj h
        cases e
      · rw [if_neg hb, List.lookup_cons, hx] at h
        rw [List.lookup_cons, hx]
        exact h
    | false =>
      rw [List.lookup_cons, hx]
      refine ih ?_
      by_cases hb : (k' == NameKind.free && env.scope.kind == .function && env.kindOf n == some .cell) = true
      · rw [if_pos hb, List.lookup_cons, hx] at h; exact h
      · rw [if_neg hb, List.lookup_cons, hx] at h; exact h
theorem Inv.block (I : Inv X pins σ H s) (S : CompScope out sc X.N N ms) (ho : X.env.scope = out) {C : Addr} {ex : List Addr} {t' : Nat} {h1 : Heap} {m : Str → Option Value} (hex : ∀ b ∈ ex, FpOk X pins H b) (hlt : ∀ b ∈ ex, b < s.heap.objs.size)
    (hC : s.heap.objs.size ≤ C) (hn : h1.Ns C m) (kp : ∀ b o, s.heap.get? b = some o → h1.get? b = some o) : Inv (cxComp X sc N C ex s H) [] (maskS ms σ) H { s with heap := h1, toks := t' } := by
  have hcells := S.cells ho I.ok
  have clk : ∀ x c, (clos X.env.cells sc.names []).lookup x = some c → X.env.cells.lookup x = some c := clos_lookup sc.names [] hcells (fun x c e => by simp at e)
  have seen : ∀ x, ((relabel sc X.env).names.lookup x = some .cell ∨ (relabel sc X.env).names.lookup x = some .free) → sc.names.lookup x = some .free := fun x hx => by
    rcases hx with z | z
    · exact relabel_lookup S.nocell z (.inl rfl)
    · exact relabel_lookup S.nocell z (.inr rfl)
  have hasC : ∀ x, sc.names.lookup x = some .free → ∃ c, (clos X.env.cells sc.names []).lookup x = some c := fun x hx => clos_has sc.names [] x (.inl (lookup_mem hx))
  have ok : (cxComp X sc N C ex s H).Ok := by
    refine ⟨I.ok.mod, S.kind, I.ok.glob, I.ok.blt, hC, fun x y c e1 e2 => I.ok.inj x y c (clk x c e1) (clk y c e2), fun x hx => hasC x (seen x hx), fun x c e => (by cases e), I.ok.hd, I.ok.frames, .inl rfl, fun b hb => ⟨?_, fun x c e => (hex b hb).2.2.2.2.1 x c (clk x c e)⟩, I.bs, ?_, fun b o e hb => ?_, fun b hb hb' => ?_, I.stack, I.stkFree⟩
    · exact Nat.ne_of_lt (Nat.lt_of_lt_of_le (hlt b hb) hC)
    · exact Nat.le_trans I.ok.bsz I.sz
    · rcases (hex b hb).2.2.2.1 with z | z
      · exact I.ok.noex b o e z
      · exact absurd (Nat.lt_of_lt_of_le (Heap.lt_size (I.ok.bs b o e).1) z) (Nat.lt_irrefl _)
    · rcases List.mem_cons.mp (I.stkSub b hb') with z | z
      · exact (hex b hb).2.1 z
      · exact (hex b hb).2.2.1 z
  obtain ⟨m0, _, hl0⟩ := I.loc
  refine ⟨ok, rfl, I.bare, Un.kept kp, ⟨m, hn, fun i x v e1 e2 e3 => ?_⟩, fun x c e => ?_, I.hok.fresh hC, fun x c e => I.freeC x c (clk x c e), fun p hp => absurd hp (by show p ∉ ([] ++ [] : List (Addr × Obj)); simp), I.hok.kept kp, ?_⟩
  · obtain ⟨g1, g2⟩ := maskS_get e2
    obtain ⟨g3, g4⟩ := okMask_at S.mask e1 g1
    have e3 : (relabel sc X.env).names.lookup x = some .local ∨ (relabel sc X.env).names.lookup x = some .cell ∨ (relabel sc X.env).names.lookup x = some .free := e3
    rcases e3 with z | z
    · exact absurd (relabel_local z) g4
    · have q := seen x z
      have w := S.fre (x, .free) (lookup_mem q) rfl
      have w : X.env.scope.names.lookup x = some .cell ∨ X.env.scope.names.lookup x = some .free := by rw [ho]; exact w
      obtain ⟨u, r, l⟩ := hl0 i x v g3 g2 (.inr w)
      refine ⟨u, r, ?_⟩
      rcases l with ⟨l, _⟩ | ⟨_, c, hc, o, hco, hcd⟩
      · have l : X.env.scope.names.lookup x = some .local := l
        rcases w with w | w <;> (rw [l] at w; cases w)
      · obtain ⟨c', hc'⟩ := hasC x q
        have e : c' = c := Option.some.inj ((clk x c' hc').symm.trans hc)
        subst e
        exact .inr ⟨z, c', hc', o, kp _ _ hco, hcd⟩
  · obtain ⟨v, o, hco, hcd⟩ := I.cell x c (clk x c e)
    exact ⟨v, o, kp _ _ hco, hcd⟩
  · rw [maskS_length, okMask_len S.mask]; rfl
variable {elt iter tg : Expr} {ifs : List Expr} {pos : Pos} {wi : TI} {g : TG} {tc : TT} {te : TE} {ks : List Nat}
theorem comp_core {E : Value → Shared → Prop} {RR : Value → Addr → Result → Shared → Prop} {it : Addr} {fp : List Addr} {tn : Nat → Heap → Prop} {J : It} {Qv : VK} (S : CompScope out sc X.N N ms) (ho : X.env.scope = out) (hc : X.calm = true) (hks : ∀ k ∈ ks, ms[k]? = some false) (hst : Sets g ks)
    (hg : ∀ C ex s H, PG (cxComp X sc N C ex s H) tg g) (ht : ∀ C ex s H, PTs (cxComp X sc N C ex s H) ifs tc) (he : ∀ C ex s H, PE (cxComp X sc N C ex s H) elt te)
    (I : Inv X pins σ H s) (T : Turn X.prog X.w X.K tg J fp it tn) (st0 : tn 0 s.heap) (f0 : ∀ b ∈ fp, FpOk X pins H b)
    (h : ∃ W : Nat → Nat → List V → Hp → Prop, (∃ m, W 0 m [] H) ∧ ∀ i m ys H, W i m ys H →
      (J.stop i H ∧ ∀ D, H D = none → Qv (.ref D) (upd H D (.lst ys))) ∨
      (J.go i H ∧ ys.length < sizeLine ∧ ∃ N : List V → Hp → Prop, (∀ ys' H', N ys' H' → ∃ m', m' < m ∧ W (i + 1) m' ys' H') ∧
        ∀ x H', J.yld i H x H' → g x (maskS ms σ) H' fun σ2 H2 => tc σ2 H2 fun b H3 => if b = true then te σ2 H3 fun v H4 => N (ys ++ [v]) H4 else N ys H3))
    (hRR : ∀ D C H' s' m', Inv X pins σ H' s' → H' C = none → s.heap.objs.size ≤ C → s'.heap.Ns C m' → Qv (.ref D) H' → RR (.ref D) C (.ok .next) s') :
    wpAny (model X.prog X.w) X.A (newList []) (fun acc s₃ => wpAny (model X.prog X.w) X.A (newFunctionEnv sc X.env.globals (clos X.env.cells sc.names []) [] X.env.qual none .none (some X.env)) (fun cenv s₄ =>
      codeAny (model X.prog X.w) X.A (.compStart (.ListComp elt [⟨tg, iter, ifs, 0⟩] sc pos) 0 (.ref it) acc { cenv with scope := relabel sc X.env }) (RR acc cenv.locals) s₄) E s₃) E s := by
  obtain ⟨W, ⟨m0, w0⟩, turn⟩ := h
  refine wpAny_newObj_type (wpAny_newFunctionEnv S.nocell (by intro y hy; simp at hy) (fun h₁ hns₁ hsb₁ => ?_) S.kind)
  dsimp only at hns₁ hsb₁ ⊢
  generalize hH2 : s.heap.push { cls := .type "list", dict := none, data := .seq ([] : List Value).toArray } = H2 at hns₁ hsb₁ ⊢
  generalize hDe : s.heap.objs.size = D at hns₁ hsb₁ ⊢
  generalize hCe : H2.objs.size = C at hns₁ hsb₁ ⊢
  have hCD : C = D + 1 := by rw [← hCe, ← hH2, Heap.size_push, hDe]
  have hDs : s.heap.objs.size ≤ D := Nat.le_of_eq hDe
  have hCs : s.heap.objs.size ≤ C := by omega
  have hDC : D ≠ C := by omega
  have below : ∀ b, b < s.heap.objs.size → b ≠ C ∧ b ≠ D := fun b hb => ⟨by omega, by omega⟩
  have old : ∀ b o, s.heap.get? b = some o → h₁.get? b = some o := fun b o e => hsb₁.extBut b o (below b (Heap.lt_size e)).1 (Heap.get?_push_of_some _ (hH2 ▸ Heap.get?_push_of_some _ e))
  have objD : h₁.get? D = some { cls := .type "list", dict := none, data := .seq ([] : List Value).toArray } := hsb₁.extBut _ _ hDC (Heap.get?_push_of_some _ (hH2 ▸ hDe ▸ Heap.get?_push_size _ rfl))
  have flt : ∀ b ∈ fp, b < s.heap.objs.size := fun b hb => by
    obtain ⟨o, e, _⟩ := T.obj 0 _ st0 b hb
    exact Heap.lt_size e
  have hcells := S.cells ho I.ok
  have clk : ∀ x c, (clos X.env.cells sc.names []).lookup x = some c → c < s.heap.objs.size := fun x c e => by
    obtain ⟨v, o, hco, _⟩ := I.cell x c (clos_lookup sc.names [] hcells (fun x c e => by simp at e) x c e)
    exact Heap.lt_size hco
  generalize hX : cxComp X sc N C fp s H = Y
  have hgY : PG Y tg g := hX ▸ hg C fp s H
  have htY : PTs Y ifs tc := hX ▸ ht C fp s H
  have heY : PE Y elt te := hX ▸ he C fp s H
  have Yprog : Y.prog = X.prog := by rw [← hX]; rfl
  have Yw : Y.w = X.w := by rw [← hX]; rfl
  have YK : Y.K = X.K := by rw [← hX]; rfl
  have Ycalm : Y.calm = true := by rw [← hX]; exact hc
  have YA : Y.A = X.A := by rw [← hX]; rfl
  have Yxe : Y.xe = fun _ _ => False := by rw [← hX]; rfl
  have Ypn : Y.pn = [] := by rw [← hX]; rfl
  have Yex : Y.ex = fp := by rw [← hX]; rfl
  have Ys0 : Y.s₀ = s := by rw [← hX]; rfl
  have YH0 : Y.H₀ = H := by rw [← hX]; rfl
  have Yfs : Y.fs = frs X.stack := by rw [← hX]; rfl
  have YL : Y.env.locals = C := by rw [← hX]; rfl
  have Ycl : Y.env.cells = clos X.env.cells sc.names [] := by rw [← hX]; rfl
  have Yenv : Y.env = { (newEnv sc C X.env.globals (clos X.env.cells sc.names []) X.env.qual none .none (some X.env) 0) with scope := relabel sc X.env } := by rw [← hX]; rfl
  have IY0 : ∀ t', Inv Y [] (maskS ms σ) H { s with heap := h₁, toks := t' } := fun t' => by rw [← hX]; exact I.block S ho f0 flt hCs hns₁ old
  have fpY : ∀ {H' : Hp} {ps : List (Addr × Obj)}, (∀ b ∈ fp, H' b = none) → (∀ p ∈ ps, p.1 = D) → ∀ b ∈ fp, FpOk Y ps H' b := fun {H' ps} hn hp b hb => by
    refine ⟨hn b hb, by rw [YL]; exact (below b (flt b hb)).1, fun z => ?_, .inl (by rw [Yex]; exact hb), fun x c e z => ?_, fun p hp' z => ?_⟩
    · rw [Yfs] at z
      rcases List.mem_cons.mp (I.stkSub b z) with y | y
      · exact (f0 b hb).2.1 y
      · exact (f0 b hb).2.2.1 y
    · rw [Ycl] at e
      exact (f0 b hb).2.2.2.2.1 x c (clos_lookup sc.names [] hcells (fun x c e => by simp at e) x c e) z
    · rw [Ypn] at hp'
      exact (below b (flt b hb)).2 (z.symm.trans (hp p hp'))
  have dY : ∀ {H' : Hp} {ps : List (Addr × Obj)}, H' D = none → (∀ p ∈ ps, p.1 ∈ fp) → FpOk Y ps H' D := fun {H' ps} hn hp => by
    refine ⟨hn, by rw [YL]; exact hDC, fun z => ?_, .inr (by rw [Ys0]; exact hDs), fun x c e z => ?_, fun p hp' z => ?_⟩
    · rw [Yfs] at z
      have q : H D = none := I.stkFree D z
      rcases List.mem_cons.mp (I.stkSub D z) with y | y
      · exact (below _ I.lt).2 y.symm
      · exact I.nofs hDs y
    · rw [Ycl] at e
      exact (below c (clk x c e)).2 z
    · rw [Ypn] at hp'
      exact (below p.1 (flt p.1 (hp p hp'))).2 z
  have wk : ∀ {σ6 : St}, (σ6.length = (maskS ms σ).length ∧ ∀ i, i ∉ ks → σ6[i]? = (maskS ms σ)[i]?) → (∀ (i : Nat) v, (maskS ms σ)[i]? = some (some v) → σ6[i]? = some (some v)) := fun {σ6} hf i v e => by
    rw [hf.2 i (fun z => ?_)]
    · exact e
    · have q := (maskS_get e).1
      rw [hks i z] at q
      cases q
  have loop : ∀ t', codeAny (model X.prog X.w) X.A (.compLoop (.ListComp elt [⟨tg, iter, ifs, 0⟩] sc pos) 0 (.ref it) (.ref D) Y.env) (RR (.ref D) C) { s with heap := h₁, toks := t' } := fun t' => by
    refine codeAny_compLoop_own (fun n s' => ∃ i ys H', Inv Y [] (maskS ms σ) H' s' ∧ tn i s'.heap ∧ (∀ b ∈ fp, H' b = none) ∧ H' D = none ∧ (∃ (its : List Value) (n : Nat), Vals ys its ∧ s'.heap.get? D = some { cls := .type "list", data := .seq its.toArray n }) ∧ ys.length ≤ sizeLine ∧ W i n ys H') ?_ m0
      ⟨0, [], H, IY0 t', T.keep _ _ _ st0 (fun b _ o e => old b o e), fun b hb => (f0 b hb).1, I.hok.fresh hDs, ⟨[], _, .nil, objD⟩, Nat.zero_le _, w0⟩
    rintro n s3 ⟨i, ys, H3, I3, st3, fr3, hD3, ⟨its, nn, vs3, ob3⟩, hl3, w3⟩
    rcases turn i n ys H3 w3 with ⟨stop, qn⟩ | ⟨go, hlen, NN, hN, step⟩
    · have z := T.done Y Yprog Yw YK Ycalm i (pinsAt [D] s3.heap) s3 (maskS ms σ) H3 (fun _ _ => False) (I3.pinned (fp := [D]) (pins := []) (fun b hb => ?c1) (fun b hb => ?c2)) (fpY fr3 (fun p hp => ?c3)) st3 stop
      case c1 => rw [List.mem_singleton.mp hb]; exact dY hD3 (fun p hp => absurd hp (by simp))
      case c2 => rw [List.mem_singleton.mp hb]; exact ⟨_, ob3, fun v e => by cases e⟩
      case c3 => exact List.mem_singleton.mp (of_pinsAt hp).1
      rw [YA] at z
      refine wpAny_mono z (fun r s4 hr4 => ?_) fun _ _ f => f
      obtain ⟨hr, I4⟩ := hr4
      subst hr
      obtain ⟨obD, hD4, _⟩ := I4.pin (D, _) (List.mem_append_right _ (mem_pinsAt (List.mem_singleton.mpr rfl) ob3))
      have b4 := I4.base
      rw [Yfs, Yex, YH0, Ys0] at b4
      have hok4 := I4.hok
      rw [Yprog, Yw] at hok4
      have I5 : Inv X pins σ H3 s4 := I.call' (ch := fp) (by rw [I4.os, Ys0]) b4 hok4 I4.bare (fun b hb => ⟨(f0 b hb).2.2.2.1, (f0 b hb).2.1, (f0 b hb).2.2.2.2.1, (f0 b hb).2.2.2.2.2⟩)
      have nC : H3 C = none := by rw [← YL]; exact I4.free
      obtain ⟨m4, hm4, _⟩ := I4.loc
      rw [YL] at hm4
      refine hRR D C (upd H3 D (.lst ys)) s4 m4 (I5.track hD4 (Nat.le_trans I.sz hDs) (fun z => (below _ I.lt).2 z.symm) (fun x c e => ?_) (fun p hp => ?_) ⟨hl3, its, nn, vs3, obD⟩) (by rw [upd_ne (Ne.symm hDC)]; exact nC) hCs hm4 (qn D hD4)
      · obtain ⟨v, o, hco, _⟩ := I.cell x c e
        exact (below c (Heap.lt_size hco)).2
      · exact (below _ (Heap.lt_size (I.pin p hp).1)).2
    · have z := T.item Y Yprog Yw YK Ycalm i (pinsAt [D] s3.heap) s3 (maskS ms σ) H3 (fun _ _ => False) (I3.pinned (fp := [D]) (pins := []) (fun b hb => ?c1) (fun b hb => ?c2)) (fpY fr3 (fun p hp => ?c3)) st3 go
      case c1 => rw [List.mem_singleton.mp hb]; exact dY hD3 (fun p hp => absurd hp (by simp))
      case c2 => rw [List.mem_singleton.mp hb]; exact ⟨_, ob3, fun v e => by cases e⟩
      case c3 => exact List.mem_singleton.mp (of_pinsAt hp).1
      rw [YA] at z
      refine wpAny_mono z (fun r s4 hr4 => ?_) fun _ _ f => f
      obtain ⟨u, hr, h4⟩ := hr4
      subst hr
      refine wpAny_mono h4 (fun _ s5 h5 => ?_) fun _ _ f => f
      obtain ⟨x, H5, I5, r5, y5, st5, fr5⟩ := h5
      have I5' := I5.pinned (fpY fr5 (fun p hp => List.mem_singleton.mp (of_pinsAt hp).1)) (T.obj _ _ st5)
      have q5 := hst x (maskS ms σ) H5 _ (fun σ2 H2 => (σ2.length = (maskS ms σ).length ∧ ∀ i, i ∉ ks → σ2[i]? = (maskS ms σ)[i]?) ∧ (tc σ2 H2 fun b H3 => if b = true then te σ2 H3 fun v H4 => NN (ys ++ [v]) H4 else NN ys H3)) (step x H5 y5) (fun σ2 H2 f q => ⟨f, q⟩)
      have z5 := hgY _ s5 (maskS ms σ) H5 x u _ I5' r5 q5
      rw [Yprog, Yw, YA, Yxe] at z5
      refine wpAny_mono z5 (fun _ s6 h6 => ?_) fun _ _ f => f
      obtain ⟨σ6, H6, I6, f6, q6⟩ := h6
      have z6 := htY _ s6 σ6 H6 _ I6 q6
      rw [Yprog, Yw, YA, Yxe] at z6
      refine wpAny_mono z6 (fun b s7 h7 => ?_) fun _ _ f => f
      obtain ⟨H7, I7, q7⟩ := h7
      have back : ∀ {H8 : Hp} {s8 : Shared}, Inv Y (([] ++ pinsAt [D] s3.heap) ++ pinsAt fp s5.heap) σ6 H8 s8 → (∀ b ∈ fp, H8 b = none) ∧ H8 D = none ∧ s8.heap.get? D = some { cls := .type "list", data := .seq its.toArray nn } ∧ (∀ b ∈ fp, ∀ o, s5.heap.get? b = some o → s8.heap.get? b = some o) ∧ Inv Y (pinsAt fp s5.heap) σ6 H8 s8 := fun {H8 s8} I8 => by
        obtain ⟨obD, hD8, _⟩ := I8.pin (D, _) (List.mem_append_right _ (List.mem_append_left _ (List.mem_append_right _ (mem_pinsAt (List.mem_singleton.mpr rfl) ob3))))
        refine ⟨fun b hb => ?_, hD8, obD, fun b hb o e => (I8.pin (b, o) (List.mem_append_right _ (List.mem_append_right _ (mem_pinsAt hb e)))).1, I8.pins_of fun p hp => I8.pin p (List.mem_append_right _ (List.mem_append_right _ hp))⟩
        obtain ⟨o, e, _⟩ := T.obj _ _ st5 b hb
        exact (I8.pin (b, o) (List.mem_append_right _ (List.mem_append_right _ (mem_pinsAt hb e)))).2.1
      cases b with
      | false =>
        have q7 : NN ys H7 := q7
        obtain ⟨m', hm', w'⟩ := hN _ _ q7
        obtain ⟨k1, k2, k3, k4, k5⟩ := back I7
        show ∃ m, m < n ∧ _
        exact ⟨m', hm', i + 1, ys, H7, (k5.pins_of (fun p hp => absurd hp (by simp))).weak f6.1.symm (wk f6), T.keep _ _ _ st5 k4, k1, k2, ⟨its, nn, vs3, k3⟩, hl3, w'⟩
      | true =>
        have q7 : te σ6 H7 fun v H4 => NN (ys ++ [v]) H4 := q7
        have z7 := heY _ s7 σ6 H7 _ I7 q7
        rw [Yprog, Yw, YA, Yxe] at z7
        show wpAny _ _ _ _ _ _
        refine wpAny_mono z7 (fun v s8 h8 => ?_) fun _ _ f => f
        obtain ⟨v8, H8, I8, r8, q8⟩ := h8
        obtain ⟨k1, k2, k3, k4, k5⟩ := back I8
        have I9 : Inv Y (pinsAt fp s5.heap) σ6 (upd H8 D (.lst ys)) s8 := k5.track k2 (by rw [Ys0]; exact hDs) (by rw [YL]; exact hDC) (fun x c e z => (below c (clk x c (by rw [Ycl] at e; exact e))).2 z) (fun p hp => by
          rw [Ypn] at hp
          exact (below p.1 (flt p.1 (of_pinsAt hp).1)).2) ⟨hl3, its, nn, vs3, k3⟩
        have z8 := mt_append (X := Y) (pinsAt fp s5.heap) s8 σ6 (upd H8 D (.lst ys)) (.ref D) [v8] (.ref D) [v] (fun _ H9 => H9 = upd (upd H8 D (.lst ys)) D (.lst (ys ++ [v8]))) I9 rfl (.cons r8 .nil) ⟨D, ys, v8, rfl, rfl, upd_same, hlen, rfl⟩
        rw [Yprog, Yw, YA, Yxe] at z8
        refine wpAny_mono z8 (fun _ s9 h9 => ?_) fun _ _ f => f
        obtain ⟨_, H9, I9', _, e9⟩ := h9
        subst e9
        rw [upd_upd] at I9'
        have I10 := I9'.untrack k2
        obtain ⟨m', hm', w'⟩ := hN _ _ q8
        have ok9 : ObjOk Y.prog Y.w _ s9.heap D (.lst (ys ++ [v8])) := I9'.hok D _ upd_same
        obtain ⟨l9, its9, n9, vs9, ob9⟩ := ok9
        refine ⟨m', hm', i + 1, ys ++ [v8], H8, (I10.pins_of (fun p hp => absurd hp (by simp))).weak f6.1.symm (wk f6), T.keep _ _ _ st5 (fun b hb o e => ?_), k1, k2, ⟨its9, n9, vs9, ob9⟩, l9, w'⟩
        exact (I10.pin (b, o) (List.mem_append_right _ (mem_pinsAt hb e))).1
  have z := fun t' => codeAny_compStart_list (loop t') (T.self _ 0 _ _ _ (T.keep _ _ _ st0 (fun b _ o e => old b o e)) (loop t'))
  rw [Yenv] at z
  exact z _
theorem pe_comp {NX : List Str} (S : CompScope out sc NX N ms) (ho : X.env.scope = out) (hnx : X.N = NX) (hc : X.calm = true) (hi : PI X tg iter wi) (hst : Sets g ks) (hks : ∀ k ∈ ks, ms[k]? = some false)
    (hg : ∀ C ex s H, PG (cxComp X sc N C ex s H) tg g) (ht : ∀ C ex s H, PTs (cxComp X sc N C ex s H) ifs tc) (he : ∀ C ex s H, PE (cxComp X sc N C ex s H) elt te)
    (hs : ∀ x, foldedSetIterable iter X.env x = pure x := by intro _; rfl) : PE X (.ListComp elt [⟨tg, iter, ifs, 0⟩] sc pos) (tComp ms wi g tc te) := by
  intro pins s σ H Q I h
  subst hnx
  rw [eval_ListComp]
  refine wpAny_comprehension_free (use := none) (g := ⟨tg, iter, ifs, 0⟩) (gs := []) rfl hs (closureFor_eq (S.cells ho I.ok)) S.kind S.own (thn (hi pins s σ H _ I h) fun v s1 h1 => thn h1 fun itv s2 h2 => ?_)
  obtain ⟨it, fp, tn, J, H2, e, I2, T, st2, f2, hW⟩ := h2
  subst e
  refine comp_core (Qv := Q) S ho hc hks hst hg ht he I2 T st2 f2 hW ?_
  intro D C H' s' m' I' nC hC hm q
  refine ⟨m', hm, fun h' sb => ⟨.ref D, H', ?_, rfl, q⟩⟩
  exact I'.turned (t' := s'.toks) (it := C) (fun b o hb e => sb.extBut b o hb e) nC (Ne.symm (Nat.ne_of_lt (Nat.lt_of_lt_of_le I2.lt hC))) (.inr (Nat.le_trans I2.sz hC)) (fun x c e => by
    obtain ⟨v, o, hco, _⟩ := I2.cell x c e
    exact Nat.ne_of_lt (Nat.lt_of_lt_of_le (Heap.lt_size hco) hC)) (fun p hp => Nat.ne_of_lt (Nat.lt_of_lt_of_le (Heap.lt_size (I2.pin p hp).1) hC))
theorem ps_comp {NX : List Str} {i : Nat} {y : Str} {py spos : Pos} (S : CompScope out sc NX N ms) (ho : X.env.scope = out) (hnx : X.N = NX) (hc : X.calm = true) (hN : X.N.Nodup) (hy : X.N[i]? = some y) (hx : Loc X.env.scope y) (hi : PI X tg iter wi) (hst : Sets g ks) (hks : ∀ k ∈ ks, ms[k]? = some false)
    (hg : ∀ C ex s H, PG (cxComp X sc N C ex s H) tg g) (ht : ∀ C ex s H, PTs (cxComp X sc N C ex s H) ifs tc) (he : ∀ C ex s H, PE (cxComp X sc N C ex s H) elt te)
    (hsw : swapsWith (.ListComp elt [⟨tg, iter, ifs, 0⟩] sc pos) (some (.Name y py)) spos.line X.env = pure true)
    (hs : ∀ x, foldedSetIterable iter X.env x = pure x := by intro _; rfl) (hf : X.fn y = true ∨ X.env.scope.names.lookup y = some .local := by first | exact .inl rfl | exact .inr rfl | assumption) :
    PS X (.Assign [.Name y py] (.ListComp elt [⟨tg, iter, ifs, 0⟩] sc pos) spos) (tAsg (tComp ms wi g tc te) (gName i)) := by
  intro pins s σ H Dn I h
  subst hnx
  rw [exec_Assign_Name_used _ _ _ _ hsw]
  refine wpAny_bind (wpAny_standAt (wpAny_bind ?_))
  show wpAny _ X.A (do let _ ← comprehension (.ListComp elt [⟨tg, iter, ifs, 0⟩] sc pos) sc X.env _ (newList []) false (eval iter X.env) (some (assign (.Name y py) X.env))) _ _ s
  refine wpAny_bind (wpAny_mono (wpAny_comprehension_free (use := some (assign (.Name y py) X.env)) (g := ⟨tg, iter, ifs, 0⟩) (gs := []) (Q := fun _ s' => SP X pins Dn .next s') rfl hs (closureFor_eq (S.cells ho I.ok)) S.kind S.own (thn (hi pins s σ H _ I h) fun v s1 h1 => thn h1 fun itv s2 h2 => ?_))
    (fun _ s' hq => wpAny_pure (wpAny_pure hq)) fun _ _ e => e)
  obtain ⟨it, fp, tn, J, H2, e, I2, T, st2, f2, hW⟩ := h2
  subst e
  refine comp_core (Qv := fun x H1 => gName i x σ H1 Dn.nx) S ho hc hks hst hg ht he I2 T st2 f2 hW ?_
  intro D C H' s' m' I' nC hC hm q
  have cne : ∀ x c, X.env.cells.lookup x = some c → c ≠ C := fun x c e => by
    obtain ⟨v, o, hco, _⟩ := I2.cell x c e
    exact Nat.ne_of_lt (Nat.lt_of_lt_of_le (Heap.lt_size hco) hC)
  have lne : C ≠ X.env.locals := Ne.symm (Nat.ne_of_lt (Nat.lt_of_lt_of_le I2.lt hC))
  show wpAny _ X.A (assign (.Name y py) X.env (.ref D)) _ _ _
  refine wpAny_assign_Name (store_ok2 (v := .ref D) I' hN hy hx rfl (fun s'' I'' hsb => ?_) hf)
  obtain ⟨a, sba, ha⟩ := hsb
  have aC : C ≠ a := by
    rcases ha with z | z
    · rw [z]; exact lne
    · exact Ne.symm (cne y a z)
  refine ⟨m', hm.sameBut sba aC, fun h' sb => ⟨_, H', ?_, q⟩⟩
  exact I''.turned (t' := s''.toks) (it := C) (fun b o hb e => sb.extBut b o hb e) nC lne (.inr (Nat.le_trans I2.sz hC)) cne (fun p hp => Nat.ne_of_lt (Nat.lt_of_lt_of_le (Heap.lt_size (I2.pin p hp).1) hC))
end
theorem comp_list {K : PySem.W.Frag} {a : Addr} {xs : List V} {B : V → List V → (List V → Hp → Prop) → Hp → Prop} {Z : List V → Hp → Prop} {H : Hp} (Pv : Nat → List V → Hp → Prop) (h0 : Pv 0 [] H) (hl : ∀ i ys H, i ≤ xs.length → Pv i ys H → SqL K H a xs)
    (hy : ∀ i ys H, i < xs.length → Pv i ys H → ys.length < sizeLine) (hs : ∀ i x ys H, xs[i]? = some x → Pv i ys H → B x ys (Pv (i + 1)) H) (hd : ∀ ys H, Pv xs.length ys H → Z ys H) :
    ∃ W : Nat → Nat → List V → Hp → Prop, (∃ m, W 0 m [] H) ∧ ∀ i m ys H, W i m ys H →
      ((Itl K a).stop i H ∧ Z ys H) ∨ ((Itl K a).go i H ∧ ys.length < sizeLine ∧ ∃ N : List V → Hp → Prop, (∀ ys' H', N ys' H' → ∃ m', m' < m ∧ W (i + 1) m' ys' H') ∧ ∀ x H', (Itl K a).yld i H x H' → B x ys N H') := by
  refine ⟨fun i m ys H => m = xs.length - i ∧ i ≤ xs.length ∧ Pv i ys H, ⟨xs.length, by simp, Nat.zero_le _, h0⟩, ?_⟩
  rintro i m ys H ⟨rfl, hi, p⟩
  have q := hl i ys H hi p
  by_cases hlt : i < xs.length
  · refine .inr ⟨⟨xs, xs[i], q, by simp [hlt]⟩, hy i ys H hlt p, Pv (i + 1), fun ys' H' p' => ⟨xs.length - (i + 1), by omega, rfl, hlt, p'⟩, fun x H' y => ?_⟩
    obtain ⟨e, y⟩ := y
    subst e
    exact hs i x ys _ (y xs q) p
  · have e : i = xs.length := by omega
    subst e
    exact .inl ⟨⟨xs, q, Nat.le_refl _⟩, hd ys H p⟩
theorem comp_range {lo : Int} {n : Nat} {B : V → List V → (List V → Hp → Prop) → Hp → Prop} {Z : List V → Hp → Prop} {H : Hp} (Pv : Nat → List V → Hp → Prop) (h0 : Pv 0 [] H)
    (hy : ∀ i ys H, i < n → Pv i ys H → ys.length < sizeLine) (hs : ∀ i ys H, i < n → Pv i ys H → B (.int (lo + i)) ys (Pv (i + 1)) H) (hd : ∀ ys H, Pv n ys H → Z ys H) :
    ∃ W : Nat → Nat → List V → Hp → Prop, (∃ m, W 0 m [] H) ∧ ∀ i m ys H, W i m ys H →
      ((Itr lo n).stop i H ∧ Z ys H) ∨ ((Itr lo n).go i H ∧ ys.length < sizeLine ∧ ∃ N : List V → Hp → Prop, (∀ ys' H', N ys' H' → ∃ m', m' < m ∧ W (i + 1) m' ys' H') ∧ ∀ x H', (Itr lo n).yld i H x H' → B x ys N H') := by
  refine ⟨fun i m ys H => m = n - i ∧ i ≤ n ∧ Pv i ys H, ⟨n, by simp, Nat.zero_le _, h0⟩, ?_⟩
  rintro i m ys H ⟨rfl, hi, p⟩
  by_cases hlt : i < n
  · refine .inr ⟨hlt, hy i ys H hlt p, Pv (i + 1), fun ys' H' p' => ⟨n - (i + 1), by omega, rfl, hlt, p'⟩, fun x H' y => ?_⟩
    obtain ⟨e, y⟩ := y
    subst e y
    exact hs i ys _ hlt p
  · have e : i = n := by omega
    subst e
    exact .inl ⟨Nat.le_refl _, hd ys H p⟩
end L2
namespace L2
open PySem PySem.Spec PyProof.Rows
inductive Dt where
  | non | bl (b : Bool) | int (i : Int) | str (x : Str) | tup (l : List Dt) | lst (l : List Dt)
mutual
def dEq : Dt → Dt → Bool
  | .non, .non => true
  | .bl a, .bl b => a == b
  | .bl a, .int b => (if a then 1 else 0) == b
  | .int a, .bl b => a == (if b then 1 else 0)
  | .int a, .int b => a == b
  | .str a, .str b => a == b
  | .tup l, .tup m => dEqs l m
  | .lst l, .lst m => dEqs l m
  | _, _ => false
def dEqs : List Dt → List Dt → Bool
  | [], [] => true
  | a :: l, b :: m => dEq a b && dEqs l m
  | _, _ => false
end
mutual
def dep : Dt → Nat
  | .tup l => deps l + 1
  | .lst l => deps l + 1
  | _ => 0
def deps : List Dt → Nat
  | [] => 0
  | a :: l => max (dep a) (deps l)
end
mutual
def Is (K : PySem.W.Frag) (H : Hp) : Dt → V → Prop
  | .non, v => v = .non
  | .bl b, v => v = .bl b
  | .int i, v => v = .int i
  | .str x, v => v = .str x
  | .tup l, v => ∃ a xs, v = .ref a ∧ SqT K H a xs ∧ Iss K H l xs
  | .lst l, v => ∃ a xs, v = .ref a ∧ SqL K H a xs ∧ Iss K H l xs
def Iss (K : PySem.W.Frag) (H : Hp) : List Dt → List V → Prop
  | [], vs => vs = []
  | d :: l, vs => ∃ v r, vs = v :: r ∧ Is K H d v ∧ Iss K H l r
end
theorem Iss.length {K : PySem.W.Frag} {H : Hp} : ∀ {l : List Dt} {vs : List V}, Iss K H l vs → vs.length = l.length
  | [], vs, h => by rw [Iss] at h; rw [h]; rfl
  | d :: l, vs, h => by
    rw [Iss] at h
    obtain ⟨v, r, rfl, _, h2⟩ := h
    rw [List.length_cons, List.length_cons, Iss.length h2]
theorem Iss.nil {K : PySem.W.Frag} {H : Hp} : Iss K H [] [] := by rw [Iss]
theorem Iss.cons {K : PySem.W.Frag} {H : Hp} {d : Dt} {l : List Dt} {v : V} {r : List V} (h1 : Is K H d v) (h2 : Iss K H l r) : Iss K H (d :: l) (v :: r) := by rw [Iss]; exact ⟨v, r, rfl, h1, h2⟩
theorem Iss.get {K : PySem.W.Frag} {H : Hp} : ∀ {l : List Dt} {vs : List V} {i : Nat} {v : V}, Iss K H l vs → vs[i]? = some v → ∃ d, l[i]? = some d ∧ Is K H d v
  | [], vs, i, v, h, e => by rw [Iss] at h; rw [h] at e; simp at e
  | d :: l, vs, 0, v, h, e => by
    rw [Iss] at h
    obtain ⟨w, r, rfl, h1, h2⟩ := h
    have e : w = v := Option.some.inj e
    subst e
    exact ⟨d, rfl, h1⟩
  | d :: l, vs, i + 1, v, h, e => by
    rw [Iss] at h
    obtain ⟨w, r, rfl, h1, h2⟩ := h
    exact Iss.get h2 (i := i) e
theorem Iss.strs {K : PySem.W.Frag} {H : Hp} : ∀ ns : List Str, Iss K H (ns.map Dt.str) (ns.map V.str)
  | [] => .nil
  | n :: ns => .cons (by rw [Is]) (Iss.strs ns)
def ej (l m : List Dt) (j : Nat) : Bool := match l[j]?, m[j]? with
  | some a, some b => dEq a b
  | _, _ => false
theorem dEqs_all : ∀ l m : List Dt, ((List.range (min l.length m.length)).all (ej l m) && l.length == m.length) = dEqs l m
  | [], [] => by rw [dEqs]; rfl
  | [], b :: m => by simp [dEqs]
  | a :: l, [] => by simp [dEqs]
  | a :: l, b :: m => by
    rw [dEqs, ← dEqs_all l m]
    have e : min (a :: l).length (b :: m).length = min l.length m.length + 1 := by simp only [List.length_cons]; omega
    rw [e, List.range_succ_eq_map, List.all_cons, List.all_map]
    have e2 : (ej (a :: l) (b :: m) ∘ Nat.succ) = ej l m := by funext j; rfl
    have e3 : ej (a :: l) (b :: m) 0 = dEq a b := rfl
    have e4 : ((a :: l).length == (b :: m).length) = (l.length == m.length) := by simp
    rw [e2, e3, e4, Bool.and_assoc]
section
variable {X : Cx} {pins : List (Addr × Obj)} {σ : St} {H : Hp} {s : Shared}
theorem Inv.tupleD {K : PySem.W.Frag} (I : Inv X pins σ H s) (hK : X.K = K) {l : List Dt} {v : V} {u : Value} (h : Is K H (.tup l) v) (r : RelV v u) : ∃ (a : Addr) (xs : List V) (its : List Value), v = .ref a ∧ u = .ref a ∧ SqT K H a xs ∧ Iss K H l xs ∧ Vals xs its ∧ s.heap.IsTuple a its.toArray := by
  subst hK
  rw [Is] at h
  obtain ⟨a, xs, rfl, h1, h2⟩ := h
  obtain ⟨its, h3, h4, _⟩ := I.tuple h1
  exact ⟨a, xs, its, rfl, r, h1, h2, h3, h4⟩
theorem Inv.listD {K : PySem.W.Frag} (I : Inv X pins σ H s) (hK : X.K = K) {l : List Dt} {v : V} {u : Value} (h : Is K H (.lst l) v) (r : RelV v u) : ∃ (a : Addr) (xs : List V) (its : List Value), v = .ref a ∧ u = .ref a ∧ SqL K H a xs ∧ Iss K H l xs ∧ Vals xs its ∧ s.heap.IsList a its.toArray := by
  subst hK
  rw [Is] at h
  obtain ⟨a, xs, rfl, h1, h2⟩ := h
  obtain ⟨its, h3, h4, _⟩ := I.list h1
  exact ⟨a, xs, its, rfl, r, h1, h2, h3, h4.isList⟩
mutual
theorem eq_same (I : Inv X pins σ H s) : ∀ (d e : Dt) {v : V}, Is X.K H d v → Is X.K H e v → dEq d e = true
  | .tup l, .tup m, v, h1, h2 => by
    rw [Is] at h1; rw [Is] at h2
    obtain ⟨a, xs, rfl, q1, q2⟩ := h1
    obtain ⟨b, ys, e, q3, q4⟩ := h2
    cases e
    have e := I.tuple_inj q1 q3
    subst e
    rw [dEq]
    exact eqs_same I l m q2 q4
  | .lst l, .lst m, v, h1, h2 => by
    rw [Is] at h1; rw [Is] at h2
    obtain ⟨a, xs, rfl, q1, q2⟩ := h1
    obtain ⟨b, ys, e, q3, q4⟩ := h2
    cases e
    have e := I.list_inj q1 q3
    subst e
    rw [dEq]
    exact eqs_same I l m q2 q4
  | .tup l, .lst m, v, h1, h2 => by
    rw [Is] at h1; rw [Is] at h2
    obtain ⟨a, xs, rfl, q1, q2⟩ := h1
    obtain ⟨b, ys, e, q3, q4⟩ := h2
    cases e
    obtain ⟨i1, _, k1, _⟩ := I.tuple q1
    obtain ⟨i2, _, k2, _⟩ := I.list q3
    exact absurd rfl (SeqAt.ne_of_list_tuple k2.isList k1)
  | .lst l, .tup m, v, h1, h2 => by
    rw [Is] at h1; rw [Is] at h2
    obtain ⟨a, xs, rfl, q1, q2⟩ := h1
    obtain ⟨b, ys, e, q3, q4⟩ := h2
    cases e
    obtain ⟨i1, _, k1, _⟩ := I.tuple q3
    obtain ⟨i2, _, k2, _⟩ := I.list q1
    exact absurd rfl (SeqAt.ne_of_list_tuple k2.isList k1)
  | .non, e, v, h1, h2 => by
    rw [Is] at h1; subst h1
    cases e <;> rw [Is] at h2 <;> first | rfl | (exfalso; first | (cases h2; done) | (obtain ⟨_, _, z, _⟩ := h2; cases z))
  | .bl b, e, v, h1, h2 => by
    rw [Is] at h1; subst h1
    cases e <;> rw [Is] at h2 <;> first | (cases h2; rw [dEq]; exact beq_self_eq_true _) | (exfalso; first | (cases h2; done) | (obtain ⟨_, _, z, _⟩ := h2; cases z))
  | .int b, e, v, h1, h2 => by
    rw [Is] at h1; subst h1
    cases e <;> rw [Is] at h2 <;> first | (cases h2; rw [dEq]; exact beq_self_eq_true _) | (exfalso; first | (cases h2; done) | (obtain ⟨_, _, z, _⟩ := h2; cases z))
  | .str b, e, v, h1, h2 => by
    rw [Is] at h1; subst h1
    cases e <;> rw [Is] at h2 <;> first | (cases h2; rw [dEq]; exact beq_self_eq_true _) | (exfalso; first | (cases h2; done) | (obtain ⟨_, _, z, _⟩ := h2; cases z))
  | .tup l, .non, v, h1, h2 => by rw [Is] at h1; rw [Is] at h2; obtain ⟨_, _, z, _⟩ := h1; rw [h2] at z; cases z
  | .tup l, .bl _, v, h1, h2 => by rw [Is] at h1; rw [Is] at h2; obtain ⟨_, _, z, _⟩ := h1; rw [h2] at z; cases z
  | .tup l, .int _, v, h1, h2 => by rw [Is] at h1; rw [Is] at h2; obtain ⟨_, _, z, _⟩ := h1; rw [h2] at z; cases z
  | .tup l, .str _, v, h1, h2 => by rw [Is] at h1; rw [Is] at h2; obtain ⟨_, _, z, _⟩ := h1; rw [h2] at z; cases z
  | .lst l, .non, v, h1, h2 => by rw [Is] at h1; rw [Is] at h2; obtain ⟨_, _, z, _⟩ := h1; rw [h2] at z; cases z
  | .lst l, .bl _, v, h1, h2 => by rw [Is] at h1; rw [Is] at h2; obtain ⟨_, _, z, _⟩ := h1; rw [h2] at z; cases z
  | .lst l, .int _, v, h1, h2 => by rw [Is] at h1; rw [Is] at h2; obtain ⟨_, _, z, _⟩ := h1; rw [h2] at z; cases z
  | .lst l, .str _, v, h1, h2 => by rw [Is] at h1; rw [Is] at h2; obtain ⟨_, _, z, _⟩ := h1; rw [h2] at z; cases z
theorem eqs_same (I : Inv X pins σ H s) : ∀ (l m : List Dt) {vs : List V}, Iss X.K H l vs → Iss X.K H m vs → dEqs l m = true
  | [], [], vs, h1, h2 => by rw [dEqs]
  | [], b :: m, vs, h1, h2 => by rw [Iss] at h1; rw [Iss] at h2; obtain ⟨_, _, z, _⟩ := h2; rw [h1] at z; cases z
  | a :: l, [], vs, h1, h2 => by rw [Iss] at h1; rw [Iss] at h2; obtain ⟨_, _, z, _⟩ := h1; rw [h2] at z; cases z
  | a :: l, b :: m, vs, h1, h2 => by
    rw [Iss] at h1; rw [Iss] at h2
    obtain ⟨v, r, rfl, q1, q2⟩ := h1
    obtain ⟨v', r', e, q3, q4⟩ := h2
    cases e
    rw [dEqs, eq_same I a b q1 q3, eqs_same I l m q2 q4]
    rfl
end
theorem dep_le {d : Dt} : ∀ {l : List Dt} {j : Nat}, l[j]? = some d → dep d ≤ deps l
  | [], j, h => by simp at h
  | a :: l, 0, h => by
    have e : a = d := Option.some.inj h
    subst e
    rw [deps]; omega
  | a :: l, j + 1, h => by
    have q := dep_le (l := l) (j := j) h
    rw [deps]; omega
theorem items_eq {A : Around} {l m : List Dt} {xs ys : List V} {us vs : List Value} (ih : ∀ (j : Nat) (d e : Dt) {x y : V} {u v : Value}, l[j]? = some d → m[j]? = some e → Is X.K H d x → Is X.K H e y → RelV x u → RelV y v → SeqAt.EqAt A s u v (dEq d e))
    (h1 : Iss X.K H l xs) (h2 : Iss X.K H m ys) (r1 : Vals xs us) (r2 : Vals ys vs) : ∀ j (q1 : j < us.toArray.size) (q2 : j < vs.toArray.size), SeqAt.EqAt A s us.toArray[j] vs.toArray[j] (ej l m j) := by
  intro j q1 q2
  have q1' : j < us.length := by simpa using q1
  have q2' : j < vs.length := by simpa using q2
  have e1 : us.toArray[j] = us[j] := by simp
  have e2 : vs.toArray[j] = vs[j] := by simp
  rw [e1, e2]
  have lx : j < xs.length := by rw [r1.length]; exact q1'
  have ly : j < ys.length := by rw [r2.length]; exact q2'
  obtain ⟨u, hu, ru⟩ := r1.get (List.getElem?_eq_getElem lx)
  obtain ⟨v, hv, rv⟩ := r2.get (List.getElem?_eq_getElem ly)
  obtain ⟨d, hd, id⟩ := h1.get (List.getElem?_eq_getElem lx)
  obtain ⟨e, he, ie⟩ := h2.get (List.getElem?_eq_getElem ly)
  have e3 : us[j] = u := by rw [List.getElem?_eq_getElem q1'] at hu; exact Option.some.inj hu
  have e4 : vs[j] = v := by rw [List.getElem?_eq_getElem q2'] at hv; exact Option.some.inj hv
  have e5 : ej l m j = dEq d e := by unfold ej; rw [hd, he]
  rw [e3, e4, e5]
  exact ih j d e hd he id ie ru rv
theorem eqs_tup {l m : List Dt} {xs ys : List V} {us vs : List Value} (h1 : Iss X.K H l xs) (h2 : Iss X.K H m ys) (r1 : Vals xs us) (r2 : Vals ys vs) : ((List.range (min us.toArray.size vs.toArray.size)).all (ej l m) && us.toArray.size == vs.toArray.size) = dEqs l m := by
  have e1 : us.toArray.size = l.length := by rw [List.size_toArray, ← r1.length, h1.length]
  have e2 : vs.toArray.size = m.length := by rw [List.size_toArray, ← r2.length, h2.length]
  rw [e1, e2, dEqs_all]
theorem eqAt_D (I : Inv X pins σ H s) : ∀ (n : Nat) (A : Around) (d e : Dt) {x y : V} {u v : Value}, dep d ≤ n → A.units + n + 1 < cLine → Is X.K H d x → Is X.K H e y → RelV x u → RelV y v → SeqAt.EqAt A s u v (dEq d e) := by
  intro n
  induction n with
  | zero =>
    intro A d e x y u v hn hu h1 h2 r1 r2
    have hu0 : A.units < cLine := by omega
    cases d with
    | tup l => rw [dep] at hn; omega
    | lst l => rw [dep] at hn; omega
    | _ => 
      rw [Is] at h1; subst h1
      cases e with
      | tup m =>
        obtain ⟨a, xs, its, rfl, rfl, q1, q2, q3, q4⟩ := I.tupleD rfl h2 r2
        first
          | (cases r1; exact SeqAt.EqAt.none_tuple q4 hu0)
          | (cases r1; exact SeqAt.EqAt.bool_tuple _ q4 hu0)
          | (obtain ⟨t, rfl⟩ := r1; exact SeqAt.EqAt.int_tuple _ t q4 hu0)
          | (obtain ⟨t, rfl⟩ := r1; exact SeqAt.EqAt.str_tuple _ t q4 hu0)
      | lst m =>
        obtain ⟨a, xs, its, rfl, rfl, q1, q2, q3, q4⟩ := I.listD rfl h2 r2
        first
          | (cases r1; exact SeqAt.EqAt.none_list q4 hu0)
          | (cases r1; exact SeqAt.EqAt.bool_list _ q4 hu0)
          | (obtain ⟨t, rfl⟩ := r1; exact SeqAt.EqAt.int_list _ t q4 hu0)
          | (obtain ⟨t, rfl⟩ := r1; exact SeqAt.EqAt.str_list _ t q4 hu0)
      | _ =>
        rw [Is] at h2; subst h2
        exact eqAt_V r1 r2 rfl rfl
  | succ n ih =>
    intro A d e x y u v hn hu h1 h2 r1 r2
    have hu0 : A.units < cLine := by omega
    have hu1 : A.in1.units + n + 1 < cLine := by show A.units + 1 + n + 1 < cLine; omega
    cases d with
    | tup l =>
      obtain ⟨a, xs, its, rfl, rfl, q1, q2, q3, q4⟩ := I.tupleD rfl h1 r1
      rw [dep] at hn
      cases e with
      | tup m =>
        obtain ⟨b, ys, ist, rfl, rfl, p1, p2, p3, p4⟩ := I.tupleD rfl h2 r2
        by_cases hab : a = b
        · subst hab
          rw [eq_same I _ _ h1 h2]
          exact SeqAt.EqAt.same _
        · refine SeqAt.EqAt.of_refs hab ?_
          have z := SeqAt.RcAt.tuples q4 p4 hu0 (items_eq (X := X) (fun j d e {x y u v} hd _ g1 g2 g3 g4 => ih A.in1 d e (Nat.le_trans (dep_le hd) (by omega)) hu1 g1 g2 g3 g4) q2 p2 q3 p3)
          rw [eqs_tup q2 p2 q3 p3] at z
          rw [dEq]
          exact z
      | lst m =>
        obtain ⟨b, ys, ist, rfl, rfl, p1, p2, p3, p4⟩ := I.listD rfl h2 r2
        exact SeqAt.EqAt.tuple_list q4 p4 hu0
      | non => rw [Is] at h2; subst h2; cases r2; exact SeqAt.EqAt.tuple_none q4 hu0
      | bl b => rw [Is] at h2; subst h2; cases r2; exact SeqAt.EqAt.tuple_bool _ q4 hu0
      | int i => rw [Is] at h2; subst h2; obtain ⟨t, rfl⟩ := r2; exact SeqAt.EqAt.tuple_int _ t q4 hu0
      | str i => rw [Is] at h2; subst h2; obtain ⟨t, rfl⟩ := r2; exact SeqAt.EqAt.tuple_str _ t q4 hu0
    | lst l =>
      obtain ⟨a, xs, its, rfl, rfl, q1, q2, q3, q4⟩ := I.listD rfl h1 r1
      rw [dep] at hn
      cases e with
      | lst m =>
        obtain ⟨b, ys, ist, rfl, rfl, p1, p2, p3, p4⟩ := I.listD rfl h2 r2
        by_cases hab : a = b
        · subst hab
          rw [eq_same I _ _ h1 h2]
          exact SeqAt.EqAt.same _
        · refine SeqAt.EqAt.of_refs hab ?_
          rw [dEq]
          have ei := eqs_tup q2 p2 q3 p3
          by_cases hz : its.toArray.size = ist.toArray.size
          · have z := SeqAt.RcAt.lists q4 p4 hz hu0 (items_eq (X := X) (fun j d e {x y u v} hd _ g1 g2 g3 g4 => ih A.in1 d e (Nat.le_trans (dep_le hd) (by omega)) hu1 g1 g2 g3 g4) q2 p2 q3 p3)
            rw [← hz, Nat.min_self, beq_self_eq_true, Bool.and_true] at ei
            rw [ei] at z
            exact z
          · have hz' : (its.toArray.size == ist.toArray.size) = false := by simpa using hz
            rw [hz', Bool.and_false] at ei
            rw [← ei]
            exact SeqAt.RcAt.lists_lengths q4 p4 (by simpa using hz) hu0
      | tup m =>
        obtain ⟨b, ys, ist, rfl, rfl, p1, p2, p3, p4⟩ := I.tupleD rfl h2 r2
        exact SeqAt.EqAt.list_tuple q4 p4 hu0
      | non => rw [Is] at h2; subst h2; cases r2; exact SeqAt.EqAt.list_none q4 hu0
      | bl b => rw [Is] at h2; subst h2; cases r2; exact SeqAt.EqAt.list_bool _ q4 hu0
      | int i => rw [Is] at h2; subst h2; obtain ⟨t, rfl⟩ := r2; exact SeqAt.EqAt.list_int _ t q4 hu0
      | str i => rw [Is] at h2; subst h2; obtain ⟨t, rfl⟩ := r2; exact SeqAt.EqAt.list_str _ t q4 hu0
    | _ =>
      rw [Is] at h1; subst h1
      cases e with
      | tup m =>
        obtain ⟨a, xs, its, rfl, rfl, q1, q2, q3, q4⟩ := I.tupleD rfl h2 r2
        first
          | (cases r1; exact SeqAt.EqAt.none_tuple q4 hu0)
          | (cases r1; exact SeqAt.EqAt.bool_tuple _ q4 hu0)
          | (obtain ⟨t, rfl⟩ := r1; exact SeqAt.EqAt.int_tuple _ t q4 hu0)
          | (obtain ⟨t, rfl⟩ := r1; exact SeqAt.EqAt.str_tuple _ t q4 hu0)
      | lst m =>
        obtain ⟨a, xs, its, rfl, rfl, q1, q2, q3, q4⟩ := I.listD rfl h2 r2
        first
          | (cases r1; exact SeqAt.EqAt.none_list q4 hu0)
          | (cases r1; exact SeqAt.EqAt.bool_list _ q4 hu0)
          | (obtain ⟨t, rfl⟩ := r1; exact SeqAt.EqAt.int_list _ t q4 hu0)
          | (obtain ⟨t, rfl⟩ := r1; exact SeqAt.EqAt.str_list _ t q4 hu0)
      | _ =>
        rw [Is] at h2; subst h2
        exact eqAt_V r1 r2 rfl rfl
end
end L2
namespace L2
open PySem PySem.Spec PyProof.Rows
section
variable {X : Cx} {a b e o : Expr} {ta tb te : TE} {pos : Pos}
def seqD : Dt → Bool
  | .tup _ => true
  | .lst _ => true
  | _ => false
def rEqD (K : PySem.W.Frag) : R2 := fun x y H Q => ∃ d e, Is K H d x ∧ Is K H e y ∧ seqD d = true ∧ seqD e = true ∧ dep d ≤ 50 ∧ Q (.bl (dEq d e)) H
def rNeD (K : PySem.W.Frag) : R2 := fun x y H Q => ∃ d e, Is K H d x ∧ Is K H e y ∧ seqD d = true ∧ seqD e = true ∧ dep d ≤ 50 ∧ Q (.bl (!dEq d e)) H
theorem eqD_core {pins : List (Addr × Obj)} {s : Shared} {σ : St} {H : Hp} {d e : Dt} {x y : V} {v u : Value} (hu : X.A.units + 60 < cLine) (I : Inv X pins σ H s) (h1 : Is X.K H d x) (h2 : Is X.K H e y) (g1 : seqD d = true) (g2 : seqD e = true) (g3 : dep d ≤ 50) (rx : RelV x v) (ry : RelV y u) :
    SeqAt.RcAt X.A s v u (dEq d e) ∧ SeqAt.RcNeAt X.A s v u (!dEq d e) := by
  have hu0 : X.A.units < cLine := by omega
  have hu1 : X.A.in1.units + 50 + 1 < cLine := by show X.A.units + 1 + 50 + 1 < cLine; omega
  cases d with
  | tup l =>
    obtain ⟨a, xs, its, rfl, rfl, q1, q2, q3, q4⟩ := I.tupleD rfl h1 rx
    rw [dep] at g3
    cases e with
    | tup m =>
      obtain ⟨b, ys, ist, rfl, rfl, p1, p2, p3, p4⟩ := I.tupleD rfl h2 ry
      have it := items_eq (X := X) (A := X.A.in1) (fun j d e {x y u v} hd _ g1 g2 g3 g4 => eqAt_D I 50 X.A.in1 d e (Nat.le_trans (dep_le hd) (by omega)) hu1 g1 g2 g3 g4) q2 p2 q3 p3
      have z1 := SeqAt.RcAt.tuples q4 p4 hu0 it
      have z2 := SeqAt.RcNeAt.tuples q4 p4 hu0 it
      rw [eqs_tup q2 p2 q3 p3] at z1 z2
      rw [dEq]
      exact ⟨z1, z2⟩
    | lst m =>
      obtain ⟨b, ys, ist, rfl, rfl, p1, p2, p3, p4⟩ := I.listD rfl h2 ry
      exact ⟨SeqAt.RcAt.tuple_list q4 p4 hu0, SeqAt.RcNeAt.tuple_list q4 p4 hu0⟩
    | _ => cases g2
  | lst l =>
    obtain ⟨a, xs, its, rfl, rfl, q1, q2, q3, q4⟩ := I.listD rfl h1 rx
    rw [dep] at g3
    cases e with
    | lst m =>
      obtain ⟨b, ys, ist, rfl, rfl, p1, p2, p3, p4⟩ := I.listD rfl h2 ry
      have it := items_eq (X := X) (A := X.A.in1) (fun j d e {x y u v} hd _ g1 g2 g3 g4 => eqAt_D I 50 X.A.in1 d e (Nat.le_trans (dep_le hd) (by omega)) hu1 g1 g2 g3 g4) q2 p2 q3 p3
      rw [dEq]
      have ei := eqs_tup q2 p2 q3 p3
      by_cases hz : its.toArray.size = ist.toArray.size
      · have z1 := SeqAt.RcAt.lists q4 p4 hz hu0 it
        have z2 := SeqAt.RcNeAt.lists q4 p4 hz hu0 it
        rw [← hz, Nat.min_self, beq_self_eq_true, Bool.and_true] at ei
        rw [ei] at z1 z2
        exact ⟨z1, z2⟩
      · have hz' : (its.toArray.size == ist.toArray.size) = false := by simpa using hz
        rw [hz', Bool.and_false] at ei
        rw [← ei]
        exact ⟨SeqAt.RcAt.lists_lengths q4 p4 (by simpa using hz) hu0, SeqAt.RcNeAt.lists_lengths q4 p4 (by simpa using hz) hu0⟩
    | tup m =>
      obtain ⟨b, ys, ist, rfl, rfl, p1, p2, p3, p4⟩ := I.tupleD rfl h2 ry
      exact ⟨SeqAt.RcAt.list_tuple q4 p4 hu0, SeqAt.RcNeAt.list_tuple q4 p4 hu0⟩
    | _ => cases g2
  | _ => cases g1
theorem op_eqD (hu : X.A.units + 60 < cLine) : OpR X (compareOp .Eq) (rEqD X.K) := by
  intro pins s σ H x y v u Q I rx ry h
  obtain ⟨d, e, h1, h2, g1, g2, g3, q⟩ := h
  exact (eqD_core hu I h1 h2 g1 g2 g3 rx ry).1 _ _ _ _ ⟨.bl (dEq d e), H, I, rfl, q⟩
theorem op_neD (hu : X.A.units + 60 < cLine) : OpR X (compareOp .NotEq) (rNeD X.K) := by
  intro pins s σ H x y v u Q I rx ry h
  obtain ⟨d, e, h1, h2, g1, g2, g3, q⟩ := h
  exact (eqD_core hu I h1 h2 g1 g2 g3 rx ry).2 _ _ _ _ ⟨.bl (!dEq d e), H, I, rfl, q⟩
end
section
variable {X : Cx} {a b e o : Expr} {ta tb te : TE} {pos : Pos}
open Classical in
theorem call_isinst : CallR X (.builtin "isinstance") (fun xs H Q => ∃ x n t b, xs = [x, .ty n] ∧ TyOf X.K H x t ∧ PySem.W.kitOne X.K t (.type n) = some b ∧ Q (.bl b) H) := by
  intro pins s σ H xs us Q I r h
  obtain ⟨x, n, t, b, rfl, ty, e, q⟩ := h
  obtain ⟨u, w', rfl, ru, rw'⟩ := vals2 r
  cases (show w' = Value.type n from rw')
  exact isinst_ok I ru ty e fun tk => ⟨.bl b, H, I.tok tk, rfl, q⟩
end
section
variable {X : Cx} {a : Expr} {ta : TA} {elts : List Expr} {x1 : Nat} {tpos p pos : Pos}
end
def strsOf : List Expr → Option (List Str)
  | [] => some []
  | .Constant (.str x) _ _ :: r => (strsOf r).map (x :: ·)
  | _ => none
theorem pa_strs {X : Cx} : ∀ {es : List Expr} {xs : List Str}, strsOf es = some xs → PA X es (fun _ H Q => Q (xs.map V.str) H)
  | [], xs, h => by
    cases (Option.some.inj h : [] = xs)
    exact pa_nil
  | e :: r, xs, h => by
    cases e with
    | Constant c j pos =>
      cases c with
      | str x =>
        have h : (strsOf r).map (x :: ·) = some xs := h
        cases q : strsOf r with
        | none => rw [q] at h; cases h
        | some ys =>
          rw [q] at h
          cases (Option.some.inj h : x :: ys = xs)
          exact pa_cons (te := tC (.str x)) pe_str (pa_strs q)
      | _ => cases h
    | _ => cases h
def tCut (t : TS) : TS := fun D σ H => ∃ I : St → Hp → Prop, t { D with nx := I } σ H ∧ ∀ σ' H', I σ' H' → D.nx σ' H'
theorem ps_cut {X : Cx} {st : Stmt} {t : TS} (h : PS X st t) : PS X st (tCut t) := by
  intro pins s σ H D I0 h0
  obtain ⟨I, h1, h2⟩ := h0
  refine thn (h pins s σ H _ I0 h1) fun f s' q => ?_
  cases f with
  | next => obtain ⟨σ', H', q1, q2⟩ := q; exact ⟨σ', H', q1, h2 _ _ q2⟩
  | brk => exact q
  | cont => exact q
  | ret u => exact q
end L2
namespace L2
open PySem PySem.Spec PyProof.Rows
section
variable {X : Cx} {a b e o : Expr} {ta tb te : TE} {pos : Pos}
theorem strsAre_of : ∀ {ys : List Str} {us : List Value}, Vals (ys.map V.str) us → StrsAre us ys
  | [], us, h => by cases h; exact .nil
  | y :: ys, us, h => by
    cases h with
    | cons r rr =>
      obtain ⟨t, rfl⟩ := r
      exact .cons _ _ (strsAre_of rr)
def rJoin (K : PySem.W.Frag) : V → List V → Hp → VK → Prop := fun x vs H Q => ∃ z p ys, x = .str z ∧ vs = [.ref p] ∧ SqL K H p (ys.map V.str) ∧ (ys.map (·.length)).sum + ys.length * z.length ≤ 16777216 ∧ Q (.str (Txt.join z ys)) H
theorem mt_join : MtR X "str.join" (rJoin X.K) := by
  intro pins s σ H x vs v us Q I rx rv h
  obtain ⟨z, p, ys, rfl, rfl, hx, hl, q⟩ := h
  obtain ⟨t, rfl⟩ := rx
  obtain ⟨u, rfl, ru⟩ := vals1 rv
  cases ru
  obtain ⟨its, r, pl, hz⟩ := I.list hx
  exact join_list pl.isList (strsAre_of r) hl fun t' k => ⟨.str (Txt.join z ys), H, I.tok k, ⟨_, rfl⟩, q⟩
theorem part_of {v : Value} {o : Option Int} (h : IsPart v o) : ∃ l : Option (Int × Tok), v = partValue l ∧ l.map (·.1) = o := by
  cases h with
  | none => exact ⟨none, rfl, rfl⟩
  | int i t => exact ⟨some (i, t), rfl, rfl⟩
theorem sl_str : SlR X (fun x lo hi H Q => ∃ z, x = .str z ∧ z.length ≤ sizeLine ∧ Q (.str (Txt.slice z lo hi)) H) := by
  intro pins s σ H x v vl vu lo hi sl Q I rx hs pl pu h
  obtain ⟨z, rfl, hz, q⟩ := h
  obtain ⟨t, rfl⟩ := rx
  obtain ⟨l, rfl, el⟩ := part_of pl
  obtain ⟨u, rfl, eu⟩ := part_of pu
  refine ⟨"str", _, F.slot_str_getitem.lookup, typeIs_str s z t, ?_⟩
  refine wpAny_getItem_str_slice (l := l) (u := u) (st := none) hs rfl ?_
  unfold sliceMade slicePicked
  rw [el, eu]
  have e : ∀ t' k, EP X pins σ Q (.str (Txt.slice z lo hi) t') { s with toks := k } := fun t' k => ⟨.str (Txt.slice z lo hi), H, I.tok k, ⟨_, rfl⟩, q⟩
  have hl := Txt.slice_le z lo hi
  unfold Txt.slice at e hl
  refine post_val_or_made (fun hc => ?_) e
  rw [if_neg (show ¬ (((1 : Int) == 1 && (Builtin.Str.strSliceIndices lo hi 1 z.length).length == z.length) = true) from hc)] at hl
  exact Nat.le_trans hl hz
theorem op_catL : OpR X (binaryOp .Add) (fun x y H Q => ∃ l b xs zs, x = .ref l ∧ y = .ref b ∧ SqL X.K H l xs ∧ SqL X.K H b zs ∧ xs.length + zs.length ≤ sizeLine ∧ ∀ p, H p = none → Q (.ref p) (upd H p (.lst (xs ++ zs)))) := by
  intro pins s σ H x y v u Q I rx ry h
  obtain ⟨l, b, xs, zs, rfl, rfl, hH, hB, hz, q⟩ := h
  cases rx
  cases ry
  obtain ⟨its, r, pl, z1⟩ := I.list hH
  obtain ⟨its2, r2, pl2, z2⟩ := I.list hB
  have hl := r.length
  have hl2 := r2.length
  obtain ⟨⟨cls, dd, data, sl⟩, ho, hc, n, hd⟩ := pl.isList
  obtain ⟨⟨cls2, dd2, data2, sl2⟩, ho2, hc2, n2, hd2⟩ := pl2.isList
  simp only at hc hd hc2 hd2
  subst hc hd hc2 hd2
  refine concat_meets ⟨_, ho, rfl⟩ ⟨_, ho2, rfl⟩ noFill_list_add seq_list_add PySem.F.slot_list_add PySem.F.entry_list_add (PySem.F.args_list_add_2 _ _) (list_addW l b its.toArray its2.toArray n n2 dd dd2 sl sl2 (by rw [List.size_toArray, List.size_toArray]; omega)) ⟨ho, ho2, ?_⟩
  have ea : its.toArray ++ its2.toArray = (its ++ its2).toArray := by simp
  rw [ea]
  exact ⟨.ref _, _, I.lnew (t' := s.toks) (r.append r2) (by rw [List.length_append]; omega), rfl, q _ I.fresh⟩
end
section
variable {X : Cx} {m : Str} {pos apos : Pos} {e o : Expr} {es : List Expr} {ta : TE} {t : TA} {k : Nat}
end
end L2
namespace L2
open PySem PySem.Spec PyProof.Rows
section
variable {X : Cx}
end
end L2
namespace L2
open PySem PySem.Spec PyProof.Rows
section
variable {X : Cx} {tg : Expr}
end
def rSplit : V → List V → Hp → VK → Prop := fun x vs H Q => ∃ z y : Str, x = .str z ∧ vs = [.str y] ∧ (y.length == 0) = false ∧ z.length ≤ sizeLine ∧ (Builtin.Str.partsBetween z (Builtin.Str.occurrences z y 0 z.length (z.length + 1)) y.length).length ≤ sizeLine ∧
  ∀ p, H p = none → Q (.ref p) (upd H p (.lst ((Txt.split z y).map V.str)))
theorem vals_strs : ∀ l : List (Str × Tok), Vals ((l.map (·.1)).map V.str) (strValues l)
  | [] => .nil
  | (x, t) :: l => .cons ⟨t, rfl⟩ (vals_strs l)
theorem mt_split {X : Cx} : MtR X "str.split" rSplit := by
  intro pins s σ H x vs v us Q I rx rv h
  obtain ⟨z, y, rfl, rfl, hy, hz, hn, q⟩ := h
  obtain ⟨t, rfl⟩ := rx
  obtain ⟨u, rfl, ru⟩ := vals1 rv
  obtain ⟨t', rfl⟩ := ru
  have one : (1 : Nat) ≤ sizeLine := by decide
  cases h1 : (decide (z.length < y.length) || decide (Builtin.Str.strKind z < Builtin.Str.strKind y)) with
  | true =>
    have e : Txt.split z y = [z] := if_pos h1
    rw [e] at q
    exact call_meets F.slot_str_split (typeIs_str _ _ _) F.entry_str_split (F.args_str_split_2 _ _) (meets_str_split_cannot_occur z y t t' h1) ⟨.ref _, _, I.lnew (ys := [.str z]) (its := [.str z t]) (t' := s.toks) (.cons ⟨t, rfl⟩ .nil) one, rfl, q _ I.fresh⟩
  | false =>
    cases hf : (Builtin.Str.occurrences z y 0 z.length (z.length + 1)).isEmpty with
    | true =>
      have e : Txt.split z y = [z] := (if_neg (ne_true_of_eq_false h1)).trans (if_pos hf)
      rw [e] at q
      exact call_meets F.slot_str_split (typeIs_str _ _ _) F.entry_str_split (F.args_str_split_2 _ _) (meets_str_split_not_found z y t t' h1 hy hf) ⟨.ref _, _, I.lnew (ys := [.str z]) (its := [.str z t]) (t' := s.toks) (.cons ⟨t, rfl⟩ .nil) one, rfl, q _ I.fresh⟩
    | false =>
      have e : Txt.split z y = Builtin.Str.partsBetween z (Builtin.Str.occurrences z y 0 z.length (z.length + 1)) y.length := (if_neg (ne_true_of_eq_false h1)).trans (if_neg (ne_true_of_eq_false hf))
      rw [e] at q
      refine call_meets F.slot_str_split (typeIs_str _ _ _) F.entry_str_split (F.args_str_split_2 _ _) (meets_str_split_sep z y t t' h1 hy hf hz hn) ?_
      have ev := vals_strs (numbered s.toks (Builtin.Str.partsBetween z (Builtin.Str.occurrences z y 0 z.length (z.length + 1)) y.length))
      rw [numbered_texts, ← strsFrom_eq] at ev
      exact ⟨.ref _, _, I.lnew ev (by rw [List.length_map]; exact hn), rfl, q _ I.fresh⟩
end L2
namespace L2
open PySem PySem.Spec PyProof.Rows
section
variable {prog : Program} {w : World} {A : Around} {E : Value → Shared → Prop} {s : Shared}
variable {z TI TO i1 i2 l1 l2 : Addr} {b1 b2 : Bool} {k1 k2 : Nat} {xs ys : Array Value}
end
section
variable {X : Cx} {a b : Expr} {ta : TA} {elts : List Expr} {x1 : Nat} {tpos p pos : Pos}
end
end L2
namespace L2
open PySem PySem.Spec PyProof.Rows
section
variable {X : Cx} {CX : CXT} {k : Nat} {f C : Addr} {fd : FuncData} {ps : List Str} {sp : Sp} {dvs : List V} {ds : List Value} {E : XK} {x m : Str} {p pos apos : Pos} {e : Expr} {es : List Expr} {t : TA}
end
end L2
namespace L2
open PySem PySem.Spec PyProof.Rows
section
variable {X : Cx} {tg a b : Expr} {ta : TA} {p p1 pos pos1 : Pos}
end
section
variable {prog : Program} {w : World} {A : Around} {s : Shared} {R : Result → Shared → Prop} {r : Addr} {a b c : Int} {t u v : Tok} {n : Nat}
end
section
variable {X : Cx} {a b : Expr} {ta : TA} {p p1 pos pos1 : Pos}
end
end L2
namespace L2
open PySem PySem.Spec PyProof.Rows
section
variable {X : Cx}
theorem vals_bools : ∀ {bs : List Bool} {its : List Value}, Vals (bs.map V.bl) its → its = bs.map Value.bool
  | [], its, h => by
    rw [List.map_nil] at h
    exact h.nil_iff.mpr rfl
  | b :: bs, its, h => by
    rw [List.map_cons] at h
    cases h with
    | cons r1 r2 =>
      rw [vals_bools r2, List.map_cons, show _ = Value.bool b from r1]
theorem call_all (hc : X.calm = true) : CallR X (.builtin "all") (fun xs H Q => ∃ (a : Addr) (bs : List Bool), xs = [.ref a] ∧ SqL X.K H a (bs.map V.bl) ∧ Q (.bl (bs.all id)) H) := by
  intro pins s σ H xs us Q I r h
  obtain ⟨a, bs, rfl, hx, q⟩ := h
  obtain ⟨u, rfl, ru⟩ := vals1 r
  cases ru
  obtain ⟨its, rv, ht, hz⟩ := I.list hx
  have ei := vals_bools rv
  subst ei
  have hl := ht.isList
  have hlt : a < s.heap.objs.size := by obtain ⟨_, e, _⟩ := hl; exact Heap.lt_size e
  refine call_all_walk (wpAny_pyIter_list hl ?_)
  refine ⟨s.heap.objs.size, [s.heap.objs.size, a], [s.heap.objs.size], (bs.map Value.bool).toArray.size, _, _, fun i => (bs[i]?).getD true, rfl, Walks.list (A := X.A.in1) (I.ok.hd hc) _ a (Nat.ne_of_lt hlt) (bs.map Value.bool).toArray,
    ⟨⟨_, Heap.get?_push_size _ rfl, rfl, rfl⟩, hl.push _⟩, fun i v s' Q' E' hP hQ => ?_, fun h' tk hk => ?_⟩
  · have hP : (bs.map Value.bool)[i]? = some v := by simpa using hP
    rw [List.getElem?_map] at hP
    obtain ⟨b, e, rfl⟩ := Option.map_eq_some_iff.mp hP
    simp only [e, Option.getD_some] at hQ
    exact wpAny_truthy_bool hQ
  · have e : ((List.range ((bs.map Value.bool).toArray.size)).all fun i => (bs[i]?).getD true) = bs.all id := by
      rw [List.size_toArray, List.length_map]; exact LSm.range_all bs
    rw [e]
    exact ⟨.bl (bs.all id), H, I.kept (LSm.kept_iter hk), rfl, q⟩
end
end L2
namespace L2
open PySem PySem.Spec PyProof.Rows
section
variable {X : Cx}
def rStarts : V → List V → Hp → VK → Prop := fun x vs H Q => ∃ z y : Str, x = .str z ∧ vs = [.str y] ∧ Q (.bl (Txt.startswith z y)) H
theorem mt_starts : MtR X "str.startswith" rStarts := by
  intro pins s σ H x vs v us Q I rx rv h
  obtain ⟨z, y, rfl, rfl, q⟩ := h
  obtain ⟨t, rfl⟩ := rx
  obtain ⟨u, rfl, ru⟩ := vals1 rv
  obtain ⟨t', rfl⟩ := ru
  exact SC.startswith ⟨.bl _, H, I, rfl, q⟩
def repS (z : Str) (n : Nat) : Str := ⟨(List.replicate n z.cps).foldl (· ++ ·) #[]⟩
theorem repS_one (z : Str) : repS z 1 = z := by
  show (⟨#[] ++ z.cps⟩ : Str) = z
  rw [Array.empty_append]
theorem foldl_none (n : Nat) : (List.replicate n (#[] : Array Nat)).foldl (· ++ ·) #[] = #[] := by
  induction n with
  | zero => rfl
  | succ n ih => rw [List.replicate_succ, List.foldl_cons]; exact ih
theorem repS_none {z : Str} (h : z.length = 0) (n : Nat) : repS z n = z := by
  have e : z.cps = #[] := Array.eq_empty_of_size_eq_zero h
  unfold repS
  rw [e, foldl_none]
  cases z; cases e; rfl
theorem op_repS : OpR X (binaryOp .Mult) (fun x y H Q => ∃ (z : Str) (n : Nat), x = .str z ∧ y = .int n ∧ n ≤ 1000 ∧ z.length ≤ 1000 ∧ Q (.str (repS z n)) H) := by
  intro pins s σ H x y v u Q I rx ry h
  obtain ⟨z, n, rfl, rfl, hn, hz, q⟩ := h
  obtain ⟨t, rfl⟩ := rx
  obtain ⟨t', rfl⟩ := ry
  have hm : z.length * n ≤ 1000000 := Nat.le_trans (Nat.mul_le_mul hz hn) (by decide)
  have hl : Builtin.Str.tooLong (z.length * (n : Int).toNat) = false := by
    rw [Int.toNat_natCast]
    unfold Builtin.Str.tooLong
    refine decide_eq_false ?_
    have := sizeLine_eq
    omega
  refine P.mul_str ?_ (fun h1 _ h2 => ?_) (fun _ _ => hl) ?_
  · rw [Bool.or_eq_false_iff]
    exact ⟨decide_eq_false (by omega), decide_eq_false (by omega)⟩
  · have h5 : (1000 : Int) ≤ (2 ^ 63 - 1) / (n : Int) := Int.le_ediv_of_mul_le (by omega) (by omega)
    omega
  · by_cases h1 : (n : Int) < 1
    · have : n = 0 := by omega
      subst this
      rw [if_pos h1]
      exact ⟨by decide, ⟨.str _, H, I.tok _, ⟨_, rfl⟩, q⟩⟩
    · rw [if_neg h1]
      by_cases h2 : ((n : Int) == 1 || z.length == 0) = true
      · rw [if_pos h2]
        have e : repS z n = z := by
          rcases Bool.or_eq_true_iff.mp h2 with h | h
          · have : n = 1 := by have := eq_of_beq h; omega
            rw [this, repS_one]
          · exact repS_none (eq_of_beq h) n
        rw [e] at q
        exact ⟨.str z, H, I, ⟨t, rfl⟩, q⟩
      · rw [if_neg h2]
        exact ⟨fits_reps hl, ⟨.str _, H, I.tok _, ⟨_, rfl⟩, q⟩⟩
def Itc (x : Str) : It := ⟨fun i _ => i < x.cps.size, fun i H v H' => H' = H ∧ ∃ c, x.cps[i]? = some c ∧ v = .str ⟨#[c]⟩, fun i _ => x.cps.size ≤ i⟩
theorem turn_str {P : Program} {w : World} {K : PySem.W.Frag} {tg : Expr} (x : Str) (t : Tok) (it : Addr) : Turn P w K tg (Itc x) [it] it (fun i h => h.IsStrIter it "str_ascii_iterator" x t i) where
  mem := by simp
  obj := fun i h st b hb => by
    have e : b = it := by simpa using hb
    subst e
    obtain ⟨o, e, c, d⟩ := st
    exact ⟨o, e, fun v z => by rw [d] at z; cases z⟩
  keep := fun i h h' st k => by
    obtain ⟨o, ho, r⟩ := st
    exact ⟨o, k it (by simp) o ho, r⟩
  item := by
    intro X hP hw hK hc i pins s σ H E I hf st hg
    subst hP hw hK
    obtain ⟨c, hx⟩ : ∃ c, x.cps[i]? = some c := ⟨x.cps[i]'hg, Array.getElem?_eq_getElem hg⟩
    obtain ⟨f0, f1, f2, f3, f4, f5⟩ := hf it (by simp)
    refine wpAny_pyNext_ascii_item st hx fun h' st' sb => ?_
    have I1 : Inv X pins σ H { s with heap := h', toks := s.toks + 1 } := I.turned (t' := s.toks + 1) (fun b o hb e => (sb.2 b hb).trans e) f0 f1 f3 f4 f5
    obtain ⟨o, e, c', d⟩ := id st'
    exact ⟨.str ⟨#[c]⟩ s.toks, rfl, go_of (s := { s with heap := h', toks := s.toks + 1 }) e c' d (by decide) ⟨.str ⟨#[c]⟩, H, I1, ⟨_, rfl⟩, ⟨rfl, c, hx, rfl⟩, st', fun b hb => (hf b hb).1⟩⟩
  done := by
    intro X hP hw hK hc i pins s σ H E I hf st hg
    subst hP hw hK
    obtain ⟨f0, f1, f2, f3, f4, f5⟩ := hf it (by simp)
    exact wpAny_pyNext_ascii_end (I.ok.hd hc) st (by rw [Array.getElem?_eq_none]; exact hg) fun h' eb => ⟨rfl, I.turned (t' := s.toks) (fun b o hb e => eb b o hb e) f0 f1 f3 f4 f5⟩
  self := fun _ _ _ _ _ st h => wpAny_pyIter_striter_ascii st h
def iStr (te : TE) : TI := fun σ H R => te σ H fun v H1 => ∃ x, v = .str x ∧ x.cps.all (· < 128) = true ∧ R (Itc x) H1
theorem pi_str {l tg : Expr} {tl : TE} (hl : PE X l tl) : PI X tg l (iStr tl) := by
  intro pins s σ H R I h
  refine thn (hl pins s σ H _ I h) fun v s1 ⟨x, H1, I1, r1, q1⟩ => ?_
  obtain ⟨x, e, ha, q⟩ := q1
  subst e
  obtain ⟨t, rfl⟩ := r1
  refine wpAny_pyIter_ascii ha ?_
  refine ⟨s1.heap.objs.size, [s1.heap.objs.size], _, _, H1, rfl, I1.kept (t' := s1.toks) fun b o e => Heap.get?_push_of_some _ e, turn_str x t _, ⟨_, Heap.get?_push_size _ rfl, rfl, rfl⟩, fun b hb => ?_, q⟩
  have e : b = s1.heap.objs.size := by simpa using hb
  subst e
  exact I1.fpOk (Nat.le_refl _) (I1.hok.fresh (Nat.le_refl _))
theorem comp_str {x : Str} {B : V → List V → (List V → Hp → Prop) → Hp → Prop} {Z : List V → Hp → Prop} {H : Hp} (Pv : Nat → List V → Hp → Prop) (h0 : Pv 0 [] H)
    (hy : ∀ i ys H, i < x.cps.size → Pv i ys H → ys.length < sizeLine) (hs : ∀ i c ys H, x.cps[i]? = some c → Pv i ys H → B (.str ⟨#[c]⟩) ys (Pv (i + 1)) H) (hd : ∀ ys H, Pv x.cps.size ys H → Z ys H) :
    ∃ W : Nat → Nat → List V → Hp → Prop, (∃ m, W 0 m [] H) ∧ ∀ i m ys H, W i m ys H →
      ((Itc x).stop i H ∧ Z ys H) ∨ ((Itc x).go i H ∧ ys.length < sizeLine ∧ ∃ N : List V → Hp → Prop, (∀ ys' H', N ys' H' → ∃ m', m' < m ∧ W (i + 1) m' ys' H') ∧ ∀ v H', (Itc x).yld i H v H' → B v ys N H') := by
  refine ⟨fun i m ys H => m = x.cps.size - i ∧ i ≤ x.cps.size ∧ Pv i ys H, ⟨x.cps.size, by simp, Nat.zero_le _, h0⟩, ?_⟩
  rintro i m ys H ⟨rfl, hi, p⟩
  by_cases hlt : i < x.cps.size
  · refine .inr ⟨hlt, hy i ys H hlt p, Pv (i + 1), fun ys' H' p' => ⟨x.cps.size - (i + 1), by omega, rfl, hlt, p'⟩, fun v H' y => ?_⟩
    obtain ⟨e, c, hc, rfl⟩ := y
    subst e
    exact hs i c ys _ hc p
  · have e : i = x.cps.size := by omega
    subst e
    exact .inl ⟨Nat.le_refl _, hd ys H p⟩
end
end L2
namespace Nw
open PySem L2
theorem cps_app (a b : Str) : (a ++ b).cps.toList = a.cps.toList ++ b.cps.toList := by
  show (a.cps ++ b.cps).toList = _
  rw [Array.toList_append]
theorem str_of_cps {a b : Str} (h : a.cps.toList = b.cps.toList) : a = b := by
  cases a; cases b
  exact congrArg Str.mk (Array.toList_inj.mp h)
theorem cut_inj {c : Nat} : ∀ {a b r s : List Nat}, c ∉ a → c ∉ b → a ++ c :: r = b ++ c :: s → a = b ∧ r = s
  | [], [], r, s, _, _, h => ⟨rfl, by injection h⟩
  | [], y :: b, r, s, _, hb, h => by
    injection h with h1 h2
    exact absurd (by rw [h1]; exact List.mem_cons_self) hb
  | x :: a, [], r, s, ha, _, h => by
    injection h with h1 h2
    exact absurd (by rw [h1]; exact List.mem_cons_self) ha
  | x :: a, y :: b, r, s, ha, hb, h => by
    injection h with h1 h2
    obtain ⟨e1, e2⟩ := cut_inj (fun z => ha (List.mem_cons_of_mem _ z)) (fun z => hb (List.mem_cons_of_mem _ z)) h2
    exact ⟨by rw [h1, e1], e2⟩
theorem join_inj {c : Nat} : ∀ {ps qs : List Str}, ps ≠ [] → qs ≠ [] → (∀ p ∈ ps, c ∉ p.cps.toList) → (∀ p ∈ qs, c ∉ p.cps.toList) → Str.join ⟨#[c]⟩ ps = Str.join ⟨#[c]⟩ qs → ps = qs
  | [], _, h, _, _, _, _ => absurd rfl h
  | _ :: _, [], _, h, _, _, _ => absurd rfl h
  | [p], [q], _, _, _, _, h => by rw [show p = q from h]
  | [p], q :: q2 :: qs, _, _, hp, _, h => by
    have h : p = q ++ ⟨#[c]⟩ ++ Str.join ⟨#[c]⟩ (q2 :: qs) := h
    refine absurd ?_ (hp p List.mem_cons_self)
    rw [h, cps_app, cps_app]
    simp
  | p :: p2 :: ps, [q], _, _, _, hq, h => by
    have h : p ++ ⟨#[c]⟩ ++ Str.join ⟨#[c]⟩ (p2 :: ps) = q := h
    refine absurd ?_ (hq q List.mem_cons_self)
    rw [← h, cps_app, cps_app]
    simp
  | p :: p2 :: ps, q :: q2 :: qs, _, _, hp, hq, h => by
    have h : p ++ ⟨#[c]⟩ ++ Str.join ⟨#[c]⟩ (p2 :: ps) = q ++ ⟨#[c]⟩ ++ Str.join ⟨#[c]⟩ (q2 :: qs) := h
    have h2 := congrArg (fun x : Str => x.cps.toList) h
    simp only [cps_app, List.append_assoc] at h2
    obtain ⟨e1, e2⟩ := cut_inj (hp p List.mem_cons_self) (hq q List.mem_cons_self) (by simpa using h2)
    rw [str_of_cps e1, join_inj (List.cons_ne_nil _ _) (List.cons_ne_nil _ _) (fun x hx => hp x (List.mem_cons_of_mem _ hx)) (fun x hx => hq x (List.mem_cons_of_mem _ hx)) (str_of_cps e2)]
theorem split_ne (x y : Str) : Txt.split x y ≠ [] := by
  unfold Txt.split
  split
  · exact List.cons_ne_nil _ _
  · split
    · exact List.cons_ne_nil _ _
    · rw [StrLaws.partsBetween_eq]
      obtain ⟨p, r, e⟩ := StrLaws.partsFrom_ne x y.length 0 (Builtin.Str.occurrences x y 0 x.length (x.length + 1))
      rw [e]
      exact List.cons_ne_nil _ _
theorem split_join {c : Nat} {ps : List Str} (h : ps ≠ []) (hp : ∀ p ∈ ps, c ∉ p.cps.toList) : Txt.split (Str.join ⟨#[c]⟩ ps) ⟨#[c]⟩ = ps :=
  join_inj (split_ne _ _) h (fun p hp => StrLaws.split_free _ c p hp) hp (StrLaws.join_split _ _)
theorem join_app {s : Str} : ∀ {ps qs : List Str}, ps ≠ [] → qs ≠ [] → Str.join s (ps ++ qs) = Str.join s ps ++ s ++ Str.join s qs
  | [], _, h, _ => absurd rfl h
  | [p], q :: qs, _, _ => rfl
  | [p], [], _, h => absurd rfl h
  | p :: p2 :: ps, qs, _, hq => by
    show p ++ s ++ Str.join s (p2 :: ps ++ qs) = p ++ s ++ Str.join s (p2 :: ps) ++ s ++ Str.join s qs
    rw [join_app (List.cons_ne_nil _ _) hq]
    simp only [Str.append_assoc]
theorem parts_len (t : Str) : (Builtin.Str.partsBetween t (Builtin.Str.occurrences t " " 0 t.length (t.length + 1)) (" " : Str).length).length ≤ t.length + 2 := by
  rw [Builtin.Str.partsBetween]
  simp only [List.length_map, List.length_zip, List.length_cons, List.length_append]
  have := StrLaws.occ_length_le t " " 0 t.length (t.length + 1)
  simp
  omega
theorem split_len (t : Str) : (Txt.split t " ").length ≤ t.length + 2 := by
  unfold Txt.split
  split
  · simp
  · split
    · simp
    · exact parts_len t
theorem split_app (s u : Str) (c : Nat) : Txt.split (s ++ ⟨#[c]⟩ ++ u) ⟨#[c]⟩ = Txt.split s ⟨#[c]⟩ ++ Txt.split u ⟨#[c]⟩ := by
  have h1 := StrLaws.join_split s ⟨#[c]⟩
  have h2 := StrLaws.join_split u ⟨#[c]⟩
  have h3 := join_app (s := ⟨#[c]⟩) (split_ne s ⟨#[c]⟩) (split_ne u ⟨#[c]⟩)
  rw [h1, h2] at h3
  rw [← h3]
  refine split_join (fun z => split_ne s ⟨#[c]⟩ (List.append_eq_nil_iff.mp z).1) fun p hp => ?_
  rcases List.mem_append.mp hp with hp | hp
  · exact StrLaws.split_free s c p hp
  · exact StrLaws.split_free u c p hp
theorem split_one {x : Str} {c : Nat} (h : c ∉ x.cps.toList) : Txt.split x ⟨#[c]⟩ = [x] :=
  split_join (ps := [x]) (List.cons_ne_nil _ _) (fun p hp => by rw [List.mem_singleton.mp hp]; exact h)
theorem blank_is : (" " : Str) = ⟨#[32]⟩ := by decide +kernel
def piecesOf (t : Str) : List Str := (Txt.split t " ").filter fun x => !decide (V.str x = V.str "")
theorem pieces_app (s u : Str) : piecesOf (s ++ " " ++ u) = piecesOf s ++ piecesOf u := by
  unfold piecesOf
  rw [blank_is, split_app, List.filter_append]
theorem pieces_none : piecesOf "" = [] := by decide +kernel
theorem app_none (s : Str) : s ++ ("" : Str) = s := by
  cases s
  exact congrArg Str.mk Array.append_empty
theorem pieces_blank (s : Str) : piecesOf (s ++ " ") = piecesOf s := by
  have h := pieces_app s ""
  rw [app_none, pieces_none, List.append_nil] at h
  exact h
theorem pieces_one {x : Str} (h : 32 ∉ x.cps.toList) (n : x ≠ "") : piecesOf x = [x] := by
  unfold piecesOf
  rw [blank_is, split_one h, List.filter_cons, if_pos (by rw [decide_eq_false (fun z => n (V.str.inj z))]; rfl)]
  rfl
def Blk (s : Str) : Prop := s = "" ∨ ∃ s0, s = s0 ++ " "
theorem pieces_next {s x : Str} (h : Blk s) (hx : 32 ∉ x.cps.toList) (n : x ≠ "") : piecesOf (s ++ x) = piecesOf s ++ [x] := by
  rcases h with rfl | ⟨s0, rfl⟩
  · have e : ("" : Str) ++ x = x := by
      cases x
      exact congrArg Str.mk (Array.empty_append)
    rw [e, pieces_none, pieces_one hx n]
    rfl
  · rw [pieces_app, pieces_blank, pieces_one hx n]
theorem repS_succ (z : Str) (n : Nat) : repS z (n + 1) = z ++ repS z n := by
  unfold repS
  have h : ∀ (l : List (Array Nat)) (a : Array Nat), l.foldl (· ++ ·) a = a ++ l.foldl (· ++ ·) #[] := by
    intro l
    induction l with
    | nil => intro a; simp
    | cons b l ih => intro a; rw [List.foldl_cons, List.foldl_cons, ih, ih (#[] ++ b), Array.empty_append, Array.append_assoc]
  rw [List.replicate_succ, List.foldl_cons, h, Array.empty_append]
  rfl
theorem repS_zero (z : Str) : repS z 0 = "" := rfl
theorem pieces_reps (s : Str) : ∀ n, piecesOf (s ++ repS " " n) = piecesOf s
  | 0 => by rw [repS_zero, app_none]
  | n + 1 => by rw [repS_succ, ← Str.append_assoc, pieces_reps (s ++ " ") n, pieces_blank]
theorem blk_reps (s : Str) : ∀ n, 1 ≤ n → Blk (s ++ repS " " n)
  | 0, h => by omega
  | 1, _ => .inr ⟨s, by rw [repS_one]⟩
  | n + 2, _ => by
    rw [repS_succ, ← Str.append_assoc]
    exact blk_reps (s ++ " ") (n + 1) (by omega)
end Nw
namespace Nw
open PySem L2
theorem reps_list : ∀ k, (repS " " k).cps.toList = List.replicate k 32
  | 0 => rfl
  | k + 1 => by
    rw [repS_succ, cps_app, reps_list k, List.replicate_succ, blank_is]
    rfl
end Nw
namespace L2
open PySem PySem.Spec PyProof.Rows
section
variable {P : Program} {w : World} {H H' : Hp} {h h1 h2 : Heap} {a C : Addr} {o : HO} {fs : List Addr}
theorem HOk.there (x : HOk P w H h) (e : H a = some o) : ∃ u, h.get? a = some u := by
  have y := x a o e
  cases o with
  | lst xs => obtain ⟨_, _, _, _, q⟩ := y; exact ⟨_, q⟩
  | tup xs => obtain ⟨_, _, _, _, q, _⟩ := y; exact ⟨_, q⟩
  | dK kvs => obtain ⟨_, _, _, _, _, _, _, q, _⟩ := y; exact ⟨_, q⟩
  | dT kvs => obtain ⟨_, _, _, _, _, _, _, q, _⟩ := y; exact ⟨_, q⟩
  | set S n => obtain ⟨_, _, _, _, q, _⟩ := y; exact ⟨_, q⟩
  | ins C dx fs => obtain ⟨_, _, _, q, _⟩ := y; exact ⟨_, q⟩
  | own y' => exact y
  | xd fs => obtain ⟨_, ⟨_, _, _, q, _⟩, _⟩ := y; exact ⟨_, q⟩
  | rng lo hi => obtain ⟨_, _, _, q⟩ := y; exact ⟨_, q⟩
  | frz ob u => exact ⟨_, y.1⟩
  | tbl ps => exact ⟨_, y⟩
  | met f y' => exact ⟨_, y⟩
  | ext φ => exact y.2.1
theorem HOk.away (x : HOk P w H h) (e : h.get? a = none) : H a = none := by
  cases q : H a with
  | none => rfl
  | some o => obtain ⟨u, z⟩ := x.there q; rw [e] at z; cases z
theorem HOk.fly (x : HOk P w H h1) (k : ∀ b o, h1.get? b = some o → H b ≠ none → h2.get? b = some o) : HOk P w H h2 := fun a o e =>
  (x a o e).stay (fun b u hb q => k b u q (by rcases hb with rfl | hb
                                              · rw [e]; simp
                                              · rw [hb]; simp)) (fun _ q => q) fun _ _ q => q
theorem Un.fly (u : Un fs [] H H' h h1) (k : ∀ b o, h1.get? b = some o → b ∉ fs → (∃ v, h.get? b = some v) → h2.get? b = some o)
    (sl : ∀ b o, h1.get? b = some o → b ∈ fs → ∃ sl, h2.get? b = some { o with slots := sl }) : Un fs [] H H' h h2 where
  keep := fun b o q n hb hx => k b o (u.keep b o q n hb hx) hb ⟨o, q⟩
  slot := fun b o q n hb hx => by
    obtain ⟨s1, e1⟩ := u.slot b o q n hb hx
    obtain ⟨s2, e2⟩ := sl b _ e1 hb
    exact ⟨s2, e2⟩
  free := u.free
  there := fun b o q hx => by
    obtain ⟨o', e1⟩ := u.there b o q hx
    by_cases hb : b ∈ fs
    · obtain ⟨s2, e2⟩ := sl b _ e1 hb
      exact ⟨_, e2⟩
    · exact ⟨_, k b o' e1 hb ⟨o, q⟩⟩
  tups := u.tups
  frzs := u.frzs
  tbls := u.tbls
def ExcAt (C a : Addr) (h : Heap) : Prop := ∃ o vs, h.get? a = some o ∧ o.cls = .ref C ∧ o.data = .fields vs
def excO (C a : Addr) : HO := .ext (ExcAt C a)
theorem ExcAt.ok (x : ExcAt C a h) : ObjOk P w H h a (excO C a) :=
  ⟨x, let ⟨o, _, e, _⟩ := x; ⟨o, e⟩, fun _ _ ⟨o, vs, e, c, d⟩ k => ⟨o, vs, k o e, c, d⟩⟩
theorem HOk.tell (x : HOk P w H h) (n : H a = none) (e : ExcAt C a h) : HOk P w (upd H a (excO C a)) h := fun b u q => by
  by_cases hb : b = a
  · subst hb; rw [upd_same] at q; cases q; exact e.ok
  · rw [upd_ne hb] at q
    exact (x b u q).stay (fun _ _ _ z => z) (fun c z => by rw [upd_ne (ne_of_none z n)]; exact z) fun c xs z => by rw [upd_ne (ne_of_none z n)]; exact z
theorem Un.tell (u : Un fs [] H H' h h1) (n : h.get? a = none) (n0 : H a = none) (n' : H' a = none) : Un fs [] H (upd H' a o) h h1 where
  keep := u.keep
  slot := u.slot
  free := fun b ob q z hx => by
    rw [upd_ne (fun y => by rw [y, n] at q; cases q)]; exact u.free b ob q z hx
  there := u.there
  tups := fun b xs q => by rw [upd_ne (ne_of_none q n0)]; exact u.tups b xs q
  frzs := fun b ob xs q => by rw [upd_ne (ne_of_none q n0)]; exact u.frzs b ob xs q
  tbls := fun b ps q => by rw [upd_ne (ne_of_none q n0)]; exact u.tbls b ps q
end
def CXE (P : Program) (w : World) : CXT := fun outer H s E e s' => ∃ (a C : Addr) (a0 : Value) (H' : Hp) (B : Heap),
  e = .ref a ∧ s'.os = s.os ∧ AllBare s'.gens ∧ Un (frs outer) [] H H' s.heap s'.heap ∧ HOk P w H' s'.heap ∧ H' a = none ∧ s.heap.get? a = none ∧
  Heap.FlyingW B outer a (.ref C) a0 s'.heap ∧ (∀ b o, s'.heap.get? b = some o → b ∉ frs outer → (H' b ≠ none ∨ ∃ v, s.heap.get? b = some v) → B.get? b = some o) ∧ E (.ref C) (some a) (upd H' a (excO C a))
theorem passE {P : Program} {w : World} {X : Cx} : Passes (CXE P w) X E0 := fun _ _ _ _ _ _ _ ⟨_, _, _, _, _, _, _, _, _, _, _, _, _, _, z⟩ => z.elim
structure OwnX (K : PySem.W.Frag) (C : Addr) : Prop where
  inn : ∃ newId Bn inN bmN, ExcBaseFacts Bn newId inN bmN ∧ ([.type "ValueError", .type "Exception", .type "BaseException", .type "object"] : List Value).contains (.type Bn) = true ∧
    PySem.W.excIn K C [.type "ValueError", .type "Exception", .type "BaseException", .type "object"] newId = true
theorem own_obj {K : PySem.W.Frag} {C : Addr} {l : List Value} {i : String} {h : Heap} (X : K.In h) (q : PySem.W.excIn K C l i = true) :
    ∃ bm N nm qn bs hd sn sub ab col dd k0 k1 k2 k3 k5 mN, h.get? C = some (excClassObj nm qn C N bs bm hd sn sub ab col dd k0 k1 k2 k3 k5 i) ∧ h.Ns N mN ∧ mN "__init__" = none ∧ OwnTail h l bm := by
  unfold PySem.W.excIn at q
  split at q
  · rename_i d0 c0 s0 ho
    split at q
    · rename_i C1 b1 x0 x1 x2 x3 n1 x5 e1 e2
      rw [Bool.and_eq_true, Bool.and_eq_true, Bool.and_eq_true, Bool.and_eq_true, Bool.and_eq_true] at q
      obtain ⟨⟨⟨⟨⟨q1, q2⟩, q3⟩, q4⟩, q5⟩, q6⟩ := q
      cases beq_iff_eq.mp q1
      cases beq_iff_eq.mp q2
      have q7 := beq_iff_eq.mp q6
      obtain ⟨nm, bs, mro, ns, qn, hd, sn, sub, ab, col, del⟩ := c0
      have e1' : mro = _ := e1
      subst e1'
      have e3 : del = false := by simpa using q3
      subst e3
      have e4 : s0 = #[x0, x1, x2, x3, some (.builtin i), x5] := by
        obtain ⟨l0⟩ := s0
        exact congrArg Array.mk e2
      subst e4
      exact ⟨b1, ns, nm, qn, bs, hd, sn, sub, ab, col, d0, x0, x1, x2, x3, x5, _, X _ _ ho, .of_isNs (PySem.W.isNs_of_in X q5), PySem.W.nsMap_none_of_in X q5 q7, PySem.W.tail_of_in X q4⟩
    · cases q
  · cases q
section
variable {P : Program} {w : World} {K : PySem.W.Frag} {mg : Str → Option Value} {base : Heap} {N : List Str} {qual x : Str} {scope : Scope} {f C : Addr} {cdv : Value} {A : Around} {outer : List Env} {s : Shared} {H : Hp} {E : XK}
  {e : Expr} {es : List Expr} {t : TA} {np cpos pos : Pos}
def tRaise (C : Addr) (E : XK) (t : TA) : TS := fun _ σ H => t σ H fun vs H1 => vs.length ≤ sizeLine ∧ ∀ a, H1 a = none → E (.ref C) (some a) (upd H1 a (excO C a))
theorem ps_raise (O : OwnX K C) (hm : mg x = some (.ref C)) (hg : Gl (cxOf (CXE P w) P w K mg base N qual scope f cdv A outer s H E) x)
    (ha : PA (cxOf (CXE P w) P w K mg base N qual scope f cdv A outer s H E).nox (e :: es) t) (hd : (x == ("__debug__" : Str)) = false := by decide)
    (he : starEach (e :: es) (cxOf (CXE P w) P w K mg base N qual scope f cdv A outer s H E).env = (false, eval e (cxOf (CXE P w) P w K mg base N qual scope f cdv A outer s H E).env) :: starEach es (cxOf (CXE P w) P w K mg base N qual scope f cdv A outer s H E).env := by rfl)
    (hpl : (backTo cpos (starEach es (cxOf (CXE P w) P w K mg base N qual scope f cdv A outer s H E).env)).any (·.1) = false := by rfl) :
    PS (cxOf (CXE P w) P w K mg base N qual scope f cdv A outer s H E) (.Raise (some (.Call (.Name x np) (e :: es) [] cpos)) none pos) (tRaise C E t) := by
  intro pins s1 σ H1 D I h
  obtain ⟨newId, Bn, inN, bmN, FN, hB, q⟩ := O.inn
  obtain ⟨bm, NS, nm, qn, bs, hd', sn, sub, ab, col, dd, k0, k1, k2, k3, k5, mN, hC, hN, hni, TL⟩ := own_obj I.ok.mod.kin q
  refine wpAny_Raise_call_subU (C := C) (nm := nm) (q := qn) (N := NS) (bs := bs) (hdct := hd') (sn := sn) (sub := sub) (ab := ab) (col := col) (dd := dd) (k0 := k0) (k1 := k1) (k2 := k2) (k3 := k3) (k5 := k5) FN hB PySem.F.excBase_ValueError (TL.hasType (by decide)) (I.ok.hd rfl) (by rw [he]; show (false || (backTo cpos (starEach es _)).any (·.1)) = false; rw [hpl]; rfl) hni ?_
  refine ld_glob I hg hm ⟨rfl, ?_⟩ hd
  have h2 := ha cpos pins s1 σ H1 _ (show Inv (cxOf (CXE P w) P w K mg base N qual scope f cdv A outer s H E).nox pins σ H1 s1 from I.wish _) h
  rw [he] at h2 ⊢
  refine Calls.evalArgs_plain (wpAny_mono h2 (fun us s2 ⟨vs, H2, I2', r, z, k⟩ => ?_) fun _ _ z => z.elim)
  have I2 : Inv (cxOf (CXE P w) P w K mg base N qual scope f cdv A outer s H E) pins σ H2 s2 := I2'.unwish
  refine ⟨rfl, by show us.length ≤ sizeLine; rw [← r.length]; exact z, I2.bk _ _ hC, hN.keeps I2.bk, TL.keeps I2.bk, fun h' a hx => ?_⟩
  have in0 : ∀ b, b ∉ frs outer → b ≠ s.heap.objs.size → b ∉ frs (envOfC qual scope s.heap.objs.size f cdv :: outer) := fun b h1 h2 h3 => (List.mem_cons.mp (show b ∈ s.heap.objs.size :: frs outer from h3)).elim h2 h1
  have old : ∀ b v, s.heap.get? b = some v → b ≠ s.heap.objs.size := fun b v q => Nat.ne_of_lt (Heap.lt_size q)
  have new : H2 a = none := I2.hok.away hx.new
  show wpAny (model P w) (A.deeper (envOfC qual scope s.heap.objs.size f cdv)) (leaving (envOfC qual scope s.heap.objs.size f cdv) (.ref a)) _ _ { s2 with heap := h' }
  refine wpAny_leaves_madeW (base := PySem.W.hideAll s2.heap (frs (envOfC qual scope s.heap.objs.size f cdv :: outer))) I2.ok.frames rfl (fun b o q => PySem.W.of_hideAll _ q) (PySem.W.funFrames_hide I2.stack fun env he b hb => List.mem_filterMap.mpr ⟨env, he, hb⟩) hx fun h2' tt fl tup nt up => ?_
  have kB : ∀ b o, s2.heap.get? b = some o → b ∉ frs (envOfC qual scope s.heap.objs.size f cdv :: outer) → h2'.get? b = some o ∧ (PySem.W.hideAll s2.heap (frs (envOfC qual scope s.heap.objs.size f cdv :: outer))).get? b = some o := fun b o q n =>
    ⟨fl.1 b o (PySem.W.hideAll_get _ q n), PySem.W.hideAll_get _ q n⟩
  refine ⟨a, C, .ref tt, H2, _, rfl, I2.os, I2.bare, I2.base.fly (fun b o q hb ⟨v, z⟩ => (kB b o q (in0 b hb (old b v z))).1) (fun b o q hb => ?_), I2.hok.fly (fun b o q z => (kB b o q fun y => z (I2.stkFree b y)).1), new, ?_, fl, fun b o q hb hc => ?_, k a new⟩
  · obtain ⟨_, o', ho, hnf⟩ := I2.funs.mem hb
    rw [q] at ho; cases ho
    exact up b o (hx.keeps b o q) hnf
  · cases q : s.heap.get? a with
    | none => rfl
    | some o =>
      obtain ⟨o', e'⟩ := I2.base.there a o q (fun z => nomatch z)
      rw [hx.new] at e'; cases e'
  · have e1 : ∃ o1, s2.heap.get? b = some o1 := by
      rcases hc with z | ⟨v, z⟩
      · cases y : H2 b with
        | none => exact absurd y z
        | some u => exact I2.hok.there y
      · exact I2.base.there b v z (fun y => nomatch y)
    obtain ⟨o1, e1⟩ := e1
    have nb : b ∉ frs (envOfC qual scope s.heap.objs.size f cdv :: outer) := by
      rcases hc with z | ⟨v, z⟩
      · exact fun y => z (I2.stkFree b y)
      · exact in0 b hb (old b v z)
    have e2 := kB b o1 e1 nb
    rw [e2.1] at q; cases q
    exact e2.2
end
abbrev Cx.within (X : Cx) (a : Addr) : Cx := { X with A := X.A.mark (some (.ref a)), calm := false, xe := fun _ _ => False }
section
variable {X : Cx} {pins : List (Addr × Obj)} {σ : St} {H H' : Hp} {s s' : Shared} {a C : Addr} {a0 : Value} {B h2 : Heap}
theorem Inv.within (I : Inv X pins σ H s) (a : Addr) : Inv (X.within a) pins σ H s :=
  ⟨⟨I.ok.mod, I.ok.kind, I.ok.glob, I.ok.blt, I.ok.above, I.ok.inj, I.ok.has, I.ok.cab, (fun z => nomatch z), I.ok.frames, I.ok.stk, I.ok.exf, I.ok.bs, I.ok.bsz, I.ok.noex, I.ok.exfs, I.ok.funs, I.ok.frf⟩, I.os, I.bare, I.base, I.loc, I.cell, I.free, I.freeC, I.pin, I.hok, I.len⟩
theorem Inv.without (J : Inv (X.within a) pins σ H s) (ok : X.Ok) : Inv X pins σ H s := ⟨ok, J.os, J.bare, J.base, J.loc, J.cell, J.free, J.freeC, J.pin, J.hok, J.len⟩
theorem Inv.caught (I : Inv X pins σ H s) (os : s'.os = s.os) (bare : AllBare s'.gens) (u : Un (frs X.stack) [] H H' s.heap s'.heap) (ok : HOk X.prog X.w H' s'.heap) (n' : H' a = none) (n : s.heap.get? a = none)
    (F0 : s'.heap.FunFrames B X.stack) (fl : Heap.FlyingW B X.stack a (.ref C) a0 h2) (kb : ∀ b o, s'.heap.get? b = some o → b ∉ frs X.stack → (H' b ≠ none ∨ ∃ v, s.heap.get? b = some v) → B.get? b = some o) (up : s'.heap.UpToSlots h2) :
    Inv X pins σ (upd H' a (excO C a)) { s' with heap := h2 } := by
  have nf : ∀ b ∈ frs X.stack, H' b = none := fun b hb => by
    obtain ⟨_, o, ho, _⟩ := I.stack.mem hb
    exact u.free b o ho (I.stkFree b hb) (fun z => nomatch z)
  have ex : ExcAt C a h2 := by
    obtain ⟨oe, vs, q1, q2, q3, _⟩ := fl.first
    exact ⟨oe, vs, q1, q2, q3⟩
  have u2 : Un (frs X.stack) [] H H' s.heap h2 := u.fly (fun b o q hb z => fl.1 b o (kb b o q hb (.inr z))) fun b o q hb => by
    obtain ⟨_, o', ho, hnf⟩ := F0.mem hb
    rw [q] at ho; cases ho
    exact up b o q hnf
  have ok2 : HOk X.prog X.w H' h2 := ok.fly fun b o q z => fl.1 b o (kb b o q (fun y => z (nf b y)) (.inl z))
  exact I.call' (s' := { s' with heap := h2 }) os (u2.tell n (I.hok.away n) n') (ok2.tell n' ex) bare fun b z => nomatch z
theorem unset_ok {M : Model} {A : Around} {E : Value → Shared → Prop} {i : Nat} {n : Str} {pos : Pos} {Q : Unit → Shared → Prop} (I : Inv X pins σ H s) (hN : X.N.Nodup) (hi : X.N[i]? = some n) (hk : X.env.kindOf n = some .local)
    (h : ∀ s', Inv X pins (σ.set i none) H s' → Q () s') : wpAny M A (do bindName X.env n .none; unbindBehindTheSuite X.env n pos) Q E s := by
  obtain ⟨m, hn, hl⟩ := id I.loc
  have hcls : (X.env.scope.kind == .class || (X.env.scope.kind == .module && X.env.locals != X.env.globals)) = false := by rw [I.ok.kind]; rfl
  have hiσ : i < σ.length := by rw [I.len]; exact (List.getElem?_eq_some_iff.mp hi).1
  obtain ⟨oL, _, _, hoL, _⟩ := id hn
  refine wpAny_nameGoes_keeps hk hn hcls fun h' v hn' hs => h _ ⟨I.ok, I.os, I.bare, ⟨fun b o e n hb hx => ?_, fun b o e n hb hx => ?_, I.base.free, fun b o e hx => ?_, I.base.tups, I.base.frzs, I.base.tbls⟩, ⟨_, hn', fun j y v' e1 e2 e3 => ?_⟩, fun y c e => ?_, I.free, I.freeC, fun p hp => ?_, fun b ob e => ?_, by simpa using I.len⟩
  · exact (hs.2 b (Nat.ne_of_lt (Nat.lt_of_lt_of_le (Heap.lt_size e) I.ok.above))).trans (I.base.keep b o e n hb hx)
  · obtain ⟨sl, e1⟩ := I.base.slot b o e n hb hx
    exact ⟨sl, (hs.2 b (Nat.ne_of_lt (Nat.lt_of_lt_of_le (Heap.lt_size e) I.ok.above))).trans e1⟩
  · obtain ⟨o', e1⟩ := I.base.there b o e hx
    exact ⟨o', (hs.2 b (Nat.ne_of_lt (Nat.lt_of_lt_of_le (Heap.lt_size e) I.ok.above))).trans e1⟩
  · have hj : j ≠ i := fun z => by
      rw [z, List.getElem?_set_self hiσ] at e2; cases e2
    rw [List.getElem?_set_ne (Ne.symm hj)] at e2
    obtain ⟨u', r', q⟩ := hl j y v' e1 e2 e3
    refine ⟨u', r', ?_⟩
    rcases q with ⟨k, e⟩ | ⟨k, c, e, z⟩
    · refine .inl ⟨k, ?_⟩
      have : y ≠ n := fun e => hj (nodup_ix hN e1 (e ▸ hi))
      simp [this, e]
    · exact .inr ⟨k, c, e, z.sameBut hs (I.cne y c e)⟩
  · obtain ⟨w', z⟩ := I.cell y c e
    exact ⟨w', z.sameBut hs (I.cne y c e)⟩
  · obtain ⟨e, n, ne, nf, d⟩ := I.pin p hp
    exact ⟨(hs.2 p.1 ne).trans e, n, ne, nf, d⟩
  · refine (I.hok b ob e).stay (fun c w' hc q => (hs.2 c ?_).trans q) (fun _ q => q) fun _ _ q => q
    intro z
    rcases hc with z' | hc
    · rw [← z', z, I.free] at e; cases e
    · rw [z, I.free] at hc; cases hc
end
section
variable {X : Cx} {k i : Nat} {f CW : Addr} {fd : FuncData} {ps : List Str} {sp : Sp} {x xw n : Str} {p wp cpos epos hpos pos : Pos} {e : Expr} {es : List Expr} {t : TA} {ts : TS} {b₀ : Stmt} {suite : List Stmt}
def tTry (K : PySem.W.Frag) (CW : Addr) (sp : Sp) (t : TA) (i : Nat) (ts : TS) : TS := fun D σ H => t σ H fun vs H1 => sp vs H1 (fun _ H2 => D.nx σ H2) fun c oa H2 =>
  PySem.W.exmOne K c (.ref CW) = some true ∧ ∃ a, oa = some a ∧ ts { nx := fun σ' H' => D.nx (σ'.set i none) H', rt := fun _ _ => False } (σ.set i (some (.ref a))) H2
theorem ps_try (hst : X.stack = X.env :: X.outer) (hfr : X.env.frame = some X.env.locals) (F : FnOk X.prog X.w X.K X.mg X.base (CXE X.prog X.w) k f fd ps sp) (hr : Room k X.A) (hg : Gl X x) (hm : X.mg x = some (.ref f))
    (hk : PySem.W.keepIn X.K (.ref f) = true) (hb : Binds X.K fd ps []) (ha : PA X.nox (e :: es) t) (hgW : Gl X xw) (hmW : X.mg xw = some (.ref CW)) (hN : X.N.Nodup) (hi : X.N[i]? = some n) (hl : X.env.kindOf n = some .local)
    (hs : ∀ a, PSs (X.within a) (b₀ :: suite) ts) (hdb : (x == ("__debug__" : Str)) = false := by decide) (hdw : (xw == ("__debug__" : Str)) = false := by decide)
    (he : starEach (e :: es) X.env = (false, eval e X.env) :: starEach es X.env := by rfl) (hpl : (backTo cpos (starEach es X.env)).any (·.1) = false := by rfl) (hsw : swapsWith (.Call (.Name x p) (e :: es) [] cpos) none epos.line X.env = pure false := by rfl) :
    PS X (.Try [.Expr (.Call (.Name x p) (e :: es) [] cpos) epos] [.ExceptHandler (some (.Name xw wp)) (some n) (b₀ :: suite) hpos] [] [] pos) (tTry X.K CW sp t i ts) := by
  intro pins s σ H D I h
  refine wpAny_Try_except (wpAny_execs_cons (wpAny_Expr_any ?_ I.quiet hsw))
  refine wpAny_Call_Name_kw (ld_glob I hg hm ?_ hdb)
  refine PySem.W.callWith_K (h₀ := X.base) I.ok.mod.kin hk (wpAny_mono (ha cpos pins s σ H _ (I.wish _) h) (fun us s1 ⟨vs, H1, I1', r, q⟩ => ⟨I1'.kIn, ?_⟩) fun _ _ z => z.elim) he hpl
  have I1 : Inv X pins σ H1 s1 := I1'.unwish
  have hlen : us.length = ps.length := by rw [← r.length]; exact F.len _ _ _ _ q
  refine wpAny_call (codeAny_mono (F.run X.A X.stack s1 H1 ⟨us, []⟩ us vs _ _ hr I1.env0 (by have z := hb s1 us I1.kIn (by simpa using hlen); rwa [List.append_nil] at z) r q) fun rr s' hq => ?_)
  cases rr with
  | ok fl =>
    cases fl with
    | ret u =>
      obtain ⟨v, H2, I2, _, z⟩ := I1.after hq
      exact wpAny_execs_nil (wpAny_execs_nil ⟨σ, H2, I2, z⟩)
    | next => exact False.elim hq
    | brk => exact False.elim hq
    | cont => exact False.elim hq
  | error ev =>
    obtain ⟨a, C, a0, H2, B, rfl, os, bare, u, ok, n', nn, fl, kb, hE⟩ := hq
    obtain ⟨hx, a', ea, z⟩ := hE
    cases ea
    have fl0 := fl
    rw [hst] at fl
    refine wpAny_looks_onW (by rw [I1.ok.frames, hst]) hfr fl fun h4 held4 sm4 => wpAny_landsW held4 fun h5 held sm5' => ?_
    have sm5 := sm4.trans sm5'
    have I5 : Inv X pins σ (upd H2 a (excO C a)) { s' with heap := h5 } := I1.caught os bare u ok n' nn fl0.2.2.1 (by rw [hst]; exact held) kb sm5
    refine wpAny_handleBy_cons (codeAny_handlers_test ?_) (by intro q; cases q)
    refine ld_glob (I5.within a) hgW hmW ?_ hdw
    have LT : PySem.W.Looks (model X.prog X.w) h5 (typeOf (.ref a)) (.ref C) := by
      obtain ⟨ob, hob, hobc⟩ := held.there
      exact hobc ▸ (PySem.W.Looks.ld hob).andThen .now
    refine PySem.W.exm_one I5.kIn LT hx _ _ _ _ (fun _ _ q => q) ?_
    show codeAny _ _ (.handlers (.ref a) [.ExceptHandler none (some n) (b₀ :: suite) hpos] X.env) _ _
    refine codeAny_handlers_suite_as (lands_againW held fun h6 fl6 sm6 => ?_)
    have I6 : Inv X pins σ (upd H2 a (excO C a)) { s' with heap := h6 } := I1.caught os bare u ok n' nn fl0.2.2.1 (by rw [hst]; exact fl6) kb (sm5.trans sm6)
    show wpAny _ _ (storeName (X.within a).env n (.ref a)) _ _ _
    refine store_ok (X := X.within a) (v := .ref a) (I6.within a) hN hi (.inl hl) rfl (fun s7 I7 => ?_) (.inr hl)
    refine wpAny_mono (hs a pins s7 _ _ _ I7 z) (fun fl s8 q8 => ?_) fun _ _ q => q.elim
    cases fl with
    | next =>
      obtain ⟨σ8, H8, I8, z8⟩ := q8
      exact unset_ok (I8.without I.ok) hN hi hl fun s9 I9 => ⟨_, _, I9, z8⟩
    | ret v => obtain ⟨_, _, _, _, _, q⟩ := q8; exact q.elim
    | brk => obtain ⟨_, _, _, q⟩ := q8; exact q.elim
    | cont => obtain ⟨_, _, _, q⟩ := q8; exact q.elim
end
structure ExcCls (K : PySem.W.Frag) (C : Addr) : Prop where
  ga : PySem.W.findIn K (.ref C) "__getattribute__" = some (some (.builtin "BaseException.__getattribute__"))
  hook : PySem.W.findIn K (.ref C) "__getattr__" = some none
  cls : PySem.W.findIn K (.ref C) "__class__" = some (some (.builtin "object.__class__"))
  get : PySem.W.specialIn K (.builtin "object.__class__") "__get__" = some (some (.builtin "getset_descriptor.__get__"))
  tk : PySem.W.takesIn K (.builtin "object.__class__") = some true
  obj : PySem.W.mroIn K C (.type "object") = some true
  base : PySem.W.subIn K (.ref C) (.type "BaseException") = some true
  is : (PySem.W.clsIn K C).isSome = true
section
variable {prog : Program} {w : World} {A : Around} {E : Value → Shared → Prop} {K : PySem.W.Frag} {x C : Addr}
theorem exc_type {M : Model} {h : Heap} (p : ExcAt C x h) : PySem.W.Looks M h (typeOf (.ref x)) (.ref C) := by
  obtain ⟨o, vs, h1, h2, h3⟩ := p
  exact h2 ▸ (PySem.W.Looks.ld h1).andThen .now
theorem exc_get {R : Result → Shared → Prop} {tp : Value} {s : Shared} (X : K.In s.heap) (p : ExcAt C x s.heap) (hm : PySem.W.mroIn K C (.type "object") = some true) (h : R (.ok (.ret (.ref C))) s) :
    codeAny (model prog w) A (.call (.builtin "getset_descriptor.__get__") ⟨[.builtin "object.__class__", .ref x, tp], []⟩) R s := by
  obtain ⟨hh, g, dr, t, os⟩ := s
  have L0 := exc_type (M := model prog w) p
  have L1 := PySem.W.looks_mroIn (M := model prog w) X hm
  have go : ∀ R : Result → Shared → Prop, R (.ok (.ret (.ref C))) ⟨hh, g, dr, t, os⟩ → codeAny (model prog w) A (.builtin "object.__class__" ⟨[.ref x], []⟩) R ⟨hh, g, dr, t, os⟩ := fun R h => by
    refine codeAny_builtin PySem.W.KF.entry_class ?_
    unfold Builtin.«object.__class__» shownTypeOf
    (repeat lk); exact h
  exact codeAny_call_builtin PySem.W.KF.slot_gs.plain PySem.W.KF.entry_gs (PySem.W.KF.slot_gs.check _ _ _ _ _ _ _ _ PySem.W.KF.type_class (PySem.W.KF.args_gs _ _ _) (by
    unfold Builtin.«getset_descriptor.__get__» Builtin.Getset_descriptor.descrGet; rw [PySem.W.dga_obj]
    refine wpAny_bind (wpAny_pure ?_); unfold Builtin.Getset_descriptor.descrGetter Builtin.Getset_descriptor.descrCheckInstance Builtin.Getset_descriptor.descrNameAndClass isInstance; simp only [PySem.W.KF.owner_class]
    (repeat lk); exact ⟨Code.quiet_builtin _ (by decide +kernel), go _ h⟩))
theorem exc_class {Q : Option Value → Shared → Prop} {s : Shared} (c : ExcCls K C) (X : K.In s.heap) (p : ExcAt C x s.heap) (h : Q (some (.ref C)) { s with toks := s.toks + 1 }) :
    wpAny (model prog w) A (getAttr? (.ref x) "__class__") Q E s := by
  obtain ⟨hh, g, d, t, os⟩ := s
  have L0 := exc_type (M := model prog w) p
  have L1 := PySem.W.looks_findIn (M := model prog w) X c.ga
  have L2 := PySem.W.looks_findIn (M := model prog w) X c.hook
  have L3 := PySem.W.looks_findIn (M := model prog w) X c.cls
  have L4 := PySem.W.looks_specialIn (M := model prog w) X c.get
  have L5 := PySem.W.looks_takesIn (M := model prog w) X c.tk
  have LB := PySem.W.looks_subIn (M := model prog w) X c.base
  unfold getAttr? getAttrBy? getAttrBy
  refine wpAny_bind (wpAny_mkText (wpAny_bind (wpAny_attempt (wpAny_holding (wpAny_bind (L0.at (wpAny_bind (L1.at ?_))))))))
  show wpAny _ _ (getAttrByItsOwn _ _ _ _ _ _) _ _ _
  unfold getAttrByItsOwn hookBefore
  refine wpAny_bind (L2.at ?_)
  refine wpAny_bind (wpAny_attempt (wpAny_holding ?_))
  show wpAny _ _ (boundAndCalled (.builtin "BaseException.__getattribute__") (.ref x) _) _ _ _
  unfold boundAndCalled
  refine wpAny_bind (wpAny_of_eq (PySem.F.attr_ValueError.ga.bind _) ?_)
  refine wpAny_call (codeAny_call_builtin PySem.F.attr_ValueError.ga.plain PySem.F.entry_bexc_ga ?_)
  have LI : PySem.W.Looks (model prog w) hh (isInstance (.ref x) (.type "BaseException")) true := L0.andThen LB
  have al := PySem.F.args_bexc_ga (.ref x) (.str "__class__" t)
  show wpAny _ _ (checkBuiltinCall "BaseException.__getattribute__" ⟨[.ref x, .str "__class__" t], []⟩) (fun _ s1 => wpAny _ _ (Builtin.«object.__getattribute__» ⟨[.ref x, .str "__class__" t], []⟩) _ _ s1) _ _
  simp only [checkBuiltinCall, (show builtinKind "BaseException.__getattribute__" = some .slot by decide +kernel), (show splitId "BaseException.__getattribute__" = some ("BaseException", "__getattribute__") by decide +kernel)]
  refine wpAny_bind (LI.at ?_)
  have LF : PySem.W.Looks (model prog w) hh (Builtin.ObjectAttr.find (.ref x) (.ref C) "__class__") (.bind (.builtin "getset_descriptor.__get__") (.builtin "object.__class__")) := by
    intro A' Q' E' s' k q
    obtain ⟨h1, g1, d1, t1, os1⟩ := s'
    have L3 := L3.keeps k
    have L4 := L4.keeps k
    have L5 := L5.keeps k
    unfold Builtin.ObjectAttr.find
    repeat lk
    exact q
  rw [if_neg (by decide)]
  refine wpAny_of_eq al ?_
  show wpAny _ _ (Builtin.«object.__getattribute__» ⟨[.ref x, .str "__class__" t], []⟩) _ _ _
  refine wpAny_bind (wpAny_pure (wpAny_bind (wpAny_pure (wpAny_bind (L0.at (wpAny_bind (LF.at ?_)))))))
  show wpAny _ _ (holding [_] (call (.builtin "getset_descriptor.__get__") [.builtin "object.__class__", .ref x, .ref C]) >>= ret) _ _ _
  refine wpAny_bind (wpAny_holding (wpAny_call (exc_get (s := ⟨hh, g, d, t + 1, os⟩) X p c.obj ?_)))
  exact wpAny_pure (wpAny_pure (wpAny_pure h))
theorem kitx_exc (c : ExcCls K C) : PySem.W.KitX K (.ref x) (.ref C) (ExcAt C x) where
  ty := fun _ _ _ p => exc_type p
  it := fun _ _ X _ => by
    have z := c.is
    unfold PySem.W.clsIn at z
    split at z
    · rename_i ho
      intro A' Q' E' s' k q
      unfold isType loadHead
      exact wpAny_bind (wpAny_loadPart (k _ _ (X _ _ ho)) (wpAny_pure q))
    · cases z
  ne := fun h tp dd its n sl X htp => by
    have z := c.is
    refine Bool.eq_false_iff.mpr fun q => ?_
    cases Value.ref.inj (beq_iff_eq.mp q)
    unfold PySem.W.clsIn at z
    split at z
    · rename_i ho
      cases (X _ _ ho).symm.trans htp
    · cases z
  ca := fun X p k => exc_class c X p k
end
section
variable {X : Cx}
def rIsE (K : PySem.W.Frag) : List V → Hp → VK → Prop := fun xs H Q => ∃ a C D b, xs = [.ref a, .ref D] ∧ H a = some (excO C a) ∧ ExcCls K C ∧ PySem.W.kitOne K (.ref C) (.ref D) = some b ∧ Q (.bl b) H
theorem call_isinstE : CallR X (.builtin "isinstance") (rIsE X.K) := by
  intro pins s σ H xs us Q I r h
  obtain ⟨a, C, D, b, rfl, ha, c, e, q⟩ := h
  obtain ⟨u, w', rfl, ru, rw'⟩ := vals2 r
  cases (show u = Value.ref a from ru)
  cases (show w' = Value.ref D from rw')
  exact PySem.W.kia_one (kitx_exc c) I.kIn (I.hok a _ ha).1 e (fun z => nomatch z) fun tk => ⟨.bl b, H, I.tok tk, rfl, q⟩
def rIsT (K : PySem.W.Frag) : List V → Hp → VK → Prop := fun xs H Q => ∃ a C n b, xs = [.ref a, .ty n] ∧ H a = some (excO C a) ∧ ExcCls K C ∧ PySem.W.kitOne K (.ref C) (.type n) = some b ∧ Q (.bl b) H
theorem call_isinstET : CallR X (.builtin "isinstance") (rIsT X.K) := by
  intro pins s σ H xs us Q I r h
  obtain ⟨a, C, n, b, rfl, ha, c, e, q⟩ := h
  obtain ⟨u, w', rfl, ru, rw'⟩ := vals2 r
  cases (show u = Value.ref a from ru)
  cases (show w' = Value.type n from rw')
  exact PySem.W.kia_one (kitx_exc c) I.kIn (I.hok a _ ha).1 e (fun z => nomatch z) fun tk => ⟨.bl b, H, I.tok tk, rfl, q⟩
end
section
variable {P : Program} {w : World} {K : PySem.W.Frag} {mg : Str → Option Value} {base : Heap}
theorem Fun.okX {x qual : Str} {st : Stmt} {f : Addr} {fd : FuncData} {N ps : List Str} {k : Nat} {sp : Sp} (F : Fun K x qual st f fd) (S : FnScope N ps (defScope st)) (len : ∀ vs H Q E, sp vs H Q E → vs.length = ps.length)
    (hbody : ∀ (cdv : Value) (A : Around) (outer : List Env) (s : Shared) (H : Hp) (vs : List V) (Q : VK) (E : XK), Room k (A.deeper (envOfC qual (defScope st) s.heap.objs.size f cdv)) → sp vs H Q E →
      ∃ t, PSs (cxOf (CXE P w) P w K mg base N qual (defScope st) f cdv A outer s H E) (defBody st) t ∧ t { nx := fun _ H' => Q .non H', rt := Q } (start N vs) H) : FnOk P w K mg base (CXE P w) (k + 1) f fd ps sp := by
  obtain ⟨oc, od, kV, doc, pm, an, cdv, ct, osl, rfl, lk, hcd⟩ := F.ex
  exact fn_of lk hcd S len fun A outer s H vs Q E hr hsp => hbody cdv A outer s H vs Q E hr hsp
end
end L2
namespace Nw
open PySem L2
def top (i : Nat) : Stmt := PySem.Challenge.pw_nearerwork_k01_words_of_texts.main.body.getD i (.Pass ⟨0, 0, 0, 0⟩)
abbrev sWords : Stmt := top 13
abbrev sIsWord : Stmt := top 14
abbrev sIsNum : Stmt := top 15
abbrev sIsNam : Stmt := top 16
abbrev sIsFar : Stmt := top 17
abbrev sMade : Stmt := top 18
abbrev sOpen : Stmt := top 19
abbrev sCell : Stmt := top 21
abbrev sMix : Stmt := top 22
abbrev sOwn : Stmt := top 23
abbrev sWord : Stmt := top 24
abbrev sMost : Stmt := top 25
abbrev sText : Stmt := top 26
abbrev sMany : Stmt := top 27
abbrev sLaw : Stmt := top 28
structure Bl (mg : Str → Option Value) : Prop where
  len : mg "len" = none
  range : mg "range" = none
  isinstance : mg "isinstance" = none
  str : mg "str" = none
  list : mg "list" = none
  max : mg "max" = none
  all : mg "all" = none
  ValueError : mg "ValueError" = none
theorem hu60 {A : Around} {k : Nat} (hr : Room k A) : A.units + 60 < cLine := by have := hr.un; omega
theorem same_new {H : Hp} {p : Addr} (h : H p = none) (o : HO) : Same H (upd H p o) := fun b u q => by rw [upd_ne (ne_of_none q h)]; exact q
def cps (l : List Nat) : Str := ⟨l.toArray⟩
theorem cps_length (l : List Nat) : (cps l).length = l.length := by show l.toArray.size = l.length; simp
theorem str_len (x y : Str) : (x ++ y).length = x.length + y.length := by
  show (x.cps ++ y.cps).size = x.cps.size + y.cps.size
  simp
theorem alpha : ("abcdefghijklmnopqrstuvwxyz" : Str) = cps ((List.range 26).map (97 + ·)) := by decide +kernel
theorem letter_at {i : Int} (h0 : 0 ≤ i) (h1 : i < 26) : atI (("abcdefghijklmnopqrstuvwxyz" : Str).cps.toList) i = some (97 + i.toNat) := by
  rw [alpha]
  obtain ⟨k, rfl⟩ : ∃ k : Nat, i = k := ⟨i.toNat, by omega⟩
  refine atI_nat ?_
  show (((List.range 26).map (97 + ·)).toArray.toList)[k]? = _
  have hi : k < 26 := by omega
  simp [hi]
theorem join_signs : ∀ cs : List Nat, Str.join ⟨#[]⟩ (cs.map fun c => (⟨#[c]⟩ : Str)) = cps cs
  | [] => rfl
  | c :: cs => by
    rw [List.map_cons, PyProof.Rows.join_nil_cons, join_signs cs]
    show (⟨#[c] ++ cs.toArray⟩ : Str) = ⟨(c :: cs).toArray⟩
    simp
theorem join_eq (sep : Str) (l : List Str) : Txt.join sep l = Str.join sep l := eq_of_beq (PyProof.Rows.join_plain_closes sep l)
section
variable {P : Program} {w : World} {K : PySem.W.Frag} {mg : Str → Option Value} {base : Heap}
def spCell (K : PySem.W.Frag) : Sp := fun vs H Q _ => ∃ (a : Addr) (ns : List Int) (k : Int), vs = [.ref a, .int k] ∧ SqL K H a (ns.map V.int) ∧ ns.length ≤ 63 ∧ 0 ≤ k ∧ k ≤ 1000 ∧ ∀ (r : Int) (H' : Hp), Same H H' → Q (.int r) H'
theorem scCell : FnScope ["_law_script", "_law_k"] ["_law_script", "_law_k"] (defScope sCell) := ⟨rfl, rfl, rfl, by decide +kernel, rfl, by decide +kernel, by decide +kernel⟩
theorem ok_cell {f : Addr} {fd : FuncData} (B : Bl mg) (F : Fun K "_law_cell_at" "_law_cell_at" sCell f fd) : FnOk P w K mg base CX0 1 f fd ["_law_script", "_law_k"] (spCell K) := by
  refine F.ok scCell (fun vs H Q E h => ?_) (fun cdv A outer s H vs Q E hr h => ?_)
  · obtain ⟨a, ns, k, rfl, _⟩ := h
    rfl
  obtain ⟨a, ns, k, rfl, hS, hl, k0, k1, q⟩ := h
  refine ⟨_, (@pss_cons _ _ _ _ _ (@ps_if _ _ _ _ _ _ _ _ (@pt_cmpR _ _ _ _ _ _ _ _ op_lt (pv 1) (pe_callB call_len_seq (by rfl) B.len PySem.boot_len (@pa_cons _ _ _ _ _ (pv 0) pa_nil (by rfl))) (nomark _)) (@pss_one _ _ _ (@ps_ret _ _ _ _ (@pe_ix _ _ _ _ _ _ (rIxL K) ix_list (pv 0) (pv 1) (fun _ _ => rfl)))) pss_nil) (@pss_one _ _ _ (@ps_ret _ _ _ _ (@pe_op _ _ _ _ _ _ _ _ op_mod (@pe_op _ _ _ _ _ _ _ _ op_mul (@pe_op _ _ _ _ _ _ _ _ op_add (@pe_op _ _ _ _ _ _ _ _ op_mod (@pe_ix _ _ _ _ _ _ (rIxL K) ix_list (@pe_op _ _ _ _ _ _ _ _ op_catL (pv 0) (@pe_lst _ _ _ _ (@pa_cons _ _ _ _ _ pe_int pa_nil (by rfl)))) pe_int (fun _ _ => rfl)) pe_int) pe_int) (@pe_op _ _ _ _ _ _ _ _ op_add (@pe_op _ _ _ _ _ _ _ _ op_mul (pv 1) (pv 1)) pe_int)) pe_int)))), ?_⟩
  refine ⟨_, rfl, _, rfl, a, _, rfl, .inl hS, _, _, rfl, rfl, _, rfl, ?_⟩
  refine ite2 (fun c => ?_) (fun c => ?_)
  · have c' : k < (((ns.map V.int).length : Nat) : Int) := of_decide_eq_true c
    rw [List.length_map] at c'
    obtain ⟨j, rfl⟩ : ∃ j : Nat, k = j := ⟨k.toNat, by omega⟩
    have hj : j < ns.length := by omega
    exact ⟨_, rfl, _, rfl, a, _, _, _, rfl, rfl, hS, atI_nat (by rw [List.getElem?_map, List.getElem?_eq_getElem hj]; rfl), q _ H (Same.refl H)⟩
  · refine ⟨_, rfl, by decide, fun p hp => ⟨a, p, _, _, rfl, rfl, (same_new hp _).seq hS, SqL.of upd_same, ?_, fun z hz => ?_⟩⟩
    · rw [List.length_map]
      exact Nat.le_of_lt (small1000 (by show ns.length + 1 ≤ 1000; omega))
    have hat : ∃ x : Int, atI (ns.map V.int ++ [V.int 0]) 0 = some (.int x) := by
      cases ns with
      | nil => exact ⟨0, atI_nat (j := 0) rfl⟩
      | cons n r => exact ⟨n, atI_nat (j := 0) rfl⟩
    obtain ⟨x, hx⟩ := hat
    have b1 := Int.emod_nonneg x (b := 1000003) (by decide)
    have b2 := Int.emod_lt_of_pos x (b := 1000003) (by decide)
    have kk : 0 ≤ k * k ∧ k * k ≤ 1000000 := ⟨Int.mul_nonneg k0 k0, by
      calc k * k ≤ 1000 * k := Int.mul_le_mul_of_nonneg_right k1 k0
        _ ≤ 1000 * 1000 := Int.mul_le_mul_of_nonneg_left k1 (by decide)
        _ ≤ 1000000 := by decide⟩
    refine ⟨z, _, _, _, rfl, rfl, SqL.of upd_same, hx, _, _, rfl, rfl, (by show (0 : Int) < 1000003; decide), _, _, rfl, rfl, _, rfl, _, rfl, _, _, rfl, rfl, .inl ⟨by omega, by omega⟩, _, _, rfl, rfl, _, _, rfl, rfl, .inl ⟨?_, ?_⟩, _, _, rfl, rfl, (by show (0 : Int) < 2147483647; decide), ?_⟩
    · show -(2 ^ 64) < x % 1000003 + 7; omega
    · show x % 1000003 + 7 < 2 ^ 64; omega
    exact q _ _ ((same_new hp _).trans (same_new hz _))
def spMix : Sp := fun vs H Q _ => ∃ (c k : Int), vs = [.int c, .int k] ∧ 0 ≤ k ∧ k ≤ 100 ∧ ∀ r : Int, 0 ≤ r → r < 2147483647 → Q (.int r) H
theorem scMix : FnScope ["_law_cell", "_law_k", "_law_number", "_law_j"] ["_law_cell", "_law_k"] (defScope sMix) := ⟨rfl, rfl, rfl, by decide +kernel, rfl, by decide +kernel, by decide +kernel⟩
theorem ok_mix {f : Addr} {fd : FuncData} (B : Bl mg) (F : Fun K "_law_mix" "_law_mix" sMix f fd) : FnOk P w K mg base CX0 1 f fd ["_law_cell", "_law_k"] spMix := by
  refine F.ok scMix (fun vs H Q E h => ?_) (fun cdv A outer s H vs Q E hr h => ?_)
  · obtain ⟨c, k, rfl, _⟩ := h
    rfl
  obtain ⟨c, k, rfl, k0, k1, q⟩ := h
  refine ⟨_, (@pss_cons _ _ _ _ _ (@ps_if _ _ _ _ _ _ _ _ (@pt_cmpR _ _ _ _ _ _ _ _ op_eq (@pe_op _ _ _ _ _ _ _ _ op_mod (pv 0) pe_int) pe_int (nomark _)) (@pss_cons _ _ _ _ _ (@ps_set _ _ 2 _ _ _ _ scMix.nd rfl (Or.inl rfl) (@pe_op _ _ _ _ _ _ _ _ op_fdiv (pv 0) pe_int) rfl (Or.inl rfl)) (@pss_cons _ _ _ _ _ (@ps_for _ _ _ _ _ _ _ _ PassesOwn.never rfl (pi_range1 rfl B.range (@pa_cons _ _ _ _ _ (pv 1) pa_nil (by rfl))) (pg_name (i := 3) scMix.nd rfl (Or.inl rfl)) (@pss_one _ _ _ (@ps_set _ _ 2 _ _ _ _ scMix.nd rfl (Or.inl rfl) (@pe_op _ _ _ _ _ _ _ _ op_fdiv (pv 2) pe_int) rfl (Or.inl rfl))) (by intro _; rfl)) (@pss_one _ _ _ (@ps_ret _ _ _ _ (@pe_op _ _ _ _ _ _ _ _ op_mod (pv 2) pe_int))))) pss_nil) (@pss_cons _ _ _ _ _ (@ps_set _ _ 2 _ _ _ _ scMix.nd rfl (Or.inl rfl) (@pe_op _ _ _ _ _ _ _ _ op_mod (@pe_op _ _ _ _ _ _ _ _ op_mul (@pe_op _ _ _ _ _ _ _ _ op_add (@pe_op _ _ _ _ _ _ _ _ op_add (@pe_op _ _ _ _ _ _ _ _ op_mod (pv 0) pe_int) (@pe_op _ _ _ _ _ _ _ _ op_mul pe_int (pv 1))) pe_int) pe_int) pe_int) rfl (Or.inl rfl)) (@pss_one _ _ _ (@ps_ret _ _ _ _ (@pe_op _ _ _ _ _ _ _ _ op_mod (@pe_op _ _ _ _ _ _ _ _ op_mul (@pe_op _ _ _ _ _ _ _ _ op_add (@pe_op _ _ _ _ _ _ _ _ op_mod (@pe_op _ _ _ _ _ _ _ _ op_mul (pv 2) (pv 2)) pe_int) (@pe_op _ _ _ _ _ _ _ _ op_mul pe_int (pv 1))) pe_int) pe_int))))), ?_⟩
  refine ⟨_, rfl, _, _, rfl, rfl, (by show (0 : Int) < 2; decide), rfl, _, rfl, ite2 (fun _ => ?_) (fun _ => ?_)⟩
  · refine ⟨_, rfl, _, _, rfl, rfl, ⟨by decide, by decide⟩, ?_⟩
    refine ⟨_, rfl, k, rfl, by omega, by omega, for_range (n := k.toNat) (fun i σ H2 => ∃ (n : Int) (v : Option V), σ = [some (.int c), some (.int k), some (.int n), v] ∧ H2 = H) ⟨_, _, rfl, rfl⟩ ?_ ?_⟩
    · rintro i σ H2 hi ⟨n, v, rfl, rfl⟩
      exact ⟨_, rfl, _, _, rfl, rfl, ⟨by decide, by decide⟩, _, _, rfl, rfl⟩
    · rintro σ H2 ⟨n, v, rfl, rfl⟩
      refine ⟨_, rfl, _, _, rfl, rfl, (by show (0 : Int) < 1009; decide), q _ (Int.emod_nonneg _ (by decide)) (Int.lt_trans (Int.emod_lt_of_pos _ (by decide)) (by decide))⟩
  · have b1 := Int.emod_nonneg c (b := 1000000007) (by decide)
    have b2 := Int.emod_lt_of_pos c (b := 1000000007) (by decide)
    refine ⟨_, rfl, _, _, rfl, rfl, (by show (0 : Int) < 1000000007; decide), _, rfl, _, _, rfl, rfl, .inl ⟨by decide, by decide⟩, _, _, rfl, rfl, _, _, rfl, rfl, _, _, rfl, rfl, .inl ⟨?_, ?_⟩, _, _, rfl, rfl, (by show (0 : Int) < 2147483647; decide), ?_⟩
    · show -(2 ^ 64) < c % 1000000007 + 11 * k + 5; omega
    · show c % 1000000007 + 11 * k + 5 < 2 ^ 64; omega
    have f0 : ∀ x : Int, 0 ≤ x % 2147483647 ∧ x % 2147483647 < 2147483647 := fun x => ⟨Int.emod_nonneg _ (by decide), Int.emod_lt_of_pos _ (by decide)⟩
    have f1 : ∀ x : Int, 0 ≤ x % 2147483629 ∧ x % 2147483629 < 2147483629 := fun x => ⟨Int.emod_nonneg _ (by decide), Int.emod_lt_of_pos _ (by decide)⟩
    refine ⟨_, rfl, _, rfl, _, _, rfl, rfl, .inl ⟨Int.lt_of_lt_of_le (by decide) (f0 _).1, Int.lt_trans (f0 _).2 (by decide)⟩, _, _, rfl, rfl, (by show (0 : Int) < 2147483629; decide), _, rfl, _, _, rfl, rfl, .inl ⟨by decide, by decide⟩, _, _, rfl, rfl, _, _, rfl, rfl, .inr ⟨by decide, by decide⟩, _, _, rfl, rfl, (by show (0 : Int) < 2147483587; decide), ?_⟩
    exact q _ (Int.emod_nonneg _ (by decide)) (Int.lt_trans (Int.emod_lt_of_pos _ (by decide)) (by decide))
def ownW : List Str := ["name", "from", "to", "at", "keep", "deed", "when", "do", "any", "and", "or", "not", "yes", "tie", "step", "for", "none", "falls"]
def spOwn : Sp := fun vs H Q _ => vs = [] ∧ ∀ (p : Addr) (H' : Hp), Same H H' → H p = none → H' p = some (.lst (ownW.map V.str)) → Q (.ref p) H'
theorem scOwn : FnScope ["_law_own_here"] [] (defScope sOwn) := ⟨rfl, rfl, rfl, by decide +kernel, rfl, by decide +kernel, by decide +kernel⟩
theorem own_eq : ([V.str "name", V.str "from", V.str "to", V.str "at", V.str "keep", V.str "deed", V.str "when", V.str "do", V.str "any", V.str "and", V.str "or", V.str "not", V.str "yes", V.str "tie", V.str "step"] ++ [V.str "for", V.str "none", V.str "falls"]) = ownW.map V.str := by
  simp only [ownW, List.map_cons, List.map_nil, List.cons_append, List.nil_append]
theorem ok_own {f : Addr} {fd : FuncData} (F : Fun K "_law_own" "_law_own" sOwn f fd) : FnOk P w K mg base CX0 1 f fd [] spOwn := by
  refine F.ok scOwn (fun vs H Q E h => ?_) (fun cdv A outer s H vs Q E hr h => ?_)
  · rw [h.1]
    rfl
  obtain ⟨rfl, k⟩ := h
  refine ⟨_, (@pss_cons _ _ _ _ _ (@ps_set _ _ 0 _ _ _ _ scOwn.nd rfl (Or.inl rfl) (@pe_lst _ _ _ _ (@pa_strs _ _ ["name", "from", "to", "at", "keep", "deed", "when", "do", "any", "and", "or", "not", "yes", "tie", "step"] rfl)) rfl (Or.inl rfl)) (@pss_one _ _ _ (@ps_ret _ _ _ _ (@pe_op _ _ _ _ _ _ _ _ op_cat (pv 0) (@pe_lst _ _ _ _ (@pa_cons _ _ _ _ _ pe_str (@pa_cons _ _ _ _ _ pe_str (@pa_cons _ _ _ _ _ pe_str pa_nil (by rfl)) (by rfl)) (by rfl))))))), ?_⟩
  refine ⟨by decide, fun p1 hp1 => ⟨_, rfl, by decide, fun p2 hp2 => ⟨p1, p2, _, _, rfl, rfl, by rw [upd_ne (ne_of_none upd_same hp2), upd_same], upd_same, by decide, fun p3 hp3 => ?_⟩⟩⟩
  have s2 := (same_new hp1 _).trans (same_new hp2 (.lst [V.str "for", V.str "none", V.str "falls"]))
  exact k p3 _ (s2.trans (same_new hp3 _)) (s2.free hp3) (by rw [upd_same]; exact congrArg (fun l => some (HO.lst l)) own_eq)
end
end Nw
namespace Nw
open PySem L2
theorem sl_from {cs : List Nat} {j : Int} (h0 : 0 ≤ j) (h1 : j ≤ cs.length) : Txt.slice (cps cs) (some j) none = cps (cs.drop j.toNat) := by
  show StrLaws.sliceText (cps cs) (some j) none = _
  rw [StrLaws.sliceText_from ⟨h0, by show j ≤ (cs.toArray.toList.length : Int); simpa using h1⟩]
  show (⟨((cs.toArray.toList.drop j.toNat).take ((cs.toArray.toList.length : Int) - j).toNat).toArray⟩ : Str) = ⟨(cs.drop j.toNat).toArray⟩
  rw [List.toList_toArray, List.take_of_length_le (by rw [List.length_drop]; omega)]
structure PName (x : Str) : Prop where
  signs : ∃ cs : List Nat, x = cps cs ∧ cs ≠ [] ∧ cs.length ≤ 8 ∧ ∀ c ∈ cs, 97 ≤ c ∧ c ≤ 122
  other : x ∉ ownW
theorem PName.le30 {x : Str} (h : PName x) : x.length ≤ 30 := by
  obtain ⟨cs, rfl, _, h8, _⟩ := h.signs
  rw [cps_length]; omega
theorem cps_cat (a b : List Nat) : cps a ++ cps b = cps (a ++ b) := by
  show (⟨a.toArray ++ b.toArray⟩ : Str) = ⟨(a ++ b).toArray⟩
  rw [List.append_toArray]
theorem own_z : ∀ y ∈ ownW, y ++ ("z" : Str) ∉ ownW ∧ (y ++ ("z" : Str)).length ≤ 8 := by decide +kernel
theorem name_own {x : Str} {ds : List Nat} (e : x = cps ds) (n : ds ≠ []) (h : ∀ c ∈ ds, 97 ≤ c ∧ c ≤ 122) (o : x ∈ ownW) : PName (x ++ "z") := by
  obtain ⟨o1, o2⟩ := own_z x o
  have ez : x ++ ("z" : Str) = cps (ds ++ [122]) := by rw [e, ← cps_cat]; rfl
  refine ⟨⟨ds ++ [122], ez, by simp, ?_, fun c hc => ?_⟩, o1⟩
  · rw [ez, cps_length] at o2; exact o2
  · rcases List.mem_append.mp hc with hc | hc
    · exact h c hc
    · rw [List.mem_singleton] at hc; omega
theorem name_notE {x : Str} (h : ∃ ds, x = cps ds ∧ ds ≠ [] ∧ ds.length ≤ 8 ∧ ∀ c ∈ ds, 97 ≤ c ∧ c ≤ 122) (o : x ∉ ownW) : PName x := ⟨h, o⟩
theorem name_ownE {x : Str} (h : ∃ ds, x = cps ds ∧ ds ≠ [] ∧ ds.length ≤ 8 ∧ ∀ c ∈ ds, 97 ≤ c ∧ c ≤ 122) (o : x ∈ ownW) : PName (x ++ "z") := by
  obtain ⟨ds, e, n, _, l⟩ := h
  exact name_own e n l o
theorem in_own (x : Str) : ∀ l : List Str, inV (.str x) (l.map V.str) = decide (x ∈ l)
  | [] => by simp [inV]
  | y :: l => by
    have q := in_own x l
    unfold inV at q ⊢
    rw [List.map_cons, List.any_cons, q]
    have e : eqV (.str y) (.str x) = decide (y = x) := by
      by_cases h : y = x
      · subst h; simp [eqV]
      · simp [eqV, h]
    rw [e]
    by_cases h : y = x
    · subst h; simp
    · simp [h, Ne.symm h]
section
variable {P : Program} {w : World} {K : PySem.W.Frag} {mg : Str → Option Value} {base : Heap}
theorem flat_strs : ∀ l : List Str, (l.map V.str).all flatV = true
  | [] => rfl
  | y :: l => by rw [List.map_cons, List.all_cons, flat_strs l]; rfl
theorem sum_ones : ∀ cs : List Nat, ((cs.map fun c => (⟨#[c]⟩ : Str)).map (·.length)).sum = cs.length
  | [] => rfl
  | c :: cs => by
    rw [List.map_cons, List.map_cons, List.sum_cons, sum_ones cs, List.length_cons]
    show 1 + cs.length = cs.length + 1
    omega
end
end Nw
namespace Nw
open PySem L2
def lettersW : Str := "abcdefghijklmnopqrstuvwxyz"
def figuresW : Str := "0123456789"
def ownL : List Str := ["name", "from", "to", "at", "keep", "deed", "when", "do", "any", "and", "or", "not", "yes", "tie", "step", "for", "none", "falls"]
def signsW : List Str := ["+", "-", "*", "(", ")", "[", "]", "<", "<=", "=", "!=", ";", ","]
def inW (c : Nat) (g : Str) : Bool := !(Builtin.Str.occurrences g ⟨#[c]⟩ 0 g.length 1).isEmpty
def madeB (z g : Str) (n : Int) : Bool := decide (¬ ((z.length : Int) < 1)) && decide (¬ (n < (z.length : Int))) && z.cps.toList.all fun c => inW c g
def numB (z : Str) : Bool := madeB z figuresW 2 && (decide (V.str z = V.str "0") || !Txt.startswith z "0")
def nameB (z : Str) : Bool := madeB z lettersW 8 && !inV (.str z) (ownL.map V.str)
def farB (z : Str) : Bool := Txt.startswith z "@" && nameB (Txt.slice z (some 1) none)
def wordB (z : Str) : Bool := inV (.str z) (ownL.map V.str) || inV (.str z) (signsW.map V.str) || numB z || nameB z || farB z
structure Lex (K : PySem.W.Frag) (mg : Str → Option Value) (aO aS : Addr) : Prop where
  gL : ∃ t, mg "LETTERS" = some (.str lettersW t)
  gF : ∃ t, mg "FIGURES" = some (.str figuresW t)
  g8 : ∃ t, mg "LONGEST_NAME" = some (.int 8 t)
  g2 : ∃ t, mg "LONGEST_NUMBER" = some (.int 2 t)
  g300 : ∃ t, mg "MOST_WORDS" = some (.int 300 t)
  gM8 : ∃ t, mg "MOST_OPEN" = some (.int 8 t)
  gO : mg "OWN_WORDS" = some (.ref aO)
  gS : mg "SIGNS" = some (.ref aS)
  own : ∀ H, SqT K H aO (ownL.map V.str)
  sgn : ∀ H, SqT K H aS (signsW.map V.str)
structure Asc (z : Str) : Prop where
  all : z.cps.all (· < 128) = true
  len : z.length ≤ 1000
section
variable {P : Program} {w : World} {K : PySem.W.Frag} {mg : Str → Option Value} {base : Heap} {aO aS : Addr}
def spMade : Sp := fun vs H Q _ => ∃ (z g : Str) (n : Int), vs = [.str z, .str g, .int n] ∧ Asc z ∧ ∀ H', Same H H' → Q (.bl (madeB z g n)) H'
theorem scMade : FnScope ["piece", "signs", "longest"] ["piece", "signs", "longest"] (defScope sMade) := ⟨rfl, rfl, rfl, by decide +kernel, rfl, by decide +kernel, by decide +kernel⟩
theorem nd_scMade1 : (["piece", "signs", "longest", "sign"] : List Str).Nodup := by decide +kernel
theorem ok_made {f : Addr} {fd : FuncData} (B : Bl mg) (F : Fun K "made_of" "made_of" sMade f fd) : FnOk P w K mg base CX0 1 f fd ["piece", "signs", "longest"] spMade := by
  refine F.ok scMade (fun vs H Q E h => ?_) (fun cdv A outer s H vs Q E hr h => ?_)
  · obtain ⟨z, g, n, rfl, _⟩ := h
    rfl
  obtain ⟨z, g, n, rfl, a, q⟩ := h
  have hz : z.length ≤ sizeLine := Nat.le_of_lt (small1000 a.len)
  refine ⟨_, (@pss_cons _ _ _ _ _ (@ps_if _ _ _ _ _ _ _ _ ((@pw_or _ _ _ _ _ _ _ (@pt_cmpR _ _ _ _ _ _ _ _ op_lt (pe_callB call_len_str (by rfl) B.len PySem.boot_len (@pa_cons _ _ _ _ _ (pv 0) pa_nil (by rfl))) pe_int (nomark _)) (pw_or1 (@pt_cmpR _ _ _ _ _ _ _ _ op_gt (pe_callB call_len_str (by rfl) B.len PySem.boot_len (@pa_cons _ _ _ _ _ (pv 0) pa_nil (by rfl))) (pv 2) (nomark _))))).pt (@pss_one _ _ _ (@ps_ret _ _ _ _ pe_bl)) pss_nil) (@pss_one _ _ _ (@ps_ret _ _ _ _ (pe_callB (call_all rfl) (by rfl) B.all PyProof.Rows.boot_all (@pa_cons _ _ _ _ _ (pe_comp (NX := ["piece", "signs", "longest"]) (N := ["piece", "signs", "longest", "sign"]) (ms := [true, true, true, false]) (ks := [3]) (out := defScope sMade) (by exact ⟨rfl, by decide +kernel, by decide +kernel, by decide +kernel, by decide +kernel, by decide +kernel⟩) rfl rfl rfl (pi_str (pv 0)) (@sets_name 3) (by decide) (fun C ex s H => (pg_name (i := 3) nd_scMade1 rfl (Or.inl rfl))) (fun C ex s H => pts_nil) (fun C ex s H => (@pe_cmpR _ _ _ _ _ _ _ _ op_in_str (pv 3) (pv 1) (by with_unfolding_all rfl)))) pa_nil (by rfl)))))), ?_⟩
  refine ⟨_, rfl, z, rfl, hz, _, _, rfl, rfl, _, rfl, ite2 (fun c => iteT ?_) (fun c1 => ⟨_, rfl, z, rfl, hz, _, rfl, _, _, rfl, rfl, _, rfl, ite2 (fun c => ?_) (fun c2 => ?_)⟩)⟩
  · have e : madeB z g n = false := by
      unfold madeB
      rw [decide_eq_false (fun h => h (of_decide_eq_true c))]
      rfl
    rw [← e]
    exact q H (Same.refl _)
  · have e : madeB z g n = false := by
      unfold madeB
      rw [decide_eq_false (p := ¬ (n < (z.length : Int))) (fun h => h (of_decide_eq_true c)), Bool.and_false]
      rfl
    show Q (.bl false) H
    rw [← e]
    exact q H (Same.refl _)
  have c1 : ¬ (z.length : Int) < 1 := fun h => c1 (decide_eq_true h)
  have c2 : ¬ n < (z.length : Int) := fun h => c2 (decide_eq_true h)
  refine ⟨_, rfl, z, rfl, a.all, comp_str (fun i ys H' => ys = ((z.cps.toList.take i).map fun c => inW c g).map V.bl ∧ H' = H) ⟨rfl, rfl⟩ (fun i ys H' hi ⟨e, _⟩ => ?_) ?_ ?_⟩
  · rw [e, List.length_map, List.length_map, List.length_take]
    have h1 := a.len
    have h2 : z.cps.toList.length = z.length := Array.length_toList
    exact small1000 (by omega)
  · rintro i c ys H' hc ⟨rfl, rfl⟩
    refine ⟨_, rfl, _, rfl, _, _, rfl, rfl, ?_, rfl⟩
    have hc' : z.cps.toList[i]? = some c := by rw [Array.getElem?_toList]; exact hc
    rw [List.take_add_one, hc', List.map_append, List.map_append]
    rfl
  · rintro ys H' ⟨rfl, rfl⟩ D hD
    have h2 : z.cps.toList.length = z.cps.size := Array.length_toList
    refine ⟨D, _, rfl, SqL.of upd_same, ?_⟩
    have e : madeB z g n = (((z.cps.toList.take z.cps.size).map fun c => inW c g).all id) := by
      rw [List.take_of_length_le (by omega), List.all_map]
      unfold madeB
      rw [decide_eq_true c1, decide_eq_true c2]
      rfl
    rw [← e]
    exact q _ (same_new hD _)
def sp1 (b : Str → Bool) : Sp := fun vs H Q _ => ∃ z : Str, vs = [.str z] ∧ Asc z ∧ ∀ H', Same H H' → Q (.bl (b z)) H'
theorem scIsNum : FnScope ["piece"] ["piece"] (defScope sIsNum) := ⟨rfl, rfl, rfl, by decide +kernel, rfl, by decide +kernel, by decide +kernel⟩
theorem ok_isNum {f fM : Addr} {fd dM : FuncData} (B : Bl mg) (L : Lex K mg aO aS) (F : Fun K "is_number" "is_number" sIsNum f fd) (FM : Fun K "made_of" "made_of" sMade fM dM) (bM : Binds K dM ["piece", "signs", "longest"] []) (mM : mg "made_of" = some (.ref fM)) : FnOk P w K mg base CX0 2 f fd ["piece"] (sp1 numB) := by
  have GM : FnOk P w K mg base CX0 1 fM dM ["piece", "signs", "longest"] spMade := ok_made B FM
  refine F.ok scIsNum (fun vs H Q E h => ?_) (fun cdv A outer s H vs Q E hr h => ?_)
  · obtain ⟨z, rfl, _⟩ := h
    rfl
  obtain ⟨z, rfl, a, q⟩ := h
  obtain ⟨tF, gF⟩ := L.gF
  obtain ⟨t2, g2⟩ := L.g2
  refine ⟨_, (@pss_cons _ _ _ _ _ (@ps_if _ _ _ _ _ _ _ _ (@pt_not _ _ _ _ (pt_val (pe_call GM hr (by rfl) mM FM.kp bM .nil pass0 (@pa_cons _ _ _ _ _ (pv 0) (@pa_cons _ _ _ _ _ (pe_glob (v := V.str figuresW) (by rfl) gF ⟨_, rfl⟩) (@pa_cons _ _ _ _ _ (pe_glob (v := V.int 2) (by rfl) g2 ⟨_, rfl⟩) pa_nil (by rfl)) (by rfl)) (by rfl))))) (@pss_one _ _ _ (@ps_ret _ _ _ _ pe_bl)) pss_nil) (@pss_one _ _ _ (@ps_ret _ _ _ _ (@pe_or _ _ _ _ _ _ _ (@pe_cmpR _ _ _ _ _ _ _ _ op_eq (pv 0) pe_str (nomark _)) (@pe_one _ _ _ _ _ (@pe_not _ _ _ _ (pe_bm PySem.F.plainAttrs_str PySem.F.slot_str_startswith PySem.F.type_str_startswith mt_starts (pv 0) (@pa_cons _ _ _ _ _ pe_str pa_nil (by rfl))))))))), ?_⟩
  refine ⟨_, rfl, z, figuresW, 2, rfl, a, fun H1 s1 => ⟨_, rfl, ?_⟩⟩
  cases e : madeB z figuresW 2 with
  | false =>
    refine iteT ?_
    have : numB z = false := by unfold numB; rw [e]; rfl
    show Q (.bl false) H1
    rw [← this]
    exact q _ s1
  | true =>
    refine iteF ⟨_, rfl, rfl, _, rfl, ?_⟩
    have e2 : numB z = (decide (V.str z = V.str "0") || !Txt.startswith z "0") := by unfold numB; rw [e]; rfl
    cases e3 : decide (V.str z = V.str ("0" : Str)) with
    | true =>
      refine iteT ?_
      rw [e3] at e2
      have := q _ s1
      rw [e2] at this
      exact this
    | false =>
      rw [e3] at e2
      refine iteF ⟨_, rfl, rfl, z, "0", rfl, rfl, _, rfl, ?_⟩
      have := q _ s1
      rw [e2] at this
      exact this
theorem scIsNam : FnScope ["piece"] ["piece"] (defScope sIsNam) := ⟨rfl, rfl, rfl, by decide +kernel, rfl, by decide +kernel, by decide +kernel⟩
theorem ok_isNam {f fM : Addr} {fd dM : FuncData} (B : Bl mg) (L : Lex K mg aO aS) (F : Fun K "is_name" "is_name" sIsNam f fd) (FM : Fun K "made_of" "made_of" sMade fM dM) (bM : Binds K dM ["piece", "signs", "longest"] []) (mM : mg "made_of" = some (.ref fM)) : FnOk P w K mg base CX0 2 f fd ["piece"] (sp1 nameB) := by
  have GM : FnOk P w K mg base CX0 1 fM dM ["piece", "signs", "longest"] spMade := ok_made B FM
  refine F.ok scIsNam (fun vs H Q E h => ?_) (fun cdv A outer s H vs Q E hr h => ?_)
  · obtain ⟨z, rfl, _⟩ := h
    rfl
  obtain ⟨z, rfl, a, q⟩ := h
  obtain ⟨tL, gL⟩ := L.gL
  obtain ⟨t8, g8⟩ := L.g8
  refine ⟨_, (@pss_one _ _ _ (@ps_ret _ _ _ _ (@pe_and _ _ _ _ _ _ _ (pe_call GM hr (by rfl) mM FM.kp bM .nil pass0 (@pa_cons _ _ _ _ _ (pv 0) (@pa_cons _ _ _ _ _ (pe_glob (v := V.str lettersW) (by rfl) gL ⟨_, rfl⟩) (@pa_cons _ _ _ _ _ (pe_glob (v := V.int 8) (by rfl) g8 ⟨_, rfl⟩) pa_nil (by rfl)) (by rfl)) (by rfl))) (@pe_one _ _ _ _ _ (@pe_cmpR _ _ _ _ _ _ _ _ op_notIn_seq (pv 0) (pe_glob (v := V.ref aO) (by rfl) L.gO rfl) (by with_unfolding_all rfl)))))), ?_⟩
  refine ⟨_, rfl, z, lettersW, 8, rfl, a, fun H1 s1 => ⟨_, rfl, ?_⟩⟩
  cases e : madeB z lettersW 8 with
  | false =>
    refine iteF ?_
    have := q _ s1
    unfold nameB at this
    rw [e] at this
    exact this
  | true =>
    refine iteT ⟨_, rfl, aO, _, rfl, .inr (L.own H1), rfl, rfl, ?_⟩
    have := q _ s1
    unfold nameB at this
    rw [e] at this
    exact this
theorem scIsFar : FnScope ["piece"] ["piece"] (defScope sIsFar) := ⟨rfl, rfl, rfl, by decide +kernel, rfl, by decide +kernel, by decide +kernel⟩
theorem asc_slice {z : Str} (a : Asc z) : Asc (Txt.slice z (some 1) none) := by
  refine ⟨?_, Nat.le_trans (Txt.slice_le _ _ _) a.len⟩
  have h := Array.all_eq_true_iff_forall_mem.mp a.all
  unfold Txt.slice
  split
  · exact a.all
  · refine Array.all_eq_true_iff_forall_mem.mpr fun c hc => ?_
    have hc : c ∈ List.filterMap (fun x => z.cps[x]?) (Builtin.Str.strSliceIndices (some 1) none 1 z.length) := by simpa using hc
    obtain ⟨i, _, e⟩ := List.mem_filterMap.mp hc
    exact h c (Array.mem_of_getElem? e)
theorem ok_isFar {f fN : Addr} {fd dN : FuncData} (B : Bl mg) (F : Fun K "is_far_name" "is_far_name" sIsFar f fd) (FN : Fun K "is_name" "is_name" sIsNam fN dN) (bN : Binds K dN ["piece"] []) (mN : mg "is_name" = some (.ref fN)) (GN : FnOk P w K mg base CX0 2 fN dN ["piece"] (sp1 nameB)) : FnOk P w K mg base CX0 3 f fd ["piece"] (sp1 farB) := by
  refine F.ok scIsFar (fun vs H Q E h => ?_) (fun cdv A outer s H vs Q E hr h => ?_)
  · obtain ⟨z, rfl, _⟩ := h
    rfl
  obtain ⟨z, rfl, a, q⟩ := h
  have hz : z.length ≤ sizeLine := Nat.le_of_lt (small1000 a.len)
  refine ⟨_, (@pss_one _ _ _ (@ps_ret _ _ _ _ (@pe_and _ _ _ _ _ _ _ (pe_bm PySem.F.plainAttrs_str PySem.F.slot_str_startswith PySem.F.type_str_startswith mt_starts (pv 0) (@pa_cons _ _ _ _ _ pe_str pa_nil (by rfl))) (@pe_one _ _ _ _ _ (pe_call GN hr (by rfl) mN FN.kp bN .nil pass0 (@pa_cons _ _ _ _ _ (@pe_slice _ _ _ _ _ _ _ _ _ _ sl_str (pv 0) (@po_some _ _ _ pe_int) po_none) pa_nil (by rfl))))))), ?_⟩
  refine ⟨_, rfl, rfl, z, "@", rfl, rfl, _, rfl, ?_⟩
  cases e : Txt.startswith z "@" with
  | false =>
    refine iteF ?_
    have := q _ (Same.refl _)
    unfold farB at this
    rw [e] at this
    exact this
  | true =>
    refine iteT ⟨_, rfl, _, rfl, z, rfl, hz, _, rfl, asc_slice a, fun H1 s1 => ?_⟩
    have := q _ s1
    unfold farB at this
    rw [e] at this
    exact this
theorem scIsWord : FnScope ["piece"] ["piece"] (defScope sIsWord) := ⟨rfl, rfl, rfl, by decide +kernel, rfl, by decide +kernel, by decide +kernel⟩
theorem ok_isWord {f fM fU fN fA : Addr} {fd dM dU dN dA : FuncData} (B : Bl mg) (L : Lex K mg aO aS) (F : Fun K "is_word" "is_word" sIsWord f fd) (FM : Fun K "made_of" "made_of" sMade fM dM) (bM : Binds K dM ["piece", "signs", "longest"] []) (mM : mg "made_of" = some (.ref fM))
    (FU : Fun K "is_number" "is_number" sIsNum fU dU) (bU : Binds K dU ["piece"] []) (mU : mg "is_number" = some (.ref fU)) (FN : Fun K "is_name" "is_name" sIsNam fN dN) (bN : Binds K dN ["piece"] []) (mN : mg "is_name" = some (.ref fN))
    (FA : Fun K "is_far_name" "is_far_name" sIsFar fA dA) (bA : Binds K dA ["piece"] []) (mA : mg "is_far_name" = some (.ref fA)) : FnOk P w K mg base CX0 4 f fd ["piece"] (sp1 wordB) := by
  have GU : FnOk P w K mg base CX0 2 fU dU ["piece"] (sp1 numB) := ok_isNum B L FU FM bM mM
  have GN : FnOk P w K mg base CX0 2 fN dN ["piece"] (sp1 nameB) := ok_isNam B L FN FM bM mM
  have GA : FnOk P w K mg base CX0 3 fA dA ["piece"] (sp1 farB) := ok_isFar B FA FN bN mN GN
  refine F.ok scIsWord (fun vs H Q E h => ?_) (fun cdv A outer s H vs Q E hr h => ?_)
  · obtain ⟨z, rfl, _⟩ := h
    rfl
  obtain ⟨z, rfl, a, q⟩ := h
  have hrU : Room 2 _ := hr.mono (by decide)
  refine ⟨_, (@pss_cons _ _ _ _ _ (@ps_if _ _ _ _ _ _ _ _ ((@pw_or _ _ _ _ _ _ _ (@pt_cmpR _ _ _ _ _ _ _ _ op_in_seq (pv 0) (pe_glob (v := V.ref aO) (by rfl) L.gO rfl) (by with_unfolding_all rfl)) (pw_or1 (@pt_cmpR _ _ _ _ _ _ _ _ op_in_seq (pv 0) (pe_glob (v := V.ref aS) (by rfl) L.gS rfl) (by with_unfolding_all rfl))))).pt (@pss_one _ _ _ (@ps_ret _ _ _ _ pe_bl)) pss_nil) (@pss_one _ _ _ (@ps_ret _ _ _ _ (@pe_or _ _ _ _ _ _ _ (pe_call GU hrU (by rfl) mU FU.kp bU .nil pass0 (@pa_cons _ _ _ _ _ (pv 0) pa_nil (by rfl))) (@pe_or _ _ _ _ _ _ _ (pe_call GN hrU (by rfl) mN FN.kp bN .nil pass0 (@pa_cons _ _ _ _ _ (pv 0) pa_nil (by rfl))) (@pe_one _ _ _ _ _ (pe_call GA hr (by rfl) mA FA.kp bA .nil pass0 (@pa_cons _ _ _ _ _ (pv 0) pa_nil (by rfl))))))))), ?_⟩
  refine ⟨_, rfl, aO, _, rfl, .inr (L.own H), rfl, rfl, _, rfl, ?_⟩
  cases e1 : inV (.str z) (ownL.map V.str) with
  | true =>
    refine iteT (iteT ?_)
    have := q H (Same.refl _)
    unfold wordB at this
    rw [e1] at this
    exact this
  | false =>
    refine iteF ⟨_, rfl, aS, _, rfl, .inr (L.sgn H), rfl, rfl, _, rfl, ?_⟩
    cases e2 : inV (.str z) (signsW.map V.str) with
    | true =>
      refine iteT ?_
      have := q H (Same.refl _)
      unfold wordB at this
      rw [e1, e2] at this
      exact this
    | false =>
      refine iteF ⟨_, rfl, z, rfl, a, fun H1 s1 => ⟨_, rfl, ?_⟩⟩
      cases e3 : numB z with
      | true =>
        refine iteT ?_
        have := q _ s1
        unfold wordB at this
        rw [e1, e2, e3] at this
        exact this
      | false =>
        refine iteF ⟨_, rfl, z, rfl, a, fun H2 s2 => ⟨_, rfl, ?_⟩⟩
        cases e4 : nameB z with
        | true =>
          refine iteT ?_
          have := q _ (s1.trans s2)
          unfold wordB at this
          rw [e1, e2, e3, e4] at this
          exact this
        | false =>
          refine iteF ⟨_, rfl, z, rfl, a, fun H3 s3 => ?_⟩
          have := q _ (s1.trans (s2.trans s3))
          unfold wordB at this
          rw [e1, e2, e3, e4] at this
          exact this
def stepO (mc : Int × Int) (x : Str) : Int × Int :=
  let c := if inV (.str x) [.str "(", .str "["] then mc.2 + 1 else if inV (.str x) [.str ")", .str "]"] then (if (0 : Int) > mc.2 - 1 then 0 else mc.2 - 1) else mc.2
  (if c > mc.1 then c else mc.1, c)
def openM (ws : List Str) : Int × Int := ws.foldl stepO (0, 0)
theorem openM_take {ws : List Str} {i : Nat} {x : Str} (h : ws[i]? = some x) : openM (ws.take (i + 1)) = stepO (openM (ws.take i)) x := by
  unfold openM
  rw [List.take_add_one, h, List.foldl_append]
  rfl
def spOpen (K : PySem.W.Frag) : Sp := fun vs H Q _ => ∃ (p : Addr) (ws : List Str), vs = [.ref p] ∧ SqL K H p (ws.map V.str) ∧ ∀ H', Same H H' → Q (.int (openM ws).1) H'
theorem scOpen : FnScope ["pieces", "most", "count", "piece"] ["pieces"] (defScope sOpen) := ⟨rfl, rfl, rfl, by decide +kernel, rfl, by decide +kernel, by decide +kernel⟩
theorem ok_open {f : Addr} {fd : FuncData} (B : Bl mg) (F : Fun K "most_open" "most_open" sOpen f fd) : FnOk P w K mg base CX0 1 f fd ["pieces"] (spOpen K) := by
  refine F.ok scOpen (fun vs H Q E h => ?_) (fun cdv A outer s H vs Q E hr h => ?_)
  · obtain ⟨p, ws, rfl, _⟩ := h
    rfl
  obtain ⟨p, ws, rfl, hp, q⟩ := h
  refine ⟨_, (@pss_cons _ _ _ _ _ (@ps_set _ _ 1 _ _ _ _ scOpen.nd rfl (Or.inl rfl) pe_int rfl (Or.inl rfl)) (@pss_cons _ _ _ _ _ (@ps_set _ _ 2 _ _ _ _ scOpen.nd rfl (Or.inl rfl) pe_int rfl (Or.inl rfl)) (@pss_cons _ _ _ _ _ (@ps_for _ _ _ _ _ _ _ _ PassesOwn.never rfl (@pi_list _ _ _ _ (pv 0)) (pg_name (i := 3) scOpen.nd rfl (Or.inl rfl)) (@pss_cons _ _ _ _ _ (@ps_cut _ _ _ (@ps_if _ _ _ _ _ _ _ _ (@pt_cmpR _ _ _ _ _ _ _ _ op_in_seq (pv 3) (@pe_tup _ _ _ _ _ (@pa_cons _ _ _ _ _ pe_str (@pa_cons _ _ _ _ _ pe_str pa_nil (by rfl)) (by rfl))) (by with_unfolding_all rfl)) (@pss_one _ _ _ (@ps_set _ _ 2 _ _ _ _ scOpen.nd rfl (Or.inl rfl) (@pe_op _ _ _ _ _ _ _ _ op_add (pv 2) pe_int) rfl (Or.inl rfl))) (@pss_one _ _ _ (@ps_if _ _ _ _ _ _ _ _ (@pt_cmpR _ _ _ _ _ _ _ _ op_in_seq (pv 3) (@pe_tup _ _ _ _ _ (@pa_cons _ _ _ _ _ pe_str (@pa_cons _ _ _ _ _ pe_str pa_nil (by rfl)) (by rfl))) (by with_unfolding_all rfl)) (@pss_one _ _ _ (@ps_set _ _ 2 _ _ _ _ scOpen.nd rfl (Or.inl rfl) (pe_callB (call_max2 rfl) (by rfl) B.max PyProof.Rows.boot_max (@pa_cons _ _ _ _ _ (@pe_op _ _ _ _ _ _ _ _ op_sub (pv 2) pe_int) (@pa_cons _ _ _ _ _ pe_int pa_nil (by rfl)) (by rfl))) rfl (Or.inl rfl))) pss_nil)))) (@pss_one _ _ _ (@ps_set _ _ 1 _ _ _ _ scOpen.nd rfl (Or.inl rfl) (pe_callB (call_max2 rfl) (by rfl) B.max PyProof.Rows.boot_max (@pa_cons _ _ _ _ _ (pv 1) (@pa_cons _ _ _ _ _ (pv 2) pa_nil (by rfl)) (by rfl))) rfl (Or.inl rfl)))) (by intro _; rfl)) (@pss_one _ _ _ (@ps_ret _ _ _ _ (pv 1)))))), ?_⟩
  refine ⟨_, rfl, p, rfl, ⟨_, hp⟩, for_list (xs := ws.map V.str) (fun i σ H1 => ∃ v3 : Option V, σ = [some (.ref p), some (.int (openM (ws.take i)).1), some (.int (openM (ws.take i)).2), v3] ∧ Same H H1) ⟨none, rfl, Same.refl _⟩ (fun i σ H1 _ ⟨_, _, s1⟩ => s1.seq hp) ?_ ?_⟩
  · rintro i x σ H1 hx ⟨v3, rfl, s1⟩
    rw [List.getElem?_map] at hx
    obtain ⟨y, hy, rfl⟩ := Option.map_eq_some_iff.mp hx
    have e := openM_take hy
    generalize openM (ws.take i) = mc at e ⊢
    obtain ⟨m, c⟩ := mc
    refine ⟨fun σ H2 => ∃ c2 : Int, σ = [some (.ref p), some (.int m), some (.int c2), some (.str y)] ∧ Same H H2 ∧ stepO (m, c) y = (if c2 > m then c2 else m, c2), ?_, ?_⟩
    · refine ⟨_, rfl, by show 2 ≤ sizeLine; decide, fun t1 ht1 => ⟨t1, _, rfl, .inr (SqT.of upd_same), rfl, rfl, _, rfl, ?_⟩⟩
      have r1 := s1.trans (same_new ht1 (.tup [V.str "(", .str "["]))
      cases e1 : inV (.str y) [.str "(", .str "["] with
      | true =>
        refine iteT ⟨_, rfl, _, _, rfl, rfl, ?_⟩
        refine ⟨c + 1, rfl, r1, ?_⟩
        unfold stepO
        rw [e1]
        rfl
      | false =>
        refine iteF ⟨_, rfl, by show 2 ≤ sizeLine; decide, fun t2 ht2 => ⟨t2, _, rfl, .inr (SqT.of upd_same), rfl, rfl, _, rfl, ?_⟩⟩
        have r2 := r1.trans (same_new ht2 (.tup [V.str ")", .str "]"]))
        cases e2 : inV (.str y) [.str ")", .str "]"] with
        | true =>
          refine iteT ⟨_, rfl, _, _, rfl, rfl, _, _, rfl, ?_⟩
          refine ⟨_, rfl, r2, ?_⟩
          unfold stepO
          rw [e1, e2]
          rfl
        | false =>
          refine iteF ⟨c, rfl, r2, ?_⟩
          unfold stepO
          rw [e1, e2]
          rfl
    · rintro σ H2 ⟨c2, rfl, r2, e2⟩
      rw [e2] at e
      refine ⟨_, rfl, _, rfl, _, _, rfl, ?_⟩
      refine ⟨some (.str y), ?_, r2⟩
      rw [e]
      rfl
  · rintro σ H1 ⟨v3, rfl, s1⟩
    rw [List.length_map, List.take_of_length_le (Nat.le_refl _)]
    exact ⟨_, rfl, q _ s1⟩
structure Wds (t : Str) : Prop where
  len : t.length ≤ 8000
  wrd : ∀ x ∈ piecesOf t, Asc x ∧ wordB x = true
def Few (ws : List Str) : Prop := ws.length ≤ 300 ∧ (openM ws).1 ≤ 8
def spWords (K : PySem.W.Frag) (CT : Addr) : Sp := fun vs H Q E => ∃ t : Str, vs = [.str t] ∧ Wds t ∧ (Few (piecesOf t) → ∀ (p : Addr) (H' : Hp), Same H H' → H p = none → H' p = some (.lst ((piecesOf t).map V.str)) → Q (.ref p) H') ∧
  (¬ Few (piecesOf t) → ∀ (a : Addr) (H' : Hp), Same H H' → H' a = some (excO CT a) → E (.ref CT) (some a) H')
theorem scWords : FnScope ["text", "pieces", "piece"] ["text"] (defScope sWords) := ⟨rfl, rfl, rfl, by decide +kernel, rfl, by decide +kernel, by decide +kernel⟩
theorem nd_scWords1 : (["text", "pieces", "piece"] : List Str).Nodup := by decide +kernel
theorem ok_words {f fW fO CT : Addr} {fd dW dO : FuncData} (B : Bl mg) (OT : OwnX K CT) (mT : mg "TooMany" = some (.ref CT)) (L : Lex K mg aO aS) (F : Fun K "words" "words" sWords f fd) (FW : Fun K "is_word" "is_word" sIsWord fW dW) (bW : Binds K dW ["piece"] []) (mW : mg "is_word" = some (.ref fW)) (GW : FnOk P w K mg base CX0 4 fW dW ["piece"] (sp1 wordB))
    (FO : Fun K "most_open" "most_open" sOpen fO dO) (bO : Binds K dO ["pieces"] []) (mO : mg "most_open" = some (.ref fO)) : FnOk P w K mg base (CXE P w) 5 f fd ["text"] (spWords K CT) := by
  have GO : FnOk P w K mg base CX0 1 fO dO ["pieces"] (spOpen K) := ok_open B FO
  refine F.okX scWords (fun vs H Q E h => ?_) (fun cdv A outer s H vs Q E hr h => ?_)
  · obtain ⟨t, rfl, _⟩ := h
    rfl
  obtain ⟨t, rfl, W, q, qE⟩ := h
  obtain ⟨t3, g300⟩ := L.g300
  obtain ⟨t8, gM8⟩ := L.gM8
  have hr1 : Room 1 _ := hr.mono (by decide)
  have hz := sizeLine_eq
  have wl := W.len
  have wf := parts_len t
  have wu := split_len t
  refine ⟨_, (@pss_cons _ _ _ _ _ (ps_comp (NX := ["text", "pieces", "piece"]) (N := ["text", "pieces", "piece"]) (ms := [true, true, false]) (ks := [2]) (out := defScope sWords) (by exact ⟨rfl, by decide +kernel, by decide +kernel, by decide +kernel, by decide +kernel, by decide +kernel⟩) rfl rfl rfl (i := 1) scWords.nd rfl (Or.inl rfl) (@pi_list _ _ _ _ (pe_bm PySem.F.plainAttrs_str PySem.F.slot_str_split PySem.F.type_str_split mt_split (pv 0) (@pa_cons _ _ _ _ _ pe_str pa_nil (by rfl)))) (@sets_name 2) (by decide) (fun C ex s H => (pg_name (i := 2) nd_scWords1 rfl (Or.inl rfl))) (fun C ex s H => (@pts_one _ _ _ (@pt_cmpR _ _ _ _ _ _ _ _ op_ne (pv 2) pe_str (nomark _)))) (fun C ex s H => (pv 2)) (by with_unfolding_all rfl)) (@pss_cons _ _ _ _ _ (@ps_for _ _ _ _ _ _ _ _ PassesOwn.leaving rfl (@pi_list _ _ _ _ (pv 1)) (pg_name (i := 2) scWords.nd rfl (Or.inl rfl)) (@pss_one _ _ _ (@ps_if _ _ _ _ _ _ _ _ (@pt_not _ _ _ _ (pt_val (pe_call GW hr (by rfl) mW FW.kp bW .nil pass0 (@pa_cons _ _ _ _ _ (pv 2) pa_nil (by rfl))))) (@pss_one _ _ _ ps_never) pss_nil)) (by intro _; rfl)) (@pss_cons _ _ _ _ _ (@ps_if _ _ _ _ _ _ _ _ (@pt_cmpR _ _ _ _ _ _ _ _ op_gt (pe_callB call_len_seq (by rfl) B.len PySem.boot_len (@pa_cons _ _ _ _ _ (pv 1) pa_nil (by rfl))) (pe_glob (v := V.int 300) (by rfl) g300 ⟨_, rfl⟩) (nomark _)) (@pss_one _ _ _ (ps_raise OT mT rfl (@pa_cons _ _ _ _ _ pe_str pa_nil (by rfl)))) pss_nil) (@pss_cons _ _ _ _ _ (@ps_if _ _ _ _ _ _ _ _ (@pt_cmpR _ _ _ _ _ _ _ _ op_gt (pe_call GO hr1 (by rfl) mO FO.kp bO .nil pass0 (@pa_cons _ _ _ _ _ (pv 1) pa_nil (by rfl))) (pe_glob (v := V.int 8) (by rfl) gM8 ⟨_, rfl⟩) (nomark _)) (@pss_one _ _ _ (ps_raise OT mT rfl (@pa_cons _ _ _ _ _ pe_str pa_nil (by rfl)))) pss_nil) (@pss_one _ _ _ (@ps_ret _ _ _ _ (pv 1))))))), ?_⟩
  refine ⟨_, rfl, rfl, t, " ", rfl, rfl, by decide +kernel, by omega, by omega, fun p0 hp0 => ?_⟩
  have s0 := same_new hp0 (.lst ((Txt.split t " ").map V.str))
  have e0 : upd H p0 (.lst ((Txt.split t " ").map V.str)) p0 = some (.lst ((Txt.split t " ").map V.str)) := upd_same
  generalize upd H p0 (.lst ((Txt.split t " ").map V.str)) = H0 at s0 e0 ⊢
  refine ⟨p0, rfl, ⟨_, SqL.of e0⟩, comp_list (xs := (Txt.split t " ").map V.str) (fun i ys H' => ys = (((Txt.split t " ").take i).filter fun x => !decide (V.str x = V.str "")).map V.str ∧ H' = H0) ⟨rfl, rfl⟩ (fun i ys H' _ ⟨_, e⟩ => by rw [e]; exact SqL.of e0) (fun i ys H' _ ⟨e, _⟩ => ?_) ?_ ?_⟩
  · rw [e, List.length_map]
    have h1 := List.length_filter_le (fun x => !decide (V.str x = V.str ("" : Str))) ((Txt.split t " ").take i)
    rw [List.length_take] at h1
    omega
  · rintro i x ys H' hx ⟨rfl, rfl⟩
    rw [List.getElem?_map] at hx
    obtain ⟨y, hy, rfl⟩ := Option.map_eq_some_iff.mp hx
    rw [List.take_add_one, hy, List.filter_append]
    refine ⟨_, rfl, rfl, _, rfl, ?_⟩
    cases e : !decide (V.str y = V.str ("" : Str)) with
    | false =>
      refine iteF ⟨?_, rfl⟩
      have e2 : ((some y).toList).filter (fun x => !decide (V.str x = V.str ("" : Str))) = [] := by
        show List.filter _ [y] = []
        rw [List.filter_cons, if_neg (by rw [e]; exact Bool.false_ne_true)]
        rfl
      rw [e2, List.append_nil]
    | true =>
      refine iteT ⟨_, rfl, ?_, rfl⟩
      have e2 : ((some y).toList).filter (fun x => !decide (V.str x = V.str ("" : Str))) = [y] := by
        show List.filter _ [y] = [y]
        rw [List.filter_cons, if_pos e]
        rfl
      rw [e2, List.map_append]
      rfl
  · rintro ys H' ⟨rfl, rfl⟩ D hD
    rw [List.length_map, List.take_of_length_le (Nat.le_refl _)]
    have s1 := s0.trans (same_new hD (.lst ((piecesOf t).map V.str)))
    have e1 : upd H' D (.lst ((piecesOf t).map V.str)) D = some (.lst ((piecesOf t).map V.str)) := upd_same
    have fD : H D = none := s0.free hD
    show gName 1 (V.ref D) _ (upd H' D (.lst ((piecesOf t).map V.str))) _
    generalize upd H' D (.lst ((piecesOf t).map V.str)) = H1 at s1 e1 ⊢
    refine ⟨_, rfl, D, rfl, ⟨_, SqL.of e1⟩, for_list (xs := (piecesOf t).map V.str) (fun i σ H2 => ∃ v2 : Option V, σ = [some (.str t), some (.ref D), v2] ∧ Same H1 H2) ⟨none, rfl, Same.refl _⟩ (fun i σ H2 _ ⟨_, _, s2⟩ => SqL.of (s2 _ _ e1)) ?_ ?_⟩
    · rintro i x σ H2 hx ⟨v2, rfl, s2⟩
      rw [List.getElem?_map] at hx
      obtain ⟨y, hy, rfl⟩ := Option.map_eq_some_iff.mp hx
      obtain ⟨ay, wy⟩ := W.wrd y (List.mem_of_getElem? hy)
      refine ⟨_, rfl, y, rfl, ay, fun H3 s3 => ⟨_, rfl, ?_⟩⟩
      rw [wy]
      exact iteF ⟨_, rfl, s2.trans s3⟩
    · rintro σ H2 ⟨v2, rfl, s2⟩
      refine ⟨_, rfl, D, _, rfl, .inl (SqL.of (s2 _ _ e1)), _, _, rfl, rfl, _, rfl, ite2 (fun c => ?_) (fun c1 => ?_)⟩
      · have c := of_decide_eq_true c
        rw [List.length_map] at c
        refine ⟨by decide, fun a ha => qE (fun w => by have := w.1; omega) a _ (s1.trans (s2.trans (same_new ha _))) upd_same⟩
      refine ⟨_, rfl, D, _, rfl, SqL.of (s2 _ _ e1), fun H3 s3 => ⟨_, _, rfl, rfl, _, rfl, ite2 (fun c => ?_) (fun c2 => ?_)⟩⟩
      · have c := of_decide_eq_true c
        refine ⟨by decide, fun a ha => qE (fun w => by have := w.2; omega) a _ (s1.trans (s2.trans (s3.trans (same_new ha _)))) upd_same⟩
      have c1 : ¬ (300 : Int) < (((piecesOf t).map V.str).length : Int) := fun h => c1 (decide_eq_true h)
      have c2 : ¬ (8 : Int) < (openM (piecesOf t)).1 := fun h => c2 (decide_eq_true h)
      rw [List.length_map] at c1
      exact ⟨_, rfl, q ⟨by omega, by omega⟩ D _ (s1.trans (s2.trans s3)) fD (s3 _ _ (s2 _ _ e1))⟩
end
end Nw
namespace Nw
open PySem L2
structure Tok (x : Str) : Prop where
  no : 32 ∉ x.cps.toList
  ne : x ≠ ""
  len : x.length ≤ 9
structure WName (x : Str) : Prop where
  tok : Tok x
  asc : Asc x
  num : numB x = false
  nam : (nameB x || farB x) = true
theorem inW_letter : ∀ j : _root_.Fin 26, inW (97 + j.val) lettersW = true := by decide +kernel
theorem inW_fig : ∀ j : _root_.Fin 26, inW (97 + j.val) figuresW = false := by decide +kernel
theorem cps_all {cs : List Nat} (h : ∀ c ∈ cs, 97 ≤ c ∧ c ≤ 122) : (cps cs).cps.all (· < 128) = true := by
  refine Array.all_eq_true_iff_forall_mem.mpr fun c hc => ?_
  have hc : c ∈ cs := by simpa [cps] using hc
  have := h c hc
  exact decide_eq_true (by omega)
theorem letter_fin {c : Nat} (h : 97 ≤ c ∧ c ≤ 122) : ∃ j : _root_.Fin 26, c = 97 + j.val := ⟨⟨c - 97, by omega⟩, by show c = 97 + (c - 97); omega⟩
theorem PName.asc {x : Str} (h : PName x) : Asc x := by
  obtain ⟨cs, rfl, _, h8, hl⟩ := h.signs
  exact ⟨cps_all hl, by rw [cps_length]; omega⟩
theorem PName.nameB {x : Str} (h : PName x) : nameB x = true := by
  obtain ⟨cs, e, n, h8, hl⟩ := h.signs
  have n1 : 1 ≤ cs.length := by cases cs with | nil => exact absurd rfl n | cons a b => simp
  unfold Nw.nameB madeB
  rw [e, in_own]
  have hl' : (cps cs).cps.toList.all (fun c => inW c lettersW) = true := by
    refine List.all_eq_true.mpr fun c hc => ?_
    have hc : c ∈ cs := by simpa [cps] using hc
    obtain ⟨j, rfl⟩ := letter_fin (hl c hc)
    exact inW_letter j
  rw [hl', cps_length, decide_eq_true (show ¬ (cs.length : Int) < 1 by omega), decide_eq_true (show ¬ (8 : Int) < (cs.length : Int) by omega), decide_eq_false (show ¬ cps cs ∈ ownL from fun z => h.other (by rw [e]; exact z))]
  rfl
theorem first_no {x : Str} {c : Nat} {cs : List Nat} (e : x.cps.toList = c :: cs) (h : inW c figuresW = false) : numB x = false := by
  unfold numB madeB
  rw [e, List.all_cons, h, Bool.false_and, Bool.and_false, Bool.false_and]
theorem PName.numB {x : Str} (h : PName x) : numB x = false := by
  obtain ⟨cs, e, n, h8, hl⟩ := h.signs
  cases cs with
  | nil => exact absurd rfl n
  | cons c r =>
    obtain ⟨j, ej⟩ := letter_fin (hl c List.mem_cons_self)
    refine first_no (c := c) (cs := r) (by rw [e]; simp [cps]) ?_
    rw [ej]
    exact inW_fig j
theorem cps_tok {cs : List Nat} (n : cs ≠ []) (l : cs.length ≤ 9) (h : 32 ∉ cs) : Tok (cps cs) := by
  refine ⟨by simpa [cps] using h, fun z => ?_, by rw [cps_length]; exact l⟩
  have := congrArg Str.length z
  rw [cps_length] at this
  have e0 : ("" : Str).length = 0 := rfl
  rw [e0] at this
  exact n (List.eq_nil_of_length_eq_zero this)
theorem PName.tok {x : Str} (h : PName x) : Tok x := by
  obtain ⟨cs, rfl, n, h8, hl⟩ := h.signs
  exact cps_tok n (by omega) fun z => by have := hl 32 z; omega
theorem PName.wname {x : Str} (h : PName x) : WName x := ⟨h.tok, h.asc, h.numB, by rw [h.nameB]; rfl⟩
theorem at_cps {cs : List Nat} : ("@" : Str) ++ cps cs = cps (64 :: cs) := by
  have e : ("@" : Str) = cps [64] := by decide +kernel
  rw [e, cps_cat]
  rfl
theorem start_at (y : Str) : Txt.startswith (("@" : Str) ++ y) "@" = true := W.KT.starts_app "@" y
theorem PName.far {x : Str} (h : PName x) : WName ("@" ++ x) := by
  obtain ⟨cs, e, n, h8, hl⟩ := h.signs
  have ea : ("@" : Str) ++ x = cps (64 :: cs) := by rw [e, at_cps]
  have f64 : inW 64 figuresW = false := by decide +kernel
  refine ⟨?_, ⟨?_, ?_⟩, ?_, ?_⟩
  · rw [ea]
    refine cps_tok (List.cons_ne_nil _ _) (by rw [List.length_cons]; omega) fun z => ?_
    rcases List.mem_cons.mp z with z | z
    · cases z
    · have := hl 32 z; omega
  · rw [ea]
    refine Array.all_eq_true_iff_forall_mem.mpr fun c hc => ?_
    have hc : c ∈ (64 :: cs) := by simpa [cps] using hc
    rcases List.mem_cons.mp hc with rfl | hc
    · rfl
    · have := hl c hc
      exact decide_eq_true (by omega)
  · rw [ea, cps_length, List.length_cons]; omega
  · exact first_no (c := 64) (cs := cs) (by rw [ea]; simp [cps]) f64
  · have es : Txt.slice ("@" ++ x) (some 1) none = x := by
      rw [ea, sl_from (by decide) (by rw [List.length_cons]; omega), e]
      rfl
    have ef : farB ("@" ++ x) = true := by
      unfold farB
      rw [es, h.nameB, start_at]
      rfl
    rw [ef, Bool.or_true]
theorem none_app (x : Str) : ("" : Str) ++ x = x := by
  cases x
  exact congrArg Str.mk (Array.empty_append)
instance (z : Str) : Decidable (Asc z) := if h : z.cps.all (· < 128) = true ∧ z.length ≤ 1000 then .isTrue ⟨h.1, h.2⟩ else .isFalse fun a => h ⟨a.all, a.len⟩
theorem deps_strs : ∀ ns : List Str, deps (ns.map Dt.str) = 0
  | [] => by simp [deps]
  | n :: ns => by simp [deps, dep, deps_strs ns]
structure TokW (x : Str) : Prop where
  tok : Tok x
  asc : Asc x
  wrd : wordB x = true
instance (x : Str) : Decidable (Tok x) := if h : 32 ∉ x.cps.toList ∧ x ≠ "" ∧ x.length ≤ 9 then .isTrue ⟨h.1, h.2.1, h.2.2⟩ else .isFalse fun a => h ⟨a.no, a.ne, a.len⟩
instance (x : Str) : Decidable (TokW x) := if h : Tok x ∧ Asc x ∧ wordB x = true then .isTrue ⟨h.1, h.2.1, h.2.2⟩ else .isFalse fun a => h ⟨a.tok, a.asc, a.wrd⟩
theorem num_tok2 : ∀ k : _root_.Fin 100, TokW ((toString ((k.val : Nat) : Int) : String) : Str) := by decide +kernel
theorem num_tok {n : Int} (h : 0 ≤ n ∧ n ≤ 99) : TokW ((toString n : String) : Str) := by
  have := num_tok2 ⟨n.toNat, by omega⟩
  have e : ((n.toNat : Nat) : Int) = n := by omega
  simp only [e] at this
  exact this
theorem name_tok {x : Str} (h : WName x) : TokW x := by
  refine ⟨h.tok, h.asc, ?_⟩
  have := h.nam
  unfold wordB
  rcases Bool.or_eq_true_iff.mp this with e | e
  · rw [e, Bool.or_true, Bool.true_or]
  · rw [e, Bool.or_true]
section
variable {P : Program} {w : World} {K : PySem.W.Frag} {mg : Str → Option Value} {base : Heap}
theorem own_tok : ∀ x ∈ ownW, TokW x := by decide +kernel
def sgnL : List Str := ["+", "-", "*", "(", ")", "[", "]", "<", "<=", "=", "!=", ";", ",", "(", ")", "[", "]"]
theorem sgn_tok : ∀ x ∈ sgnL, TokW x := by decide +kernel
theorem str_at (l : List Str) {i : Int} (h0 : 0 ≤ i) (h1 : i < (l.length : Int)) : ∃ x ∈ l, atI (l.map V.str) i = some (.str x) := by
  obtain ⟨j, rfl⟩ := Int.eq_ofNat_of_zero_le h0
  have hj : j < l.length := by omega
  exact ⟨l[j], List.getElem_mem hj, atI_nat (by rw [List.getElem?_map, List.getElem?_eq_getElem hj]; rfl)⟩
def spWord : Sp := fun vs H Q _ => ∃ c : Int, vs = [.int c] ∧ ∀ (x : Str) (H' : Hp), Same H H' → TokW x → Q (.str x) H'
theorem scWord : FnScope ["_law_cell", "_law_letters", "_law_kind", "_law_signs", "_law_name"] ["_law_cell"] (defScope sWord) := ⟨rfl, rfl, rfl, by decide +kernel, rfl, by decide +kernel, by decide +kernel⟩
theorem nd_scWord1 : (["_law_cell", "_law_letters", "_law_kind", "_law_signs", "_law_name", "_law_k"] : List Str).Nodup := by decide +kernel
theorem ok_word {f fM fO : Addr} {fd fdM fdO : FuncData} (B : Bl mg) (F : Fun K "_law_word" "_law_word" sWord f fd) (FM : Fun K "_law_mix" "_law_mix" sMix fM fdM) (bM : Binds K fdM ["_law_cell", "_law_k"] []) (mM : mg "_law_mix" = some (.ref fM))
    (FO : Fun K "_law_own" "_law_own" sOwn fO fdO) (bO : Binds K fdO [] []) (mO : mg "_law_own" = some (.ref fO)) : FnOk P w K mg base CX0 2 f fd ["_law_cell"] spWord := by
  have GM : FnOk P w K mg base CX0 1 fM fdM ["_law_cell", "_law_k"] spMix := ok_mix B FM
  have GO : FnOk P w K mg base CX0 1 fO fdO [] spOwn := ok_own FO
  refine F.ok scWord (fun vs H Q E h => ?_) (fun cdv A outer s H vs Q E hr h => ?_)
  · obtain ⟨c, rfl, _⟩ := h
    rfl
  obtain ⟨c, rfl, q⟩ := h
  refine ⟨_, (@pss_cons _ _ _ _ _ (@ps_set _ _ 1 _ _ _ _ scWord.nd rfl (Or.inr rfl) pe_str rfl (Or.inl rfl)) (@pss_cons _ _ _ _ _ (@ps_set _ _ 2 _ _ _ _ scWord.nd rfl (Or.inl rfl) (@pe_op _ _ _ _ _ _ _ _ op_mod (pe_call GM hr (by rfl) mM FM.kp bM .nil pass0 (@pa_cons _ _ _ _ _ (pv 0) (@pa_cons _ _ _ _ _ pe_int pa_nil (by rfl)) (by rfl))) pe_int) rfl (Or.inl rfl)) (@pss_cons _ _ _ _ _ (@ps_if _ _ _ _ _ _ _ _ (@pt_cmpR _ _ _ _ _ _ _ _ op_eq (pv 2) pe_int (nomark _)) (@pss_one _ _ _ (@ps_ret _ _ _ _ (pe_callTy call_str_int (by rfl) B.str PyProof.Rows.boot_str (@pa_cons _ _ _ _ _ (@pe_ix _ _ _ _ _ _ (rIxL K) ix_list (@pe_lst _ _ _ _ (@pa_cons _ _ _ _ _ (@pe_op _ _ _ _ _ _ _ _ op_mod (@pe_op _ _ _ _ _ _ _ _ op_fdiv (pv 0) pe_int) pe_int) (@pa_cons _ _ _ _ _ (@pe_op _ _ _ _ _ _ _ _ op_mod (@pe_op _ _ _ _ _ _ _ _ op_fdiv (pv 0) pe_int) pe_int) pa_nil (by rfl)) (by rfl))) (@pe_op _ _ _ _ _ _ _ _ op_mod (pv 0) pe_int) (fun _ _ => rfl)) pa_nil (by rfl))))) pss_nil) (@pss_cons _ _ _ _ _ (@ps_if _ _ _ _ _ _ _ _ (@pt_cmpR _ _ _ _ _ _ _ _ op_eq (pv 2) pe_int (nomark _)) (@pss_one _ _ _ (@ps_ret _ _ _ _ (@pe_ix _ _ _ _ _ _ (rIxL K) ix_list (pe_call0 GO hr (by rfl) mO FO.kp bO .nil pass0) (@pe_op _ _ _ _ _ _ _ _ op_mod (pv 0) pe_int) (fun _ _ => rfl)))) pss_nil) (@pss_cons _ _ _ _ _ (@ps_if _ _ _ _ _ _ _ _ (@pt_cmpR _ _ _ _ _ _ _ _ op_lt (pv 2) pe_int (nomark _)) (@pss_cons _ _ _ _ _ (@ps_set _ _ 3 _ _ _ _ scWord.nd rfl (Or.inl rfl) (@pe_lst _ _ _ _ (@pa_strs _ _ ["+", "-", "*", "(", ")", "[", "]", "<", "<=", "=", "!=", ";", ",", "(", ")", "[", "]"] rfl)) rfl (Or.inl rfl)) (@pss_one _ _ _ (@ps_ret _ _ _ _ (@pe_ix _ _ _ _ _ _ (rIxL K) ix_list (pv 3) (@pe_op _ _ _ _ _ _ _ _ op_mod (pe_call GM hr (by rfl) mM FM.kp bM .nil pass0 (@pa_cons _ _ _ _ _ (pv 0) (@pa_cons _ _ _ _ _ pe_int pa_nil (by rfl)) (by rfl))) pe_int) (fun _ _ => rfl))))) pss_nil) (@pss_cons _ _ _ _ _ (@ps_set _ _ 4 _ _ _ _ scWord.nd rfl (Or.inl rfl) (pe_bm (r := rJoin K) PySem.F.plainAttrs_str PySem.F.slot_str_join PySem.F.type_str_join mt_join pe_str (@pa_cons _ _ _ _ _ (pe_comp (NX := ["_law_cell", "_law_letters", "_law_kind", "_law_signs", "_law_name"]) (N := ["_law_cell", "_law_letters", "_law_kind", "_law_signs", "_law_name", "_law_k"]) (ms := [true, true, true, true, true, false]) (ks := [5]) (out := defScope sWord) (by exact ⟨rfl, by decide +kernel, by decide +kernel, by decide +kernel, by decide +kernel, by decide +kernel⟩) rfl rfl rfl (pi_range1 rfl B.range (@pa_cons _ _ _ _ _ (@pe_op _ _ _ _ _ _ _ _ op_add pe_int (@pe_op _ _ _ _ _ _ _ _ op_mod (pv 0) pe_int)) pa_nil (by rfl))) (@sets_name 5) (by decide) (fun C ex s H => (pg_name (i := 5) nd_scWord1 rfl (Or.inl rfl))) (fun C ex s H => pts_nil) (fun C ex s H => (@pe_ix _ _ _ _ _ _ _ ix_str (pv 1) (@pe_op _ _ _ _ _ _ _ _ op_mod (pe_call GM hr (by rfl) mM FM.kp bM .nil pass0 (@pa_cons _ _ _ _ _ (pv 0) (@pa_cons _ _ _ _ _ (@pe_op _ _ _ _ _ _ _ _ op_add (pv 5) pe_int) pa_nil (by rfl)) (by rfl))) pe_int) (fun _ _ => rfl)))) pa_nil (by rfl))) rfl (Or.inl rfl)) (@pss_cons _ _ _ _ _ (@ps_cut _ _ _ (@ps_if _ _ _ _ _ _ _ _ (@pt_cmpR _ _ _ _ _ _ _ _ op_in_seq (pv 4) (pe_call0 GO hr (by rfl) mO FO.kp bO .nil pass0) (by with_unfolding_all rfl)) (@pss_one _ _ _ (@ps_set _ _ 4 _ _ _ _ scWord.nd rfl (Or.inl rfl) (@pe_op _ _ _ _ _ _ _ _ op_add_str (pv 4) pe_str) rfl (Or.inl rfl))) pss_nil)) (@pss_one _ _ _ (@ps_ret _ _ _ _ (@pe_op _ _ _ _ _ _ _ _ op_add_str (@pe_ix _ _ _ _ _ _ (rIxL K) ix_list (@pe_lst _ _ _ _ (@pa_cons _ _ _ _ _ pe_str (@pa_cons _ _ _ _ _ pe_str pa_nil (by rfl)) (by rfl))) (@pe_op _ _ _ _ _ _ _ _ op_sub (pv 2) pe_int) (fun _ _ => rfl)) (pv 4))))))))))), ?_⟩
  refine ⟨_, rfl, c, 1, rfl, by decide, by decide, fun r r0 r1 => ⟨_, _, rfl, rfl, (by show (0 : Int) < 6; decide), ?_⟩⟩
  have k0 := Int.emod_nonneg r (b := 6) (by decide)
  have k1 := Int.emod_lt_of_pos r (b := 6) (by decide)
  refine ⟨_, rfl, rfl, _, rfl, ite2 (fun _ => ?_) (fun _ => ?_)⟩
  · obtain ⟨x, hx, b0, b1⟩ : ∃ x : Int, atI [V.int (c / 6 % 10), V.int (c / 6 % 100)] (c % 2) = some (.int x) ∧ 0 ≤ x ∧ x ≤ 99 := by
      have h : c % 2 = 0 ∨ c % 2 = 1 := by omega
      rcases h with h | h
      · exact ⟨c / 6 % 10, by rw [h]; exact atI_nat (j := 0) rfl, by omega, by omega⟩
      · exact ⟨c / 6 % 100, by rw [h]; exact atI_nat (j := 1) rfl, by omega, by omega⟩
    refine ⟨_, rfl, _, _, rfl, rfl, ⟨by decide, by decide⟩, _, _, rfl, rfl, (by show (0 : Int) < 10; decide), _, rfl, _, _, rfl, rfl, ⟨by decide, by decide⟩, _, _, rfl, rfl, (by show (0 : Int) < 100; decide), by show 2 ≤ sizeLine; decide, fun p hp => ?_⟩
    refine ⟨_, rfl, _, _, rfl, rfl, (by show (0 : Int) < 2; decide), p, _, _, _, rfl, rfl, SqL.of upd_same, hx, x, rfl, ?_, ?_⟩
    · exact Nat.lt_of_le_of_lt (Nat.log2_le_self _) (by omega)
    · exact q _ _ (same_new hp _) (num_tok ⟨b0, b1⟩)
  refine ⟨_, rfl, rfl, _, rfl, ite2 (fun _ => ?_) (fun _ => ?_)⟩
  · have d1 := Int.emod_nonneg c (b := 18) (by decide)
    have d2 := Int.emod_lt_of_pos c (b := 18) (by decide)
    refine ⟨rfl, fun po Ho so no eo => ?_⟩
    obtain ⟨x, mx, hx⟩ := str_at ownW d1 d2
    refine ⟨_, rfl, _, _, rfl, rfl, (by show (0 : Int) < 18; decide), po, _, _, _, rfl, rfl, SqL.of eo, hx, ?_⟩
    exact q _ _ so (own_tok _ mx)
  refine ⟨_, rfl, _, _, rfl, rfl, _, rfl, ite2 (fun _ => ?_) (fun c3 => ?_)⟩
  · refine ⟨by show 17 ≤ sizeLine; decide, fun p hp => ?_⟩
    refine ⟨_, rfl, _, rfl, c, 2, rfl, by decide, by decide, fun r2 _ _ => ?_⟩
    obtain ⟨x, mx, hx⟩ := str_at sgnL (Int.emod_nonneg r2 (b := 17) (by decide)) (Int.emod_lt_of_pos r2 (b := 17) (by decide))
    refine ⟨_, _, rfl, rfl, (by show (0 : Int) < 17; decide), p, _, _, _, rfl, rfl, SqL.of upd_same, hx, ?_⟩
    exact q _ _ (same_new hp _) (sgn_tok _ mx)
  have k4 : 4 ≤ r % 6 := by
    have := of_decide_eq_false (Bool.eq_false_iff.mpr c3)
    omega
  have b1 := Int.emod_nonneg c (b := 8) (by decide)
  have b2 := Int.emod_lt_of_pos c (b := 8) (by decide)
  refine ⟨rfl, _, rfl, _, _, rfl, rfl, (by show (0 : Int) < 8; decide), _, _, rfl, rfl, 1 + c % 8, rfl, by omega, by omega, comp_range (n := (1 + c % 8).toNat) (fun i ys H' => ∃ cs : List Nat, ys = (cs.map fun c => (⟨#[c]⟩ : Str)).map V.str ∧ cs.length = i ∧ (∀ c ∈ cs, 97 ≤ c ∧ c ≤ 122) ∧ H' = H) ⟨[], rfl, rfl, by simp, rfl⟩ (fun i ys H' hi ⟨cs, e1, e2, _⟩ => by rw [e1, List.length_map, List.length_map, e2]; exact small1000 (by omega)) ?_ ?_⟩
  · rintro i ys H' hi ⟨cs, rfl, e2, e3, rfl⟩
    refine ⟨_, rfl, _, rfl, _, rfl, _, _, rfl, rfl, c, _, rfl, by omega, by omega, fun r r0 r1 => ?_⟩
    have d1 := Int.emod_nonneg r (b := 26) (by decide)
    have d2 := Int.emod_lt_of_pos r (b := 26) (by decide)
    refine ⟨_, _, rfl, rfl, (by show (0 : Int) < 26; decide), _, _, _, rfl, rfl, by decide, letter_at d1 d2, ?_⟩
    refine ⟨cs ++ [97 + (r % 26).toNat], by rw [List.map_append, List.map_append]; rfl, by rw [List.length_append, e2]; rfl, fun x hx => ?_, rfl⟩
    rcases List.mem_append.mp hx with z | z
    · exact e3 x z
    · rw [List.mem_singleton.mp z]; omega
  · rintro ys H' ⟨cs, rfl, e2, e3, rfl⟩ D hD
    refine ⟨_, D, cs.map fun c => (⟨#[c]⟩ : Str), rfl, rfl, SqL.of upd_same, ?_, ?_⟩
    · rw [sum_ones, List.length_map]
      show cs.length + cs.length * 0 ≤ 16777216
      omega
    rw [join_eq, show ("" : Str) = ⟨#[]⟩ from rfl, join_signs]
    have s1 := same_new hD (.lst ((cs.map fun c => (⟨#[c]⟩ : Str)).map V.str))
    have pn : ∃ ds, cps cs = cps ds ∧ ds ≠ [] ∧ ds.length ≤ 8 ∧ ∀ c ∈ ds, 97 ≤ c ∧ c ≤ 122 := ⟨cs, rfl, fun z => by rw [z] at e2; simp at e2; omega, by omega, e3⟩
    refine ⟨fun σ' H3 => ∃ nm : Str, σ' = [some (.int c), some (.str "abcdefghijklmnopqrstuvwxyz"), some (.int (r % 6)), none, some (.str nm)] ∧ PName nm ∧ Same H' H3, ?_, ?_⟩
    · refine ⟨_, rfl, rfl, fun po Ho so no eo => ⟨po, _, rfl, .inl (SqL.of eo), rfl, flat_strs _, _, rfl, ite2 (fun co => ?_) (fun co => ?_)⟩⟩
      · refine ⟨_, rfl, _, _, rfl, rfl, ?_, ?_⟩
        · rw [cps_length]
          exact Nat.le_of_lt (small1000 (by show _ + 1 ≤ 1000; omega))
        · exact ⟨_, rfl, name_ownE pn (of_decide_eq_true (by rw [← in_own]; exact co)), s1.trans so⟩
      · exact ⟨_, rfl, name_notE pn (fun z => co (by rw [show _ = inV _ _ from rfl, in_own]; exact decide_eq_true z)), s1.trans so⟩
    · rintro σ' H3 ⟨nm, rfl, g1, g2⟩
      obtain ⟨x, hx, hx2⟩ : ∃ x : Str, atI [V.str "", V.str "@"] (r % 6 - 4) = some (.str x) ∧ (x = "" ∨ x = "@") := by
        have h : r % 6 - 4 = 0 ∨ r % 6 - 4 = 1 := by omega
        rcases h with h | h
        · exact ⟨"", by rw [h]; exact atI_nat (j := 0) rfl, .inl rfl⟩
        · exact ⟨"@", by rw [h]; exact atI_nat (j := 1) rfl, .inr rfl⟩
      have l8 := g1.le30
      refine ⟨by show 2 ≤ sizeLine; decide, fun p hp => ⟨_, rfl, _, _, rfl, rfl, p, _, _, _, rfl, rfl, SqL.of upd_same, hx, _, rfl, _, _, rfl, rfl, ?_, ?_⟩⟩
      · have : x.length ≤ 1 := by rcases hx2 with rfl | rfl <;> decide +kernel
        exact Nat.le_of_lt (small1000 (by omega))
      · refine q _ _ (g2.trans (same_new hp _)) ?_
        rcases hx2 with rfl | rfl
        · rw [none_app]; exact name_tok g1.wname
        · exact name_tok g1.far
theorem step2 {m c : Int} (hc : 0 ≤ c) (y : Str) {cA cB : Int} (hA : cA = if inV (.str y) [.str "(", .str "["] = true then c + 1 else c) (hB : cB = if inV (.str y) [.str ")", .str "]"] = true ∧ 0 < cA then cA - 1 else cA) :
    stepO (m, c) y = (if cB > m then cB else m, cB) ∧ 0 ≤ cB := by
  have h1 := in_own y ["(", "["]
  have h2 := in_own y [")", "]"]
  unfold stepO
  cases e1 : inV (.str y) [.str "(", .str "["] with
  | true =>
    have z : inV (.str y) [.str ")", .str "]"] = false := by
      have m1 : y ∈ (["(", "["] : List Str) := of_decide_eq_true (h1.symm.trans e1)
      refine h2.trans (decide_eq_false fun m2 => ?_)
      have nn : ∀ a ∈ (["(", "["] : List Str), a ∉ ([")", "]"] : List Str) := by decide +kernel
      exact nn y m1 m2
    rw [e1, if_pos rfl] at hA
    rw [z, if_neg (fun h => Bool.noConfusion h.1)] at hB
    subst hB hA
    exact ⟨rfl, by omega⟩
  | false =>
    rw [e1, if_neg Bool.false_ne_true] at hA
    subst hA
    cases e2 : inV (.str y) [.str ")", .str "]"] with
    | false =>
      rw [e2, if_neg (fun h => Bool.noConfusion h.1)] at hB
      subst hB
      exact ⟨rfl, hc⟩
    | true =>
      rw [e2] at hB
      show ((if (if (0 : Int) > cA - 1 then 0 else cA - 1) > m then (if (0 : Int) > cA - 1 then 0 else cA - 1) else m), (if (0 : Int) > cA - 1 then 0 else cA - 1)) = _ ∧ _
      have e : cB = if (0 : Int) > cA - 1 then 0 else cA - 1 := by
        by_cases h : 0 < cA
        · rw [hB, if_pos ⟨rfl, h⟩, if_neg (by omega)]
        · rw [hB, if_neg (fun z => h z.2), if_pos (by omega)]; omega
      rw [← e]
      refine ⟨rfl, ?_⟩
      rw [e]
      split <;> omega
theorem scMost : FnScope ["_law_some", "_law_most", "_law_count", "_law_word_here"] ["_law_some"] (defScope sMost) := ⟨rfl, rfl, rfl, by decide +kernel, rfl, by decide +kernel, by decide +kernel⟩
theorem ok_most {f : Addr} {fd : FuncData} (B : Bl mg) (F : Fun K "_law_most_open" "_law_most_open" sMost f fd) : FnOk P w K mg base CX0 1 f fd ["_law_some"] (spOpen K) := by
  refine F.ok scMost (fun vs H Q E h => ?_) (fun cdv A outer s H vs Q E hr h => ?_)
  · obtain ⟨p, ws, rfl, _⟩ := h
    rfl
  obtain ⟨p, ws, rfl, hp, q⟩ := h
  refine ⟨_, (@pss_cons _ _ _ _ _ (@ps_set _ _ 1 _ _ _ _ scMost.nd rfl (Or.inl rfl) pe_int rfl (Or.inl rfl)) (@pss_cons _ _ _ _ _ (@ps_set _ _ 2 _ _ _ _ scMost.nd rfl (Or.inl rfl) pe_int rfl (Or.inl rfl)) (@pss_cons _ _ _ _ _ (@ps_for _ _ _ _ _ _ _ _ PassesOwn.never rfl (@pi_list _ _ _ _ (pv 0)) (pg_name (i := 3) scMost.nd rfl (Or.inl rfl)) (@pss_cons _ _ _ _ _ (@ps_cut _ _ _ (@ps_if _ _ _ _ _ _ _ _ (@pt_cmpR _ _ _ _ _ _ _ _ op_in_seq (pv 3) (@pe_lst _ _ _ _ (@pa_cons _ _ _ _ _ pe_str (@pa_cons _ _ _ _ _ pe_str pa_nil (by rfl)) (by rfl))) (by with_unfolding_all rfl)) (@pss_one _ _ _ (@ps_set _ _ 2 _ _ _ _ scMost.nd rfl (Or.inl rfl) (@pe_op _ _ _ _ _ _ _ _ op_add (pv 2) pe_int) rfl (Or.inl rfl))) pss_nil)) (@pss_cons _ _ _ _ _ (@ps_cut _ _ _ (@ps_if _ _ _ _ _ _ _ _ ((@pw_and _ _ _ _ _ _ _ (@pt_cmpR _ _ _ _ _ _ _ _ op_in_seq (pv 3) (@pe_lst _ _ _ _ (@pa_cons _ _ _ _ _ pe_str (@pa_cons _ _ _ _ _ pe_str pa_nil (by rfl)) (by rfl))) (by with_unfolding_all rfl)) (pw_and1 (@pt_cmpR _ _ _ _ _ _ _ _ op_gt (pv 2) pe_int (nomark _))))).pt (@pss_one _ _ _ (@ps_set _ _ 2 _ _ _ _ scMost.nd rfl (Or.inl rfl) (@pe_op _ _ _ _ _ _ _ _ op_sub (pv 2) pe_int) rfl (Or.inl rfl))) pss_nil)) (@pss_one _ _ _ (@ps_set _ _ 1 _ _ _ _ scMost.nd rfl (Or.inl rfl) (pe_callB (call_max2 rfl) (by rfl) B.max PyProof.Rows.boot_max (@pa_cons _ _ _ _ _ (pv 1) (@pa_cons _ _ _ _ _ (pv 2) pa_nil (by rfl)) (by rfl))) rfl (Or.inl rfl))))) (by intro _; rfl)) (@pss_one _ _ _ (@ps_ret _ _ _ _ (pv 1)))))), ?_⟩
  refine ⟨_, rfl, p, rfl, ⟨_, hp⟩, for_list (xs := ws.map V.str) (fun i σ H1 => ∃ v3 : Option V, σ = [some (.ref p), some (.int (openM (ws.take i)).1), some (.int (openM (ws.take i)).2), v3] ∧ Same H H1 ∧ 0 ≤ (openM (ws.take i)).2) ⟨none, rfl, Same.refl _, Int.le_refl 0⟩ (fun i σ H1 _ ⟨_, _, s1, _⟩ => s1.seq hp) ?_ ?_⟩
  · rintro i x σ H1 hx ⟨v3, rfl, s1, c0⟩
    rw [List.getElem?_map] at hx
    obtain ⟨y, hy, rfl⟩ := Option.map_eq_some_iff.mp hx
    have e := openM_take hy
    generalize openM (ws.take i) = mc at e c0 ⊢
    obtain ⟨m, c⟩ := mc
    have c0 : 0 ≤ c := c0
    refine ⟨fun σ H2 => ∃ cA : Int, σ = [some (.ref p), some (.int m), some (.int cA), some (.str y)] ∧ Same H H2 ∧ cA = (if inV (.str y) [.str "(", .str "["] = true then c + 1 else c), ?_, ?_⟩
    · refine ⟨_, rfl, by show 2 ≤ sizeLine; decide, fun t1 ht1 => ⟨t1, _, rfl, .inl (SqL.of upd_same), rfl, rfl, _, rfl, ?_⟩⟩
      cases e1 : inV (.str y) [.str "(", .str "["] with
      | true => exact iteT ⟨_, rfl, _, _, rfl, rfl, _, rfl, s1.trans (same_new ht1 _), (if_pos rfl).symm⟩
      | false => exact iteF ⟨_, rfl, s1.trans (same_new ht1 _), (if_neg Bool.false_ne_true).symm⟩
    · rintro σ H2 ⟨cA, rfl, r2, eA⟩
      refine ⟨fun σ H3 => ∃ cB : Int, σ = [some (.ref p), some (.int m), some (.int cB), some (.str y)] ∧ Same H H3 ∧ cB = (if inV (.str y) [.str ")", .str "]"] = true ∧ 0 < cA then cA - 1 else cA), ?_, ?_⟩
      · refine ⟨_, rfl, by show 2 ≤ sizeLine; decide, fun t1 ht1 => ⟨t1, _, rfl, .inl (SqL.of upd_same), rfl, rfl, _, rfl, ?_⟩⟩
        have r1 := r2.trans (same_new ht1 (.lst [V.str ")", .str "]"]))
        cases e2 : inV (.str y) [.str ")", .str "]"] with
        | false => exact iteF (iteF ⟨_, rfl, r1, (if_neg (fun h => Bool.noConfusion h.1)).symm⟩)
        | true => exact iteT ⟨_, rfl, _, _, rfl, rfl, _, rfl, ite2 (fun c => ⟨_, rfl, _, _, rfl, rfl, _, rfl, r1, (if_pos ⟨rfl, of_decide_eq_true c⟩).symm⟩) (fun c => ⟨_, rfl, r1, (if_neg (fun h => c (decide_eq_true h.2))).symm⟩)⟩
      · rintro σ H3 ⟨cB, rfl, r3, eB⟩
        obtain ⟨e2, b0⟩ := step2 (m := m) c0 y eA eB
        rw [e2] at e
        refine ⟨_, rfl, _, rfl, _, _, rfl, ?_⟩
        refine ⟨some (.str y), ?_, r3, ?_⟩
        · rw [e]
          rfl
        · rw [e]
          exact b0
  · rintro σ H1 ⟨v3, rfl, s1, _⟩
    rw [List.length_map, List.take_of_length_le (Nat.le_refl _)]
    exact ⟨_, rfl, q _ s1⟩
theorem is_strs {K : PySem.W.Frag} {H : Hp} {p : Addr} {l : List Str} (h : SqL K H p (l.map V.str)) : Is K H (.lst (l.map Dt.str)) (.ref p) := by
  rw [Is]
  exact ⟨p, _, rfl, h, Iss.strs l⟩
theorem is_no {K : PySem.W.Frag} {H : Hp} {p : Addr} (h : H p = some (.lst [])) : Is K H (.lst []) (.ref p) := by
  rw [Is]
  exact ⟨p, _, rfl, SqL.of h, .nil⟩
theorem dep_strs (l : List Str) : dep (.lst (l.map Dt.str)) ≤ 50 := by rw [dep, deps_strs]; decide
theorem eq_nilS (ms : List Str) : dEq (.lst (ms.map Dt.str)) (.lst []) = decide (ms = []) := by
  cases ms with
  | nil => rw [List.map_nil, dEq, dEqs]; rfl
  | cons m r => rw [List.map_cons, dEq]; simp [dEqs]
theorem reps_len (k : Nat) : (repS " " k).length = k := by
  show (repS " " k).cps.size = k
  rw [← Array.length_toList, reps_list, List.length_replicate]
theorem cut_blank {u : Str} (b : Blk u) (n : u ≠ "") : piecesOf (Txt.slice u none (some (-1))) = piecesOf u ∧ (Txt.slice u none (some (-1))).length ≤ u.length := by
  rcases b with b | ⟨s0, rfl⟩
  · exact absurd b n
  have l1 : (s0 ++ (" " : Str)).length = s0.length + 1 := by rw [str_len]; rfl
  have e : Txt.slice (s0 ++ " ") none (some (-1)) = s0 := by
    show StrLaws.sliceText (s0 ++ " ") none (some (-1)) = s0
    rw [StrLaws.sliceText_to_neg (by decide) (by rw [l1]; omega)]
    refine str_of_cps ?_
    show (((s0 ++ (" " : Str)).cps.toList.drop 0).take (-1 + ((s0 ++ (" " : Str)).length : Int) - 0).toNat).toArray.toList = s0.cps.toList
    rw [List.toList_toArray, List.drop_zero, cps_app, l1, show (-1 + ((s0.length + 1 : Nat) : Int) - 0).toNat = s0.cps.toList.length from by
      have : s0.cps.toList.length = s0.length := Array.length_toList
      omega, List.take_left']
    rfl
  rw [e]
  exact ⟨(pieces_blank s0).symm, by rw [l1]; omega⟩
def spText (K : PySem.W.Frag) : Sp := fun vs H Q _ => ∃ (p a : Addr) (ws : List Str) (ns : List Int), vs = [.ref p, .ref a] ∧ SqL K H p (ws.map V.str) ∧ SqL K H a (ns.map V.int) ∧ ns.length ≤ 63 ∧ ws.length ≤ 310 ∧ (∀ x ∈ ws, TokW x) ∧
  ∀ (s : Str) (H' : Hp), Same H H' → s.length ≤ 8000 → piecesOf s = ws → Q (.str s) H'
theorem scText : FnScope ["_law_some", "_law_script", "_law_text_here", "_law_k"] ["_law_some", "_law_script"] (defScope sText) := ⟨rfl, rfl, rfl, by decide +kernel, rfl, by decide +kernel, by decide +kernel⟩
theorem ok_text {f fM fC : Addr} {fd dM dC : FuncData} (B : Bl mg) (F : Fun K "_law_text" "_law_text" sText f fd) (FM : Fun K "_law_mix" "_law_mix" sMix fM dM) (bM : Binds K dM ["_law_cell", "_law_k"] []) (mM : mg "_law_mix" = some (.ref fM))
    (FC : Fun K "_law_cell_at" "_law_cell_at" sCell fC dC) (bC : Binds K dC ["_law_script", "_law_k"] []) (mC : mg "_law_cell_at" = some (.ref fC)) : FnOk P w K mg base CX0 2 f fd ["_law_some", "_law_script"] (spText K) := by
  have GM : FnOk P w K mg base CX0 1 fM dM ["_law_cell", "_law_k"] spMix := ok_mix B FM
  have GC : FnOk P w K mg base CX0 1 fC dC ["_law_script", "_law_k"] (spCell K) := ok_cell B FC
  refine F.ok scText (fun vs H Q E h => ?_) (fun cdv A outer s H vs Q E hr h => ?_)
  · obtain ⟨p, a, ws, ns, rfl, _⟩ := h
    rfl
  obtain ⟨p, a, ws, ns, rfl, hp, ha, h63, l310, tk, q⟩ := h
  have hz := sizeLine_eq
  have hu := hu60 hr
  refine ⟨_, (@pss_cons _ _ _ _ _ (@ps_set _ _ 2 _ _ _ _ scText.nd rfl (Or.inl rfl) (@pe_slice _ _ _ _ _ _ _ _ _ _ sl_str pe_str po_none (@po_some _ _ _ (@pe_op _ _ _ _ _ _ _ _ op_mod (pe_call GC hr (by rfl) mC FC.kp bC .nil pass0 (@pa_cons _ _ _ _ _ (pv 1) (@pa_cons _ _ _ _ _ pe_int pa_nil (by rfl)) (by rfl))) pe_int))) rfl (Or.inl rfl)) (@pss_cons _ _ _ _ _ (@ps_for _ _ _ _ _ _ _ _ PassesOwn.never rfl (pi_range1 rfl B.range (@pa_cons _ _ _ _ _ (pe_callB call_len_seq (by rfl) B.len PySem.boot_len (@pa_cons _ _ _ _ _ (pv 0) pa_nil (by rfl))) pa_nil (by rfl))) (pg_name (i := 3) scText.nd rfl (Or.inl rfl)) (@pss_one _ _ _ (@ps_set _ _ 2 _ _ _ _ scText.nd rfl (Or.inl rfl) (@pe_op _ _ _ _ _ _ _ _ op_add_str (@pe_op _ _ _ _ _ _ _ _ op_add_str (pv 2) (@pe_ix _ _ _ _ _ _ (rIxL K) ix_list (pv 0) (pv 3) (fun _ _ => rfl))) (@pe_op _ _ _ _ _ _ _ _ op_repS pe_str (@pe_op _ _ _ _ _ _ _ _ op_add pe_int (@pe_op _ _ _ _ _ _ _ _ op_mod (pe_call GM hr (by rfl) mM FM.kp bM .nil pass0 (@pa_cons _ _ _ _ _ (pe_call GC hr (by rfl) mC FC.kp bC .nil pass0 (@pa_cons _ _ _ _ _ (pv 1) (@pa_cons _ _ _ _ _ (pv 3) pa_nil (by rfl)) (by rfl))) (@pa_cons _ _ _ _ _ pe_int pa_nil (by rfl)) (by rfl))) pe_int)))) rfl (Or.inl rfl))) (by intro _; rfl)) (@pss_cons _ _ _ _ _ (@ps_cut _ _ _ (@ps_if _ _ _ _ _ _ _ _ ((@pw_and _ _ _ _ _ _ _ (@pt_cmpR _ _ _ _ _ _ _ _ (@op_neD _ hu) (pv 0) (@pe_lst _ _ _ _ pa_nil) (nomark _)) (pw_and1 (@pt_cmpR _ _ _ _ _ _ _ _ op_eq (@pe_op _ _ _ _ _ _ _ _ op_mod (@pe_op _ _ _ _ _ _ _ _ op_fdiv (pe_call GC hr (by rfl) mC FC.kp bC .nil pass0 (@pa_cons _ _ _ _ _ (pv 1) (@pa_cons _ _ _ _ _ pe_int pa_nil (by rfl)) (by rfl))) pe_int) pe_int) pe_int (nomark _))))).pt (@pss_one _ _ _ (@ps_set _ _ 2 _ _ _ _ scText.nd rfl (Or.inl rfl) (@pe_slice _ _ _ _ _ _ _ _ _ _ sl_str (pv 2) po_none (@po_some _ _ _ (@pe_un _ _ _ _ _ _ un_neg pe_int))) rfl (Or.inl rfl))) pss_nil)) (@pss_one _ _ _ (@ps_ret _ _ _ _ (pv 2)))))), ?_⟩
  refine ⟨_, rfl, a, ns, 0, rfl, ha, h63, by decide, by decide, fun n1 H0 s0 => ?_⟩
  have h0 : Blk (Txt.slice "  " none (some (n1 % 3))) ∧ piecesOf (Txt.slice "  " none (some (n1 % 3))) = [] ∧ (Txt.slice "  " none (some (n1 % 3))).length ≤ 2 := by
    have b1 := Int.emod_nonneg n1 (b := 3) (by decide)
    have b2 := Int.emod_lt_of_pos n1 (b := 3) (by decide)
    have h : n1 % 3 = 0 ∨ n1 % 3 = 1 ∨ n1 % 3 = 2 := by omega
    rcases h with h | h | h
    · rw [h, show Txt.slice "  " none (some 0) = ("" : Str) by decide +kernel]
      exact ⟨.inl rfl, pieces_none, by decide +kernel⟩
    · rw [h, show Txt.slice "  " none (some 1) = (" " : Str) by decide +kernel]
      exact ⟨.inr ⟨"", by decide +kernel⟩, by decide +kernel, by decide +kernel⟩
    · rw [h, show Txt.slice "  " none (some 2) = ("  " : Str) by decide +kernel]
      exact ⟨.inr ⟨" ", by decide +kernel⟩, by decide +kernel, by decide +kernel⟩
  refine ⟨_, _, rfl, rfl, (by show (0 : Int) < 3; decide), _, rfl, "  ", rfl, Nat.le_of_lt (small1000 (by decide +kernel)), ?_⟩
  have hp0 := s0.seq hp
  have lp : (((ws.map V.str).length : Nat) : Int) ≤ 310 := by rw [List.length_map]; omega
  refine ⟨_, rfl, p, _, rfl, .inl hp0, _, rfl, by omega, by omega, for_range (n := (((ws.map V.str).length : Nat) : Int).toNat) (fun i σ H1 => ∃ (v3 : Option V) (u : Str), σ = [some (.ref p), some (.ref a), some (.str u), v3] ∧ Same H H1 ∧ Blk u ∧ piecesOf u = ws.take i ∧ u.length ≤ 2 + 12 * i) ⟨none, _, rfl, s0, h0.1, h0.2.1, h0.2.2⟩ ?_ ?_⟩
  · rintro i σ H1 hi ⟨v3, u, rfl, s1, bu, eu, lu⟩
    have hi : i < ws.length := by rw [List.length_map] at hi; omega
    have hx : (0 : Int) + (i : Int) = ((i : Nat) : Int) := by omega
    have tx := tk _ (List.getElem_mem hi)
    have nx := tx.tok.len
    have nb : (" " : Str).length = 1 := by decide +kernel
    refine ⟨_, rfl, _, rfl, _, rfl, p, _, _, _, rfl, rfl, s1.seq hp, (show atI (ws.map V.str) (0 + (i : Int)) = some (.str ws[i]) by rw [hx]; exact atI_nat (by rw [List.getElem?_map, List.getElem?_eq_getElem hi]; rfl)), u, ws[i], rfl, rfl, by omega, ?_⟩
    refine ⟨_, rfl, _, rfl, a, ns, _, rfl, s1.seq ha, h63, by omega, by omega, fun c1 H2 s2 => ⟨c1, 20, rfl, by decide, by decide, fun r r1 r2 => ⟨_, _, rfl, rfl, (by show (0 : Int) < 3; decide), _, _, rfl, rfl, " ", (1 + r % 3).toNat, rfl, (show V.int (1 + r % 3) = V.int (((1 + r % 3).toNat : Nat) : Int) by rw [Int.toNat_of_nonneg (by omega)]), by omega, by omega, ?_⟩⟩⟩
    have lr := reps_len (1 + r % 3).toNat
    refine ⟨_, _, rfl, rfl, by rw [str_len, lr]; omega, ?_⟩
    refine ⟨_, _, rfl, s1.trans s2, blk_reps _ _ (by omega), ?_, ?_⟩
    · rw [pieces_reps, pieces_next bu tx.tok.no tx.tok.ne, eu, List.take_add_one, List.getElem?_eq_getElem hi]
      rfl
    · rw [str_len, str_len, lr]
      omega
  · rintro σ H1 ⟨v3, u, rfl, s1, bu, eu, lu⟩
    rw [Int.toNat_natCast, List.length_map, List.take_of_length_le (Nat.le_refl _)] at eu
    rw [Int.toNat_natCast, List.length_map] at lu
    refine ⟨fun σ H2 => ∃ (u2 : Str), σ = [some (.ref p), some (.ref a), some (.str u2), v3] ∧ Same H H2 ∧ piecesOf u2 = ws ∧ u2.length ≤ 8000, ?_, ?_⟩
    · refine ⟨_, rfl, Nat.zero_le _, fun z hz => ⟨_, _, is_strs ((same_new hz _).seq (s1.seq hp)), is_no upd_same, rfl, rfl, dep_strs _, _, rfl, ?_⟩⟩
      have s2 := s1.trans (same_new hz (.lst []))
      rw [eq_nilS]
      by_cases hw : ws = []
      · rw [decide_eq_true hw]
        exact iteF (iteF ⟨u, rfl, s2, eu, by omega⟩)
      rw [decide_eq_false hw]
      refine iteT ⟨_, rfl, a, ns, 0, rfl, s2.seq ha, h63, by decide, by decide, fun c1 H2 s3 => ⟨_, _, rfl, rfl, ⟨by decide, by decide⟩, _, _, rfl, rfl, (by show (0 : Int) < 2; decide), rfl, _, rfl, ite2 (fun _ => ?_) (fun _ => ⟨u, rfl, s2.trans s3, eu, by omega⟩)⟩⟩
      have ne : u ≠ "" := fun z => by rw [z, pieces_none] at eu; exact hw eu.symm
      obtain ⟨c1, c2⟩ := cut_blank bu ne
      refine ⟨_, rfl, _, rfl, _, rfl, u, rfl, by omega, ?_⟩
      exact ⟨_, rfl, s2.trans s3, c1.trans eu, by omega⟩
    · rintro σ H2 ⟨u2, rfl, s2, e2, l2⟩
      exact ⟨_, rfl, q u2 _ s2 l2 e2⟩
end
end Nw
namespace Nw
open PySem L2
section
variable {P : Program} {w : World} {K : PySem.W.Frag} {mg : Str → Option Value} {base : Heap}
theorem hu1_of {A : Around} {k : Nat} (hr : Room k A) : A.units + 1 < cLine := by have := hr.un; omega
structure Excs (K : PySem.W.Frag) (mg : Str → Option Value) (CT CN CW : Addr) : Prop where
  own : OwnX K CT
  cls : ExcCls K CT
  gT : mg "TooMany" = some (.ref CT)
  gN : mg "NoText" = some (.ref CN)
  gW : mg "WorkError" = some (.ref CW)
  exm : PySem.W.exmOne K (.ref CT) (.ref CW) = some true
  k1 : PySem.W.kitOne K (.ref CT) (.ref CT) = some true
  k2 : PySem.W.kitOne K (.ref CT) (.type "ValueError") = some true
  k3 : PySem.W.kitOne K (.ref CT) (.ref CN) = some false
theorem is_bl3 {H : Hp} {p : Addr} (h : SqL K H p [.bl true, .bl true, .bl false]) : Is K H (.lst [.bl true, .bl true, .bl false]) (.ref p) := by
  rw [Is]
  exact ⟨p, _, rfl, h, .cons (by rw [Is]) (.cons (by rw [Is]) (.cons (by rw [Is]) .nil))⟩
def rLenK (K : PySem.W.Frag) : List V → Hp → VK → Prop := fun xs H Q => ∃ p ys, xs = [.ref p] ∧ (SqL K H p ys ∨ SqT K H p ys) ∧ Q (.int (ys.length : Int)) H
def spMany : Sp := fun vs H Q _ => ∃ t : Str, vs = [.str t] ∧ Wds t ∧ ¬ Few (piecesOf t) ∧ ∀ H', Same H H' → Q (.bl true) H'
theorem scMany : FnScope ["_law_text_here", "_law_told", "e"] ["_law_text_here"] (defScope sMany) := ⟨rfl, rfl, rfl, by decide +kernel, rfl, by decide +kernel, by decide +kernel⟩
theorem ok_many {f fW CT CN CW : Addr} {fd dW : FuncData} (B : Bl mg) (X : Excs K mg CT CN CW) (F : Fun K "_law_many" "_law_many" sMany f fd) (FW : Fun K "words" "words" sWords fW dW) (bW : Binds K dW ["text"] []) (mW : mg "words" = some (.ref fW))
    (GW : FnOk P w K mg base (CXE P w) 5 fW dW ["text"] (spWords K CT)) : FnOk P w K mg base CX0 6 f fd ["_law_text_here"] spMany := by
  refine F.ok scMany (fun vs H Q E h => ?_) (fun cdv A outer s H vs Q E hr h => ?_)
  · obtain ⟨t, rfl, _⟩ := h
    rfl
  obtain ⟨t, rfl, W, nf, q⟩ := h
  have hu := hu60 hr
  refine ⟨_, (@pss_cons _ _ _ _ _ (@ps_set _ _ 1 _ _ _ _ scMany.nd rfl (Or.inl rfl) (@pe_lst _ _ _ _ pa_nil) rfl (Or.inl rfl)) (@pss_cons _ _ _ _ _ (ps_try (i := 2) rfl rfl GW hr rfl mW FW.kp bW (@pa_cons _ _ _ _ _ (pv 0) pa_nil (by rfl)) rfl X.gW scMany.nd rfl rfl (fun a => (@pss_one _ _ _ (@ps_set _ _ 1 _ _ _ _ scMany.nd rfl (Or.inl rfl) (@pe_lst _ _ _ _ (@pa_cons _ _ _ _ _ (pe_callB (r := rIsE K) call_isinstE (by rfl) B.isinstance PyProof.Rows.boot_isinstance (@pa_cons _ _ _ _ _ (pv 2) (@pa_cons _ _ _ _ _ (pe_glob (v := V.ref CT) (by rfl) X.gT rfl) pa_nil (by rfl)) (by rfl))) (@pa_cons _ _ _ _ _ (pe_callB (r := rIsT K) call_isinstET (by rfl) B.isinstance PyProof.Rows.boot_isinstance (@pa_cons _ _ _ _ _ (pv 2) (@pa_cons _ _ _ _ _ (pe_bltn (v := V.ty "ValueError") (by rfl) B.ValueError PyProof.Rows.Boot.ValueError (by rfl)) pa_nil (by rfl)) (by rfl))) (@pa_cons _ _ _ _ _ (pe_callB (r := rIsE K) call_isinstE (by rfl) B.isinstance PyProof.Rows.boot_isinstance (@pa_cons _ _ _ _ _ (pv 2) (@pa_cons _ _ _ _ _ (pe_glob (v := V.ref CN) (by rfl) X.gN rfl) pa_nil (by rfl)) (by rfl))) pa_nil (by rfl)) (by rfl)) (by rfl))) rfl (Or.inl rfl))))) (@pss_one _ _ _ (@ps_ret _ _ _ _ (@pe_cmpR _ _ _ _ _ _ _ _ (@op_eqD _ hu) (pv 1) (@pe_lst _ _ _ _ (@pa_cons _ _ _ _ _ pe_bl (@pa_cons _ _ _ _ _ pe_bl (@pa_cons _ _ _ _ _ pe_bl pa_nil (by rfl)) (by rfl)) (by rfl))) (nomark _)))))), ?_⟩
  refine ⟨Nat.zero_le _, fun z0 hz0 => ?_⟩
  have s0 := same_new hz0 (.lst [])
  refine ⟨_, rfl, t, rfl, W, fun h => absurd h nf, fun _ e H1 s1 he => ⟨X.exm, e, rfl, ?_⟩⟩
  refine ⟨_, rfl, e, CT, CT, true, rfl, he, X.cls, X.k1, _, rfl, e, CT, "ValueError", true, rfl, he, X.cls, X.k2, _, rfl, e, CT, CN, false, rfl, he, X.cls, X.k3, by show 3 ≤ sizeLine; decide, fun z1 hz1 => ?_⟩
  have s2 := s0.trans (s1.trans (same_new hz1 (.lst [V.bl true, V.bl true, V.bl false])))
  refine ⟨_, rfl, by show 3 ≤ sizeLine; decide, fun z2 hz2 => ⟨.lst [.bl true, .bl true, .bl false], .lst [.bl true, .bl true, .bl false], ?_, ?_, rfl, rfl, by decide, ?_⟩⟩
  · exact is_bl3 ((same_new hz2 _).seq (SqL.of upd_same))
  · exact is_bl3 (SqL.of upd_same)
  · rw [show dEq (.lst [.bl true, .bl true, .bl false]) (.lst [.bl true, .bl true, .bl false]) = true by simp [dEq, dEqs]]
    exact q _ (s2.trans (same_new hz2 _))
end
end Nw
namespace Nw
open PySem L2
structure Txt (K : PySem.W.Frag) (mg : Str → Option Value) (CT CN CW aO aS : Addr) (fCe fMi fOw fWo fMp fTe fMy fMo fNu fNm fFa fWd fOp fWs : Addr) (dCe dMi dOw dWo dMp dTe dMy dMo dNu dNm dFa dWd dOp dWs : FuncData) : Prop where
  bl : Bl mg
  lex : Lex K mg aO aS
  exc : Excs K mg CT CN CW
  gCe : mg "_law_cell_at" = some (.ref fCe)
  FCe : Fun K "_law_cell_at" "_law_cell_at" sCell fCe dCe
  bCe : Binds K dCe ["_law_script", "_law_k"] []
  gMi : mg "_law_mix" = some (.ref fMi)
  FMi : Fun K "_law_mix" "_law_mix" sMix fMi dMi
  bMi : Binds K dMi ["_law_cell", "_law_k"] []
  gOw : mg "_law_own" = some (.ref fOw)
  FOw : Fun K "_law_own" "_law_own" sOwn fOw dOw
  bOw : Binds K dOw [] []
  gWo : mg "_law_word" = some (.ref fWo)
  FWo : Fun K "_law_word" "_law_word" sWord fWo dWo
  bWo : Binds K dWo ["_law_cell"] []
  gMp : mg "_law_most_open" = some (.ref fMp)
  FMp : Fun K "_law_most_open" "_law_most_open" sMost fMp dMp
  bMp : Binds K dMp ["_law_some"] []
  gTe : mg "_law_text" = some (.ref fTe)
  FTe : Fun K "_law_text" "_law_text" sText fTe dTe
  bTe : Binds K dTe ["_law_some", "_law_script"] []
  gMy : mg "_law_many" = some (.ref fMy)
  FMy : Fun K "_law_many" "_law_many" sMany fMy dMy
  bMy : Binds K dMy ["_law_text_here"] []
  gMo : mg "made_of" = some (.ref fMo)
  FMo : Fun K "made_of" "made_of" sMade fMo dMo
  bMo : Binds K dMo ["piece", "signs", "longest"] []
  gNu : mg "is_number" = some (.ref fNu)
  FNu : Fun K "is_number" "is_number" sIsNum fNu dNu
  bNu : Binds K dNu ["piece"] []
  gNm : mg "is_name" = some (.ref fNm)
  FNm : Fun K "is_name" "is_name" sIsNam fNm dNm
  bNm : Binds K dNm ["piece"] []
  gFa : mg "is_far_name" = some (.ref fFa)
  FFa : Fun K "is_far_name" "is_far_name" sIsFar fFa dFa
  bFa : Binds K dFa ["piece"] []
  gWd : mg "is_word" = some (.ref fWd)
  FWd : Fun K "is_word" "is_word" sIsWord fWd dWd
  bWd : Binds K dWd ["piece"] []
  gOp : mg "most_open" = some (.ref fOp)
  FOp : Fun K "most_open" "most_open" sOpen fOp dOp
  bOp : Binds K dOp ["pieces"] []
  gWs : mg "words" = some (.ref fWs)
  FWs : Fun K "words" "words" sWords fWs dWs
  bWs : Binds K dWs ["text"] []
section
variable {P : Program} {w : World} {K : PySem.W.Frag} {mg : Str → Option Value} {base : Heap} {CT CN CW aO aS : Addr} {fCe fMi fOw fWo fMp fTe fMy fMo fNu fNm fFa fWd fOp fWs : Addr} {dCe dMi dOw dWo dMp dTe dMy dMo dNu dNm dFa dWd dOp dWs : FuncData}
theorem cut_map (ns : List Int) (i j : Option Int) : ∃ ms : List Int, cutV (ns.map V.int) i j = ms.map V.int ∧ ms.length ≤ ns.length := by
  have h := cutV_length (ns.map V.int) i j
  refine ⟨(ns.drop (HT.sIx (ns.map V.int).length 0 i)).take (HT.sIx (ns.map V.int).length (ns.map V.int).length j - HT.sIx (ns.map V.int).length 0 i), ?_, ?_⟩
  · unfold cutV
    rw [List.map_take, List.map_drop]
  · rw [List.length_take, List.length_drop]
    omega
theorem self_all : ∀ l : List Str, dEqs (l.map Dt.str) (l.map Dt.str) = true
  | [] => by rw [List.map_nil, dEqs]
  | x :: l => by
    rw [List.map_cons, dEqs, self_all l, dEq]
    simp
theorem self_strs (l : List Str) : dEq (.lst (l.map Dt.str)) (.lst (l.map Dt.str)) = true := by rw [dEq]; exact self_all l
abbrev shut : List (Key × V) := [(.inr ")", .str "("), (.inr "]", .str "[")]
theorem shut_tok {x : Str} (h : TokW x) : ∃ y : Str, (valV (mergeK [] shut) (.inr x : Key)).getD (.str x) = .str y ∧ TokW y := by
  show ∃ y : Str, (valV (putK (putK [] (.inr ")" : Key) (.str "(")) (.inr "]") (.str "[")) (.inr x : Key)).getD (.str x) = .str y ∧ TokW y
  rw [valV_put, valV_put, valV_nil]
  by_cases h1 : (.inr x : Key) = .inr "]"
  · rw [if_pos h1]
    exact ⟨"[", rfl, by decide +kernel⟩
  rw [if_neg h1]
  by_cases h2 : (.inr x : Key) = .inr ")"
  · rw [if_pos h2]
    exact ⟨"(", rfl, by decide +kernel⟩
  rw [if_neg h2]
  exact ⟨x, rfl, h⟩
structure WordsAt (H : Hp) (p : Addr) (ws : List Str) : Prop where
  at_ : H p = some (.lst (ws.map V.str))
  tok : ∀ x ∈ ws, TokW x
theorem WordsAt.same {H H' : Hp} {p : Addr} {ws : List Str} (h : WordsAt H p ws) (s : Same H H') : WordsAt H' p ws := ⟨s _ _ h.at_, h.tok⟩
def spLaw (K : PySem.W.Frag) : Sp := fun vs H Q _ => ∃ (a : Addr) (ns : List Int), vs = [.ref a] ∧ SqL K H a (ns.map V.int) ∧ ns.length ≤ 63 ∧ ∀ H', Q (.bl true) H'
theorem scLaw : FnScope ["_law_script", "_law_some", "_law_way", "_law_text_here", "_law_found"] ["_law_script"] (defScope sLaw) := ⟨rfl, rfl, rfl, by decide +kernel, rfl, by decide +kernel, by decide +kernel⟩
theorem nd_scLaw1 : (["_law_script", "_law_some", "_law_way", "_law_text_here", "_law_found", "_law_cell"] : List Str).Nodup := by decide +kernel
theorem nd_scLaw2 : (["_law_script", "_law_some", "_law_way", "_law_text_here", "_law_found", "_law_word_here"] : List Str).Nodup := by decide +kernel
theorem nd_scLaw3 : (["_law_script", "_law_some", "_law_way", "_law_text_here", "_law_found", "_law_k"] : List Str).Nodup := by decide +kernel
theorem ok_law {f : Addr} {fd : FuncData} (T : Txt K mg CT CN CW aO aS fCe fMi fOw fWo fMp fTe fMy fMo fNu fNm fFa fWd fOp fWs dCe dMi dOw dWo dMp dTe dMy dMo dNu dNm dFa dWd dOp dWs) (F : Fun K "law" "law" sLaw f fd) : FnOk P w K mg base CX0 8 f fd ["_law_script"] (spLaw K) := by
  have GCe : FnOk P w K mg base CX0 1 fCe dCe ["_law_script", "_law_k"] (spCell K) := ok_cell T.bl T.FCe
  have GWo : FnOk P w K mg base CX0 2 fWo dWo ["_law_cell"] spWord := ok_word T.bl T.FWo T.FMi T.bMi T.gMi T.FOw T.bOw T.gOw
  have GMp : FnOk P w K mg base CX0 1 fMp dMp ["_law_some"] (spOpen K) := ok_most T.bl T.FMp
  have GTe : FnOk P w K mg base CX0 2 fTe dTe ["_law_some", "_law_script"] (spText K) := ok_text T.bl T.FTe T.FMi T.bMi T.gMi T.FCe T.bCe T.gCe
  have GWd : FnOk P w K mg base CX0 4 fWd dWd ["piece"] (sp1 wordB) := ok_isWord T.bl T.lex T.FWd T.FMo T.bMo T.gMo T.FNu T.bNu T.gNu T.FNm T.bNm T.gNm T.FFa T.bFa T.gFa
  have GWs : FnOk P w K mg base (CXE P w) 5 fWs dWs ["text"] (spWords K CT) := ok_words T.bl T.exc.own T.exc.gT T.lex T.FWs T.FWd T.bWd T.gWd GWd T.FOp T.bOp T.gOp
  have GMy : FnOk P w K mg base CX0 6 fMy dMy ["_law_text_here"] spMany := ok_many T.bl T.exc T.FMy T.FWs T.bWs T.gWs GWs
  refine F.ok scLaw (fun vs H Q E h => ?_) (fun cdv A outer s H vs Q E hr h => ?_)
  · obtain ⟨a, ns, rfl, _⟩ := h
    rfl
  obtain ⟨a, ns, rfl, hS, h63, q⟩ := h
  have hr1 := hr.mono (show 1 ≤ 7 by decide)
  have hr2 := hr.mono (show 2 ≤ 7 by decide)
  have hr5 := hr.mono (show 5 ≤ 7 by decide)
  have hr := hr.mono (show 6 ≤ 7 by decide)
  have hu := hu60 hr
  have hu1 := hu1_of hr
  refine ⟨_, (@pss_cons _ _ _ _ _ (@ps_set _ _ 1 _ _ _ _ scLaw.nd rfl (Or.inr rfl) (pe_comp (NX := ["_law_script", "_law_some", "_law_way", "_law_text_here", "_law_found"]) (N := ["_law_script", "_law_some", "_law_way", "_law_text_here", "_law_found", "_law_cell"]) (ms := [true, true, true, true, true, false]) (ks := [5]) (out := defScope sLaw) (by exact ⟨rfl, by decide +kernel, by decide +kernel, by decide +kernel, by decide +kernel, by decide +kernel⟩) rfl rfl rfl (@pi_list _ _ _ _ (@pe_slice _ _ _ _ _ _ _ _ _ _ sl_list (pv 0) (@po_some _ _ _ pe_int) (@po_some _ _ _ pe_int))) (@sets_name 5) (by decide) (fun C ex s H => (pg_name (i := 5) nd_scLaw1 rfl (Or.inl rfl))) (fun C ex s H => pts_nil) (fun C ex s H => (pe_call GWo hr2 (by rfl) T.gWo T.FWo.kp T.bWo .nil pass0 (@pa_cons _ _ _ _ _ (pv 5) pa_nil (by rfl))))) rfl (Or.inl rfl)) (@pss_cons _ _ _ _ _ (@ps_set _ _ 2 _ _ _ _ scLaw.nd rfl (Or.inl rfl) (@pe_op _ _ _ _ _ _ _ _ op_fdiv (pe_call GCe hr1 (by rfl) T.gCe T.FCe.kp T.bCe .nil pass0 (@pa_cons _ _ _ _ _ (pv 0) (@pa_cons _ _ _ _ _ pe_int pa_nil (by rfl)) (by rfl))) pe_int) rfl (Or.inl rfl)) (@pss_cons _ _ _ _ _ (@ps_cut _ _ _ (@ps_if _ _ _ _ _ _ _ _ (@pt_cmpR _ _ _ _ _ _ _ _ op_eq (@pe_op _ _ _ _ _ _ _ _ op_mod (pv 2) pe_int) pe_int (nomark _)) (@pss_one _ _ _ (@ps_set _ _ 1 _ _ _ _ scLaw.nd rfl (Or.inr rfl) (pe_comp (NX := ["_law_script", "_law_some", "_law_way", "_law_text_here", "_law_found"]) (N := ["_law_script", "_law_some", "_law_way", "_law_text_here", "_law_found", "_law_word_here"]) (ms := [true, true, true, true, true, false]) (ks := [5]) (out := defScope sLaw) (by exact ⟨rfl, by decide +kernel, by decide +kernel, by decide +kernel, by decide +kernel, by decide +kernel⟩) rfl rfl rfl (@pi_list _ _ _ _ (pv 1)) (@sets_name 5) (by decide) (fun C ex s H => (pg_name (i := 5) nd_scLaw2 rfl (Or.inl rfl))) (fun C ex s H => pts_nil) (fun C ex s H => (pe_dget2 hu1 (pe_disp (pps_cons pe_str pe_str (pps_cons pe_str pe_str pps_nil)) (by rfl) (by rfl) (List.cons_ne_nil _ _) (by decide)) (pv 5) (pv 5) ⟨rfl, rfl, rfl, rfl⟩))) rfl (Or.inl rfl))) pss_nil)) (@pss_cons _ _ _ _ _ (@ps_cut _ _ _ (@ps_if _ _ _ _ _ _ _ _ ((@pw_and _ _ _ _ _ _ _ (@pt_cmpR _ _ _ _ _ _ _ _ op_eq (@pe_op _ _ _ _ _ _ _ _ op_mod (@pe_op _ _ _ _ _ _ _ _ op_fdiv (pv 2) pe_int) pe_int) pe_int (nomark _)) (pw_and1 (@pt_cmpR _ _ _ _ _ _ _ _ (@op_neD _ hu) (pv 1) (@pe_lst _ _ _ _ pa_nil) (nomark _))))).pt (@pss_one _ _ _ (@ps_set _ _ 1 _ _ _ _ scLaw.nd rfl (Or.inr rfl) (pe_comp (NX := ["_law_script", "_law_some", "_law_way", "_law_text_here", "_law_found"]) (N := ["_law_script", "_law_some", "_law_way", "_law_text_here", "_law_found", "_law_k"]) (ms := [true, true, true, true, true, false]) (ks := [5]) (out := defScope sLaw) (by exact ⟨rfl, by decide +kernel, by decide +kernel, by decide +kernel, by decide +kernel, by decide +kernel⟩) rfl rfl rfl (pi_range1 rfl T.bl.range (@pa_cons _ _ _ _ _ (@pe_op _ _ _ _ _ _ _ _ op_add pe_int (@pe_op _ _ _ _ _ _ _ _ op_mod (@pe_op _ _ _ _ _ _ _ _ op_fdiv (pv 2) pe_int) pe_int)) pa_nil (by rfl))) (@sets_name 5) (by decide) (fun C ex s H => (pg_name (i := 5) nd_scLaw3 rfl (Or.inl rfl))) (fun C ex s H => pts_nil) (fun C ex s H => (@pe_ix _ _ _ _ _ _ (rIxL K) ix_list (pv 1) (@pe_op _ _ _ _ _ _ _ _ op_mod (pv 5) (pe_callB (r := rLenK K) call_len_seq (by rfl) T.bl.len PySem.boot_len (@pa_cons _ _ _ _ _ (pv 1) pa_nil (by rfl)))) (fun _ _ => rfl)))) rfl (Or.inl rfl))) pss_nil)) (@pss_cons _ _ _ _ _ (@ps_set _ _ 3 _ _ _ _ scLaw.nd rfl (Or.inl rfl) (pe_call GTe hr2 (by rfl) T.gTe T.FTe.kp T.bTe .nil pass0 (@pa_cons _ _ _ _ _ (pv 1) (@pa_cons _ _ _ _ _ (pv 0) pa_nil (by rfl)) (by rfl))) rfl (Or.inl rfl)) (@pss_cons _ _ _ _ _ (@ps_if _ _ _ _ _ _ _ _ ((@pw_or _ _ _ _ _ _ _ (@pt_cmpR _ _ _ _ _ _ _ _ op_gt (pe_callB (r := rLenK K) call_len_seq (by rfl) T.bl.len PySem.boot_len (@pa_cons _ _ _ _ _ (pv 1) pa_nil (by rfl))) pe_int (nomark _)) (pw_or1 (@pt_cmpR _ _ _ _ _ _ _ _ op_gt (pe_call GMp hr1 (by rfl) T.gMp T.FMp.kp T.bMp .nil pass0 (@pa_cons _ _ _ _ _ (pv 1) pa_nil (by rfl))) pe_int (nomark _))))).pt (@pss_one _ _ _ (@ps_ret _ _ _ _ (pe_call GMy hr (by rfl) T.gMy T.FMy.kp T.bMy .nil pass0 (@pa_cons _ _ _ _ _ (pv 3) pa_nil (by rfl))))) pss_nil) (@pss_cons _ _ _ _ _ (@ps_set _ _ 4 _ _ _ _ scLaw.nd rfl (Or.inl rfl) (pe_call GWs hr5 (by rfl) T.gWs T.FWs.kp T.bWs .nil passE (@pa_cons _ _ _ _ _ (pv 3) pa_nil (by rfl))) rfl (Or.inl rfl)) (@pss_cons _ _ _ _ _ (@ps_if _ _ _ _ _ _ _ _ ((@pw_or _ _ _ _ _ _ _ (@pt_not _ _ _ _ (pt_val (pe_callB call_isinst (by rfl) T.bl.isinstance PyProof.Rows.boot_isinstance (@pa_cons _ _ _ _ _ (pv 4) (@pa_cons _ _ _ _ _ (pe_bltn (v := V.ty "list") (by rfl) T.bl.list PyProof.Rows.boot_list (by rfl)) pa_nil (by rfl)) (by rfl))))) (pw_or1 (@pt_cmpR _ _ _ _ _ _ _ _ (@op_neD _ hu) (pv 4) (pv 1) (nomark _))))).pt (@pss_one _ _ _ (@ps_ret _ _ _ _ pe_bl)) pss_nil) (@pss_cons _ _ _ _ _ (@ps_expr _ _ _ _ (pe_bm0 PySem.F.plainAttrs_list PySem.F.slot_list_clear PySem.F.type_list_clear mt_clear (pv 4)) (by rfl)) (@pss_one _ _ _ (@ps_ret _ _ _ _ (@pe_cmpR _ _ _ _ _ _ _ _ (@op_eqD _ hu) (pe_call GWs hr5 (by rfl) T.gWs T.FWs.kp T.bWs .nil passE (@pa_cons _ _ _ _ _ (pv 3) pa_nil (by rfl))) (pv 1) (nomark _))))))))))))), ?_⟩
  obtain ⟨ms, em, lm⟩ := cut_map ns (some 1) (some 63)
  refine ⟨_, rfl, _, rfl, _, rfl, a, _, rfl, hS, fun p1 hp1 => ?_⟩
  have s1 := same_new hp1 (.lst (cutV (ns.map V.int) (some 1) (some 63)))
  rw [em] at s1 ⊢
  have e1 : upd H p1 (.lst (ms.map V.int)) p1 = some (.lst (ms.map V.int)) := upd_same
  generalize upd H p1 (.lst (ms.map V.int)) = H1 at s1 e1 ⊢
  refine ⟨p1, rfl, ⟨_, SqL.of e1⟩, comp_list (xs := ms.map V.int) (fun i ys H' => ∃ ws : List Str, ys = ws.map V.str ∧ ws.length = i ∧ (∀ x ∈ ws, TokW x) ∧ Same H1 H') ⟨[], rfl, rfl, by simp, Same.refl _⟩ (fun i ys H' _ ⟨_, _, _, _, sm⟩ => SqL.of (sm _ _ e1)) (fun i ys H' hi ⟨ws, e, l, _⟩ => ?_) ?_ ?_⟩
  · rw [List.length_map] at hi
    rw [e, List.length_map, l]
    exact small1000 (by omega)
  · rintro i x ys H' hx ⟨ws, rfl, l, tk, sm⟩
    rw [List.getElem?_map] at hx
    obtain ⟨c, _, rfl⟩ := Option.map_eq_some_iff.mp hx
    refine ⟨_, rfl, c, rfl, fun y H5 s5 ty => ⟨ws ++ [y], by rw [List.map_append]; rfl, by rw [List.length_append, l]; rfl, fun z hz => ?_, sm.trans s5⟩⟩
    rcases List.mem_append.mp hz with z1 | z1
    · exact tk z z1
    · rw [List.mem_singleton.mp z1]; exact ty
  rintro ys H2 ⟨ws, rfl, l2, tk, s2⟩ D2 hD2
  rw [List.length_map] at l2
  have t2 := s1.trans (s2.trans (same_new hD2 (.lst (ws.map V.str))))
  have w2 : WordsAt (upd H2 D2 (.lst (ws.map V.str))) D2 ws := ⟨upd_same, tk⟩
  show gName 1 (V.ref D2) _ (upd H2 D2 (.lst (ws.map V.str))) _
  generalize upd H2 D2 (.lst (ws.map V.str)) = H3 at t2 w2 ⊢
  refine ⟨_, rfl, a, ns, 0, rfl, t2.seq hS, h63, by decide, by decide, fun c0 H4 s4 => ⟨_, _, rfl, rfl, ⟨by decide, by decide⟩, ?_⟩⟩
  have t4 := t2.trans s4
  have w4 := w2.same s4
  have l4 : ws.length ≤ 63 := by omega
  refine ⟨fun σ H' => ∃ (p : Addr) (ws : List Str), σ = [some (.ref a), some (.ref p), some (.int (c0 / 6)), none, none] ∧ Same H H' ∧ WordsAt H' p ws ∧ ws.length ≤ 63, ?_, ?_⟩
  · refine ⟨_, rfl, _, _, rfl, rfl, (by show (0 : Int) < 4; decide), rfl, _, rfl, ite2 (fun _ => ?_) (fun _ => ⟨D2, ws, rfl, t4, w4, l4⟩)⟩
    refine ⟨_, rfl, D2, rfl, ⟨_, SqL.of w4.at_⟩, comp_list (xs := ws.map V.str) (fun i ys H' => ∃ vs : List Str, ys = vs.map V.str ∧ vs.length = i ∧ (∀ x ∈ vs, TokW x) ∧ Same H4 H') ⟨[], rfl, rfl, by simp, Same.refl _⟩ (fun i ys H' _ ⟨_, _, _, _, sm⟩ => SqL.of (sm _ _ w4.at_)) (fun i ys H' hi ⟨vs, e, l, _⟩ => ?_) ?_ ?_⟩
    · rw [List.length_map] at hi
      rw [e, List.length_map, l]
      exact small1000 (by omega)
    · rintro i x ys H' hx ⟨vs, rfl, l, tv, sm⟩
      rw [List.getElem?_map] at hx
      obtain ⟨x, mx, rfl⟩ := Option.map_eq_some_iff.mp hx
      obtain ⟨y, ey, ty⟩ := shut_tok (tk x (List.mem_of_getElem? mx))
      intro pd hpd
      refine ⟨upd_same, shut, rfl, by decide, pd, rfl, .inl ⟨_, .of upd_same⟩, _, rfl, _, rfl, _, .inl ⟨_, .inr x, .of upd_same, rfl, rfl⟩, ?_⟩
      rw [ey, upd_upd]
      refine ⟨vs ++ [y], by rw [List.map_append]; rfl, by rw [List.length_append, l]; rfl, fun z hz => ?_, sm.trans (same_new hpd _)⟩
      rcases List.mem_append.mp hz with z1 | z1
      · exact tv z z1
      · rw [List.mem_singleton.mp z1]; exact ty
    · rintro ys H5 ⟨vs, rfl, l, tv, sm⟩ D hD
      rw [List.length_map] at l
      exact ⟨D, vs, rfl, t4.trans (sm.trans (same_new hD _)), ⟨upd_same, tv⟩, by omega⟩
  clear w4 w2 tk l2 l4 t4 s4 t2 s2 hD2
  rintro σ H5 ⟨p5, ws5, rfl, t5, w5, l5⟩
  generalize c0 / 6 = way
  refine ⟨fun σ H' => ∃ (p : Addr) (ws : List Str), σ = [some (.ref a), some (.ref p), some (.int way), none, none] ∧ Same H H' ∧ WordsAt H' p ws ∧ ws.length ≤ 310, ?_, ?_⟩
  · refine ⟨_, rfl, _, _, rfl, rfl, ⟨by decide, by decide⟩, _, _, rfl, rfl, (by show (0 : Int) < 8; decide), rfl, _, rfl, ite2 (fun _ => ?_) (fun _ => iteF ⟨p5, ws5, rfl, t5, w5, by omega⟩)⟩
    refine ⟨_, rfl, Nat.zero_le _, fun z hz => ⟨_, _, is_strs ((same_new hz _).seq (SqL.of w5.at_)), is_no upd_same, rfl, rfl, dep_strs _, _, rfl, ?_⟩⟩
    have t6 := t5.trans (same_new hz (.lst []))
    have w6 := w5.same (same_new hz (.lst []))
    generalize upd H5 z (.lst []) = H6 at t6 w6 ⊢
    rw [eq_nilS]
    by_cases hw : ws5 = []
    · rw [decide_eq_true hw]
      exact iteF ⟨p5, ws5, rfl, t6, w6, by omega⟩
    rw [decide_eq_false hw]
    have n0 : 0 < ws5.length := by cases ws5 with | nil => exact absurd rfl hw | cons _ _ => exact Nat.succ_pos _
    have b1 := Int.emod_nonneg (way / 32) (b := 6) (by decide)
    have b2 := Int.emod_lt_of_pos (way / 32) (b := 6) (by decide)
    refine iteT ⟨_, rfl, _, _, rfl, rfl, ⟨by decide, by decide⟩, _, _, rfl, rfl, (by show (0 : Int) < 6; decide), _, _, rfl, rfl, 298 + way / 32 % 6, rfl, by omega, by omega, comp_range (n := (298 + way / 32 % 6).toNat) (fun i ys H' => ∃ vs : List Str, ys = vs.map V.str ∧ vs.length = i ∧ (∀ x ∈ vs, TokW x) ∧ H' = H6) ⟨[], rfl, rfl, by simp, rfl⟩ (fun i ys H' hi ⟨vs, e, l, _⟩ => ?_) ?_ ?_⟩
    · rw [e, List.length_map, l]
      exact small1000 (by omega)
    · rintro i ys H' hi ⟨vs, rfl, l, tv, rfl⟩
      have el : (((ws5.map V.str).length : Nat) : Int) = (ws5.length : Int) := by rw [List.length_map]
      obtain ⟨y, my, hy⟩ := str_at ws5 (i := (0 + (i : Int)) % (ws5.length : Int)) (Int.emod_nonneg _ (by omega)) (Int.emod_lt_of_pos _ (by omega))
      refine ⟨_, rfl, _, rfl, _, rfl, p5, _, rfl, .inl (SqL.of w6.at_), _, _, rfl, rfl, (by show (0 : Int) < (((ws5.map V.str).length : Nat) : Int); omega), p5, _, _, _, rfl, rfl, SqL.of w6.at_, (by rw [el]; exact hy), ?_⟩
      refine ⟨vs ++ [y], by rw [List.map_append]; rfl, by rw [List.length_append, l]; rfl, fun z hz => ?_, rfl⟩
      rcases List.mem_append.mp hz with z1 | z1
      · exact tv z z1
      · rw [List.mem_singleton.mp z1]; exact w6.tok _ my
    · rintro ys H' ⟨vs, rfl, l, tv, rfl⟩ D hD
      exact ⟨D, vs, rfl, t6.trans (same_new hD _), ⟨upd_same, tv⟩, by omega⟩
  rintro σ H6 ⟨p, ws, rfl, t6, w6, l6⟩
  refine ⟨_, rfl, _, rfl, p, a, ws, ns, rfl, SqL.of w6.at_, t6.seq hS, h63, l6, w6.tok, fun tx H7 s7 lt et => ?_⟩
  have t7 := t6.trans s7
  have w7 := w6.same s7
  have W : Wds tx := ⟨lt, fun x hx => by rw [et] at hx; exact ⟨(w6.tok x hx).asc, (w6.tok x hx).wrd⟩⟩
  have len : (((ws.map V.str).length : Nat) : Int) = (ws.length : Int) := by rw [List.length_map]
  refine ⟨_, rfl, p, _, rfl, .inl (SqL.of w7.at_), _, _, rfl, rfl, _, rfl, ite2 (fun c => iteT ?_) (fun c => ?_)⟩
  · have c := of_decide_eq_true c
    refine ⟨_, rfl, tx, rfl, W, by rw [et]; exact fun h => by have := h.1; omega, fun H8 _ => q _⟩
  have c : ¬ (300 : Int) < (((ws.map V.str).length : Nat) : Int) := fun h => c (decide_eq_true h)
  refine ⟨_, rfl, p, ws, rfl, SqL.of w7.at_, fun H8 s8 => ⟨_, _, rfl, rfl, _, rfl, ite2 (fun c2 => ?_) (fun c2 => ?_)⟩⟩
  · have c2 := of_decide_eq_true c2
    refine ⟨_, rfl, tx, rfl, W, by rw [et]; exact fun h => by have := h.2; omega, fun H8 _ => q _⟩
  have c2 : ¬ (8 : Int) < (openM ws).1 := fun h => c2 (decide_eq_true h)
  have few : Few (piecesOf tx) := by rw [et]; exact ⟨by omega, by omega⟩
  have w8 := w7.same s8
  refine ⟨_, rfl, tx, rfl, W, fun _ f1 H9 s9 n9 e9 => ?_, fun nf => absurd few nf⟩
  rw [et] at e9
  have w9 := w8.same s9
  refine ⟨_, rfl, _, "list", .type "list", true, rfl, .lst e9, rfl, _, rfl, iteF ?_⟩
  refine ⟨_, rfl, _, rfl, _, _, is_strs (SqL.of e9), is_strs (SqL.of w9.at_), rfl, rfl, dep_strs _, _, rfl, ?_⟩
  rw [self_strs]
  refine iteF ⟨_, rfl, .inl ⟨rfl, _, SqL.of e9⟩, f1, _, rfl, rfl, e9, ?_⟩
  have np : p ≠ f1 := ne_of_none w8.at_ n9
  have w10 : WordsAt (upd H9 f1 (.lst [])) p ws := ⟨by rw [upd_ne np]; exact w9.at_, w9.tok⟩
  refine ⟨_, rfl, tx, rfl, W, fun _ f2 H11 s11 n11 e11 => ?_, fun nf => absurd few nf⟩
  rw [et] at e11
  refine ⟨_, rfl, _, _, is_strs (SqL.of e11), is_strs (SqL.of (w10.same s11).at_), rfl, rfl, dep_strs _, ?_⟩
  rw [self_strs]
  exact q _
end
end Nw
namespace Nw
open PySem L2
theorem kit_self {K : PySem.W.Frag} {C : Addr} : PySem.W.kitOne K (.ref C) (.ref C) = some true := by
  unfold PySem.W.kitOne
  rw [if_pos (beq_self_eq_true _)]
theorem cls_some {K : PySem.W.Frag} {S : Addr} (h : PySem.W.mroIn K S (.type "object") = some true) : (PySem.W.clsIn K S).isSome = true := by
  unfold PySem.W.mroIn at h
  cases e : PySem.W.clsIn K S with
  | none => rw [e] at h; cases h
  | some _ => rfl
theorem kitcls_of {K : PySem.W.Frag} {t : Value} {S : Addr} {b : Bool} (h1 : PySem.W.subIn K t (.ref S) = some b) (h2 : PySem.W.mroIn K S (.type "object") = some true) (h3 : PySem.W.typeIn K (.ref S) = some (.type "type")) : PySem.W.kitCls K t (.ref S) = some b := by
  show (if ((PySem.W.clsIn K S).isSome && PySem.W.typeIn K (.ref S) == some (.type "type")) = true then PySem.W.subIn K t (.ref S) else none) = some b
  rw [if_pos (by rw [cls_some h2, h3]; rfl)]
  exact h1
theorem exm_of {K : PySem.W.Frag} {t : Value} {S : Addr} {b : Bool} (h : PySem.W.subIn K (.ref S) (.type "BaseException") = some true) (k : PySem.W.kitCls K t (.ref S) = some b) : PySem.W.exmOne K t (.ref S) = some b := by
  unfold PySem.W.exmOne
  rw [if_pos (by rw [h]; rfl)]
  exact k
theorem kit_no {K : PySem.W.Frag} {C S : Addr} {b : Bool} (n : (C == S) = false) (k : PySem.W.kitCls K (.ref C) (.ref S) = some b) : PySem.W.kitOne K (.ref C) (.ref S) = some b := by
  unfold PySem.W.kitOne
  rw [if_neg (fun z => by cases beq_iff_eq.mp z; rw [beq_self_eq_true] at n; cases n)]
  exact k
theorem kit_type {K : PySem.W.Frag} {C : Addr} {T : String} {b : Bool} (h : PySem.W.subIn K (.ref C) (.type T) = some b) (m : PySem.W.kitMeta T = true) : PySem.W.kitOne K (.ref C) (.type T) = some b := by
  unfold PySem.W.kitOne
  rw [if_neg (fun z => by cases beq_iff_eq.mp z)]
  show (if PySem.W.kitMeta T = true then PySem.W.subIn K (.ref C) (.type T) else none) = some b
  rw [if_pos m]
  exact h
theorem all_mk {l : PySem.W.OpenLaw} {w : World} {K : PySem.W.Frag} {h : Heap} {mg : Str → Option Value} {fa  fCe fMi fOw fWo fMp fTe fMy fMo fNu fNm fFa fWd fOp fWs fL : Addr} {odCe anCe odMi anMi odOw anOw odWo anWo odMp anMp odTe anTe odMy anMy odMo anMo odNu anNu odNm anNm odFa anFa odWd anWd odOp anOp odWs anWs odL anL : Option Addr} {slCe slMi slOw slWo slMp slTe slMy slMo slNu slNm slFa slWd slOp slWs slL : Array (Option Value)} {ocCe kVCe dcCe pmCe cdCe ctCe ocMi kVMi dcMi pmMi cdMi ctMi ocOw kVOw dcOw pmOw cdOw ctOw ocWo kVWo dcWo pmWo cdWo ctWo ocMp kVMp dcMp pmMp cdMp ctMp ocTe kVTe dcTe pmTe cdTe ctTe ocMy kVMy dcMy pmMy cdMy ctMy ocMo kVMo dcMo pmMo cdMo ctMo ocNu kVNu dcNu pmNu cdNu ctNu ocNm kVNm dcNm pmNm cdNm ctNm ocFa kVFa dcFa pmFa cdFa ctFa ocWd kVWd dcWd pmWd cdWd ctWd ocOp kVOp dcOp pmOp cdOp ctOp ocWs kVWs dcWs pmWs cdWs ctWs ocL kVL dcL pmL cdL ctL : Value} {xLt xFg : Str} {tLt tFg t8 t2 t300 tM8 : PySem.Tok} {adO adS : Addr} {itO itS : Array Value} {nO nS : Nat} {odO odS : Option Addr} {slO slS : Array (Option Value)} {adT adN adW : Addr} (X : K.In h) (G : h.Ns mainGlobals mg) (hfa : mg "law" = some (.ref fa))
    (aCe : PySem.W.nsIn K mainGlobals "_law_cell_at" = some (some (.ref fCe)))
    (lCe : K.lookup fCe = some ⟨ocCe, odCe, .func (PySem.W.fnOf "_law_cell_at" "_law_cell_at" (defArgs sCell) (defBody sCell) (defScope sCell) .none kVCe dcCe pmCe anCe cdCe ctCe), slCe⟩)
    (cCe : PySem.W.codeIn K cdCe "_law_cell_at" = true)
    (kCe : PySem.W.keepIn K (.ref fCe) = true)
    (aMi : PySem.W.nsIn K mainGlobals "_law_mix" = some (some (.ref fMi)))
    (lMi : K.lookup fMi = some ⟨ocMi, odMi, .func (PySem.W.fnOf "_law_mix" "_law_mix" (defArgs sMix) (defBody sMix) (defScope sMix) .none kVMi dcMi pmMi anMi cdMi ctMi), slMi⟩)
    (cMi : PySem.W.codeIn K cdMi "_law_mix" = true)
    (kMi : PySem.W.keepIn K (.ref fMi) = true)
    (aOw : PySem.W.nsIn K mainGlobals "_law_own" = some (some (.ref fOw)))
    (lOw : K.lookup fOw = some ⟨ocOw, odOw, .func (PySem.W.fnOf "_law_own" "_law_own" (defArgs sOwn) (defBody sOwn) (defScope sOwn) .none kVOw dcOw pmOw anOw cdOw ctOw), slOw⟩)
    (cOw : PySem.W.codeIn K cdOw "_law_own" = true)
    (kOw : PySem.W.keepIn K (.ref fOw) = true)
    (aWo : PySem.W.nsIn K mainGlobals "_law_word" = some (some (.ref fWo)))
    (lWo : K.lookup fWo = some ⟨ocWo, odWo, .func (PySem.W.fnOf "_law_word" "_law_word" (defArgs sWord) (defBody sWord) (defScope sWord) .none kVWo dcWo pmWo anWo cdWo ctWo), slWo⟩)
    (cWo : PySem.W.codeIn K cdWo "_law_word" = true)
    (kWo : PySem.W.keepIn K (.ref fWo) = true)
    (aMp : PySem.W.nsIn K mainGlobals "_law_most_open" = some (some (.ref fMp)))
    (lMp : K.lookup fMp = some ⟨ocMp, odMp, .func (PySem.W.fnOf "_law_most_open" "_law_most_open" (defArgs sMost) (defBody sMost) (defScope sMost) .none kVMp dcMp pmMp anMp cdMp ctMp), slMp⟩)
    (cMp : PySem.W.codeIn K cdMp "_law_most_open" = true)
    (kMp : PySem.W.keepIn K (.ref fMp) = true)
    (aTe : PySem.W.nsIn K mainGlobals "_law_text" = some (some (.ref fTe)))
    (lTe : K.lookup fTe = some ⟨ocTe, odTe, .func (PySem.W.fnOf "_law_text" "_law_text" (defArgs sText) (defBody sText) (defScope sText) .none kVTe dcTe pmTe anTe cdTe ctTe), slTe⟩)
    (cTe : PySem.W.codeIn K cdTe "_law_text" = true)
    (kTe : PySem.W.keepIn K (.ref fTe) = true)
    (aMy : PySem.W.nsIn K mainGlobals "_law_many" = some (some (.ref fMy)))
    (lMy : K.lookup fMy = some ⟨ocMy, odMy, .func (PySem.W.fnOf "_law_many" "_law_many" (defArgs sMany) (defBody sMany) (defScope sMany) .none kVMy dcMy pmMy anMy cdMy ctMy), slMy⟩)
    (cMy : PySem.W.codeIn K cdMy "_law_many" = true)
    (kMy : PySem.W.keepIn K (.ref fMy) = true)
    (aMo : PySem.W.nsIn K mainGlobals "made_of" = some (some (.ref fMo)))
    (lMo : K.lookup fMo = some ⟨ocMo, odMo, .func (PySem.W.fnOf "made_of" "made_of" (defArgs sMade) (defBody sMade) (defScope sMade) .none kVMo dcMo pmMo anMo cdMo ctMo), slMo⟩)
    (cMo : PySem.W.codeIn K cdMo "made_of" = true)
    (kMo : PySem.W.keepIn K (.ref fMo) = true)
    (aNu : PySem.W.nsIn K mainGlobals "is_number" = some (some (.ref fNu)))
    (lNu : K.lookup fNu = some ⟨ocNu, odNu, .func (PySem.W.fnOf "is_number" "is_number" (defArgs sIsNum) (defBody sIsNum) (defScope sIsNum) .none kVNu dcNu pmNu anNu cdNu ctNu), slNu⟩)
    (cNu : PySem.W.codeIn K cdNu "is_number" = true)
    (kNu : PySem.W.keepIn K (.ref fNu) = true)
    (aNm : PySem.W.nsIn K mainGlobals "is_name" = some (some (.ref fNm)))
    (lNm : K.lookup fNm = some ⟨ocNm, odNm, .func (PySem.W.fnOf "is_name" "is_name" (defArgs sIsNam) (defBody sIsNam) (defScope sIsNam) .none kVNm dcNm pmNm anNm cdNm ctNm), slNm⟩)
    (cNm : PySem.W.codeIn K cdNm "is_name" = true)
    (kNm : PySem.W.keepIn K (.ref fNm) = true)
    (aFa : PySem.W.nsIn K mainGlobals "is_far_name" = some (some (.ref fFa)))
    (lFa : K.lookup fFa = some ⟨ocFa, odFa, .func (PySem.W.fnOf "is_far_name" "is_far_name" (defArgs sIsFar) (defBody sIsFar) (defScope sIsFar) .none kVFa dcFa pmFa anFa cdFa ctFa), slFa⟩)
    (cFa : PySem.W.codeIn K cdFa "is_far_name" = true)
    (kFa : PySem.W.keepIn K (.ref fFa) = true)
    (aWd : PySem.W.nsIn K mainGlobals "is_word" = some (some (.ref fWd)))
    (lWd : K.lookup fWd = some ⟨ocWd, odWd, .func (PySem.W.fnOf "is_word" "is_word" (defArgs sIsWord) (defBody sIsWord) (defScope sIsWord) .none kVWd dcWd pmWd anWd cdWd ctWd), slWd⟩)
    (cWd : PySem.W.codeIn K cdWd "is_word" = true)
    (kWd : PySem.W.keepIn K (.ref fWd) = true)
    (aOp : PySem.W.nsIn K mainGlobals "most_open" = some (some (.ref fOp)))
    (lOp : K.lookup fOp = some ⟨ocOp, odOp, .func (PySem.W.fnOf "most_open" "most_open" (defArgs sOpen) (defBody sOpen) (defScope sOpen) .none kVOp dcOp pmOp anOp cdOp ctOp), slOp⟩)
    (cOp : PySem.W.codeIn K cdOp "most_open" = true)
    (kOp : PySem.W.keepIn K (.ref fOp) = true)
    (aWs : PySem.W.nsIn K mainGlobals "words" = some (some (.ref fWs)))
    (lWs : K.lookup fWs = some ⟨ocWs, odWs, .func (PySem.W.fnOf "words" "words" (defArgs sWords) (defBody sWords) (defScope sWords) .none kVWs dcWs pmWs anWs cdWs ctWs), slWs⟩)
    (cWs : PySem.W.codeIn K cdWs "words" = true)
    (kWs : PySem.W.keepIn K (.ref fWs) = true)
    (aL : PySem.W.nsIn K mainGlobals "law" = some (some (.ref fL)))
    (lL : K.lookup fL = some ⟨ocL, odL, .func (PySem.W.fnOf "law" "law" (defArgs sLaw) (defBody sLaw) (defScope sLaw) .none kVL dcL pmL anL cdL ctL), slL⟩)
    (cL : PySem.W.codeIn K cdL "law" = true)
    (kL : PySem.W.keepIn K (.ref fL) = true)
    (z_len : PySem.W.nsIn K mainGlobals "len" = some none)
    (z_range : PySem.W.nsIn K mainGlobals "range" = some none)
    (z_isinstance : PySem.W.nsIn K mainGlobals "isinstance" = some none)
    (z_str : PySem.W.nsIn K mainGlobals "str" = some none)
    (z_list : PySem.W.nsIn K mainGlobals "list" = some none)
    (z_max : PySem.W.nsIn K mainGlobals "max" = some none)
    (z_all : PySem.W.nsIn K mainGlobals "all" = some none)
    (z_ValueError : PySem.W.nsIn K mainGlobals "ValueError" = some none)
    (zLt : PySem.W.nsIn K mainGlobals "LETTERS" = some (some (.str xLt tLt)))
    (eLt : xLt = lettersW)
    (zFg : PySem.W.nsIn K mainGlobals "FIGURES" = some (some (.str xFg tFg)))
    (eFg : xFg = figuresW)
    (z8 : PySem.W.nsIn K mainGlobals "LONGEST_NAME" = some (some (.int 8 t8)))
    (z2 : PySem.W.nsIn K mainGlobals "LONGEST_NUMBER" = some (some (.int 2 t2)))
    (z300 : PySem.W.nsIn K mainGlobals "MOST_WORDS" = some (some (.int 300 t300)))
    (zM8 : PySem.W.nsIn K mainGlobals "MOST_OPEN" = some (some (.int 8 tM8)))
    (zO : PySem.W.nsIn K mainGlobals "OWN_WORDS" = some (some (.ref adO)))
    (zS : PySem.W.nsIn K mainGlobals "SIGNS" = some (some (.ref adS)))
    (lkO : K.lookup adO = some ⟨.type "tuple", odO, .seq itO nO, slO⟩)
    (szO : itO.size = 18)
    (vO : Vals (ownL.map V.str) itO.toList)
    (lkS : K.lookup adS = some ⟨.type "tuple", odS, .seq itS nS, slS⟩)
    (szS : itS.size = 13)
    (vS : Vals (signsW.map V.str) itS.toList)
    (zT : PySem.W.nsIn K mainGlobals "TooMany" = some (some (.ref adT)))
    (zN : PySem.W.nsIn K mainGlobals "NoText" = some (some (.ref adN)))
    (zW : PySem.W.nsIn K mainGlobals "WorkError" = some (some (.ref adW)))
    (xT : PySem.W.excIn K adT [.type "ValueError", .type "Exception", .type "BaseException", .type "object"] "ValueError.__new__" = true)
    (xga : PySem.W.findIn K (.ref adT) "__getattribute__" = some (some (.builtin "BaseException.__getattribute__")))
    (xho : PySem.W.findIn K (.ref adT) "__getattr__" = some none)
    (xcl : PySem.W.findIn K (.ref adT) "__class__" = some (some (.builtin "object.__class__")))
    (xge : PySem.W.specialIn K (.builtin "object.__class__") "__get__" = some (some (.builtin "getset_descriptor.__get__")))
    (xtk : PySem.W.takesIn K (.builtin "object.__class__") = some true)
    (moT : PySem.W.mroIn K adT (.type "object") = some true)
    (moN : PySem.W.mroIn K adN (.type "object") = some true)
    (moW : PySem.W.mroIn K adW (.type "object") = some true)
    (tyN : PySem.W.typeIn K (.ref adN) = some (.type "type"))
    (tyW : PySem.W.typeIn K (.ref adW) = some (.type "type"))
    (sTB : PySem.W.subIn K (.ref adT) (.type "BaseException") = some true)
    (sWB : PySem.W.subIn K (.ref adW) (.type "BaseException") = some true)
    (sTW : PySem.W.subIn K (.ref adT) (.ref adW) = some true)
    (sTV : PySem.W.subIn K (.ref adT) (.type "ValueError") = some true)
    (sTN : PySem.W.subIn K (.ref adT) (.ref adN) = some false)
    (nTN : (adT == adN) = false)
    : ∃ fd : FuncData, (∀ (s : Shared) (v : Value), BindsTo s fd ⟨[v], []⟩ [("_law_script", v)]) ∧ ∀ base : Heap, K.In base → base.Ns mainGlobals mg → FnOk l.prog w K mg base CX0 8 fa fd ["_law_script"] (spLaw K) := by
  have e := hfa.symm.trans (PySem.W.mg_of X G aL)
  cases e
  have FCe := fun_mk (st := sCell) lCe cCe kCe
  have bCe := FCe.binds (ps := ["_law_script", "_law_k"]) fun _ _ _ _ _ _ us hl => match us, hl with | [_, _], _ => rfl
  have FMi := fun_mk (st := sMix) lMi cMi kMi
  have bMi := FMi.binds (ps := ["_law_cell", "_law_k"]) fun _ _ _ _ _ _ us hl => match us, hl with | [_, _], _ => rfl
  have FOw := fun_mk (st := sOwn) lOw cOw kOw
  have bOw := FOw.binds (ps := []) fun _ _ _ _ _ _ us hl => match us, hl with | [], _ => rfl
  have FWo := fun_mk (st := sWord) lWo cWo kWo
  have bWo := FWo.binds (ps := ["_law_cell"]) fun _ _ _ _ _ _ us hl => match us, hl with | [_], _ => rfl
  have FMp := fun_mk (st := sMost) lMp cMp kMp
  have bMp := FMp.binds (ps := ["_law_some"]) fun _ _ _ _ _ _ us hl => match us, hl with | [_], _ => rfl
  have FTe := fun_mk (st := sText) lTe cTe kTe
  have bTe := FTe.binds (ps := ["_law_some", "_law_script"]) fun _ _ _ _ _ _ us hl => match us, hl with | [_, _], _ => rfl
  have FMy := fun_mk (st := sMany) lMy cMy kMy
  have bMy := FMy.binds (ps := ["_law_text_here"]) fun _ _ _ _ _ _ us hl => match us, hl with | [_], _ => rfl
  have FMo := fun_mk (st := sMade) lMo cMo kMo
  have bMo := FMo.binds (ps := ["piece", "signs", "longest"]) fun _ _ _ _ _ _ us hl => match us, hl with | [_, _, _], _ => rfl
  have FNu := fun_mk (st := sIsNum) lNu cNu kNu
  have bNu := FNu.binds (ps := ["piece"]) fun _ _ _ _ _ _ us hl => match us, hl with | [_], _ => rfl
  have FNm := fun_mk (st := sIsNam) lNm cNm kNm
  have bNm := FNm.binds (ps := ["piece"]) fun _ _ _ _ _ _ us hl => match us, hl with | [_], _ => rfl
  have FFa := fun_mk (st := sIsFar) lFa cFa kFa
  have bFa := FFa.binds (ps := ["piece"]) fun _ _ _ _ _ _ us hl => match us, hl with | [_], _ => rfl
  have FWd := fun_mk (st := sIsWord) lWd cWd kWd
  have bWd := FWd.binds (ps := ["piece"]) fun _ _ _ _ _ _ us hl => match us, hl with | [_], _ => rfl
  have FOp := fun_mk (st := sOpen) lOp cOp kOp
  have bOp := FOp.binds (ps := ["pieces"]) fun _ _ _ _ _ _ us hl => match us, hl with | [_], _ => rfl
  have FWs := fun_mk (st := sWords) lWs cWs kWs
  have bWs := FWs.binds (ps := ["text"]) fun _ _ _ _ _ _ us hl => match us, hl with | [_], _ => rfl
  have FL := fun_mk (st := sLaw) lL cL kL
  have T : Txt K mg adT adN adW adO adS fCe fMi fOw fWo fMp fTe fMy fMo fNu fNm fFa fWd fOp fWs (PySem.W.fnOf "_law_cell_at" "_law_cell_at" (defArgs sCell) (defBody sCell) (defScope sCell) .none kVCe dcCe pmCe anCe cdCe ctCe) (PySem.W.fnOf "_law_mix" "_law_mix" (defArgs sMix) (defBody sMix) (defScope sMix) .none kVMi dcMi pmMi anMi cdMi ctMi) (PySem.W.fnOf "_law_own" "_law_own" (defArgs sOwn) (defBody sOwn) (defScope sOwn) .none kVOw dcOw pmOw anOw cdOw ctOw) (PySem.W.fnOf "_law_word" "_law_word" (defArgs sWord) (defBody sWord) (defScope sWord) .none kVWo dcWo pmWo anWo cdWo ctWo) (PySem.W.fnOf "_law_most_open" "_law_most_open" (defArgs sMost) (defBody sMost) (defScope sMost) .none kVMp dcMp pmMp anMp cdMp ctMp) (PySem.W.fnOf "_law_text" "_law_text" (defArgs sText) (defBody sText) (defScope sText) .none kVTe dcTe pmTe anTe cdTe ctTe) (PySem.W.fnOf "_law_many" "_law_many" (defArgs sMany) (defBody sMany) (defScope sMany) .none kVMy dcMy pmMy anMy cdMy ctMy) (PySem.W.fnOf "made_of" "made_of" (defArgs sMade) (defBody sMade) (defScope sMade) .none kVMo dcMo pmMo anMo cdMo ctMo) (PySem.W.fnOf "is_number" "is_number" (defArgs sIsNum) (defBody sIsNum) (defScope sIsNum) .none kVNu dcNu pmNu anNu cdNu ctNu) (PySem.W.fnOf "is_name" "is_name" (defArgs sIsNam) (defBody sIsNam) (defScope sIsNam) .none kVNm dcNm pmNm anNm cdNm ctNm) (PySem.W.fnOf "is_far_name" "is_far_name" (defArgs sIsFar) (defBody sIsFar) (defScope sIsFar) .none kVFa dcFa pmFa anFa cdFa ctFa) (PySem.W.fnOf "is_word" "is_word" (defArgs sIsWord) (defBody sIsWord) (defScope sIsWord) .none kVWd dcWd pmWd anWd cdWd ctWd) (PySem.W.fnOf "most_open" "most_open" (defArgs sOpen) (defBody sOpen) (defScope sOpen) .none kVOp dcOp pmOp anOp cdOp ctOp) (PySem.W.fnOf "words" "words" (defArgs sWords) (defBody sWords) (defScope sWords) .none kVWs dcWs pmWs anWs cdWs ctWs) :=
    { bl := ⟨PySem.W.mg_none_of X G z_len, PySem.W.mg_none_of X G z_range, PySem.W.mg_none_of X G z_isinstance, PySem.W.mg_none_of X G z_str, PySem.W.mg_none_of X G z_list, PySem.W.mg_none_of X G z_max, PySem.W.mg_none_of X G z_all, PySem.W.mg_none_of X G z_ValueError⟩
      lex :=
        { gL := ⟨tLt, by rw [← eLt]; exact PySem.W.mg_of X G zLt⟩, gF := ⟨tFg, by rw [← eFg]; exact PySem.W.mg_of X G zFg⟩
          g8 := ⟨_, PySem.W.mg_of X G z8⟩, g2 := ⟨_, PySem.W.mg_of X G z2⟩, g300 := ⟨_, PySem.W.mg_of X G z300⟩, gM8 := ⟨_, PySem.W.mg_of X G zM8⟩
          gO := PySem.W.mg_of X G zO, gS := PySem.W.mg_of X G zS
          own := fun H => .inr ⟨_, itO, nO, lkO, rfl, rfl, by rw [szO, sizeLine_eq]; decide, vO⟩
          sgn := fun H => .inr ⟨_, itS, nS, lkS, rfl, rfl, by rw [szS, sizeLine_eq]; decide, vS⟩ }
      exc :=
        { own := ⟨_, _, _, _, PySem.F.excBase_ValueError, by decide, xT⟩
          cls := ⟨xga, xho, xcl, xge, xtk, moT, sTB, cls_some moT⟩
          gT := PySem.W.mg_of X G zT, gN := PySem.W.mg_of X G zN, gW := PySem.W.mg_of X G zW
          exm := exm_of sWB (kitcls_of sTW moW tyW)
          k1 := kit_self
          k2 := kit_type sTV (by decide +kernel)
          k3 := kit_no nTN (kitcls_of sTN moN tyN) }
      gCe := PySem.W.mg_of X G aCe, gMi := PySem.W.mg_of X G aMi, gOw := PySem.W.mg_of X G aOw, gWo := PySem.W.mg_of X G aWo, gMp := PySem.W.mg_of X G aMp, gTe := PySem.W.mg_of X G aTe, gMy := PySem.W.mg_of X G aMy, gMo := PySem.W.mg_of X G aMo, gNu := PySem.W.mg_of X G aNu, gNm := PySem.W.mg_of X G aNm, gFa := PySem.W.mg_of X G aFa, gWd := PySem.W.mg_of X G aWd, gOp := PySem.W.mg_of X G aOp, gWs := PySem.W.mg_of X G aWs
      FCe := FCe, bCe := bCe, FMi := FMi, bMi := bMi, FOw := FOw, bOw := bOw, FWo := FWo, bWo := bWo, FMp := FMp, bMp := bMp, FTe := FTe, bTe := bTe, FMy := FMy, bMy := bMy, FMo := FMo, bMo := bMo, FNu := FNu, bNu := bNu, FNm := FNm, bNm := bNm, FFa := FFa, bFa := bFa, FWd := FWd, bWd := bWd, FOp := FOp, bOp := bOp, FWs := FWs, bWs := bWs }
  exact ⟨PySem.W.fnOf "law" "law" (defArgs sLaw) (defBody sLaw) (defScope sLaw) .none kVL dcL pmL anL cdL ctL, fun s v => .of_eq rfl, fun base _ _ => ok_law T FL⟩
theorem walk {l : PySem.W.OpenLaw} {q : Program} {loose : List Str} {XP : (Str → Option Value) → Heap → Prop} {YP : World → Heap → Prop} {d : DefRec} {K : Params → PySem.W.Frag} (hn : l.most = some 63) (hdf : d.params.defaults = [])
    (hY : ∀ (w : World) (h : Heap), YP w h → (K w.params).In h)
    (F : ∀ (w : World) (mg : Str → Option Value) (fa : Addr) (h : Heap), (K w.params).In h → h.Ns mainGlobals mg → mg d.name = some (.ref fa) →
      ∃ fd : FuncData, (∀ (s : Shared) (u : Value), BindsTo s fd ⟨[u], []⟩ [("_law_script", u)]) ∧ ∀ base : Heap, (K w.params).In base → base.Ns mainGlobals mg → FnOk l.prog w (K w.params) mg base CX0 8 fa fd ["_law_script"] (spLaw (K w.params))) :
    PySem.W.WalkO q loose XP YP l.row.toRowW d [] (fun f vs => PySem.call f vs) :=
  L2.walk_of (n := 63) (k := 8) (x := "_law_script") (CX := fun _ => CX0) (sp := fun w => spLaw (K w.params)) hn (by decide) hdf ⟨rfl, by decide, by decide⟩ hY F (fun _ _ a ns hl _ hS => ⟨a, ns, rfl, hS, hl, fun _ => rfl⟩) fun _ _ _ _ _ z => z
end Nw
open PySem PySem.W PyProof.Rows
namespace PySem.W.Fast
def tw18413899413636959616 := ()
def tw14028172200042020640 := ()
def tw10438294906089367424 := ()
def tw11163260943916411808 := ()
def tw15448969441075529921 := ()
def tw15093269299372424481 := ()
def tw10700682304850326594 := ()
def tw17893674068741429474 := ()
def tw11299075756189560066 := ()
def tw11448601625000391138 := ()
def tw10139404315110780450 := ()
def tw14374970370646679555 := ()
def tw43917010342892579 := ()
def tw132409199475055747 := ()
def tw1608223902796326435 := ()
def tw17427018597272835715 := ()
def tw13250588662364856035 := ()
def tw11369949039315164067 := ()
def tw3425752984688846980 := ()
def tw10587028687692734980 := ()
def tw2666591689834036389 := ()
def tw15848092266945082565 := ()
def tw5263701457157128549 := ()
def tw1846272143021716965 := ()
def tw17804346908990309 := ()
def tw2994633102391791525 := ()
def tw11236006589233175814 := ()
def tw7277493853346577702 := ()
def tw11522773379917015878 := ()
def tw4437275617943248710 := ()
def tw5338744947389044646 := ()
def tw2430917247402872679 := ()
def tw5964804447909564295 := ()
def tw3800668915591115912 := ()
def tw10058475300350722216 := ()
def tw16203745210921042280 := ()
def tw12365145034479508968 := ()
def tw9562359390612839976 := ()
def tw9949921080182129256 := ()
def tw11794025535972175720 := ()
def tw10680070809020475304 := ()
def tw7963333051224210408 := ()
def tw10842545346029551785 := ()
def tw2717885867696058569 := ()
def tw12464425582817884425 := ()
def tw13170743704452679177 := ()
def tw7375252496897491593 := ()
def tw11157313373978128554 := ()
def tw16522611919832701674 := ()
def tw12762508105524210538 := ()
def tw6837011581299340363 := ()
def tw5158158066350214283 := ()
def tw2998883262580794891 := ()
def tw14852512865366881835 := ()
def tw1956499084261943947 := ()
def tw16189207662087384843 := ()
def tw2256501895863830668 := ()
def tw2937110094083036620 := ()
def tw15464499889511021901 := ()
def tw5545939716471519629 := ()
def tw11498166807909137869 := ()
def tw2331675620365488717 := ()
def tw5229712638137374509 := ()
def tw11517189228067987309 := ()
def tw17601086813931623373 := ()
def tw12771610474345602062 := ()
def tw2797825511754148878 := ()
def tw10335220217423151246 := ()
def tw18065755070218469582 := ()
def tw6768466236022080718 := ()
def tw2110858124659383790 := ()
def tw10768635130037677998 := ()
def tw11492745130030091311 := ()
def tw4010701011638665295 := ()
def tw6112427690233841999 := ()
def tw10020335570147286415 := ()
def tw7089182330037028431 := ()
def tw7834624374030677775 := ()
def tw8350379007960421199 := ()
def tw17144896228640235439 := ()
def tw13827602748964544784 := ()
def tw12984009188208880144 := ()
def tw6539325611536010896 := ()
def tw4168360278731236017 := ()
def tw9910398035183874769 := ()
def tw106949880398452210 := ()
def tw18285429281580672594 := ()
def tw10395216243073270610 := ()
def tw12066275000810168210 := ()
def tw10545903706367587411 := ()
def tw7840775811760257619 := ()
def tw18430745384189366963 := ()
def tw1946851481849419699 := ()
def tw2081683663559502803 := ()
def tw4157839002924907732 := ()
def tw2762597231972588788 := ()
def tw5834044101885377972 := ()
def tw15076583885994156596 := ()
def tw8716757340525578068 := ()
def tw454081446265527284 := ()
def tw13242946042203107316 := ()
def tw2617604862280679253 := ()
def tw10421175204817488278 := ()
def tw1982151068344213974 := ()
def tw15972569712266058326 := ()
def tw4361188916551242454 := ()
def tw8314563736924839702 := ()
def tw14702216431838566198 := ()
def tw8797683232278478838 := ()
def tw5851939134795697303 := ()
def tw15765876211472638199 := ()
def tw10231002404542636311 := ()
def tw13475808166815877655 := ()
def tw9488370564241114679 := ()
def tw352020225193850551 := ()
def tw10365177320694824024 := ()
def tw4607492919647807736 := ()
def tw6884942239882379704 := ()
def tw3226020108578104088 := ()
def tw10462516657339148056 := ()
def tw10557452153263614872 := ()
def tw6866862345674560761 := ()
def tw14933862006717989273 := ()
def tw17328984101183005337 := ()
def tw14668999843520832153 := ()
def tw9322816840589513465 := ()
def tw2176406734971239353 := ()
def tw5039885570365571322 := ()
def tw5938252407907617466 := ()
def tw1465067844666527610 := ()
def tw14881737709789596699 := ()
def tw4741217297599147355 := ()
def tw15197026233896361307 := ()
def tw2206921206119507387 := ()
def tw3168158118510205499 := ()
def tw7417284776143191771 := ()
def tw2531080616787044187 := ()
def tw7228083483108579708 := ()
def tw9972194153395395036 := ()
def tw3360707332700915260 := ()
def tw7703645449585558653 := ()
def tw17577794087238882845 := ()
def tw14574191213318835773 := ()
def tw16058626167341361949 := ()
def tw11964592455501548413 := ()
def tw12522341636042308638 := ()
def tw12857520982867297694 := ()
def tw9067277876932574654 := ()
def tw10763289424087143902 := ()
def tw15717425019905320510 := ()
def tw18125342299839336286 := ()
def tw4137724587492659038 := ()
def tw5174048361441474558 := ()
def tw15758706119983551551 := ()
def tw1764769099692936287 := ()
def tw9748670025703958655 := ()
def tw10332310321030831807 := ()
def tw2489154773945835231 := ()
end PySem.W.Fast
set_option maxRecDepth 100000 in
set_option maxHeartbeats 0 in
theorem PySem.Challenge.cw_nearerwork_k01_words_of_texts_holds : PySem.Challenge.rw_nearerwork_k01_words_of_texts.Holds := by
  w_on; o_law; k_head; (case hw => w_witness2)
  k_fill
  refine Nw.walk (l := PySem.Challenge.rw_nearerwork_k01_words_of_texts) rfl rfl (fun w h Y => PySem.W.kIn_of Y) ?F
  case F =>
    intro w mg fa h KX G hmg
    refine' Nw.all_mk KX G hmg ?aCe ?lCe ?cCe ?kCe ?aMi ?lMi ?cMi ?kMi ?aOw ?lOw ?cOw ?kOw ?aWo ?lWo ?cWo ?kWo ?aMp ?lMp ?cMp ?kMp ?aTe ?lTe ?cTe ?kTe ?aMy ?lMy ?cMy ?kMy ?aMo ?lMo ?cMo ?kMo ?aNu ?lNu ?cNu ?kNu ?aNm ?lNm ?cNm ?kNm ?aFa ?lFa ?cFa ?kFa ?aWd ?lWd ?cWd ?kWd ?aOp ?lOp ?cOp ?kOp ?aWs ?lWs ?cWs ?kWs ?aL ?lL ?cL ?kL ?z_len ?z_range ?z_isinstance ?z_str ?z_list ?z_max ?z_all ?z_ValueError ?zLt ?eLt ?zFg ?eFg ?z8 ?z2 ?z300 ?zM8 ?zO ?zS ?lkO ?szO ?vO ?lkS ?szS ?vS ?zT ?zN ?zW ?xT ?xga ?xho ?xcl ?xge ?xtk ?moT ?moN ?moW ?tyN ?tyW ?sTB ?sWB ?sTW ?sTV ?sTN ?nTN
    (case aCe | lCe | cCe | kCe | aMi | lMi | cMi | kMi | aOw | lOw | cOw | kOw | aWo | lWo | cWo | kWo | aMp | lMp | cMp | kMp | aTe | lTe | cTe | kTe | aMy | lMy | cMy | kMy | aMo | lMo | cMo | kMo | aNu | lNu | cNu | kNu | aNm | lNm | cNm | kNm | aFa | lFa | cFa | kFa | aWd | lWd | cWd | kWd | aOp | lOp | cOp | kOp | aWs | lWs | cWs | kWs | aL | lL | cL | kL | z_len | z_range | z_isinstance | z_str | z_list | z_max | z_all | z_ValueError => k_is)
    (case zLt => k_is)
    (case eLt => rfl)
    (case zFg => k_is)
    (case eFg => rfl)
    (case z8 => k_is)
    (case z2 => k_is)
    (case z300 => k_is)
    (case zM8 => k_is)
    (case zO => k_is)
    (case zS => k_is)
    (case lkO => k_is)
    (case szO => rfl)
    (case vO => exact .cons ⟨_, rfl⟩ (.cons ⟨_, rfl⟩ (.cons ⟨_, rfl⟩ (.cons ⟨_, rfl⟩ (.cons ⟨_, rfl⟩ (.cons ⟨_, rfl⟩ (.cons ⟨_, rfl⟩ (.cons ⟨_, rfl⟩ (.cons ⟨_, rfl⟩ (.cons ⟨_, rfl⟩ (.cons ⟨_, rfl⟩ (.cons ⟨_, rfl⟩ (.cons ⟨_, rfl⟩ (.cons ⟨_, rfl⟩ (.cons ⟨_, rfl⟩ (.cons ⟨_, rfl⟩ (.cons ⟨_, rfl⟩ (.cons ⟨_, rfl⟩ (.nil)))))))))))))))))))
    (case lkS => k_is)
    (case szS => rfl)
    (case vS => exact .cons ⟨_, rfl⟩ (.cons ⟨_, rfl⟩ (.cons ⟨_, rfl⟩ (.cons ⟨_, rfl⟩ (.cons ⟨_, rfl⟩ (.cons ⟨_, rfl⟩ (.cons ⟨_, rfl⟩ (.cons ⟨_, rfl⟩ (.cons ⟨_, rfl⟩ (.cons ⟨_, rfl⟩ (.cons ⟨_, rfl⟩ (.cons ⟨_, rfl⟩ (.cons ⟨_, rfl⟩ (.nil))))))))))))))
    (case zT => k_is)
    (case zN => k_is)
    (case zW => k_is)
    (case xT => k_exc)
    (case xga => k_is)
    (case xho => k_is)
    (case xcl => k_is)
    (case xge => k_is)
    (case xtk => k_is)
    (case moT => k_is)
    (case moN => k_is)
    (case moW => k_is)
    (case tyN => k_is)
    (case tyW => k_is)
    (case sTB => k_is)
    (case sWB => k_is)
    (case sTW => k_is)
    (case sTV => k_is)
    (case sTN => k_is)
    (case nTN => rfl)
