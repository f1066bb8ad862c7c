import PyProof.Rows.All
import Wide.All
import OpenK.AllK
import Wide.FinOn
import Lean
import PyProof.EqAt
import PyProof.EqKinds
import PyProof.TupleCall
import PyProof.NsDelKeeps
import PyProof.NeKinds
import PyProof.CompFree
import KE.LcSums
import PyProof.CompUse
import PyProof.Rows.RuleIs
import PyProof.Rows.RuleIs2
import PyProof.ZipIter
import PyProof.CompMap
import PyProof.DictKinds
import PyProof.DictRoads
import PyProof.AutoRange
import PyProof.FactsAll.range_1
import KE.KTryMore
import PySem.Challenge.RW_slipring_k17_looks_at_spoilt_cells
set_option Elab.async false
set_option linter.all false
set_option maxRecDepth 100000
/-! THE HAND LAYER, for ints, bools, texts, own classes, LISTS and tuples (index, slices, in, append, pop ..), calls, loops. Paste it whole ahead of your own text; what your proof does not reach may be deleted. -/
namespace L2
open PySem PySem.Spec PyProof.Rows

/-- a key: an int or a str -/
abbrev Key := Sum Int Str
def keyIs : Key → Value → Bool
  | .inl k, v => Value.isInt k v
  | .inr x, v => Value.isStrOf x v
def keyH (w : World) : Key → Int
  | .inl k => hashInt k
  | .inr x => hashStr w x
theorem keyIs_shape : ∀ {k : Key} {v : Value}, keyIs k v = true → (∃ i t, k = Sum.inl i ∧ v = Value.int i t) ∨ (∃ x t, k = Sum.inr x ∧ v = Value.str x t)
  | .inl i, v, h => by
    obtain ⟨t, e⟩ := Value.isInt_shape (k := i) (v := v) h
    exact .inl ⟨i, t, rfl, e⟩
  | .inr x, v, h => by
    obtain ⟨t, e⟩ := Value.isStrOf_shape (x := x) (v := v) h
    exact .inr ⟨x, t, rfl, e⟩
theorem key_ll (a b : Int) : decide ((Sum.inl a : Key) = Sum.inl b) = (a == b) := by
  by_cases e : a = b
  · subst e; simp
  · have h : ¬ (Sum.inl a : Key) = Sum.inl b := fun q => e (Sum.inl.inj q)
    rw [decide_eq_false h]
    exact (beq_eq_false_iff_ne.mpr e).symm
theorem key_rr (a b : Str) : decide ((Sum.inr a : Key) = Sum.inr b) = decide (a = b) := by
  by_cases e : a = b
  · subst e; simp
  · have h : ¬ (Sum.inr a : Key) = Sum.inr b := fun q => e (Sum.inr.inj q)
    rw [decide_eq_false h, decide_eq_false e]
theorem key_lr (a : Int) (b : Str) : decide ((Sum.inl a : Key) = Sum.inr b) = false := decide_eq_false (fun q => nomatch q)
theorem key_rl (a : Str) (b : Int) : decide ((Sum.inr a : Key) = Sum.inl b) = false := decide_eq_false (fun q => nomatch q)

def mixKind (prog : Program) (w : World) : PySem.KeyKind prog w Key where
  is := keyIs
  hash := keyH w
  inj := fun v a b ha hb => by
    rcases keyIs_shape ha with ⟨i, t, rfl, rfl⟩ | ⟨x, t, rfl, rfl⟩
    · rcases keyIs_shape hb with ⟨j, u, rfl, e⟩ | ⟨y, u, rfl, e⟩
      · injection e with e1 _; rw [e1]
      · exact nomatch e
    · rcases keyIs_shape hb with ⟨j, u, rfl, e⟩ | ⟨y, u, rfl, e⟩
      · exact nomatch e
      · injection e with e1 _; rw [e1]
  byValue := fun k v h => by
    rcases keyIs_shape h with ⟨i, t, rfl, rfl⟩ | ⟨x, t, rfl, rfl⟩ <;> rfl
  pyHash := fun hv h => by
    rcases keyIs_shape hv with ⟨i, t, rfl, rfl⟩ | ⟨x, t, rfl, rfl⟩
    · exact wpAny_pyHash_int h
    · exact wpAny_pyHash_str h
  eqBool := fun hu hv h => by
    rcases keyIs_shape hu with ⟨i, t, rfl, rfl⟩ | ⟨x, t, rfl, rfl⟩
    · rcases keyIs_shape hv with ⟨j, u, rfl, rfl⟩ | ⟨y, u, rfl, rfl⟩
      · rw [key_ll] at h; exact wpAny_eqBool_int h
      · rw [key_lr] at h; exact SeqAt.EqAt.int_str i t y u _ _ _ _ h
    · rcases keyIs_shape hv with ⟨j, u, rfl, rfl⟩ | ⟨y, u, rfl, rfl⟩
      · rw [key_rl] at h; exact SeqAt.EqAt.str_int x t j u _ _ _ _ h
      · rw [key_rr] at h; exact wpAny_eqBool_str h
  «strs» := fun k x t v h => by
    rcases keyIs_shape h with ⟨i, u, rfl, e⟩ | ⟨y, u, rfl, e⟩
    · exact nomatch e
    · injection e with e1 _
      subst e1
      cases v <;> rfl

end L2

namespace L2
open PySem PySem.Spec PyProof.Rows

/-- a value, without the heap -/
inductive V where
  | non | bl (b : Bool) | int (i : Int) | str (x : Str) | byt (b : Array UInt8) | flt (b : UInt64) | ref (a : Addr) | ty (n : String)
  deriving DecidableEq

def RelV : V → Value → Prop
  | .non, u => u = Value.none
  | .bl b, u => u = Value.bool b
  | .int i, u => ∃ t, u = Value.int i t
  | .str x, u => ∃ t, u = Value.str x t
  | .byt b, u => ∃ t, u = Value.bytes b t
  | .flt b, u => ∃ t, u = Value.float b t
  | .ref a, u => u = Value.ref a
  | .ty n, u => u = Value.type n

abbrev Vals : List V → List Value → Prop := Paired RelV
theorem Vals.length {xs : List V} {us : List Value} (r : Vals xs us) : xs.length = us.length := Paired.length r
theorem Vals.get : ∀ {xs : List V} {us : List Value} {i : Nat} {x : V}, Vals xs us → xs[i]? = some x → ∃ u, us[i]? = some u ∧ RelV x u
  | _, _, _, _, .nil, e => by simp at e
  | _, _, 0, _, .cons r _, e => by simp at e; subst e; exact ⟨_, rfl, r⟩
  | _, _, i + 1, x, .cons _ t, e => by
    obtain ⟨u, h1, h2⟩ := Vals.get (i := i) (x := x) t (by simpa using e)
    exact ⟨u, by simpa using h1, h2⟩
theorem Vals.set {x : V} {u : Value} (r : RelV x u) : ∀ {xs : List V} {us : List Value} (i : Nat), Vals xs us → Vals (xs.set i x) (us.set i u)
  | _, _, _, .nil => .nil
  | _, _, 0, .cons _ t => .cons r t
  | _, _, i + 1, .cons q t => .cons q (Vals.set r i t)
theorem Vals.append : ∀ {xs ys : List V} {us ws : List Value}, Vals xs us → Vals ys ws → Vals (xs ++ ys) (us ++ ws)
  | _, _, _, _, .nil, s => s
  | _, _, _, _, .cons r t, s => .cons r (Vals.append t s)
theorem Vals.take : ∀ {xs : List V} {us : List Value} (n : Nat), Vals xs us → Vals (xs.take n) (us.take n)
  | _, _, 0, _ => .nil
  | _, _, _ + 1, .nil => .nil
  | _, _, n + 1, .cons r t => .cons r (Vals.take n t)
theorem Vals.drop : ∀ {xs : List V} {us : List Value} (n : Nat), Vals xs us → Vals (xs.drop n) (us.drop n)
  | _, _, 0, r => r
  | _, _, _ + 1, .nil => .nil
  | _, _, n + 1, .cons _ t => Vals.drop n t
theorem Vals.none_of : ∀ {xs : List V} {us : List Value} {i : Nat}, Vals xs us → xs[i]? = none → us[i]? = none := fun {xs us i} r e => by
  have h1 := r.length
  have h2 : xs.length ≤ i := List.getElem?_eq_none_iff.mp e
  exact List.getElem?_eq_none_iff.mpr (by omega)

def RelO : Option V → Option Value → Prop
  | some v, some u => RelV v u
  | none, none => True
  | _, _ => False
def KV {κ : Type} : List (κ × V) → List (κ × Value) → Prop := Paired fun (p : κ × V) (q : κ × Value) => p.1 = q.1 ∧ RelV p.2 q.2

/-- a key of a dict (00_mix): an int or a text -/
def kV : Key → V
  | .inl i => .int i
  | .inr x => .str x

/-- what stands at a tracked address -/
inductive HO where
  /-- a list -/
  | lst (xs : List V)
  /-- a tuple (never changes) -/
  | tup (xs : List V)
  /-- a dict whose keys are ints and texts; one whose keys are tuples of ints and texts (the empty one is both) -/
  | dK (kvs : List (Key × V)) | dT (kvs : List (List Key × V))
  /-- a set of ints: its members, its size -/
  | set (S : Int → Bool) (n : Nat)
  /-- an instance of the class at C, its dict at dx, its attributes -/
  | ins (C dx : Addr) (fs : List (Str × V))
  /-- the dict of the instance at x -/
  | own (x : Addr)
  /-- the dict of an exception -/
  | xd (fs : List (Str × V))
  /-- a bound method, f of x -/
  | met (f x : Addr)
  /-- a range object lo, lo + 1, .. below hi -/
  | rng (lo hi : Int)
  /-- a thing that is known to the object (the script; a dict while a loop walks it): read, never written while it is so -/
  | frz (o : Obj) (u : HO)
  /-- a code object's table -/
  | tbl (ps : Array Value)
  /-- any other thing, by what is true of its one object (a def of one's own: SetO a S n := HO.ext fun h => ..) -/
  | ext (φ : Heap → Prop)

abbrev Hp := Addr → Option HO
def upd (H : Hp) (a : Addr) (o : HO) : Hp := fun b => if b = a then some o else H b
theorem upd_same {H : Hp} {a : Addr} {o : HO} : upd H a o a = some o := by unfold upd; rw [if_pos rfl]
theorem upd_ne {H : Hp} {a b : Addr} {o : HO} (h : b ≠ a) : upd H a o b = H b := by unfold upd; rw [if_neg h]
theorem upd_upd {H : Hp} {a : Addr} {o u : HO} : upd (upd H a o) a u = upd H a u := by
  funext b; unfold upd; split <;> rfl
theorem ne_of_none {H : Hp} {a b : Addr} {o : HO} (h : H a = some o) (h' : H b = none) : a ≠ b := by
  intro e; subst e; rw [h] at h'; cases h'

section
variable (P : Program) (w : World)
def ObjOk (H : Hp) (h : Heap) (a : Addr) : HO → Prop
  | .lst xs => xs.length ≤ sizeLine ∧ ∃ (its : List Value) (n : Nat), Vals xs its ∧ h.get? a = some { cls := .type "list", data := .seq its.toArray n }
  | .tup xs => xs.length ≤ sizeLine ∧ ∃ its : List Value, Vals xs its ∧ IsTup h a its.toArray
  | .dK kvs => kvs.length ≤ sizeLine ∧ (a == sysModules) = false ∧ ∃ vs, KV kvs vs ∧ h.DictOf (mixKind P w) a vs
  | .dT kvs => kvs.length ≤ sizeLine ∧ (a == sysModules) = false ∧ ∃ xs : List (List Key × Addr × Value),
      Paired (fun (p : List Key × V) (q : List Key × Addr × Value) => p.1 = q.1 ∧ H q.2.1 = some (.tup (p.1.map kV)) ∧ RelV p.2 q.2.2) kvs xs ∧
      ∃ o es ep, h.get? a = some o ∧ o.ExactDict ∧ o.data = .dict es ep ∧ es.toList = xs.map (entryOfKey (tupleKind (mixKind P w))) ∧ (xs.map (·.1)).Nodup
  | .set S n => h.SetOf (intKind P w) a S n
  | .ins C dx fs => H dx = some (.own a) ∧ fs.length ≤ 1000 ∧ dx ≠ a ∧ h.get? a = some (PySem.W.instObj C dx) ∧
      ∃ mA, h.Ns1 dx mA ∧ (∀ f, RelO (fs.lookup f) (mA f)) ∧ PySem.Within mA (fs.map (·.1))
  | .own _ => ∃ o, h.get? a = some o
  | .xd fs => ∃ mA, h.Ns1 a mA ∧ ∀ f, RelO (fs.lookup f) (mA f)
  | .rng lo hi => ∃ t u v, h.get? a = some { cls := .type "range", data := .fields #[.int lo t, .int hi u, .int 1 v] }
  | .frz o u => h.get? a = some o ∧ ObjOk H h a u
  | .tbl ps => h.get? a = some { cls := .none, data := .fields ps }
  | .met f x => h.get? a = some (PySem.W.methodObj (.ref f) (.ref x))
  | .ext φ => φ h ∧ (∃ o, h.get? a = some o) ∧ ∀ h1 h2 : Heap, φ h1 → (∀ o, h1.get? a = some o → h2.get? a = some o) → φ h2
/-- the abstract heap is held -/
def HOk (H : Hp) (h : Heap) : Prop := ∀ a o, H a = some o → ObjOk P w H h a o
end

section
variable {P : Program} {w : World} {H H' : Hp} {h h' : Heap} {a : Addr} {o : HO}
theorem ObjOk.lt (x : ObjOk P w H h a o) : a < h.objs.size := by
  cases o with
  | lst xs => obtain ⟨_, _, _, _, e⟩ := x; exact Heap.lt_size e
  | tup xs => obtain ⟨_, _, _, p⟩ := x; exact p.lt
  | dK kvs => obtain ⟨_, _, _, _, o, _, _, e, _⟩ := x; exact Heap.lt_size e
  | dT kvs => obtain ⟨_, _, _, _, o, _, _, e, _⟩ := x; exact Heap.lt_size e
  | set S n => obtain ⟨o, _, _, _, e, _⟩ := x; exact Heap.lt_size e
  | ins C dx fs => obtain ⟨_, _, _, e, _⟩ := x; exact Heap.lt_size e
  | own y => obtain ⟨_, e⟩ := x; exact Heap.lt_size e
  | xd fs => obtain ⟨_, ⟨_, _, _, e, _⟩, _⟩ := x; exact Heap.lt_size e
  | rng lo hi => obtain ⟨_, _, _, e⟩ := x; exact Heap.lt_size e
  | frz ob u => obtain ⟨e, _⟩ := x; exact Heap.lt_size e
  | tbl ps => exact Heap.lt_size (show h.get? a = some _ from x)
  | met f y => exact Heap.lt_size (show h.get? a = some _ from x)
  | ext φ => obtain ⟨_, ⟨_, e⟩, _⟩ := x; exact Heap.lt_size e
theorem Paired.mapP {α β : Type} {F G : α → β → Prop} : ∀ {l₁ : List α} {l₂ : List β}, Paired F l₁ l₂ → (∀ a b, F a b → G a b) → Paired G l₁ l₂
  | _, _, .nil, _ => .nil
  | _, _, .cons r t, f => .cons (f _ _ r) (Paired.mapP t f)
/-- what an object's description leans on: its own object, its own dict, the tuples -/
theorem ObjOk.stay (x : ObjOk P w H h a o) (k : ∀ b u, (b = a ∨ H b = some (.own a)) → h.get? b = some u → h'.get? b = some u)
    (ho : ∀ b, H b = some (.own a) → H' b = some (.own a)) (ht : ∀ b xs, H b = some (.tup xs) → H' b = some (.tup xs)) : ObjOk P w H' h' a o := by
  induction o with
  | lst xs => obtain ⟨z, its, n, r, e⟩ := x; exact ⟨z, its, n, r, k _ _ (.inl rfl) e⟩
  | tup xs => obtain ⟨z, its, r, ob, e, c⟩ := x; exact ⟨z, its, r, ob, k _ _ (.inl rfl) e, c⟩
  | dK kvs => obtain ⟨z, y, vs, r, ob, es, ep, e, c⟩ := x; exact ⟨z, y, vs, r, ob, es, ep, k _ _ (.inl rfl) e, c⟩
  | dT kvs =>
    obtain ⟨z, y, xs, r, ob, es, ep, e, c⟩ := x
    exact ⟨z, y, xs, Paired.mapP r fun p q z => ⟨z.1, ht _ _ z.2.1, z.2.2⟩, ob, es, ep, k _ _ (.inl rfl) e, c⟩
  | set S n => obtain ⟨ob, es, ep, t, e, c⟩ := x; exact ⟨ob, es, ep, t, k _ _ (.inl rfl) e, c⟩
  | ins C dx fs =>
    obtain ⟨d, z, ne, e, mA, ⟨od, es, ep, e2, c⟩, r⟩ := x
    exact ⟨ho _ d, z, ne, k _ _ (.inl rfl) e, mA, ⟨od, es, ep, k _ _ (.inr d) e2, c⟩, r⟩
  | own y => obtain ⟨ob, e⟩ := x; exact ⟨ob, k _ _ (.inl rfl) e⟩
  | xd fs => obtain ⟨mA, ⟨od, es, ep, e, c⟩, r⟩ := x; exact ⟨mA, ⟨od, es, ep, k _ _ (.inl rfl) e, c⟩, r⟩
  | rng lo hi => obtain ⟨t, u, v, e⟩ := x; exact ⟨t, u, v, k _ _ (.inl rfl) e⟩
  | frz ob u ih => obtain ⟨e, q⟩ := x; exact ⟨k _ _ (.inl rfl) e, ih q⟩
  | tbl ps =>
    have e : h.get? a = some { cls := .none, data := .fields ps } := x
    show h'.get? a = some { cls := .none, data := .fields ps }
    exact k a _ (.inl rfl) e
  | met f y =>
    have e : h.get? a = some (PySem.W.methodObj (.ref f) (.ref y)) := x
    show h'.get? a = some (PySem.W.methodObj (.ref f) (.ref y))
    exact k a _ (.inl rfl) e
  | ext φ => obtain ⟨p, ⟨o, e⟩, st⟩ := x; exact ⟨st _ _ p fun o q => k _ _ (.inl rfl) q, ⟨o, k _ _ (.inl rfl) e⟩, st⟩
theorem HOk.lt (x : HOk P w H h) (e : H a = some o) : a < h.objs.size := (x a o e).lt
theorem HOk.fresh (x : HOk P w H h) (e : h.objs.size ≤ a) : H a = none := by
  cases q : H a with
  | none => rfl
  | some u => exact absurd (Nat.lt_of_lt_of_le (x.lt q) e) (Nat.lt_irrefl _)
/-- every object of the heap is kept -/
theorem HOk.kept (x : HOk P w H h) (k : ∀ b u, h.get? b = some u → h'.get? b = some u) : HOk P w H h' := fun a o e =>
  (x a o e).stay (fun b u _ q => k b u q) (fun _ q => q) fun _ _ q => q
/-- a new object is laid and tracked -/
theorem HOk.laid (x : HOk P w H h) (k : ∀ b u, h.get? b = some u → h'.get? b = some u) (hp : h.objs.size ≤ a) (new : ObjOk P w (upd H a o) h' a o) : HOk P w (upd H a o) h' := fun b u e => by
  have hn := x.fresh hp
  by_cases hb : b = a
  · subst hb; rw [upd_same] at e; cases e; exact new
  · rw [upd_ne hb] at e
    exact (x b u e).stay (fun c v _ q => k c v q) (fun c q => by rw [upd_ne (ne_of_none q hn)]; exact q) fun c xs q => by rw [upd_ne (ne_of_none q hn)]; exact q
end

/-- what may be read as u: it is u, or a known u -/
def Rd (H : Hp) (a : Addr) (u : HO) : Prop := H a = some u ∨ ∃ o, H a = some (.frz o u)
theorem Rd.ok {P : Program} {w : World} {H : Hp} {h : Heap} {a : Addr} {u : HO} (r : Rd H a u) (x : HOk P w H h) : ObjOk P w H h a u := by
  rcases r with r | ⟨o, r⟩
  · exact x a u r
  · obtain ⟨_, q⟩ := x a _ r
    exact q
/-- what may be written -/
def Mut : Option HO → Prop
  | some (.lst _) => True
  | some (.dK _) => True
  | some (.dT _) => True
  | some (.set _ _) => True
  | some (.ins _ _ _) => True
  | some (.ext _) => True
  | _ => False
section
variable {P : Program} {w : World} {H : Hp} {h h' : Heap} {x e : Addr} {o' : HO}
/-- the object at e is changed: x itself, or the dict of the instance x -/
theorem HOk.write (ok : HOk P w H h) (mu : Mut (H x)) (he : e = x ∨ H e = some (.own x)) (k : ∀ b u, b ≠ e → h.get? b = some u → h'.get? b = some u) (heo : ∃ u, h'.get? e = some u)
    (new : ObjOk P w (upd H x o') h' x o') : HOk P w (upd H x o') h' := fun b u q => by
  have nown : ∀ c y, H c = some (.own y) → c ≠ x := fun c y r z => by subst z; rw [r] at mu; exact mu
  have ntup : ∀ c xs, H c = some (.tup xs) → c ≠ x := fun c xs r z => by subst z; rw [r] at mu; exact mu
  by_cases hb : b = x
  · subst hb; rw [upd_same] at q; cases q; exact new
  · rw [upd_ne hb] at q
    by_cases hbe : b = e
    · have q' : H b = some (.own x) := by
        rcases he with z | z
        · exact absurd (hbe.trans z) hb
        · rw [hbe]; exact z
      rw [q] at q'; cases q'
      obtain ⟨v, hv⟩ := heo
      exact ⟨v, by rw [hbe]; exact hv⟩
    · refine (ok b u q).stay (fun c v hc r => k c v ?_ r) (fun c r => by rw [upd_ne (nown c b r)]; exact r) fun c xs r => by rw [upd_ne (ntup c xs r)]; exact r
      rcases hc with rfl | hc
      · exact hbe
      · rintro rfl
        rcases he with z | z
        · exact nown c b hc z
        · rw [hc] at z; cases z; exact hb rfl
end

/-! ### kept unless tracked; of the frames at fs (the callers') the slots may change (an exception that passes writes there); of the records at ex (iterators) nothing is said -/
structure Un (fs ex : List Addr) (H H' : Hp) (h h' : Heap) : Prop where
  keep : ∀ b o, h.get? b = some o → H b = none → b ∉ fs → b ∉ ex → h'.get? b = some o
  slot : ∀ b o, h.get? b = some o → H b = none → b ∈ fs → b ∉ ex → ∃ sl, h'.get? b = some { o with slots := sl }
  free : ∀ b o, h.get? b = some o → H b = none → b ∉ ex → H' b = none
  there : ∀ b o, h.get? b = some o → b ∉ ex → ∃ o', h'.get? b = some o'
  tups : ∀ b xs, H b = some (.tup xs) → H' b = some (.tup xs)
  frzs : ∀ b o u, H b = some (.frz o u) → H' b = some (.frz o u)
  tbls : ∀ b ps, H b = some (.tbl ps) → ∃ more, H' b = some (.tbl (ps ++ more))
section
variable {fs fs' ex ex' : List Addr} {H H1 H2 : Hp} {h h1 h2 h' : Heap} {a x e : Addr} {o : HO}
theorem Un.any (u : Un fs ex H H1 h h1) {b : Addr} {ob : Obj} (q : h.get? b = some ob) (n : H b = none) (hx : b ∉ ex) : ∃ sl, h1.get? b = some { ob with slots := sl } := by
  by_cases hb : b ∈ fs
  · exact u.slot b ob q n hb hx
  · exact ⟨ob.slots, u.keep b ob q n hb hx⟩
theorem Un.kept (k : ∀ b u, h.get? b = some u → h'.get? b = some u) : Un fs ex H H h h' :=
  ⟨fun b ob q _ _ _ => k b ob q, fun b ob q _ _ _ => ⟨ob.slots, k b ob q⟩, fun _ _ _ n _ => n, fun b ob q _ => ⟨ob, k b ob q⟩, fun _ _ q => q, fun _ _ _ q => q, fun _ ps q => ⟨#[], by rw [q]; simp⟩⟩
theorem Un.refl : Un fs ex H H h h := Un.kept fun _ _ q => q
theorem Un.laid (k : ∀ b u, h.get? b = some u → h'.get? b = some u) (hp : h.objs.size ≤ a) (hn : H a = none) : Un fs ex H (upd H a o) h h' where
  keep := fun b u q _ _ _ => k b u q
  slot := fun b u q _ _ _ => ⟨u.slots, k b u q⟩
  free := fun b u q n _ => by rw [upd_ne (Nat.ne_of_lt (Nat.lt_of_lt_of_le (Heap.lt_size q) hp))]; exact n
  there := fun b u q _ => ⟨u, k b u q⟩
  tups := fun b xs q => by rw [upd_ne (ne_of_none q hn)]; exact q
  frzs := fun b u xs q => by rw [upd_ne (ne_of_none q hn)]; exact q
  tbls := fun b ps q => ⟨#[], by rw [upd_ne (ne_of_none q hn), q]; simp⟩
theorem Un.write (mu : Mut (H x)) (he : e = x ∨ H e = some (.own x)) (k : ∀ b u, b ≠ e → h.get? b = some u → h'.get? b = some u) (heo : ∃ u, h'.get? e = some u) : Un fs ex H (upd H x o) h h' := by
  have hx : ∀ b, H b = none → b ≠ x := fun b n z => by subst z; rw [n] at mu; exact mu
  have hb : ∀ b, H b = none → b ≠ e := fun b n z => by
    subst z
    rcases he with r | r
    · exact hx b n r
    · rw [n] at r; cases r
  have hm : ∀ b u, H b = some u → ¬ Mut (some u) → b ≠ x := fun b u q nm z => by subst z; rw [q] at mu; exact nm mu
  refine ⟨fun b u q n _ _ => k b u (hb b n) q, fun b u q n _ _ => ⟨u.slots, k b u (hb b n) q⟩, fun b u q n _ => by rw [upd_ne (hx b n)]; exact n, fun b u q _ => ?_,
    fun b xs q => by rw [upd_ne (hm b _ q fun z => z)]; exact q, fun b u xs q => by rw [upd_ne (hm b _ q fun z => z)]; exact q, fun b ps q => ⟨#[], by rw [upd_ne (hm b _ q fun z => z), q]; simp⟩⟩
  by_cases hbe : b = e
  · subst hbe; exact heo
  · exact ⟨u, k b u hbe q⟩
end

/-! ### the heap without what is tracked -/
def trk (h : Heap) (H : Hp) : List Addr := (List.range h.objs.size).filter fun a => (H a).isSome
def hidT (h : Heap) (H : Hp) : Heap := PySem.W.hideAll h (trk h H)
theorem hidT_size (h : Heap) (H : Hp) : (hidT h H).objs.size = h.objs.size := PySem.W.hideAll_size _ _
theorem hidT_get {h : Heap} {H : Hp} {b : Addr} {o : Obj} (e : h.get? b = some o) (n : H b = none) : (hidT h H).get? b = some o :=
  PySem.W.hideAll_get _ e fun hm => by
    have q : (H b).isSome = true := (List.mem_filter.mp hm).2
    rw [n] at q; simp at q
theorem of_hidT {h : Heap} {H : Hp} {b : Addr} {o : Obj} (e : (hidT h H).get? b = some o) : h.get? b = some o ∧ H b = none := by
  have e' : h.get? b = some o := PySem.W.of_hideAll (trk h H) e
  refine ⟨e', ?_⟩
  cases q : H b with
  | none => rfl
  | some x =>
    have hm : b ∈ trk h H := List.mem_filter.mpr ⟨List.mem_range.mpr (Heap.lt_size e'), by simp [q]⟩
    have z : (hidT h H).get? b = none := PySem.W.hideAll_none (trk h H) hm
    rw [z] at e; cases e

/-! ### OpenK's ledger, filled with every new object but one -/
end L2

namespace L2
open PySem PySem.Spec PyProof.Rows

/-- the module's facts, over the base: the heap at the law's entry without what is tracked there -/
structure Mod (K : PySem.W.Frag) (mg : Str → Option Value) (base : Heap) : Prop where
  kin : K.In base
  glob : base.Ns mainGlobals mg
  blt : ∃ mb, base.Ns builtinsNs mb ∧ ∀ x : Str, x ≠ "__name__" → mb x = bootBuiltins x
  nolimit : base.NoLimit

/-- the context: a def's body (or a comprehension's block) running. base: fixed through the whole law; s₀, H₀: the entry; outer: the frames whose slots others may change (a def's callers); stack: all frames that run;
   ex: iterators that were made ahead of the entry and are walked here (a comprehension's); fn: the names whose cells were made at the entry (a def: all; a comprehension's block: its own); calm: not within an except suite; pn: pins that every state bears; xe: what is wanted of an exception that leaves the code -/
structure Cx where
  prog : Program
  w : World
  K : PySem.W.Frag
  mg : Str → Option Value
  base : Heap
  A : Around
  N : List Str
  s₀ : Shared
  H₀ : Hp
  env : Env
  outer : List Env
  stack : List Env
  ex : List Addr
  fn : Str → Bool
  calm : Bool
  pn : List (Addr × Obj)
  xe : Value → Shared → Prop
/-- the callers' frames -/
def frs (l : List Env) : List Addr := l.filterMap (·.frame)
abbrev Cx.fs (X : Cx) : List Addr := frs X.outer

def Vis (sc : Scope) (x : Str) : Prop := sc.names.lookup x = some .local ∨ sc.names.lookup x = some .cell ∨ sc.names.lookup x = some .free
def Loc (sc : Scope) (x : Str) : Prop := sc.names.lookup x = some .local ∨ sc.names.lookup x = some .cell
def Look (env : Env) (h : Heap) (m : Str → Option Value) (x : Str) (u : Value) : Prop :=
  (env.kindOf x = some .local ∧ m x = some u) ∨ ((env.kindOf x = some .cell ∨ env.kindOf x = some .free) ∧ ∃ c, env.cells.lookup x = some c ∧ h.IsCell c (some u))

structure Cx.Ok (X : Cx) : Prop where
  mod : Mod X.K X.mg X.base
  kind : X.env.scope.kind = .function
  glob : X.env.globals = mainGlobals
  blt : X.env.builtins = builtinsNs
  above : X.s₀.heap.objs.size ≤ X.env.locals
  inj : ∀ x y c, X.env.cells.lookup x = some c → X.env.cells.lookup y = some c → x = y
  has : ∀ x, (X.env.kindOf x = some .cell ∨ X.env.kindOf x = some .free) → ∃ c, X.env.cells.lookup x = some c
  cab : ∀ x c, X.fn x = true → X.env.cells.lookup x = some c → X.s₀.heap.objs.size ≤ c
  hd : X.calm = true → X.A.handled = none
  frames : X.A.frames = some X.stack
  stk : X.stack = X.outer ∨ (X.stack = X.env :: X.outer ∧ X.env.frame = some X.env.locals)
  exf : ∀ b ∈ X.ex, b ≠ X.env.locals ∧ ∀ x c, X.env.cells.lookup x = some c → c ≠ b
  bs : ∀ b o, X.base.get? b = some o → X.s₀.heap.get? b = some o ∧ X.H₀ b = none
  bsz : X.base.objs.size ≤ X.s₀.heap.objs.size
  noex : ∀ b o, X.base.get? b = some o → b ∉ X.ex
  exfs : ∀ b ∈ X.ex, b ∉ X.fs
  funs : X.s₀.heap.FunFrames X.base X.outer
  frf : ∀ b ∈ X.fs, X.H₀ b = none

structure Inv (X : Cx) (pins : List (Addr × Obj)) (σ : List (Option V)) (H : Hp) (s : Shared) : Prop where
  ok : X.Ok
  os : s.os = X.s₀.os
  bare : AllBare s.gens
  base : Un X.fs X.ex X.H₀ H X.s₀.heap s.heap
  loc : ∃ m, s.heap.Ns X.env.locals m ∧ ∀ (i : Nat) (x : Str) (v : V), X.N[i]? = some x → σ[i]? = some (some v) → Vis X.env.scope x → ∃ u, RelV v u ∧ Look X.env s.heap m x u
  cell : ∀ x c, X.env.cells.lookup x = some c → ∃ v, s.heap.IsCell c v
  free : H X.env.locals = none
  freeC : ∀ x c, X.env.cells.lookup x = some c → H c = none
  pin : ∀ p ∈ X.pn ++ pins, s.heap.get? p.1 = some p.2 ∧ H p.1 = none ∧ p.1 ≠ X.env.locals ∧ p.1 ∉ X.fs ∧ ∀ v, p.2.data ≠ .cell v
  hok : HOk X.prog X.w H s.heap
  len : σ.length = X.N.length

section
variable {X : Cx} {pins : List (Addr × Obj)} {σ : List (Option V)} {H H' : Hp} {s : Shared} {h' : Heap}

theorem Cx.Ok.nofr (ok : X.Ok) {b : Addr} {o : Obj} (e : X.base.get? b = some o) : b ∉ X.fs := fun hb => by
  have := (ok.funs.mem hb).1
  rw [e] at this; cases this
theorem Inv.bs (I : Inv X pins σ H s) : ∀ b o, X.base.get? b = some o → s.heap.get? b = some o ∧ H b = none := fun b o e =>
  ⟨I.base.keep b o (I.ok.bs b o e).1 (I.ok.bs b o e).2 (I.ok.nofr e) (I.ok.noex b o e), I.base.free b o (I.ok.bs b o e).1 (I.ok.bs b o e).2 (I.ok.noex b o e)⟩
theorem Inv.bk (I : Inv X pins σ H s) : ∀ b o, X.base.get? b = some o → s.heap.get? b = some o := fun b o e => (I.bs b o e).1
theorem Inv.mod (I : Inv X pins σ H s) : Mod X.K X.mg X.base := I.ok.mod
theorem Inv.kIn (I : Inv X pins σ H s) : X.K.In s.heap := I.ok.mod.kin.keeps I.bk
theorem Inv.lt (I : Inv X pins σ H s) : X.env.locals < s.heap.objs.size := let ⟨_, hn, _⟩ := I.loc; hn.lt
theorem Inv.sz (I : Inv X pins σ H s) : X.s₀.heap.objs.size ≤ s.heap.objs.size := Nat.le_trans I.ok.above (Nat.le_of_lt I.lt)
theorem Inv.nofs (I : Inv X pins σ H s) {a : Addr} (h : s.heap.objs.size ≤ a) : a ∉ X.fs := fun hb => by
  obtain ⟨_, o, ho, _⟩ := I.ok.funs.mem hb
  exact absurd (Nat.lt_of_lt_of_le (Heap.lt_size ho) (Nat.le_trans I.sz h)) (Nat.lt_irrefl _)
theorem Inv.cne (I : Inv X pins σ H s) : ∀ x c, X.env.cells.lookup x = some c → c ≠ X.env.locals := fun x c e z => by
  obtain ⟨v, o, ho, hd⟩ := I.cell x c e
  obtain ⟨m, ⟨o', es, ep, ho', hd', _⟩, _⟩ := I.loc
  rw [z, ho'] at ho; cases ho; rw [hd'] at hd; cases hd
theorem Inv.funs (I : Inv X pins σ H s) : s.heap.FunFrames X.base X.outer := by
  have all : ∀ (l : List Env), (∀ b ∈ frs l, b ∈ X.fs) → X.s₀.heap.FunFrames X.base l → s.heap.FunFrames X.base l := by
    intro l
    induction l with
    | nil => intro _ _; trivial
    | cons env r ih =>
      intro hs hl
      obtain ⟨hk, ⟨L, o, hf, hn, ho, hd⟩, hr⟩ := hl
      have hL : L ∈ X.fs := hs L (by unfold frs; rw [List.filterMap_cons, hf]; exact List.mem_cons_self)
      obtain ⟨sl, e⟩ := I.base.slot L o ho (I.ok.frf L hL) hL fun z => I.ok.exfs L z hL
      exact ⟨hk, ⟨L, _, hf, hn, e, hd⟩, ih (fun b hb => hs b (by unfold frs; rw [List.filterMap_cons, hf]; exact List.mem_cons_of_mem _ hb)) hr⟩
  exact all X.outer (fun _ hb => hb) I.ok.funs

/-- the frames that run, for a call -/
theorem Inv.stack (I : Inv X pins σ H s) : s.heap.FunFrames X.base X.stack := by
  rcases I.ok.stk with e | ⟨e, hf⟩
  · rw [e]; exact I.funs
  · rw [e]
    obtain ⟨m, hn, _⟩ := I.loc
    refine .cons (by rw [I.ok.kind]; decide) hf hn ?_ I.funs
    exact Heap.get?_none_of_le (Nat.le_trans I.ok.bsz I.ok.above)
theorem Inv.stkSub (I : Inv X pins σ H s) : ∀ b ∈ frs X.stack, b ∈ X.env.locals :: X.fs := fun b hb => by
  rcases I.ok.stk with e | ⟨e, hf⟩
  · rw [e] at hb; exact List.mem_cons_of_mem _ hb
  · rw [e] at hb
    unfold frs at hb
    rw [List.filterMap_cons, hf] at hb
    exact hb
theorem Inv.stkFree (I : Inv X pins σ H s) : ∀ b ∈ frs X.stack, H b = none := fun b hb => by
  rcases List.mem_cons.mp (I.stkSub b hb) with e | hb
  · rw [e]; exact I.free
  · obtain ⟨_, o, ho, _⟩ := I.ok.funs.mem hb
    exact I.base.free b o ho (I.ok.frf b hb) fun z => I.ok.exfs b z hb

/-- THE STEP: the untracked objects but the frame and the records at ch are kept (the callers' frames up to slots), the frame's map is kept, the new abstract heap is held -/
theorem Inv.step {g' : Array GenState} {t' : Nat} {d' : Drawn} {ch : List Addr} (I : Inv X pins σ H s)
    (hch : ∀ b ∈ ch, (b ∈ X.ex ∨ X.s₀.heap.objs.size ≤ b) ∧ b ≠ X.env.locals ∧ (∀ x c, X.env.cells.lookup x = some c → c ≠ b) ∧ ∀ p ∈ X.pn ++ pins, p.1 ≠ b)
    (keep : ∀ b o, b ≠ X.env.locals → b ∉ X.fs → b ∉ ch → s.heap.get? b = some o → H b = none → h'.get? b = some o)
    (slot : ∀ b o, b ≠ X.env.locals → b ∈ X.fs → b ∉ ch → s.heap.get? b = some o → H b = none → ∃ sl, h'.get? b = some { o with slots := sl }) (free : ∀ b o, b ∉ ch → s.heap.get? b = some o → H b = none → H' b = none)
    (there : ∀ b o, b ∉ ch → s.heap.get? b = some o → ∃ o', h'.get? b = some o')
    (tups : ∀ b xs, H b = some (.tup xs) → H' b = some (.tup xs)) (frzs : ∀ b o u, H b = some (.frz o u) → H' b = some (.frz o u)) (tbls : ∀ b ps, H b = some (.tbl ps) → ∃ more, H' b = some (.tbl (ps ++ more)))
    (ns : ∀ m, s.heap.Ns X.env.locals m → h'.Ns X.env.locals m) (hok : HOk X.prog X.w H' h') (hg : AllBare g') :
    Inv X pins σ H' { s with heap := h', gens := g', drawn := d', toks := t' } := by
  have neL : ∀ b o, X.s₀.heap.get? b = some o → b ≠ X.env.locals := fun b o e => Nat.ne_of_lt (Nat.lt_of_lt_of_le (Heap.lt_size e) I.ok.above)
  have neC : ∀ b o, X.s₀.heap.get? b = some o → b ∉ X.ex → b ∉ ch := fun b o e hx hb => by
    rcases (hch b hb).1 with z | z
    · exact hx z
    · exact absurd (Nat.lt_of_lt_of_le (Heap.lt_size e) z) (Nat.lt_irrefl _)
  have cellK : ∀ x c, X.env.cells.lookup x = some c → ∀ v, s.heap.IsCell c v → h'.IsCell c v := fun x c e v ⟨o, ho, hd⟩ => by
    have nch : c ∉ ch := fun z => (hch c z).2.2.1 x c e rfl
    by_cases hc : c ∈ X.fs
    · obtain ⟨sl, q⟩ := slot c o (I.cne x c e) hc nch ho (I.freeC x c e)
      exact ⟨_, q, hd⟩
    · exact ⟨o, keep c o (I.cne x c e) hc nch ho (I.freeC x c e), hd⟩
  refine ⟨I.ok, I.os, hg, ⟨fun b o e n hb hx => ?_, fun b o e n hb hx => ?_, fun b o e n hx => ?_, fun b o e hx => ?_, fun b xs e => tups b xs (I.base.tups b xs e), fun b o xs e => frzs b o xs (I.base.frzs b o xs e), fun b ps e => ?_⟩, ?_, fun x c e => ?_, ?_, fun x c e => ?_, fun p hp => ?_, hok, I.len⟩
  · exact keep b o (neL b o e) hb (neC b o e hx) (I.base.keep b o e n hb hx) (I.base.free b o e n hx)
  · obtain ⟨sl, e1⟩ := I.base.slot b o e n hb hx
    obtain ⟨sl', e2⟩ := slot b _ (neL b o e) hb (neC b o e hx) e1 (I.base.free b o e n hx)
    exact ⟨sl', e2⟩
  · obtain ⟨o', e1⟩ := I.base.there b o e hx
    exact free b o' (neC b o e hx) e1 (I.base.free b o e n hx)
  · obtain ⟨o', e1⟩ := I.base.there b o e hx
    exact there b o' (neC b o e hx) e1
  · obtain ⟨m1, e1⟩ := I.base.tbls b ps e
    obtain ⟨m2, e2⟩ := tbls b _ e1
    exact ⟨m1 ++ m2, by rw [e2, Array.append_assoc]⟩
  · obtain ⟨m, hn, hl⟩ := I.loc
    refine ⟨m, ns m hn, fun i x v e1 e2 e3 => ?_⟩
    obtain ⟨u, r, l⟩ := hl i x v e1 e2 e3
    refine ⟨u, r, ?_⟩
    rcases l with l | ⟨k, c, e, z⟩
    · exact .inl l
    · exact .inr ⟨k, c, e, cellK x c e _ z⟩
  · obtain ⟨v, z⟩ := I.cell x c e
    exact ⟨v, cellK x c e v z⟩
  · obtain ⟨m, ⟨o, _, _, ho, _⟩, _⟩ := I.loc
    exact free _ o (fun z => (hch _ z).2.1 rfl) ho I.free
  · obtain ⟨v, o, ho, hd⟩ := I.cell x c e
    exact free c o (fun z => (hch c z).2.2.1 x c e rfl) ho (I.freeC x c e)
  · obtain ⟨e, n, ne, nf, d⟩ := I.pin p hp
    have nch : p.1 ∉ ch := fun z => (hch p.1 z).2.2.2 p hp rfl
    exact ⟨keep p.1 p.2 ne nf nch e n, free p.1 p.2 nch e n, ne, nf, d⟩
/-- .. where the frame's own object is kept too -/
theorem Inv.un {t' : Nat} (I : Inv X pins σ H s) (u : Un X.fs [] H H' s.heap h') (hok : HOk X.prog X.w H' h') : Inv X pins σ H' { s with heap := h', toks := t' } := by
  obtain ⟨m, ⟨o, es, ep, ho, r⟩, _⟩ := id I.loc
  obtain ⟨sl, hL⟩ := u.any ho I.free (by simp)
  exact I.step (g' := s.gens) (d' := s.drawn) (ch := []) (fun _ z => nomatch z) (fun b o _ hb _ e n => u.keep b o e n hb (by simp)) (fun b o _ hb _ e n => u.slot b o e n hb (by simp)) (fun b o _ e n => u.free b o e n (by simp)) (fun b o _ e => u.there b o e (by simp)) u.tups u.frzs u.tbls (fun m' hm => by
    obtain ⟨o', es', ep', ho', r'⟩ := hm
    rw [ho] at ho'; cases ho'
    exact ⟨_, es', ep', hL, r'⟩) hok I.bare
/-- behind a call (or a comprehension's block): the slots of this frame may have changed too, the records at ch may have turned -/
theorem Inv.call {g' : Array GenState} {t' : Nat} {d' : Drawn} {ch : List Addr} (I : Inv X pins σ H s) (u : Un (frs X.stack) ch H H' s.heap h') (hok : HOk X.prog X.w H' h') (hg : AllBare g')
    (hch : ∀ b ∈ ch, (b ∈ X.ex ∨ X.s₀.heap.objs.size ≤ b) ∧ b ≠ X.env.locals ∧ (∀ x c, X.env.cells.lookup x = some c → c ≠ b) ∧ ∀ p ∈ X.pn ++ pins, p.1 ≠ b) :
    Inv X pins σ H' { s with heap := h', gens := g', drawn := d', toks := t' } := by
  obtain ⟨m, ⟨o, es, ep, ho, r⟩, _⟩ := id I.loc
  obtain ⟨sl, hL⟩ := u.any ho I.free fun z => (hch _ z).2.1 rfl
  exact I.step (ch := ch) hch (fun b o hL hb hc e n => u.keep b o e n (fun z => (List.mem_cons.mp (I.stkSub b z)).elim hL hb) hc) (fun b o _ _ hc e n => u.any e n hc) (fun b o hc e n => u.free b o e n hc) (fun b o hc e => u.there b o e hc) u.tups u.frzs u.tbls (fun m' hm => by
    obtain ⟨o', es', ep', ho', r'⟩ := hm
    rw [ho] at ho'; cases ho'
    exact ⟨_, es', ep', hL, r'⟩) hok hg
/-- an untracked record of ours (an iterator) has turned -/
theorem Inv.turned {t' : Nat} {it : Addr} (I : Inv X pins σ H s) (k : ∀ b o, b ≠ it → s.heap.get? b = some o → h'.get? b = some o) (hn : H it = none) (hL : it ≠ X.env.locals)
    (h1 : it ∈ X.ex ∨ X.s₀.heap.objs.size ≤ it) (h2 : ∀ x c, X.env.cells.lookup x = some c → c ≠ it) (h3 : ∀ p ∈ X.pn ++ pins, p.1 ≠ it) : Inv X pins σ H { s with heap := h', toks := t' } := by
  have nit : ∀ b u, H b = some u → b ≠ it := fun b u e z => by rw [z, hn] at e; cases e
  refine I.step (g' := s.gens) (d' := s.drawn) (ch := [it]) (fun b hb => ?_) (fun b o _ _ hc e _ => k b o (fun z => hc (by simp [z])) e) (fun b o _ _ hc e _ => ⟨o.slots, k b o (fun z => hc (by simp [z])) e⟩) (fun _ _ _ _ n => n)
    (fun b o hc e => ⟨o, k b o (fun z => hc (by simp [z])) e⟩) (fun _ _ e => e) (fun _ _ _ e => e) (fun b ps e => ⟨#[], by rw [e]; simp⟩) (fun m hm => ?_) (fun b u e => ?_) I.bare
  · have e : b = it := by simpa using hb
    subst e
    exact ⟨h1, hL, h2, h3⟩
  · obtain ⟨o, es, ep, ho, r⟩ := hm
    exact ⟨o, es, ep, k _ o (Ne.symm hL) ho, r⟩
  · refine (I.hok b u e).stay (fun c v hc q => k c v ?_ q) (fun _ q => q) fun _ _ q => q
    rcases hc with z | z
    · rw [z]; exact nit b u e
    · exact nit c _ z
theorem Inv.tok (I : Inv X pins σ H s) (t : Nat) : Inv X pins σ H { s with toks := t } := I.un (h' := s.heap) (t' := t) Un.refl I.hok
/-- all objects kept -/
theorem Inv.kept {t' : Nat} (I : Inv X pins σ H s) (k : ∀ b u, s.heap.get? b = some u → h'.get? b = some u) : Inv X pins σ H { s with heap := h', toks := t' } := I.un (Un.kept k) (I.hok.kept k)
/-- a new object laid and tracked -/
theorem Inv.laid {a : Addr} {o : HO} {t' : Nat} (I : Inv X pins σ H s) (k : ∀ b u, s.heap.get? b = some u → h'.get? b = some u) (hp : s.heap.objs.size ≤ a) (new : ObjOk X.prog X.w (upd H a o) h' a o) :
    Inv X pins σ (upd H a o) { s with heap := h', toks := t' } := I.un (Un.laid k hp (I.hok.fresh hp)) (I.hok.laid k hp new)
/-- an object written -/
theorem Inv.write {x e : Addr} {o : HO} {t' : Nat} (I : Inv X pins σ H s) (mu : Mut (H x)) (he : e = x ∨ H e = some (.own x)) (k : ∀ b u, b ≠ e → s.heap.get? b = some u → h'.get? b = some u) (heo : ∃ u, h'.get? e = some u)
    (new : ObjOk X.prog X.w (upd H x o) h' x o) : Inv X pins σ (upd H x o) { s with heap := h', toks := t' } := I.un (Un.write mu he k heo) (I.hok.write mu he k heo new)
/-- forgetting slots, pins -/
theorem Inv.weak {σ' : List (Option V)} (I : Inv X pins σ H s) (hl : σ'.length = σ.length) (w : ∀ (i : Nat) v, σ'[i]? = some (some v) → σ[i]? = some (some v)) : Inv X pins σ' H s :=
  ⟨I.ok, I.os, I.bare, I.base, let ⟨m, hn, hl'⟩ := I.loc; ⟨m, hn, fun i x v e1 e2 e3 => hl' i x v e1 (w i v e2) e3⟩, I.cell, I.free, I.freeC, I.pin, I.hok, hl.trans I.len⟩
theorem Inv.pins_of {pins' : List (Addr × Obj)} (I : Inv X pins σ H s) (h : ∀ p ∈ pins', s.heap.get? p.1 = some p.2 ∧ H p.1 = none ∧ p.1 ≠ X.env.locals ∧ p.1 ∉ X.fs ∧ ∀ v, p.2.data ≠ .cell v) : Inv X pins' σ H s :=
  ⟨I.ok, I.os, I.bare, I.base, I.loc, I.cell, I.free, I.freeC, fun p hp => (List.mem_append.mp hp).elim (fun z => I.pin p (List.mem_append_left _ z)) (h p), I.hok, I.len⟩

theorem nodup_ix {N : List Str} (hN : N.Nodup) {i j : Nat} {x : Str} (a : N[i]? = some x) (b : N[j]? = some x) : i = j := by
  obtain ⟨h1, e1⟩ := List.getElem?_eq_some_iff.mp a
  obtain ⟨h2, e2⟩ := List.getElem?_eq_some_iff.mp b
  exact (List.getElem_inj hN).mp (e1.trans e2.symm)

/-- a name is stored; what changed -/
theorem store_ok2 {M : Model} {A : Around} {E : Value → Shared → Prop} {i : Nat} {x : Str} {v : V} {u : Value} {Q : Unit → Shared → Prop} (I : Inv X pins σ H s) (hN : X.N.Nodup) (hi : X.N[i]? = some x) (hx : Loc X.env.scope x) (r : RelV v u)
    (h : ∀ s', Inv X pins (σ.set i (some v)) H s' → (∃ a, Heap.SameBut a s.heap s'.heap ∧ (a = X.env.locals ∨ X.env.cells.lookup x = some a)) → Q () s') (hf : X.fn x = true ∨ X.env.scope.names.lookup x = some .local := by first | exact .inl rfl | exact .inr rfl | assumption) : wpAny M A (storeName X.env x u) Q E s := by
  obtain ⟨m, hn, hl⟩ := id I.loc
  have hcls : (X.env.scope.kind == .class || (X.env.scope.kind == .module && X.env.locals != X.env.globals)) = false := by rw [I.ok.kind]; rfl
  have hiσ : i < σ.length := by rw [I.len]; exact (List.getElem?_eq_some_iff.mp hi).1
  have cne := I.cne
  have tracked : ∀ {a : Addr} {h' : Heap}, (∃ o, s.heap.get? a = some o ∧ H a = none) → Heap.SameBut a s.heap h' → HOk X.prog X.w H h' := fun {a h'} ha hs b ob e => by
    obtain ⟨_, _, hfree⟩ := ha
    refine (I.hok b ob e).stay (fun c w' hc q => (hs.2 c ?_).trans q) (fun _ q => q) fun _ _ q => q
    rintro rfl
    rcases hc with rfl | hc
    · rw [hfree] at e; cases e
    · rw [hfree] at hc; cases hc
  rcases hx with hk | hk
  · refine wpAny_storeName_local hk hn (fun h' hn' hs => ?_) hcls
    obtain ⟨oL, _, _, hoL, _⟩ := id hn
    refine h _ ⟨I.ok, I.os, I.bare, ⟨fun b o e n hb hx => ?_, fun b o e n hb hx => ?_, I.base.free, fun b o e hx => ?_, I.base.tups, I.base.frzs, I.base.tbls⟩, ⟨_, hn', fun j y v' e1 e2 e3 => ?_⟩, fun y c e => ?_, I.free, I.freeC, fun p hp => ?_, tracked ⟨oL, hoL, I.free⟩ hs, by simpa using I.len⟩ ⟨_, hs, .inl rfl⟩
    · exact (hs.2 b (Nat.ne_of_lt (Nat.lt_of_lt_of_le (Heap.lt_size e) I.ok.above))).trans (I.base.keep b o e n hb hx)
    · obtain ⟨sl, e1⟩ := I.base.slot b o e n hb hx
      exact ⟨sl, (hs.2 b (Nat.ne_of_lt (Nat.lt_of_lt_of_le (Heap.lt_size e) I.ok.above))).trans e1⟩
    · obtain ⟨o', e1⟩ := I.base.there b o e hx
      exact ⟨o', (hs.2 b (Nat.ne_of_lt (Nat.lt_of_lt_of_le (Heap.lt_size e) I.ok.above))).trans e1⟩
    · by_cases hj : j = i
      · subst hj
        rw [hi] at e1; cases e1
        rw [List.getElem?_set_self hiσ] at e2
        cases e2
        exact ⟨u, r, .inl ⟨hk, by simp⟩⟩
      · rw [List.getElem?_set_ne (Ne.symm hj)] at e2
        obtain ⟨u', r', q⟩ := hl j y v' e1 e2 e3
        refine ⟨u', r', ?_⟩
        rcases q with ⟨k, e⟩ | ⟨k, c, e, z⟩
        · refine .inl ⟨k, ?_⟩
          have : y ≠ x := fun e => hj (nodup_ix hN e1 (e ▸ hi))
          simp [this, e]
        · exact .inr ⟨k, c, e, z.sameBut hs (cne y c e)⟩
    · obtain ⟨w', z⟩ := I.cell y c e
      exact ⟨w', z.sameBut hs (cne y c e)⟩
    · obtain ⟨e, n, ne, nf, d⟩ := I.pin p hp
      exact ⟨(hs.2 p.1 ne).trans e, n, ne, nf, d⟩
  · have hfn : X.fn x = true := by
      rcases hf with z | z
      · exact z
      · rw [z] at hk; cases hk
    obtain ⟨c, hc⟩ := I.ok.has x (.inl hk)
    obtain ⟨w', z⟩ := I.cell x c hc
    refine wpAny_storeName_cell I.ok.kind hk hc z (fun h' hc' hs => ?_)
    obtain ⟨oc, hoc, hocd⟩ := id z
    refine h { s with heap := h' } ⟨I.ok, I.os, I.bare, ⟨fun b o e n hb hx => ?_, fun b o e n hb hx => ?_, I.base.free, fun b o e hx => ?_, I.base.tups, I.base.frzs, I.base.tbls⟩, ⟨m, hn.sameBut hs (Ne.symm (cne x c hc)), fun j y v' e1 e2 e3 => ?_⟩, fun y c' e => ?_, I.free, I.freeC, fun p hp => ?_, tracked ⟨oc, hoc, I.freeC x c hc⟩ hs, by simpa using I.len⟩ ⟨c, hs, .inr hc⟩
    · exact (hs.2 b (Nat.ne_of_lt (Nat.lt_of_lt_of_le (Heap.lt_size e) (I.ok.cab x c hfn hc)))).trans (I.base.keep b o e n hb hx)
    · obtain ⟨sl, e1⟩ := I.base.slot b o e n hb hx
      exact ⟨sl, (hs.2 b (Nat.ne_of_lt (Nat.lt_of_lt_of_le (Heap.lt_size e) (I.ok.cab x c hfn hc)))).trans e1⟩
    · obtain ⟨o', e1⟩ := I.base.there b o e hx
      exact ⟨o', (hs.2 b (Nat.ne_of_lt (Nat.lt_of_lt_of_le (Heap.lt_size e) (I.ok.cab x c hfn hc)))).trans e1⟩
    · by_cases hj : j = i
      · subst hj
        rw [hi] at e1; cases e1
        rw [List.getElem?_set_self hiσ] at e2
        cases e2
        exact ⟨u, r, .inr ⟨.inl hk, c, hc, hc'⟩⟩
      · rw [List.getElem?_set_ne (Ne.symm hj)] at e2
        obtain ⟨u', r', q⟩ := hl j y v' e1 e2 e3
        refine ⟨u', r', ?_⟩
        rcases q with q | ⟨k, c', e, z'⟩
        · exact .inl q
        · refine .inr ⟨k, c', e, z'.sameBut hs ?_⟩
          rintro rfl
          exact hj (nodup_ix hN e1 (I.ok.inj _ _ _ e hc ▸ hi))
    · by_cases hcc : c' = c
      · subst hcc; exact ⟨_, hc'⟩
      · obtain ⟨w2, z2⟩ := I.cell y c' e
        exact ⟨w2, z2.sameBut hs hcc⟩
    · obtain ⟨e, n, ne, nf, d⟩ := I.pin p hp
      refine ⟨(hs.2 p.1 ?_).trans e, n, ne, nf, d⟩
      intro q
      rw [q, hoc] at e
      have q' : oc = p.2 := Option.some.inj e
      exact d w' (by rw [← q']; exact hocd)
theorem store_ok {M : Model} {A : Around} {E : Value → Shared → Prop} {i : Nat} {x : Str} {v : V} {u : Value} {Q : Unit → Shared → Prop} (I : Inv X pins σ H s) (hN : X.N.Nodup) (hi : X.N[i]? = some x) (hx : Loc X.env.scope x) (r : RelV v u)
    (h : ∀ s', Inv X pins (σ.set i (some v)) H s' → Q () s') (hf : X.fn x = true ∨ X.env.scope.names.lookup x = some .local := by first | exact .inl rfl | exact .inr rfl | assumption) : wpAny M A (storeName X.env x u) Q E s :=
  store_ok2 I hN hi hx r (fun s' I' _ => h s' I') hf
/-- behind a call or a block, the state as it is -/
theorem Inv.call' {s' : Shared} {ch : List Addr} (I : Inv X pins σ H s) (ho : s'.os = s.os) (u : Un (frs X.stack) ch H H' s.heap s'.heap) (hok : HOk X.prog X.w H' s'.heap) (hg : AllBare s'.gens)
    (hch : ∀ b ∈ ch, (b ∈ X.ex ∨ X.s₀.heap.objs.size ≤ b) ∧ b ≠ X.env.locals ∧ (∀ x c, X.env.cells.lookup x = some c → c ≠ b) ∧ ∀ p ∈ X.pn ++ pins, p.1 ≠ b) : Inv X pins σ H' s' := by
  obtain ⟨h', g', d', t', o'⟩ := s'
  have e : o' = s.os := ho
  subst e
  exact I.call (g' := g') (t' := t') (d' := d') u hok hg hch
end

/-! ### the judgements -/
/-- an exception: its class, its own dict's address (where it has one), the abstract heap behind it -/
abbrev XK := Value → Option Addr → Hp → Prop
abbrev St := List (Option V)
abbrev VK := V → Hp → Prop
/-- an expression's reading; a test's; an argument list's -/
abbrev TE := St → Hp → VK → Prop
abbrev TT := St → Hp → (Bool → Hp → Prop) → Prop
abbrev TA := St → Hp → (List V → Hp → Prop) → Prop
/-- what is wanted behind a statement -/
structure Ends where
  nx : St → Hp → Prop
  rt : VK
  bk : St → Hp → Prop := fun _ _ => False
  ct : St → Hp → Prop := fun _ _ => False
abbrev TS := Ends → St → Hp → Prop

def EP (X : Cx) (pins : List (Addr × Obj)) (σ : St) (Q : VK) (u : Value) (s' : Shared) : Prop := ∃ v H', Inv X pins σ H' s' ∧ RelV v u ∧ Q v H'
def TP (X : Cx) (pins : List (Addr × Obj)) (σ : St) (Q : Bool → Hp → Prop) (b : Bool) (s' : Shared) : Prop := ∃ H', Inv X pins σ H' s' ∧ Q b H'
def AP (X : Cx) (pins : List (Addr × Obj)) (σ : St) (Q : List V → Hp → Prop) (us : List Value) (s' : Shared) : Prop := ∃ vs H', Inv X pins σ H' s' ∧ Vals vs us ∧ Q vs H'
def SP (X : Cx) (pins : List (Addr × Obj)) (D : Ends) (f : Flow) (s' : Shared) : Prop :=
  match f with
  | .next => ∃ σ' H', Inv X pins σ' H' s' ∧ D.nx σ' H'
  | .brk => ∃ σ' H', Inv X pins σ' H' s' ∧ D.bk σ' H'
  | .cont => ∃ σ' H', Inv X pins σ' H' s' ∧ D.ct σ' H'
  | .ret u => ∃ v σ' H', Inv X pins σ' H' s' ∧ RelV v u ∧ D.rt v H'

def PE (X : Cx) (e : Expr) (t : TE) : Prop :=
  ∀ (pins : List (Addr × Obj)) (s : Shared) (σ : St) (H : Hp) (Q : VK), Inv X pins σ H s → t σ H Q → wpAny (model X.prog X.w) X.A (eval e X.env) (EP X pins σ Q) X.xe s
def PT (X : Cx) (e : Expr) (t : TT) : Prop :=
  ∀ (pins : List (Addr × Obj)) (s : Shared) (σ : St) (H : Hp) (Q : Bool → Hp → Prop), Inv X pins σ H s → t σ H Q → wpAny (model X.prog X.w) X.A (isTrue e X.env (eval e X.env)) (TP X pins σ Q) X.xe s
/-- a test whatever its 'whole' is (and, or) -/
def PW (X : Cx) (e : Expr) (t : TT) : Prop :=
  ∀ (whole : Sem Value) (pins : List (Addr × Obj)) (s : Shared) (σ : St) (H : Hp) (Q : Bool → Hp → Prop), Inv X pins σ H s → t σ H Q → wpAny (model X.prog X.w) X.A (isTrue e X.env whole) (TP X pins σ Q) X.xe s
theorem PW.pt {X : Cx} {e : Expr} {t : TT} (h : PW X e t) : PT X e t := h _
/-- an argument list (no star), from the left -/
def PA (X : Cx) (es : List Expr) (t : TA) : Prop :=
  ∀ (pos : Pos) (pins : List (Addr × Obj)) (s : Shared) (σ : St) (H : Hp) (Q : List V → Hp → Prop), Inv X pins σ H s → t σ H Q → wpAny (model X.prog X.w) X.A (spliced (backTo pos (starEach es X.env))) (AP X pins σ Q) X.xe s
def PS (X : Cx) (st : Stmt) (t : TS) : Prop :=
  ∀ (pins : List (Addr × Obj)) (s : Shared) (σ : St) (H : Hp) (D : Ends), Inv X pins σ H s → t D σ H → wpAny (model X.prog X.w) X.A (exec st X.env) (SP X pins D) X.xe s
def PSs (X : Cx) (st : List Stmt) (t : TS) : Prop :=
  ∀ (pins : List (Addr × Obj)) (s : Shared) (σ : St) (H : Hp) (D : Ends), Inv X pins σ H s → t D σ H → wpAny (model X.prog X.w) X.A (execs st X.env) (SP X pins D) X.xe s
/-- weaken the end -/
theorem thn {α : Type} {t : Sem α} {Q Q' : α → Shared → Prop} {M : Model} {A : Around} {E : Value → Shared → Prop} {s : Shared} (h : wpAny M A t Q E s) (hQ : ∀ a s, Q a s → Q' a s) : wpAny M A t Q' E s := wpAny_mono h hQ fun _ _ x => x
end L2

namespace L2
open PySem PySem.Spec PyProof.Rows
section
variable {X : Cx}


/-! ### names and constants -/
def tVar (i : Nat) : TE := fun σ H Q => ∃ v, σ[i]? = some (some v) ∧ Q v H
def tC (v : V) : TE := fun _ H Q => Q v H
theorem pe_var {i : Nat} {x : Str} {pos : Pos} (hN : X.N[i]? = some x) (hv : Vis X.env.scope x) (hd : (x == ("__debug__" : Str)) = false := by decide) (hcd : (x == ("__classdict__" : Str)) = false := by decide) : PE X (.Name x pos) (tVar i) := by
  intro pins s σ H Q I h
  obtain ⟨v, e, h⟩ := h
  obtain ⟨m, hn, hl⟩ := I.loc
  obtain ⟨u, r, l⟩ := hl i x v hN e hv
  have fin : EP X pins σ Q u s := ⟨v, H, I, r, h⟩
  rcases l with ⟨hk, hm⟩ | ⟨hk, c, hc, hcell⟩
  · exact wpAny_Name (wpAny_loadName_local I.ok.kind hk hn hm fin) hd
  · rcases hk with hk | hk
    · exact wpAny_Name (wpAny_loadName_cell I.ok.kind hk hc hcell fin) hd
    · exact wpAny_Name (wpAny_loadName_free I.ok.kind hk hc hcell fin hcd) hd
theorem pe_int {i j pos} : PE X (.Constant (.int i) j pos) (tC (.int i)) := fun _ _ _ H _ I h => wpAny_Constant_int ⟨.int i, H, I.tok _, ⟨_, rfl⟩, h⟩
theorem pe_bl {b j pos} : PE X (.Constant (.bool b) j pos) (tC (.bl b)) := fun _ _ _ H _ I h => Constant_bool ⟨.bl b, H, I, rfl, h⟩
theorem pe_non {j pos} : PE X (.Constant .none j pos) (tC .non) := fun _ _ _ H _ I h => Constant_none ⟨.non, H, I, rfl, h⟩
theorem pe_str {x j pos} : PE X (.Constant (.str x) j pos) (tC (.str x)) := fun _ _ _ H _ I h => Calls.Constant_str ⟨.str x, H, I.tok _, ⟨_, rfl⟩, h⟩

/-- a global name of the def -/
def Gl (X : Cx) (x : Str) : Prop := X.env.kindOf x = some .globalImplicit
theorem ld_glob {E : Value → Shared → Prop} {pins : List (Addr × Obj)} {s : Shared} {σ : St} {H : Hp} {x : Str} {u : Value} {pos : Pos} {Q : Value → Shared → Prop} (I : Inv X pins σ H s) (hg : Gl X x) (hm : X.mg x = some u) (h : Q u s)
    (hd : (x == ("__debug__" : Str)) = false := by decide) : wpAny (model X.prog X.w) X.A (eval (.Name x pos) X.env) Q E s :=
  Calls.Name_function_global I.ok.kind hg (Calls.loadGlobal_global (by rw [I.ok.glob]; exact I.mod.glob.keeps I.bk) hm h) hd
theorem ld_blt {E : Value → Shared → Prop} {pins : List (Addr × Obj)} {s : Shared} {σ : St} {H : Hp} {x : Str} {u : Value} {pos : Pos} {Q : Value → Shared → Prop} (I : Inv X pins σ H s) (hg : Gl X x) (hm : X.mg x = none) (hv : bootBuiltins x = some u) (h : Q u s)
    (hn : x ≠ "__name__" := by decide) (hd : (x == ("__debug__" : Str)) = false := by decide) : wpAny (model X.prog X.w) X.A (eval (.Name x pos) X.env) Q E s := by
  obtain ⟨mb, h1, h2⟩ := I.mod.blt
  exact Calls.Name_function_global I.ok.kind hg (Calls.loadGlobal_builtin (by rw [I.ok.glob]; exact I.mod.glob.keeps I.bk) hm (by rw [I.ok.blt]; exact h1.keeps I.bk) ((h2 x hn).trans hv) h) hd
/-- a module's constant, a class, a function, as a value -/
theorem pe_glob {x : Str} {v : V} {u : Value} {pos : Pos} (hg : Gl X x) (hm : X.mg x = some u) (r : RelV v u) (hd : (x == ("__debug__" : Str)) = false := by decide) : PE X (.Name x pos) (tC v) :=
  fun _ _ _ H _ I h => ld_glob I hg hm ⟨v, H, I, r, h⟩ hd
theorem pe_bltn {x : Str} {v : V} {u : Value} {pos : Pos} (hg : Gl X x) (hm : X.mg x = none) (hv : bootBuiltins x = some u) (r : RelV v u) (hn : x ≠ "__name__" := by decide) (hd : (x == ("__debug__" : Str)) = false := by decide) : PE X (.Name x pos) (tC v) :=
  fun _ _ _ H _ I h => ld_blt I hg hm hv ⟨v, H, I, r, h⟩ hn hd

/-! ### arithmetic -/
variable {a b : Expr} {ta tb : TE} {pos : Pos}

/-! ### comparisons -/
/-- a comparison as a value, as a test -/
def tB (t : TE) : TT := fun σ H Q => t σ H fun x H1 => ∃ c, x = .bl c ∧ Q c H1
/-- an expression whose value is a bool, as a test -/
theorem pt_val {e : Expr} {t : TE} (h : PE X e t) (he : ∀ whole, isTrue e X.env whole = (do let v ← whole; standAt e.pos; holding [v] (truthy v)) := by intro _; rfl) : PT X e (tB t) := by
  intro pins s σ H Q I hw
  refine isTrue_plain (thn (h pins s σ H _ I hw) fun v s1 ⟨x, H1, I1, r1, q1⟩ => ?_) (he _)
  obtain ⟨d, rfl, q⟩ := q1
  cases r1
  exact wpAny_truthy_bool ⟨H1, I1, q⟩

/-! ### and, or, not -/
variable {tA tB' : TT} {rest : List Expr}
def tAnd (t u : TT) : TT := fun σ H Q => t σ H fun c H1 => if c = true then u σ H1 Q else Q false H1
def tOr (t u : TT) : TT := fun σ H Q => t σ H fun c H1 => if c = true then Q true H1 else u σ H1 Q
def tNot (t : TT) : TT := fun σ H Q => t σ H fun c H1 => Q (!c) H1
theorem pw_and1 (ha : PT X a tA) : PW X (.BoolOp .And [a] pos) tA := by
  intro wh pins s σ H Q I h
  refine isTrue_and (thn (ha pins s σ H Q I h) fun c s1 e => ?_)
  cases c with
  | true => exact isTrue_and_nil e
  | false => exact e
theorem pw_or1 (ha : PT X a tA) : PW X (.BoolOp .Or [a] pos) tA := by
  intro wh pins s σ H Q I h
  refine isTrue_or (thn (ha pins s σ H Q I h) fun c s1 e => ?_)
  cases c with
  | false => exact isTrue_or_nil e
  | true => exact e
theorem pw_and (ha : PT X a tA) (hb : PW X (.BoolOp .And (b :: rest) pos) tB') : PW X (.BoolOp .And (a :: b :: rest) pos) (tAnd tA tB') := by
  intro wh pins s σ H Q I h
  refine isTrue_and (thn (ha pins s σ H _ I h) fun c s1 ⟨H1, I1, q1⟩ => ?_)
  cases c with
  | true => exact hb wh pins s1 σ H1 Q I1 q1
  | false => exact ⟨H1, I1, q1⟩
theorem pw_or (ha : PT X a tA) (hb : PW X (.BoolOp .Or (b :: rest) pos) tB') : PW X (.BoolOp .Or (a :: b :: rest) pos) (tOr tA tB') := by
  intro wh pins s σ H Q I h
  refine isTrue_or (thn (ha pins s σ H _ I h) fun c s1 ⟨H1, I1, q1⟩ => ?_)
  cases c with
  | true => exact ⟨H1, I1, q1⟩
  | false => exact hb wh pins s1 σ H1 Q I1 q1
theorem pt_not (ha : PT X a tA) : PT X (.UnaryOp .Not a pos) (tNot tA) := by
  intro pins s σ H Q I h
  exact isTrue_not (ha pins s σ H (fun c H1 => Q (!c) H1) I h)
/-- .. as values (bools) -/
def tAndV (ta tb : TE) : TE := fun σ H Q => ta σ H fun x H1 => ∃ c, x = .bl c ∧ if c = true then tb σ H1 Q else Q (.bl false) H1
theorem pe_one {op} {t : TE} (h : PE X a t) : PE X (.BoolOp op [a] pos) t := fun pins s σ H Q I hw => BoolOp_one (h pins s σ H Q I hw)
theorem pe_and (ha : PE X a ta) (hb : PE X (.BoolOp .And (b :: rest) pos) tb) : PE X (.BoolOp .And (a :: b :: rest) pos) (tAndV ta tb) := by
  intro pins s σ H Q I h
  refine BoolOp_and (thn (ha pins s σ H _ I h) fun v s1 ⟨x, H1, I1, r1, q1⟩ => ?_)
  obtain ⟨c, rfl, q1⟩ := q1
  cases r1
  refine wpAny_truthy_bool ?_
  cases c with
  | true => exact hb pins s1 σ H1 Q I1 q1
  | false => exact ⟨.bl false, H1, I1, rfl, q1⟩
/-- a if t else b -/
def tIf (t : TT) (ta tb : TE) : TE := fun σ H Q => t σ H fun c H1 => if c = true then ta σ H1 Q else tb σ H1 Q
theorem pe_ifExp {c : Expr} (hc : PT X c tA) (ha : PE X a ta) (hb : PE X b tb) : PE X (.IfExp c a b pos) (tIf tA ta tb) := by
  intro pins s σ H Q I h
  refine wpAny_IfExp (thn (hc pins s σ H _ I h) fun d s1 ⟨H1, I1, q1⟩ => ?_)
  cases d with
  | true => exact ha pins s1 σ H1 Q I1 q1
  | false => exact hb pins s1 σ H1 Q I1 q1
end
end L2

namespace L2
open PySem PySem.Spec PyProof.Rows

/-! ### a list, a tuple that is read: tracked, frozen, or an object of the module -/
def SqL (K : PySem.W.Frag) (H : Hp) (a : Addr) (xs : List V) : Prop :=
  Rd H a (.lst xs) ∨
    ∃ (o : Obj) (its : Array Value) (n : Nat), K.lookup a = some o ∧ o.cls = .type "list" ∧ o.dict = none ∧ o.data = .seq its n ∧ its.size ≤ sizeLine ∧ Vals xs its.toList
def SqT (K : PySem.W.Frag) (H : Hp) (a : Addr) (xs : List V) : Prop :=
  Rd H a (.tup xs) ∨
    ∃ (o : Obj) (its : Array Value) (n : Nat), K.lookup a = some o ∧ o.cls = .type "tuple" ∧ o.data = .seq its n ∧ its.size ≤ sizeLine ∧ Vals xs its.toList
def absV : Value → Option V
  | .none => some .non
  | .bool b => some (.bl b)
  | .int i _ => some (.int i)
  | .str x _ => some (.str x)
  | .bytes b _ => some (.byt b)
  | .float b _ => some (.flt b)
  | .ref a => some (.ref a)
  | .type n => some (.ty n)
  | _ => none
theorem RelV.abs {x : V} {u : Value} (r : RelV x u) : absV u = some x := by
  cases x with
  | non => cases r; rfl
  | bl _ => cases r; rfl
  | int _ => obtain ⟨t, rfl⟩ := r; rfl
  | str _ => obtain ⟨t, rfl⟩ := r; rfl
  | byt _ => obtain ⟨t, rfl⟩ := r; rfl
  | flt _ => obtain ⟨t, rfl⟩ := r; rfl
  | ref _ => cases r; rfl
  | ty _ => cases r; rfl
theorem RelV.inj {x y : V} {u : Value} (r : RelV x u) (q : RelV y u) : x = y := Option.some.inj (r.abs.symm.trans q.abs)
theorem Vals.inj : ∀ {xs ys : List V} {us : List Value}, Vals xs us → Vals ys us → xs = ys
  | _, _, _, .nil, .nil => rfl
  | _, _, _, .cons r t, .cons r' t' => by rw [r.inj r', Vals.inj t t']
section
variable {X : Cx} {pins : List (Addr × Obj)} {σ : St} {H : Hp} {s : Shared} {a : Addr} {xs ys : List V}
theorem SqL.of {K : PySem.W.Frag} (h : H a = some (.lst xs)) : SqL K H a xs := .inl (.inl h)
theorem SqT.of {K : PySem.W.Frag} (h : H a = some (.tup xs)) : SqT K H a xs := .inl (.inl h)
theorem Inv.list (I : Inv X pins σ H s) (h : SqL X.K H a xs) : ∃ its : List Value, Vals xs its ∧ PlainL s.heap a its.toArray ∧ xs.length ≤ sizeLine := by
  rcases h with h | ⟨o, its, n, hk, hc, hd, hs, hz, r⟩
  · obtain ⟨z, its, n, r, e⟩ := h.ok I.hok
    exact ⟨its, r, ⟨_, n, e, rfl, rfl, rfl⟩, z⟩
  · refine ⟨its.toList, r, ⟨o, n, I.kIn a o hk, hc, hd, by simpa using hs⟩, ?_⟩
    have e := r.length
    simp only [Array.length_toList] at e
    omega
theorem Inv.tuple (I : Inv X pins σ H s) (h : SqT X.K H a xs) : ∃ its : List Value, Vals xs its ∧ IsTup s.heap a its.toArray ∧ xs.length ≤ sizeLine := by
  rcases h with h | ⟨o, its, n, hk, hc, hs, hz, r⟩
  · obtain ⟨z, its, r, p⟩ := h.ok I.hok
    exact ⟨its, r, p, z⟩
  · refine ⟨its.toList, r, ⟨o, I.kIn a o hk, hc, n, by simpa using hs⟩, ?_⟩
    have e := r.length
    simp only [Array.length_toList] at e
    omega
theorem Inv.list_inj (I : Inv X pins σ H s) (h : SqL X.K H a xs) (h' : SqL X.K H a ys) : xs = ys := by
  obtain ⟨its, r, ⟨o, n, e, _, _, d⟩, _⟩ := I.list h
  obtain ⟨its', r', ⟨o', n', e', _, _, d'⟩, _⟩ := I.list h'
  rw [e] at e'; cases e'
  rw [d] at d'
  injection d' with d1 _
  have : its = its' := by simpa using congrArg Array.toList d1
  subst this
  exact r.inj r'
theorem Inv.tuple_inj (I : Inv X pins σ H s) (h : SqT X.K H a xs) (h' : SqT X.K H a ys) : xs = ys := by
  obtain ⟨its, r, ⟨o, e, _, n, d⟩, _⟩ := I.tuple h
  obtain ⟨its', r', ⟨o', e', _, n', d'⟩, _⟩ := I.tuple h'
  rw [e] at e'; cases e'
  rw [d] at d'
  injection d' with d1 _
  have : its = its' := by simpa using congrArg Array.toList d1
  subst this
  exact r.inj r'
end

/-! ### another wish about exceptions -/
section
variable {X : Cx} {pins : List (Addr × Obj)} {σ : St} {H : Hp} {s : Shared} {E : Value → Shared → Prop}
end

/-! ### blocks and small statements -/
section
variable {X : Cx} {st : Stmt} {rest : List Stmt} {t u : TS} {e : Expr} {te : TE} {pos : Pos}
def tNext : TS := fun D σ H => D.nx σ H
def tSeq (t u : TS) : TS := fun D σ H => t { D with nx := u D } σ H
theorem pss_nil : PSs X [] tNext := fun _ _ σ H _ I h => wpAny_execs_nil ⟨σ, H, I, h⟩
theorem pss_cons (h1 : PS X st t) (h2 : PSs X rest u) : PSs X (st :: rest) (tSeq t u) := by
  intro pins s σ H D I h
  refine wpAny_execs_cons (thn (h1 pins s σ H { D with nx := u D } I h) fun f s1 q => ?_)
  cases f with
  | next =>
    obtain ⟨σ', H', I', q⟩ := q
    exact h2 pins s1 σ' H' D I' q
  | ret v => exact q
  | brk => exact q
  | cont => exact q
theorem pss_one (h1 : PS X st t) : PSs X [st] t := by
  intro pins s σ H D I h
  refine wpAny_execs_cons (thn (h1 pins s σ H D I h) fun f s1 q => ?_)
  cases f with
  | next => exact wpAny_execs_nil q
  | ret v => exact q
  | brk => exact q
  | cont => exact q
/-- in a def's body nothing is shown -/
theorem Inv.quiet {pins : List (Addr × Obj)} {σ : St} {H : Hp} {s : Shared} (I : Inv X pins σ H s) : interactive X.env = false := by simp [interactive, I.ok.kind]
/-- an expression whose value is dropped -/
def tDrop (te : TE) : TS := fun D σ H => te σ H fun _ H1 => D.nx σ H1
theorem ps_expr (he : PE X e te) (hs : swapsWith e none pos.line X.env = pure false := by rfl) : PS X (.Expr e pos) (tDrop te) := by
  intro pins s σ H D I h
  exact wpAny_Expr_any (thn (he pins s σ H _ I h) fun v s1 ⟨x, H1, I1, r1, q1⟩ => ⟨σ, H1, I1, q1⟩) I.quiet hs
def tRet (te : TE) : TS := fun D σ H => te σ H D.rt
theorem ps_ret (he : PE X e te) : PS X (.Return (some e) pos) (tRet te) := by
  intro pins s σ H D I h
  exact wpAny_Return_some (thn (he pins s σ H _ I h) fun v s1 ⟨x, H1, I1, r1, q1⟩ => ⟨x, σ, H1, I1, r1, q1⟩)
def tIfS (c : TT) (t u : TS) : TS := fun D σ H => c σ H fun b H1 => if b = true then t D σ H1 else u D σ H1
theorem ps_if {c : Expr} {a b : List Stmt} {tc : TT} (hc : PT X c tc) (ha : PSs X a t) (hb : PSs X b u) : PS X (.If c a b pos) (tIfS tc t u) := by
  intro pins s σ H D I h
  refine wpAny_If (thn (hc pins s σ H _ I h) fun d s1 ⟨H1, I1, q1⟩ => ?_)
  cases d with
  | true => exact ha pins s1 σ H1 D I1 q1
  | false => exact hb pins s1 σ H1 D I1 q1
end

/-! ### targets -/
abbrev TG := V → St → Hp → (St → Hp → Prop) → Prop
abbrev TGs := List V → St → Hp → (St → Hp → Prop) → Prop
def PG (X : Cx) (target : Expr) (t : TG) : Prop :=
  ∀ (pins : List (Addr × Obj)) (s : Shared) (σ : St) (H : Hp) (v : V) (u : Value) (Q : St → Hp → Prop), Inv X pins σ H s → RelV v u → t v σ H Q →
    wpAny (model X.prog X.w) X.A (assign target X.env u) (fun _ s' => ∃ σ' H', Inv X pins σ' H' s' ∧ Q σ' H') X.xe s
/-- several targets, one after another -/
def PGs (X : Cx) (ts : List Expr) (t : TGs) : Prop :=
  ∀ (pins : List (Addr × Obj)) (s : Shared) (σ : St) (H : Hp) (vs : List V) (us : List Value) (Q : St → Hp → Prop), Inv X pins σ H s → Vals vs us → t vs σ H Q →
    wpAny (model X.prog X.w) X.A (assignInOrder ((assignEach ts X.env).map (·.2)) us) (fun _ s' => ∃ σ' H', Inv X pins σ' H' s' ∧ Q σ' H') X.xe s
/-- o[i] = v, by values -/
abbrev TSet := V → V → V → Hp → (Hp → Prop) → Prop
def PSet (X : Cx) (t : TSet) : Prop :=
  ∀ (pins : List (Addr × Obj)) (s : Shared) (σ : St) (H : Hp) (o i v : V) (ov iv u : Value) (Q : Hp → Prop), Inv X pins σ H s → RelV o ov → RelV i iv → RelV v u → t o i v H Q →
    wpAny (model X.prog X.w) X.A (setItem ov iv u) (fun _ s' => ∃ H', Inv X pins σ H' s' ∧ Q H') X.xe s
/-- a op= b, by values -/
abbrev TIp := V → V → Hp → VK → Prop
def PIp (X : Cx) (op : Operator) (t : TIp) : Prop :=
  ∀ (pins : List (Addr × Obj)) (s : Shared) (σ : St) (H : Hp) (x y : V) (v u : Value) (Q : VK), Inv X pins σ H s → RelV x v → RelV y u → t x y H Q →
    wpAny (model X.prog X.w) X.A (inplaceOp op v u) (EP X pins σ Q) X.xe s
section
variable {X : Cx} {pos : Pos}
def gName (i : Nat) : TG := fun v σ H Q => Q (σ.set i (some v)) H
theorem pg_name {i : Nat} {x : Str} (hN : X.N.Nodup) (hi : X.N[i]? = some x) (hx : Loc X.env.scope x) (hf : X.fn x = true ∨ X.env.scope.names.lookup x = some .local := by first | exact .inl rfl | exact .inr rfl | assumption) : PG X (.Name x pos) (gName i) := by
  intro pins s σ H v u Q I r h
  exact wpAny_assign_Name (store_ok I hN hi hx r (fun s' I' => ⟨_, H, I', h⟩) hf)
def gNil : TGs := fun vs σ H Q => vs = [] ∧ Q σ H
def gCons (t : TG) (u : TGs) : TGs := fun vs σ H Q => ∃ v r, vs = v :: r ∧ t v σ H fun σ' H' => u r σ' H' Q
theorem pgs_nil : PGs X [] gNil := by
  intro pins s σ H vs us Q I r h
  obtain ⟨e, h⟩ := h
  subst e
  cases r
  exact assignInOrder_nil ⟨σ, H, I, h⟩
theorem pgs_cons {e : Expr} {es : List Expr} {t : TG} {u : TGs} (h1 : PG X e t) (h2 : PGs X es u)
    (hs : (assignEach (e :: es) X.env).map (·.2) = assign e X.env :: (assignEach es X.env).map (·.2) := by rfl) : PGs X (e :: es) (gCons t u) := by
  intro pins s σ H vs us Q I r h
  obtain ⟨v, vr, e1, h⟩ := h
  subst e1
  cases r with
  | cons r rr =>
    rw [hs]
    refine assignInOrder_cons (thn (h1 pins s σ H _ _ _ I r h) fun _ s1 ⟨σ1, H1, I1, q1⟩ => ?_)
    exact h2 pins s1 σ1 H1 _ _ Q I1 rr q1
/-- (a, b, ..) = a tuple of that length -/
def gTup (K : PySem.W.Frag) (n : Nat) (t : TGs) : TG := fun v σ H Q => ∃ a xs, v = .ref a ∧ SqT K H a xs ∧ xs.length = n ∧ t xs σ H Q
theorem pg_tup {es : List Expr} {k : Nat} {t : TGs} {n : Nat} (hc : X.calm = true) (h : PGs X es t)
    (hn : (assignEach es X.env).length = n := by rfl) (hst : (assignEach es X.env).findIdx? (·.1) = none := by rfl) : PG X (.Tuple es k pos) (gTup X.K n t) := by
  intro pins s σ H v u Q I r hw
  obtain ⟨a, xs, e1, hq, hl, hw⟩ := hw
  subst e1
  cases r
  obtain ⟨its, rv, ht, hz⟩ := I.tuple hq
  refine assign_Tuple_tuple (I.ok.hd hc) ht (by simp [hn, ← hl, rv.length]) hst fun h' hx => ?_
  have I1 : Inv X pins σ H { s with heap := h' } := I.kept (t' := s.toks) fun b o e => hx b o (Nat.ne_of_lt (Heap.lt_size e)) e
  exact h pins _ σ H xs _ Q I1 (by simpa using rv) hw
/-- o[i] = .. -/
def gSub (to ti : TE) (t : TSet) : TG := fun v σ H Q => to σ H fun o H1 => ti σ H1 fun i H2 => t o i v H2 fun H3 => Q σ H3
theorem pg_sub {o i : Expr} {to ti : TE} {t : TSet} (ho : PE X o to) (hi : PE X i ti) (hs : PSet X t)
    (ha : ∀ v, assign (.Subscript o i pos) X.env v = (do
      let ov ← holding [v] (eval o X.env)
      let iv ← holding [v, ov] (eval i X.env)
      standAt pos
      holding [v, ov, iv] (setItem ov iv v)
      release [v, ov, iv] []) := by intro _; rfl) : PG X (.Subscript o i pos) (gSub to ti t) := by
  intro pins s σ H v u Q I r h
  rw [ha]
  refine wpAny_bind (wpAny_holding (thn (ho pins s σ H _ I h) fun ov s1 ⟨x, H1, I1, r1, q1⟩ => ?_))
  refine wpAny_bind (wpAny_holding (thn (hi pins s1 σ H1 _ I1 q1) fun iv s2 ⟨y, H2, I2, r2, q2⟩ => ?_))
  refine wpAny_bind (wpAny_standAt (wpAny_bind (wpAny_holding (thn (hs pins s2 σ H2 x y v ov iv u _ I2 r1 r2 r q2) fun _ s3 ⟨H3, I3, q3⟩ => ?_))))
  exact wpAny_release ⟨σ, H3, I3, q3⟩
/-- target = value -/
def tAsg (te : TE) (g : TG) : TS := fun D σ H => te σ H fun x H1 => g x σ H1 D.nx
theorem ps_asg {tg e : Expr} {te : TE} {g : TG} (he : PE X e te) (hg : PG X tg g) (hs : swapsWithSole [tg] e pos.line X.env = pure false := by rfl) (hw : swappedStores [tg] e X.env = pure none := by rfl)
    (h1 : (assignEach [tg] X.env).map (·.2) = [assign tg X.env] := by rfl) : PS X (.Assign [tg] e pos) (tAsg te g) := by
  intro pins s σ H D I h
  refine wpAny_Assign_stores (thn (he pins s σ H _ I h) fun v s1 ⟨x, H1, I1, r1, q1⟩ => ?_) hs hw
  rw [h1]
  exact thn (hg pins s1 σ H1 x v _ I1 r1 q1) fun _ s2 q => q
/-- name = value -/
theorem ps_set {i : Nat} {x : Str} {e : Expr} {te : TE} {pos' : Pos} (hN : X.N.Nodup) (hi : X.N[i]? = some x) (hx : Loc X.env.scope x) (he : PE X e te) (hs : swapsWith e (some (.Name x pos')) pos.line X.env = pure false := by rfl) (hf : X.fn x = true ∨ X.env.scope.names.lookup x = some .local := by first | exact .inl rfl | exact .inr rfl | assumption) :
    PS X (.Assign [.Name x pos'] e pos) (tAsg te (gName i)) := by
  intro pins s σ H D I h
  refine wpAny_Assign_Name (thn (he pins s σ H _ I h) fun v s1 ⟨y, H1, I1, r1, q1⟩ => ?_) hs
  exact store_ok I1 hN hi hx r1 (fun s2 I2 => ⟨_, H1, I2, q1⟩) hf
/-- name op= e -/
def tAug (i : Nat) (te : TE) (ti : TIp) : TS := fun D σ H => ∃ x, σ[i]? = some (some x) ∧ te σ H fun y H1 => ti x y H1 fun z H2 => D.nx (σ.set i (some z)) H2
theorem ps_aug {i : Nat} {x : Str} {e : Expr} {te : TE} {op : Operator} {ti : TIp} {pos' : Pos} (hN : X.N.Nodup) (hi : X.N[i]? = some x) (hx : Loc X.env.scope x) (he : PE X e te) (ho : PIp X op ti) (hf : X.fn x = true ∨ X.env.scope.names.lookup x = some .local := by first | exact .inl rfl | exact .inr rfl | assumption) :
    PS X (.AugAssign (.Name x pos') op e pos) (tAug i te ti) := by
  intro pins s σ H D I h
  obtain ⟨v, e1, h⟩ := h
  obtain ⟨m, hn, hl⟩ := I.loc
  have vis : Vis X.env.scope x := by rcases hx with k | k; exact .inl k; exact .inr (.inl k)
  obtain ⟨u, r, l⟩ := hl i x v hi e1 vis
  refine wpAny_AugAssign_Name ?_
  have go : wpAny (model X.prog X.w) X.A (eval e X.env) (fun w s₂ => wpAny (model X.prog X.w) X.A (inplaceOp op u w) (fun r s₃ => wpAny (model X.prog X.w) X.A (storeName X.env x r) (fun _ => SP X pins D .next) X.xe s₃) X.xe s₂) X.xe s := by
    refine thn (he pins s σ H _ I h) fun w s1 ⟨y, H1, I1, r1, q1⟩ => ?_
    refine thn (ho pins s1 σ H1 v y u w _ I1 r r1 q1) fun z s2 ⟨zv, H2, I2, r2, q2⟩ => ?_
    exact store_ok I2 hN hi hx r2 (fun s3 I3 => ⟨_, H2, I3, q2⟩) hf
  rcases l with ⟨hk, hm⟩ | ⟨hk, c, hc, hcell⟩
  · exact wpAny_loadName_local I.ok.kind hk hn hm go
  · rcases hk with hk | hk
    · exact wpAny_loadName_cell I.ok.kind hk hc hcell go
    · rcases hx with k | k
      · have : X.env.scope.names.lookup x = some .free := hk
        rw [k] at this; cases this
      · have : X.env.scope.names.lookup x = some .free := hk
        rw [k] at this; cases this
/-- ints -/
def ipI (f : Int → Int → Int) : TIp := fun x y H Q => ∃ i j, x = .int i ∧ y = .int j ∧ Q (.int (f i j)) H
theorem ip_add : PIp X .Add (ipI fun i j => i + j) := by
  intro pins s σ H x y v u Q I r1 r2 h
  obtain ⟨i, j, e1, e2, q⟩ := h
  subst e1; subst e2
  obtain ⟨t, rfl⟩ := r1
  obtain ⟨t', rfl⟩ := r2
  exact iadd_int ⟨.int _, H, I.tok _, ⟨_, rfl⟩, q⟩
end

/-! ### while -/
section
variable {X : Cx} {pos : Pos}
/-- the invariant W with its measure -/
def tWhile (c : TT) (tb : TS) : TS := fun D σ H => ∃ W : Nat → St → Hp → Prop, (∃ m, W m σ H) ∧ ∀ m σ H, W m σ H →
  c σ H fun b H1 => if b = true then ∃ N : St → Hp → Prop, (∀ σ' H', N σ' H' → ∃ m', m' < m ∧ W m' σ' H') ∧ tb { D with nx := N, ct := N, bk := D.nx } σ H1 else D.nx σ H1
theorem ps_while {c : Expr} {body : List Stmt} {tc : TT} {tb : TS} (hp : PassesOwn (model X.prog X.w) X.A X.env X.xe) (hc : PT X c tc) (hb : PSs X body tb) : PS X (.While c body [] pos) (tWhile tc tb) := by
  intro pins s σ H D I h
  obtain ⟨W, ⟨m0, w0⟩, turn⟩ := h
  refine wpAny_While (codeAny_whileLoop (fun n s' => ∃ σ' H', Inv X pins σ' H' s' ∧ W n σ' H') ?_ m0 ⟨σ, H, I, w0⟩)
  rintro n s1 ⟨σ1, H1, I1, w1⟩
  refine wpAny_passesOwn hp (thn (hc pins s1 σ1 H1 _ I1 (turn n σ1 H1 w1)) fun b s2 ⟨H2, I2, q2⟩ => ?_)
  cases b with
  | true =>
    obtain ⟨N, hN, q2⟩ := q2
    rw [if_pos rfl]
    refine wpAny_passesOwn hp (thn (hb pins s2 σ1 H2 _ I2 q2) fun f s3 q3 => ?_)
    cases f with
    | next =>
      obtain ⟨σ3, H3, I3, n3⟩ := q3
      obtain ⟨m', hm, w3⟩ := hN σ3 H3 n3
      exact ⟨m', hm, σ3, H3, I3, w3⟩
    | cont =>
      obtain ⟨σ3, H3, I3, n3⟩ := q3
      obtain ⟨m', hm, w3⟩ := hN σ3 H3 n3
      exact ⟨m', hm, σ3, H3, I3, w3⟩
    | brk => exact q3
    | ret v => exact q3
  | false =>
    rw [if_neg Bool.false_ne_true]
    exact wpAny_execs_nil ⟨σ1, H2, I2, q2⟩
end

/-! ### what a loop or a comprehension walks -/
/-- at turn i: it yields x (the heap may grow), or it stops -/
structure It where
  go : Nat → Hp → Prop
  yld : Nat → Hp → V → Hp → Prop
  stop : Nat → Hp → Prop
/-- the iterator's own objects may turn: they are not the frame's, not pinned, younger than the entry (or a comprehension's own) -/
def FpOk (X : Cx) (pins : List (Addr × Obj)) (H : Hp) (b : Addr) : Prop :=
  H b = none ∧ b ≠ X.env.locals ∧ b ∉ X.fs ∧ (b ∈ X.ex ∨ X.s₀.heap.objs.size ≤ b) ∧ (∀ x c, X.env.cells.lookup x = some c → c ≠ b) ∧ ∀ p ∈ X.pn ++ pins, p.1 ≠ b
theorem Inv.fpOk {X : Cx} {pins : List (Addr × Obj)} {σ : St} {H H' : Hp} {s : Shared} {b : Addr} (I : Inv X pins σ H s) (hb : s.heap.objs.size ≤ b) (hn : H' b = none) : FpOk X pins H' b := by
  refine ⟨hn, Nat.ne_of_gt (Nat.lt_of_lt_of_le I.lt hb), I.nofs hb, .inr (Nat.le_trans I.sz hb), fun x c e z => ?_, fun p hp z => ?_⟩
  · obtain ⟨v, q⟩ := I.cell x c e
    exact absurd (Nat.lt_of_lt_of_le q.lt (by rw [z]; exact hb)) (Nat.lt_irrefl _)
  · exact absurd (Nat.lt_of_lt_of_le (Heap.lt_size (I.pin p hp).1) (by rw [z]; exact hb)) (Nat.lt_irrefl _)
structure Turn (P : Program) (w : World) (K : PySem.W.Frag) (tg : Expr) (J : It) (fp : List Addr) (it : Addr) (tn : Nat → Heap → Prop) : Prop where
  mem : it ∈ fp
  obj : ∀ i h, tn i h → ∀ b ∈ fp, ∃ o, h.get? b = some o ∧ ∀ v, o.data ≠ .cell v
  keep : ∀ i h h', tn i h → (∀ b ∈ fp, ∀ o, h.get? b = some o → h'.get? b = some o) → tn i h'
  item : ∀ (X : Cx), X.prog = P → X.w = w → X.K = K → X.calm = true → ∀ (i : Nat) (pins : List (Addr × Obj)) (s : Shared) (σ : St) (H : Hp) (E : Value → Shared → Prop), Inv X pins σ H s → (∀ b ∈ fp, FpOk X pins H b) → tn i s.heap → J.go i H →
    wpAny (model P w) X.A (pyNext (.ref it)) (fun r s1 => ∃ u, r = some u ∧
      wpAny (model P w) X.A (letOwnedTupleGo tg (.ref it) u) (fun _ s2 => ∃ x H', Inv X pins σ H' s2 ∧ RelV x u ∧ J.yld i H x H' ∧ tn (i + 1) s2.heap ∧ ∀ b ∈ fp, H' b = none) E s1) E s
  done : ∀ (X : Cx), X.prog = P → X.w = w → X.K = K → X.calm = true → ∀ (i : Nat) (pins : List (Addr × Obj)) (s : Shared) (σ : St) (H : Hp) (E : Value → Shared → Prop), Inv X pins σ H s → (∀ b ∈ fp, FpOk X pins H b) → tn i s.heap → J.stop i H →
    wpAny (model P w) X.A (pyNext (.ref it)) (fun r s1 => r = none ∧ Inv X pins σ H s1) E s
  self : ∀ (A : Around) (i : Nat) (s : Shared) (Q : Value → Shared → Prop) (E : Value → Shared → Prop), tn i s.heap → Q (.ref it) s → wpAny (model P w) A (pyIter (.ref it)) Q E s
abbrev TI := St → Hp → (It → Hp → Prop) → Prop
/-- an iterator has come -/
def PIE (X : Cx) (pins : List (Addr × Obj)) (σ : St) (tg : Expr) (R : It → Hp → Prop) (itv : Value) (s2 : Shared) : Prop :=
  ∃ (it : Addr) (fp : List Addr) (tn : Nat → Heap → Prop) (J : It) (H' : Hp), itv = .ref it ∧ Inv X pins σ H' s2 ∧ Turn X.prog X.w X.K tg J fp it tn ∧ tn 0 s2.heap ∧ (∀ b ∈ fp, FpOk X pins H' b) ∧ R J H'
def PI (X : Cx) (tg iter : Expr) (wi : TI) : Prop :=
  ∀ (pins : List (Addr × Obj)) (s : Shared) (σ : St) (H : Hp) (R : It → Hp → Prop), Inv X pins σ H s → wi σ H R →
    wpAny (model X.prog X.w) X.A (eval iter X.env) (fun v s1 => wpAny (model X.prog X.w) X.A (pyIter v) (PIE X pins σ tg R) X.xe s1) X.xe s

/-- the step ahead of the store is nothing for an iterator that keeps no tuple -/
theorem go_of {M : Model} {A : Around} {E : Value → Shared → Prop} {s : Shared} {tg : Expr} {it : Addr} {u : Value} {o : Obj} {n : String} {vs : Array Value} {Q : Unit → Shared → Prop} (ho : s.heap.get? it = some o) (hc : o.cls = .type n) (hd : o.data = .fields vs)
    (hn : ["enumerate", "zip", "dict_itemiterator", "dict_reverseitemiterator", "odict_iterator", "itertools.zip_longest", "itertools.pairwise"].contains n = false) (hQ : Q () s) : wpAny M A (letOwnedTupleGo tg (.ref it) u) Q E s := by
  unfold letOwnedTupleGo
  cases tg <;> first
    | exact wpAny_pure hQ
    | (cases u <;> first
        | exact wpAny_pure hQ
        | (refine wpAny_bind (wpAny_load ho ?_)
           rw [hc, hd]
           show wpAny M A (if (["enumerate", "zip", "dict_itemiterator", "dict_reverseitemiterator", "odict_iterator", "itertools.zip_longest", "itertools.pairwise"].contains n && vs[0]? == some (rawInt _)) = true then _ else _) Q E s
           rw [if_neg (by intro h; rw [hn, Bool.false_and] at h; cases h)]
           exact wpAny_pure hQ))

/-- the list at a, as it stands at each turn (a loop may append to it) -/
def Itl (K : PySem.W.Frag) (a : Addr) : It :=
  ⟨fun i H => ∃ xs x, SqL K H a xs ∧ xs[i]? = some x, fun i H x H' => H' = H ∧ ∀ xs, SqL K H a xs → xs[i]? = some x, fun i H => ∃ xs, SqL K H a xs ∧ xs.length ≤ i⟩
def Itt (K : PySem.W.Frag) (a : Addr) : It :=
  ⟨fun i H => ∃ xs x, SqT K H a xs ∧ xs[i]? = some x, fun i H x H' => H' = H ∧ ∀ xs, SqT K H a xs → xs[i]? = some x, fun i H => ∃ xs, SqT K H a xs ∧ xs.length ≤ i⟩
/-- lo, lo + 1, .. (n of them) -/
def Itr (lo : Int) (n : Nat) : It := ⟨fun i _ => i < n, fun i H x H' => H' = H ∧ x = .int (lo + i), fun i _ => n ≤ i⟩
theorem turn_list {P : Program} {w : World} {K : PySem.W.Frag} {tg : Expr} (a it : Addr) : Turn P w K tg (Itl K a) [it] it (fun i h => h.IsListIter it a i) where
  mem := by simp
  obj := fun i h st b hb => by
    have e : b = it := by simpa using hb
    subst e
    obtain ⟨o, e, c, d⟩ := st
    exact ⟨o, e, fun v z => by rw [d] at z; cases z⟩
  keep := fun i h h' st k => st.at fun o e => k it (by simp) o e
  item := by
    intro X hP hw hK hc i pins s σ H E I hf st hg
    subst hP hw hK
    obtain ⟨xs, x, hq, hx⟩ := hg
    obtain ⟨its, rv, p, hz⟩ := I.list hq
    obtain ⟨u, hu, ru⟩ := rv.get hx
    obtain ⟨f0, f1, f2, f3, f4, f5⟩ := hf it (by simp)
    refine wpAny_pyNext_list_item st p.isList (x := u) (by simpa using hu) fun h' st' sb => ?_
    have I1 : Inv X pins σ H { s with heap := h' } := I.turned (t' := s.toks) (fun b o hb e => (sb.2 b hb).trans e) f0 f1 f3 f4 f5
    obtain ⟨o, e, c, d⟩ := id st'
    exact ⟨u, rfl, go_of (s := { s with heap := h' }) e c d (by decide) ⟨x, H, I1, ru, ⟨rfl, fun ys hy => by rw [I.list_inj hy hq]; exact hx⟩, st', fun b hb => (hf b hb).1⟩⟩
  done := by
    intro X hP hw hK hc i pins s σ H E I hf st hg
    subst hP hw hK
    obtain ⟨xs, hq, hx⟩ := hg
    obtain ⟨its, rv, p, hz⟩ := I.list hq
    obtain ⟨f0, f1, f2, f3, f4, f5⟩ := hf it (by simp)
    have hl := rv.length
    exact wpAny_pyNext_list_end (I.ok.hd hc) st p.isList (by simp; omega) fun h' eb => ⟨rfl, I.turned (t' := s.toks) (fun b o hb e => eb b o hb e) f0 f1 f3 f4 f5⟩
  self := fun _ _ _ _ _ st h => wpAny_pyIter_listiter st h
theorem turn_tuple {P : Program} {w : World} {K : PySem.W.Frag} {tg : Expr} (a it : Addr) : Turn P w K tg (Itt K a) [it] it (fun i h => h.IsTupleIter it a i) where
  mem := by simp
  obj := fun i h st b hb => by
    have e : b = it := by simpa using hb
    subst e
    obtain ⟨o, e, c, d⟩ := st
    exact ⟨o, e, fun v z => by rw [d] at z; cases z⟩
  keep := fun i h h' st k => st.at fun o e => k it (by simp) o e
  item := by
    intro X hP hw hK hc i pins s σ H E I hf st hg
    subst hP hw hK
    obtain ⟨xs, x, hq, hx⟩ := hg
    obtain ⟨its, rv, p, hz⟩ := I.tuple hq
    obtain ⟨u, hu, ru⟩ := rv.get hx
    obtain ⟨f0, f1, f2, f3, f4, f5⟩ := hf it (by simp)
    refine wpAny_pyNext_tuple_item st (show s.heap.IsTuple a its.toArray from p) (x := u) (by simpa using hu) fun h' st' sb => ?_
    have I1 : Inv X pins σ H { s with heap := h' } := I.turned (t' := s.toks) (fun b o hb e => (sb.2 b hb).trans e) f0 f1 f3 f4 f5
    obtain ⟨o, e, c, d⟩ := id st'
    exact ⟨u, rfl, go_of (s := { s with heap := h' }) e c d (by decide) ⟨x, H, I1, ru, ⟨rfl, fun ys hy => by rw [I.tuple_inj hy hq]; exact hx⟩, st', fun b hb => (hf b hb).1⟩⟩
  done := by
    intro X hP hw hK hc i pins s σ H E I hf st hg
    subst hP hw hK
    obtain ⟨xs, hq, hx⟩ := hg
    obtain ⟨its, rv, p, hz⟩ := I.tuple hq
    obtain ⟨f0, f1, f2, f3, f4, f5⟩ := hf it (by simp)
    have hl := rv.length
    exact wpAny_pyNext_tuple_end (I.ok.hd hc) st (show s.heap.IsTuple a its.toArray from p) (by simp; omega) fun h' eb => ⟨rfl, I.turned (t' := s.toks) (fun b o hb e => eb b o hb e) f0 f1 f3 f4 f5⟩
  self := fun _ _ _ _ _ st h => wpAny_pyIter_tupleiter st h
theorem turn_range {P : Program} {w : World} {K : PySem.W.Frag} {tg : Expr} (it : Addr) (lo : Int) (n : Nat) : Turn P w K tg (Itr lo n) [it] it (fun i h => IsRangeIter h it (lo + (i : Nat) * 1) ((n : Int) - (i : Nat)) 1) where
  mem := by simp
  obj := fun i h st b hb => by
    have e : b = it := by simpa using hb
    subst e
    exact ⟨_, st, fun v z => by
      have z' : Data.fields _ = Data.cell v := z
      cases z'⟩
  keep := fun i h h' st k => k it (by simp) _ st
  item := by
    intro X hP hw hK hc i pins s σ H E I hf st hg
    subst hP hw hK
    obtain ⟨f0, f1, f2, f3, f4, f5⟩ := hf it (by simp)
    have W := Walks.range (prog := X.prog) (w := X.w) (I.ok.hd hc) it lo 1 n
    refine W.item i s _ _ hg st fun v h' tk hv st' kk => ?_
    obtain ⟨t, rfl⟩ := hv
    have I1 : Inv X pins σ H { s with heap := h', toks := tk } := I.turned (fun b o hb e => kk b o (by simpa using hb) e) f0 f1 f3 f4 f5
    refine ⟨_, rfl, go_of (s := { s with heap := h', toks := tk }) (n := "range_iterator") st' rfl rfl (by decide) ⟨.int (lo + i), H, I1, ⟨t, ?_⟩, ⟨rfl, rfl⟩, st', fun b hb => (hf b hb).1⟩⟩
    rw [Int.mul_one]
  done := by
    intro X hP hw hK hc i pins s σ H E I hf st hg
    subst hP hw hK
    obtain ⟨f0, f1, f2, f3, f4, f5⟩ := hf it (by simp)
    exact wpAny_pyNext_range_end (I.ok.hd hc) st (by have : n ≤ i := hg; omega) fun h' eb => ⟨rfl, I.turned (t' := s.toks) (fun b o hb e => eb b o hb e) f0 f1 f3 f4 f5⟩
  self := fun _ _ _ _ _ st h => wpAny_pyIter_rangeiter st h
end L2

namespace L2
open PySem PySem.Spec PyProof.Rows
section
variable {X : Cx} {tg : Expr}
def iList (K : PySem.W.Frag) (tl : TE) : TI := fun σ H R => tl σ H fun x H1 => ∃ a, x = .ref a ∧ (∃ xs, SqL K H1 a xs) ∧ R (Itl K a) H1
def iTup (K : PySem.W.Frag) (tl : TE) : TI := fun σ H R => tl σ H fun x H1 => ∃ a, x = .ref a ∧ (∃ xs, SqT K H1 a xs) ∧ R (Itt K a) H1
theorem pi_list {l : Expr} {tl : TE} (hl : PE X l tl) : PI X tg l (iList X.K tl) := by
  intro pins s σ H R I h
  refine thn (hl pins s σ H _ I h) fun v s1 ⟨x, H1, I1, r1, q1⟩ => ?_
  obtain ⟨a, e, ⟨xs, hq⟩, q⟩ := q1
  subst e
  cases r1
  obtain ⟨its, rv, p, hz⟩ := I1.list hq
  refine wpAny_pyIter_list p.isList ?_
  refine ⟨s1.heap.objs.size, [s1.heap.objs.size], _, _, H1, rfl, I1.kept (t' := s1.toks) fun b o e => Heap.get?_push_of_some _ e, turn_list a _, ⟨_, Heap.get?_push_size _ rfl, rfl, rfl⟩, fun b hb => ?_, q⟩
  have e : b = s1.heap.objs.size := by simpa using hb
  subst e
  exact I1.fpOk (Nat.le_refl _) (I1.hok.fresh (Nat.le_refl _))
theorem pi_tup {l : Expr} {tl : TE} (hl : PE X l tl) : PI X tg l (iTup X.K tl) := by
  intro pins s σ H R I h
  refine thn (hl pins s σ H _ I h) fun v s1 ⟨x, H1, I1, r1, q1⟩ => ?_
  obtain ⟨a, e, ⟨xs, hq⟩, q⟩ := q1
  subst e
  cases r1
  obtain ⟨its, rv, p, hz⟩ := I1.tuple hq
  refine wpAny_pyIter_tuple (show s1.heap.IsTuple a its.toArray from p) ?_
  refine ⟨s1.heap.objs.size, [s1.heap.objs.size], _, _, H1, rfl, I1.kept (t' := s1.toks) fun b o e => Heap.get?_push_of_some _ e, turn_tuple a _, ⟨_, Heap.get?_push_size _ rfl, rfl, rfl⟩, fun b hb => ?_, q⟩
  have e : b = s1.heap.objs.size := by simpa using hb
  subst e
  exact I1.fpOk (Nat.le_refl _) (I1.hok.fresh (Nat.le_refl _))
/-- a range object just made, walked -/
theorem range_it {pins : List (Addr × Obj)} {σ : St} {H : Hp} {s : Shared} {R : It → Hp → Prop} {E : Value → Shared → Prop} {lo hi : Int} {t u v : Tok} {tk : Nat} (I : Inv X pins σ H s) (h1 : -(2 ^ 62) ≤ lo) (h2 : lo < 2 ^ 62) (h3 : -(2 ^ 62) ≤ hi) (h4 : hi < 2 ^ 62)
    (q : R (Itr lo (hi - lo).toNat) H) : wpAny (model X.prog X.w) X.A (pyIter (.ref s.heap.objs.size)) (PIE X pins σ tg R) E { s with heap := s.heap.push { cls := .type "range", data := .fields #[.int lo t, .int hi u, .int 1 v] }, toks := tk } := by
  refine wpAny_pyIter_range (IsRange.new ..) (small_one h1 h2 h3 h4) ?_
  have I1 : Inv X pins σ H { s with heap := s.heap.push { cls := .type "range", data := .fields #[.int lo t, .int hi u, .int 1 v] }, toks := tk } := I.kept fun b o e => Heap.get?_push_of_some _ e
  refine ⟨(s.heap.push { cls := .type "range", data := .fields #[.int lo t, .int hi u, .int 1 v] }).objs.size, [(s.heap.push { cls := .type "range", data := .fields #[.int lo t, .int hi u, .int 1 v] }).objs.size], _, _, H, rfl,
    I1.kept (t' := tk) fun b o e => Heap.get?_push_of_some _ e, turn_range _ lo (hi - lo).toNat, ?_, fun b hb => ?_, q⟩
  · have e1 : lo + ((0 : Nat) : Int) * 1 = lo := by simp
    have e2 : (((hi - lo).toNat : Nat) : Int) - ((0 : Nat) : Int) = Builtin.Range.rangeSize lo hi 1 := by rw [rangeSize_one]; split <;> omega
    show IsRangeIter _ _ (lo + ((0 : Nat) : Int) * 1) ((((hi - lo).toNat : Nat) : Int) - ((0 : Nat) : Int)) 1
    rw [e1, e2]
    exact Heap.get?_push_size _ rfl
  · have e : b = (s.heap.push { cls := .type "range", data := .fields #[.int lo t, .int hi u, .int 1 v] }).objs.size := by simpa using hb
    subst e
    exact I1.fpOk (Nat.le_refl _) (I1.hok.fresh (Nat.le_refl _))
def iRng1 (ta : TA) : TI := fun σ H R => ta σ H fun vs H1 => ∃ j : Int, vs = [.int j] ∧ -(2 ^ 62) ≤ j ∧ j < 2 ^ 62 ∧ R (Itr 0 j.toNat) H1
def iRng2 (ta : TA) : TI := fun σ H R => ta σ H fun vs H1 => ∃ i j : Int, vs = [.int i, .int j] ∧ (-(2 ^ 62) ≤ i ∧ i < 2 ^ 62 ∧ -(2 ^ 62) ≤ j ∧ j < 2 ^ 62) ∧ R (Itr i (j - i).toNat) H1
theorem pi_range1 {a : Expr} {ta : TA} {p pos : Pos} (hg : Gl X "range") (hm : X.mg "range" = none) (ha : PA X [a] ta) (hs : starEach [a] X.env = [(false, eval a X.env)] := by rfl) : PI X tg (.Call (.Name "range" p) [a] [] pos) (iRng1 ta) := by
  intro pins s σ H R I h
  refine Call_ (ld_blt I hg hm boot_range (PyProof.Rows.callWith_type1 (thn (ha pos pins s σ H _ I h) fun us s1 ⟨vs, H1, I1, r1, q1⟩ => ?_) hs rfl))
  obtain ⟨j, e, q1, q2, q⟩ := q1
  subst e
  cases r1 with
  | cons r rr =>
    cases rr
    obtain ⟨t, rfl⟩ := r
    exact call_range_1 (range_it I1 (by omega) (by omega) q1 q2 (by simpa using q))
theorem pi_range2 {a b : Expr} {ta : TA} {p pos : Pos} (hg : Gl X "range") (hm : X.mg "range" = none) (ha : PA X [a, b] ta) (hs : starEach [a, b] X.env = [(false, eval a X.env), (false, eval b X.env)] := by rfl) (hs2 : starEach [b] X.env = [(false, eval b X.env)] := by rfl) :
    PI X tg (.Call (.Name "range" p) [a, b] [] pos) (iRng2 ta) := by
  intro pins s σ H R I h
  refine Call_ (ld_blt I hg hm boot_range (PyProof.Rows.callWith_type1 (thn (ha pos pins s σ H _ I h) fun us s1 ⟨vs, H1, I1, r1, q1⟩ => ?_) (by rw [hs, hs2]) (by rw [hs2]; rfl)))
  obtain ⟨i, j, e, ⟨q1, q2, q3, q4⟩, q⟩ := q1
  subst e
  cases r1 with
  | cons r rr =>
    cases rr with
    | cons r' rr =>
      cases rr
      obtain ⟨t, rfl⟩ := r
      obtain ⟨t', rfl⟩ := r'
      exact call_range_2 (range_it I1 q1 q2 q3 q4 q)

/-! ### for -/
/-- W: the invariant by the turn and a measure; N: what the body is to reach -/
def tFor (wi : TI) (g : TG) (tb : TS) : TS := fun D σ H => wi σ H fun J H1 => ∃ W : Nat → Nat → St → Hp → Prop, (∃ m, W 0 m σ H1) ∧ ∀ i m σ H, W i m σ H →
  (J.stop i H ∧ D.nx σ H) ∨ (J.go i H ∧ ∃ N : St → Hp → Prop, (∀ σ' H', N σ' H' → ∃ m', m' < m ∧ W (i + 1) m' σ' H') ∧ ∀ x H', J.yld i H x H' → g x σ H' fun σ2 H2 => tb { D with nx := N, ct := N, bk := D.nx } σ2 H2)
/-- the records at fp as they stand -/
def pinsAt (fp : List Addr) (h : Heap) : List (Addr × Obj) := fp.filterMap fun b => (h.get? b).map fun o => (b, o)
theorem mem_pinsAt {fp : List Addr} {h : Heap} {b : Addr} {o : Obj} (hb : b ∈ fp) (e : h.get? b = some o) : (b, o) ∈ pinsAt fp h := List.mem_filterMap.mpr ⟨b, hb, by rw [e]; rfl⟩
theorem of_pinsAt {fp : List Addr} {h : Heap} {p : Addr × Obj} (hp : p ∈ pinsAt fp h) : p.1 ∈ fp ∧ h.get? p.1 = some p.2 := by
  obtain ⟨b, hb, e⟩ := List.mem_filterMap.mp hp
  cases q : h.get? b with
  | none => rw [q] at e; cases e
  | some o =>
    rw [q] at e
    have e' : (b, o) = p := Option.some.inj e
    subst e'
    exact ⟨hb, q⟩
theorem Inv.pinned {pins : List (Addr × Obj)} {σ : St} {H : Hp} {s : Shared} {fp : List Addr} (I : Inv X pins σ H s) (hf : ∀ b ∈ fp, FpOk X pins H b) (ho : ∀ b ∈ fp, ∃ o, s.heap.get? b = some o ∧ ∀ v, o.data ≠ .cell v) : Inv X (pins ++ pinsAt fp s.heap) σ H s :=
  I.pins_of fun p hp => (List.mem_append.mp hp).elim (fun z => I.pin p (List.mem_append_right _ z)) fun z => by
    obtain ⟨hb, e⟩ := of_pinsAt z
    obtain ⟨f0, f1, f2, _⟩ := hf p.1 hb
    obtain ⟨o, e', d⟩ := ho p.1 hb
    rw [e] at e'; cases e'
    exact ⟨e, f0, f1, f2, d⟩
theorem Inv.unpinned {pins pl : List (Addr × Obj)} {σ : St} {H : Hp} {s : Shared} (I : Inv X (pins ++ pl) σ H s) : Inv X pins σ H s := I.pins_of fun p hp => I.pin p (List.mem_append_right _ (List.mem_append_left _ hp))
theorem ps_for {iter : Expr} {body : List Stmt} {wi : TI} {g : TG} {tb : TS} {pos : Pos} (hp : PassesOwn (model X.prog X.w) X.A X.env X.xe) (hc : X.calm = true) (hi : PI X tg iter wi) (hg : PG X tg g) (hb : PSs X body tb)
    (hs : ∀ x, foldedSetIterable iter X.env x = pure x := by intro _; rfl) : PS X (.For tg iter body [] pos) (tFor wi g tb) := by
  intro pins s σ H D I h
  refine wpAny_For (thn (hi pins s σ H _ I h) fun v s1 h1 => thn h1 fun itv s2 h2 => ?_) hs
  obtain ⟨it, fp, tn, J, H2, e, I2, T, st2, f2, W, ⟨m0, w0⟩, turn⟩ := h2
  subst e
  -- what stays true of the iterator's objects through the loop
  have stat : ∀ {H' : Hp}, (∀ b ∈ fp, H' b = none) → ∀ b ∈ fp, FpOk X pins H' b := fun hn b hb => ⟨hn b hb, (f2 b hb).2⟩
  refine codeAny_forLoop_any (fun n s' => ∃ i σ' H', Inv X pins σ' H' s' ∧ tn i s'.heap ∧ (∀ b ∈ fp, H' b = none) ∧ W i n σ' H') ?_ m0 ⟨0, σ, H2, I2, st2, fun b hb => (f2 b hb).1, w0⟩
  rintro n s3 ⟨i, σ3, H3, I3, st3, fr3, w3⟩
  rcases turn i n σ3 H3 w3 with ⟨stop, qn⟩ | ⟨go, N, hN, step⟩
  · refine wpAny_passesOwn hp (thn (T.done X rfl rfl rfl hc i pins s3 σ3 H3 X.xe I3 (stat fr3) st3 stop) fun r s4 ⟨hr, I4⟩ => ?_)
    subst hr
    exact wpAny_execs_nil ⟨σ3, H3, I4, qn⟩
  · refine wpAny_passesOwn hp (thn (T.item X rfl rfl rfl hc i pins s3 σ3 H3 X.xe I3 (stat fr3) st3 go) fun r s4 ⟨u, hr, h4⟩ => ?_)
    subst hr
    refine wpAny_passesOwn hp (thn h4 fun _ s5 ⟨x, H5, I5, r5, y5, st5, fr5⟩ => ?_)
    have I5' := I5.pinned (stat fr5) (T.obj _ _ st5)
    refine wpAny_passesOwn hp (thn (hg _ s5 σ3 H5 x u _ I5' r5 (step x H5 y5)) fun _ s6 ⟨σ6, H6, I6, q6⟩ => ?_)
    refine wpAny_passesOwn hp (thn (hb _ s6 σ6 H6 _ I6 q6) fun f s7 q7 => ?_)
    have again : ∀ {σ7 : St} {H7 : Hp}, Inv X (pins ++ pinsAt fp s5.heap) σ7 H7 s7 → N σ7 H7 → ∃ m, m < n ∧ ∃ i σ' H', Inv X pins σ' H' s7 ∧ tn i s7.heap ∧ (∀ b ∈ fp, H' b = none) ∧ W i m σ' H' := fun {σ7 H7} I7 n7 => by
      obtain ⟨m', hm, w7⟩ := hN σ7 H7 n7
      refine ⟨m', hm, i + 1, σ7, H7, I7.unpinned, T.keep _ _ _ st5 fun b hb o e => (I7.pin (b, o) (List.mem_append_right _ (List.mem_append_right _ (mem_pinsAt hb e)))).1, fun b hb => ?_, w7⟩
      obtain ⟨o, e, d⟩ := T.obj _ _ st5 b hb
      exact (I7.pin (b, o) (List.mem_append_right _ (List.mem_append_right _ (mem_pinsAt hb e)))).2.1
    cases f with
    | next => obtain ⟨σ7, H7, I7, n7⟩ := q7; exact again I7 n7
    | cont => obtain ⟨σ7, H7, I7, n7⟩ := q7; exact again I7 n7
    | brk => obtain ⟨σ7, H7, I7, q7⟩ := q7; exact ⟨σ7, H7, I7.unpinned, q7⟩
    | ret v => obtain ⟨x7, σ7, H7, I7, r7, q7⟩ := q7; exact ⟨x7, σ7, H7, I7.unpinned, r7, q7⟩
end

/-! ### the forms one uses -/
/-- over a list that the body leaves as it is -/
theorem for_list {K : PySem.W.Frag} {a : Addr} {xs : List V} {g : TG} {tb : TS} {D : Ends} {σ : St} {H : Hp} (Pv : Nat → St → Hp → Prop) (h0 : Pv 0 σ H) (hl : ∀ i σ H, i ≤ xs.length → Pv i σ H → SqL K H a xs)
    (hs : ∀ i x σ H, xs[i]? = some x → Pv i σ H → g x σ H fun σ2 H2 => tb { D with nx := Pv (i + 1), ct := Pv (i + 1), bk := D.nx } σ2 H2) (hd : ∀ σ H, Pv xs.length σ H → D.nx σ H) :
    ∃ W : Nat → Nat → St → Hp → Prop, (∃ m, W 0 m σ H) ∧ ∀ i m σ H, W i m σ H →
      ((Itl K a).stop i H ∧ D.nx σ H) ∨ ((Itl K a).go i H ∧ ∃ N : St → Hp → Prop, (∀ σ' H', N σ' H' → ∃ m', m' < m ∧ W (i + 1) m' σ' H') ∧ ∀ x H', (Itl K a).yld i H x H' → g x σ H' fun σ2 H2 => tb { D with nx := N, ct := N, bk := D.nx } σ2 H2) := by
  refine ⟨fun i m σ H => m = xs.length - i ∧ i ≤ xs.length ∧ Pv i σ H, ⟨xs.length, by simp, Nat.zero_le _, h0⟩, ?_⟩
  rintro i m σ H ⟨rfl, hi, p⟩
  have q := hl i σ H hi p
  by_cases hlt : i < xs.length
  · refine .inr ⟨⟨xs, xs[i], q, by simp [hlt]⟩, Pv (i + 1), fun σ' H' p' => ⟨xs.length - (i + 1), by omega, rfl, hlt, p'⟩, fun x H' y => ?_⟩
    obtain ⟨e, y⟩ := y
    subst e
    exact hs i x σ _ (y xs q) p
  · have e : i = xs.length := by omega
    subst e
    exact .inl ⟨⟨xs, q, Nat.le_refl _⟩, hd σ H p⟩
theorem for_tup {K : PySem.W.Frag} {a : Addr} {xs : List V} {g : TG} {tb : TS} {D : Ends} {σ : St} {H : Hp} (Pv : Nat → St → Hp → Prop) (h0 : Pv 0 σ H) (hl : ∀ i σ H, i ≤ xs.length → Pv i σ H → SqT K H a xs)
    (hs : ∀ i x σ H, xs[i]? = some x → Pv i σ H → g x σ H fun σ2 H2 => tb { D with nx := Pv (i + 1), ct := Pv (i + 1), bk := D.nx } σ2 H2) (hd : ∀ σ H, Pv xs.length σ H → D.nx σ H) :
    ∃ W : Nat → Nat → St → Hp → Prop, (∃ m, W 0 m σ H) ∧ ∀ i m σ H, W i m σ H →
      ((Itt K a).stop i H ∧ D.nx σ H) ∨ ((Itt K a).go i H ∧ ∃ N : St → Hp → Prop, (∀ σ' H', N σ' H' → ∃ m', m' < m ∧ W (i + 1) m' σ' H') ∧ ∀ x H', (Itt K a).yld i H x H' → g x σ H' fun σ2 H2 => tb { D with nx := N, ct := N, bk := D.nx } σ2 H2) := by
  refine ⟨fun i m σ H => m = xs.length - i ∧ i ≤ xs.length ∧ Pv i σ H, ⟨xs.length, by simp, Nat.zero_le _, h0⟩, ?_⟩
  rintro i m σ H ⟨rfl, hi, p⟩
  have q := hl i σ H hi p
  by_cases hlt : i < xs.length
  · refine .inr ⟨⟨xs, xs[i], q, by simp [hlt]⟩, Pv (i + 1), fun σ' H' p' => ⟨xs.length - (i + 1), by omega, rfl, hlt, p'⟩, fun x H' y => ?_⟩
    obtain ⟨e, y⟩ := y
    subst e
    exact hs i x σ _ (y xs q) p
  · have e : i = xs.length := by omega
    subst e
    exact .inl ⟨⟨xs, q, Nat.le_refl _⟩, hd σ H p⟩
theorem for_range {lo : Int} {n : Nat} {g : TG} {tb : TS} {D : Ends} {σ : St} {H : Hp} (Pv : Nat → St → Hp → Prop) (h0 : Pv 0 σ H)
    (hs : ∀ i σ H, i < n → Pv i σ H → g (.int (lo + i)) σ H fun σ2 H2 => tb { D with nx := Pv (i + 1), ct := Pv (i + 1), bk := D.nx } σ2 H2) (hd : ∀ σ H, Pv n σ H → D.nx σ H) :
    ∃ W : Nat → Nat → St → Hp → Prop, (∃ m, W 0 m σ H) ∧ ∀ i m σ H, W i m σ H →
      ((Itr lo n).stop i H ∧ D.nx σ H) ∨ ((Itr lo n).go i H ∧ ∃ N : St → Hp → Prop, (∀ σ' H', N σ' H' → ∃ m', m' < m ∧ W (i + 1) m' σ' H') ∧ ∀ x H', (Itr lo n).yld i H x H' → g x σ H' fun σ2 H2 => tb { D with nx := N, ct := N, bk := D.nx } σ2 H2) := by
  refine ⟨fun i m σ H => m = n - i ∧ i ≤ n ∧ Pv i σ H, ⟨n, by simp, Nat.zero_le _, h0⟩, ?_⟩
  rintro i m σ H ⟨rfl, hi, p⟩
  by_cases hlt : i < n
  · refine .inr ⟨hlt, Pv (i + 1), fun σ' H' p' => ⟨n - (i + 1), by omega, rfl, hlt, p'⟩, fun x H' y => ?_⟩
    obtain ⟨e, y⟩ := y
    subst e y
    exact hs i σ _ hlt p
  · have e : i = n := by omega
    subst e
    exact .inl ⟨Nat.le_refl _, hd σ H p⟩
end L2

namespace L2
open PySem PySem.Spec PyProof.Rows

abbrev R2 := V → V → Hp → VK → Prop
/-- a two-place operation on values: f is binaryOp op, inplaceOp op or compareOp op -/
def OpR (X : Cx) (f : Value → Value → Sem Value) (r : R2) : Prop :=
  ∀ (pins : List (Addr × Obj)) (s : Shared) (σ : St) (H : Hp) (x y : V) (v u : Value) (Q : VK), Inv X pins σ H s → RelV x v → RelV y u → r x y H Q →
    wpAny (model X.prog X.w) X.A (f v u) (EP X pins σ Q) X.xe s
/-- a one-place operation -/
def UnR (X : Cx) (f : Value → Sem Value) (r : V → Hp → VK → Prop) : Prop :=
  ∀ (pins : List (Addr × Obj)) (s : Shared) (σ : St) (H : Hp) (x : V) (v : Value) (Q : VK), Inv X pins σ H s → RelV x v → r x H Q →
    wpAny (model X.prog X.w) X.A (f v) (EP X pins σ Q) X.xe s
/-- a call of a value that is known (a builtin, a type) with values -/
def CallR (X : Cx) (f : Value) (r : List V → Hp → VK → Prop) : Prop :=
  ∀ (pins : List (Addr × Obj)) (s : Shared) (σ : St) (H : Hp) (xs : List V) (us : List Value) (Q : VK), Inv X pins σ H s → Vals xs us → r xs H Q →
    wpAny (model X.prog X.w) X.A (call f us) (EP X pins σ Q) X.xe s

def tOp (r : R2) (ta tb : TE) : TE := fun σ H Q => ta σ H fun x H1 => tb σ H1 fun y H2 => r x y H2 Q
def tUn (r : V → Hp → VK → Prop) (ta : TE) : TE := fun σ H Q => ta σ H fun x H1 => r x H1 Q
/-- ints in, under C, and a value out -/
def rI (C : Int → Int → Prop) (g : Int → Int → V) : R2 := fun x y H Q => ∃ i j, x = .int i ∧ y = .int j ∧ C i j ∧ Q (g i j) H
def rI0 (g : Int → Int → V) : R2 := fun x y H Q => ∃ i j, x = .int i ∧ y = .int j ∧ Q (g i j) H
def rU (g : Int → V) : V → Hp → VK → Prop := fun x H Q => ∃ i, x = .int i ∧ Q (g i) H

section
variable {X : Cx} {a b c : Expr} {ta tb tc : TE} {pos : Pos}

theorem binT (ha : PE X a ta) (hb : PE X b tb) {pins : List (Addr × Obj)} {s : Shared} {σ : St} {H : Hp} {R : V → V → Hp → Prop} (I : Inv X pins σ H s)
    (h : ta σ H fun x H1 => tb σ H1 fun y H2 => R x y H2) {Q : Value → Shared → Prop} {f : Value → Value → Sem Value}
    (hf : ∀ v u s2 x y H2, Inv X pins σ H2 s2 → RelV x v → RelV y u → R x y H2 → wpAny (model X.prog X.w) X.A (f v u) Q X.xe s2) :
    wpAny (model X.prog X.w) X.A (eval a X.env) (fun v s₁ => wpAny (model X.prog X.w) X.A (eval b X.env) (fun u s₂ => wpAny (model X.prog X.w) X.A (f v u) Q X.xe s₂) X.xe s₁) X.xe s := by
  refine thn (ha pins s σ H _ I h) fun v s1 ⟨x, H1, I1, r1, q1⟩ => ?_
  refine thn (hb pins s1 σ H1 _ I1 q1) fun u s2 ⟨y, H2, I2, r2, q2⟩ => ?_
  exact hf v u s2 x y H2 I2 r1 r2 q2

theorem pe_op {op : Operator} {r : R2} (ho : OpR X (binaryOp op) r) (ha : PE X a ta) (hb : PE X b tb) : PE X (.BinOp a op b pos) (tOp r ta tb) := by
  intro pins s σ H Q I h
  exact wpAny_BinOp (binT ha hb I h fun v u s2 x y H2 I2 rx ry q => ho pins s2 σ H2 x y v u Q I2 rx ry q)
theorem pe_un {op : UnaryOp} {r : V → Hp → VK → Prop} (ho : UnR X (unaryOp op) r) (ha : PE X a ta) : PE X (.UnaryOp op a pos) (tUn r ta) := by
  intro pins s σ H Q I h
  exact UnaryOp_ (thn (ha pins s σ H _ I h) fun v s1 ⟨x, H1, I1, r1, q1⟩ => ho pins s1 σ H1 x v Q I1 r1 q1)

/-! ### ints -/
theorem opI {f : Value → Value → Sem Value} {C : Int → Int → Prop} {g : Int → Int → Int}
    (rule : ∀ (i j : Int) (t u : Tok) (s : Shared) (Q : Value → Shared → Prop) (E : Value → Shared → Prop), C i j → Q (.int (g i j) s.toks) { s with toks := s.toks + 1 } → wpAny (model X.prog X.w) X.A (f (.int i t) (.int j u)) Q E s) :
    OpR X f (rI C fun i j => .int (g i j)) := by
  intro pins s σ H x y v u Q I rx ry h
  obtain ⟨i, j, rfl, rfl, hc, q⟩ := h
  obtain ⟨t, rfl⟩ := rx
  obtain ⟨t', rfl⟩ := ry
  exact rule i j t t' s _ _ hc ⟨.int (g i j), H, I.tok _, ⟨_, rfl⟩, q⟩
theorem opI0 {f : Value → Value → Sem Value} {g : Int → Int → Int}
    (rule : ∀ (i j : Int) (t u : Tok) (s : Shared) (Q : Value → Shared → Prop) (E : Value → Shared → Prop), Q (.int (g i j) s.toks) { s with toks := s.toks + 1 } → wpAny (model X.prog X.w) X.A (f (.int i t) (.int j u)) Q E s) :
    OpR X f (rI0 fun i j => .int (g i j)) := by
  intro pins s σ H x y v u Q I rx ry h
  obtain ⟨i, j, rfl, rfl, q⟩ := h
  obtain ⟨t, rfl⟩ := rx
  obtain ⟨t', rfl⟩ := ry
  exact rule i j t t' s _ _ ⟨.int (g i j), H, I.tok _, ⟨_, rfl⟩, q⟩
theorem opB0 {f : Value → Value → Sem Value} {g : Int → Int → Bool}
    (rule : ∀ (i j : Int) (t u : Tok) (s : Shared) (Q : Value → Shared → Prop) (E : Value → Shared → Prop), Q (.bool (g i j)) s → wpAny (model X.prog X.w) X.A (f (.int i t) (.int j u)) Q E s) :
    OpR X f (rI0 fun i j => .bl (g i j)) := by
  intro pins s σ H x y v u Q I rx ry h
  obtain ⟨i, j, rfl, rfl, q⟩ := h
  obtain ⟨t, rfl⟩ := rx
  obtain ⟨t', rfl⟩ := ry
  exact rule i j t t' s _ _ ⟨.bl (g i j), H, I, rfl, q⟩

def CPow (i j : Int) : Prop := 0 ≤ j ∧ j ≤ 1000000 ∧ i.natAbs < 2 ^ 64
def CMul (i j : Int) : Prop := (-(2 ^ 64) < i ∧ i < 2 ^ 64) ∨ (-(2 ^ 64) < j ∧ j < 2 ^ 64)
theorem CMul.ok {i j : Int} (h : CMul i j) : IntMulOk i j := by
  rcases h with ⟨h1, h2⟩ | ⟨h1, h2⟩
  · exact .of_left (intBits_le_64 h1 h2)
  · exact .of_right (intBits_le_64 h1 h2)

theorem op_add : OpR X (binaryOp .Add) (rI0 fun i j => .int (i + j)) := opI0 fun _ _ _ _ _ _ _ q => add_int q
theorem op_sub : OpR X (binaryOp .Sub) (rI0 fun i j => .int (i - j)) := opI0 fun _ _ _ _ _ _ _ q => sub_int q
theorem op_mul : OpR X (binaryOp .Mult) (rI CMul fun i j => .int (i * j)) := opI fun _ _ _ _ _ _ _ hc q => mul_int q hc.ok
/-- % by a positive divisor of any size -/
theorem op_mod : OpR X (binaryOp .Mod) (rI (fun _ j => 0 < j) fun i j => .int (i % j)) := opI fun i j _ _ _ _ _ hc q => by
  have h1 : (0 : Int) < j := hc
  exact mod_int' (by omega) (by rw [Int.fmod_eq_emod_of_nonneg i (by omega)]; exact q)
theorem op_pow : OpR X (binaryOp .Pow) (rI CPow fun i j => .int (i ^ j.toNat)) := opI fun _ _ _ _ _ _ _ hc q => pow_int_small hc.1 hc.2.1 hc.2.2 q


theorem unI {f : Value → Sem Value} {g : Int → Int}
    (rule : ∀ (i : Int) (t : Tok) (s : Shared) (Q : Value → Shared → Prop) (E : Value → Shared → Prop), Q (.int (g i) s.toks) { s with toks := s.toks + 1 } → wpAny (model X.prog X.w) X.A (f (.int i t)) Q E s) :
    UnR X f (rU fun i => .int (g i)) := by
  intro pins s σ H x v Q I rx h
  obtain ⟨i, rfl, q⟩ := h
  obtain ⟨t, rfl⟩ := rx
  exact rule i t s _ _ ⟨.int (g i), H, I.tok _, ⟨_, rfl⟩, q⟩
theorem un_neg : UnR X (unaryOp .USub) (rU fun i => .int (-i)) := unI fun _ _ _ _ _ q => neg_int q

/-! ### bools among ints: n += (a < b) -/
end

/-! ### comparisons -/
/-- the scalars that == tells apart as data does -/
def scal : V → V → Bool
  | .non, .non => true | .non, .int _ => true | .int _, .non => true | .non, .bl _ => true | .bl _, .non => true | .non, .str _ => true | .str _, .non => true
  | .int _, .int _ => true | .bl _, .bl _ => true | .str _, .str _ => true | .byt _, .byt _ => true
  | .int _, .str _ => true | .str _, .int _ => true | .bl _, .str _ => true | .str _, .bl _ => true
  | _, _ => false
def rEq : R2 := fun x y H Q => scal x y = true ∧ Q (.bl (decide (x = y))) H
def rNe : R2 := fun x y H Q => scal x y = true ∧ Q (.bl (!decide (x = y))) H

theorem dec_int {i j : Int} : decide (V.int i = V.int j) = (i == j) := by
  rw [Bool.eq_iff_iff]
  simp
theorem dec_bl {i j : Bool} : decide (V.bl i = V.bl j) = (i == j) := by
  rw [Bool.eq_iff_iff]
  simp
theorem dec_str {i j : Str} : decide (V.str i = V.str j) = (i == j) := by
  rw [Bool.eq_iff_iff]
  simp
theorem dec_byt {i j : Array UInt8} : decide (V.byt i = V.byt j) = (i.toList == j.toList) := by
  rw [Bool.eq_iff_iff]
  cases i
  cases j
  simp

section
variable {X : Cx} {a b c : Expr} {ta tb tc : TE} {pos : Pos}
theorem fin_bl {pins : List (Addr × Obj)} {σ : St} {H : Hp} {s : Shared} {Q : VK} {k k' : Bool} (I : Inv X pins σ H s) (q : Q (.bl k) H) (e : k = k') : EP X pins σ Q (.bool k') s := by
  subst e
  exact ⟨.bl k, H, I, rfl, q⟩
theorem op_eq : OpR X (compareOp .Eq) rEq := by
  intro pins s σ H x y v u Q I rx ry h
  obtain ⟨hs, q⟩ := h
  cases x with
  | non =>
    cases rx
    cases y with
    | non => cases ry; exact PySem.EqNone.eq_none_none (fin_bl I q (by simp))
    | bl j => cases ry; exact PySem.EqNone.eq_none_bool (fin_bl I q (by simp))
    | int j => obtain ⟨t', rfl⟩ := ry; exact PySem.EqNone.eq_none_int (fin_bl I q (by simp))
    | str j => obtain ⟨t', rfl⟩ := ry; exact PySem.EqNone.eq_none_str (fin_bl I q (by simp))
    | _ => exact absurd (show false = true from hs) Bool.false_ne_true
  | bl i =>
    cases rx
    cases y with
    | non => cases ry; exact PySem.EqNone.eq_bool_none (fin_bl I q (by simp))
    | bl j => cases ry; exact eq_bool (fin_bl I q dec_bl)
    | str j => obtain ⟨t', rfl⟩ := ry; exact PySem.EqMixed.eq_bool_str (fin_bl I q (by simp))
    | _ => exact absurd (show false = true from hs) Bool.false_ne_true
  | int i =>
    obtain ⟨t, rfl⟩ := rx
    cases y with
    | non => cases ry; exact PySem.EqNone.eq_int_none (fin_bl I q (by simp))
    | int j => obtain ⟨t', rfl⟩ := ry; exact eq_int (fin_bl I q dec_int)
    | str j => obtain ⟨t', rfl⟩ := ry; exact PySem.EqMixed.eq_int_str (fin_bl I q (by simp))
    | _ => exact absurd (show false = true from hs) Bool.false_ne_true
  | str i =>
    obtain ⟨t, rfl⟩ := rx
    cases y with
    | non => cases ry; exact PySem.EqNone.eq_str_none (fin_bl I q (by simp))
    | bl j => cases ry; exact PySem.EqMixed.eq_str_bool (fin_bl I q (by simp))
    | int j => obtain ⟨t', rfl⟩ := ry; exact PySem.EqMixed.eq_str_int (fin_bl I q (by simp))
    | str j => obtain ⟨t', rfl⟩ := ry; exact eq_str (fin_bl I q dec_str)
    | _ => exact absurd (show false = true from hs) Bool.false_ne_true
  | byt i =>
    obtain ⟨t, rfl⟩ := rx
    cases y with
    | byt j => obtain ⟨t', rfl⟩ := ry; exact PySem.W.eq_bytes (fin_bl I q dec_byt)
    | _ => exact absurd (show false = true from hs) Bool.false_ne_true
  | _ => cases y <;> exact absurd (show false = true from hs) Bool.false_ne_true
theorem op_ne : OpR X (compareOp .NotEq) rNe := by
  intro pins s σ H x y v u Q I rx ry h
  obtain ⟨hs, q⟩ := h
  cases x with
  | non =>
    cases rx
    cases y with
    | non => cases ry; exact PySem.EqNone.ne_none_none (fin_bl I q (by simp))
    | bl j => cases ry; exact PySem.EqNone.ne_none_bool (fin_bl I q (by simp))
    | int j => obtain ⟨t', rfl⟩ := ry; exact PySem.EqNone.ne_none_int (fin_bl I q (by simp))
    | str j => obtain ⟨t', rfl⟩ := ry; exact PySem.EqNone.ne_none_str (fin_bl I q (by simp))
    | _ => exact absurd (show false = true from hs) Bool.false_ne_true
  | bl i =>
    cases rx
    cases y with
    | non => cases ry; exact PySem.EqNone.ne_bool_none (fin_bl I q (by simp))
    | bl j => cases ry; exact ne_bool (fin_bl I q (congrArg not dec_bl))
    | str j => obtain ⟨t', rfl⟩ := ry; exact PySem.EqMixed.ne_bool_str (fin_bl I q (by simp))
    | _ => exact absurd (show false = true from hs) Bool.false_ne_true
  | int i =>
    obtain ⟨t, rfl⟩ := rx
    cases y with
    | non => cases ry; exact PySem.EqNone.ne_int_none (fin_bl I q (by simp))
    | int j => obtain ⟨t', rfl⟩ := ry; exact ne_int (fin_bl I q (congrArg not dec_int))
    | str j => obtain ⟨t', rfl⟩ := ry; exact PySem.EqMixed.ne_int_str (fin_bl I q (by simp))
    | _ => exact absurd (show false = true from hs) Bool.false_ne_true
  | str i =>
    obtain ⟨t, rfl⟩ := rx
    cases y with
    | non => cases ry; exact PySem.EqNone.ne_str_none (fin_bl I q (by simp))
    | bl j => cases ry; exact PySem.EqMixed.ne_str_bool (fin_bl I q (by simp))
    | int j => obtain ⟨t', rfl⟩ := ry; exact PySem.EqMixed.ne_str_int (fin_bl I q (by simp))
    | str j => obtain ⟨t', rfl⟩ := ry; exact ne_str (fin_bl I q (congrArg not dec_str))
    | _ => exact absurd (show false = true from hs) Bool.false_ne_true
  | byt i =>
    obtain ⟨t, rfl⟩ := rx
    cases y with
    | byt j => obtain ⟨t', rfl⟩ := ry; exact PySem.W.ne_bytes (fin_bl I q (congrArg not dec_byt))
    | _ => exact absurd (show false = true from hs) Bool.false_ne_true
  | _ => cases y <;> exact absurd (show false = true from hs) Bool.false_ne_true

theorem op_lt : OpR X (compareOp .Lt) (rI0 fun i j => .bl (decide (i < j))) := opB0 fun _ _ _ _ _ _ _ q => lt_int q
theorem op_le : OpR X (compareOp .LtE) (rI0 fun i j => .bl (decide (i ≤ j))) := opB0 fun _ _ _ _ _ _ _ q => le_int q
theorem op_gt : OpR X (compareOp .Gt) (rI0 fun i j => .bl (decide (j < i))) := opB0 fun _ _ _ _ _ _ _ q => gt_int q
theorem op_ge : OpR X (compareOp .GtE) (rI0 fun i j => .bl (decide (j ≤ i))) := opB0 fun _ _ _ _ _ _ _ q => ge_int q

/-- is None, is not None: the right side a value none -/
theorem op_isN : OpR X (compareOp .Is) (fun x y H Q => y = .non ∧ Q (.bl (decide (x = .non))) H) := by
  intro pins s σ H x y v u Q I rx ry h
  obtain ⟨rfl, q⟩ := h
  cases ry
  refine is_none_gen (fin_bl I q ?_)
  cases x <;> first
    | (cases rx; rfl)
    | (obtain ⟨t, rfl⟩ := rx; rfl)



theorem nomark (b : Expr) {op : CmpOp} (h : op ≠ .In := by decide) (h2 : op ≠ .NotIn := by decide) : behindInMarks op b = false := by
  have e1 : (op == CmpOp.In) = false := by cases op <;> first | rfl | exact absurd rfl h
  have e2 : (op == CmpOp.NotIn) = false := by cases op <;> first | rfl | exact absurd rfl h2
  cases b <;> simp [behindInMarks, e1, e2]
/-- a comparison as a value; hm: nomark b, or (for in, not in) by with_unfolding_all rfl -/
theorem pe_cmpR {op : CmpOp} {r : R2} (ho : OpR X (compareOp op) r) (ha : PE X a ta) (hb : PE X b tb) (hm : behindInMarks op b = false) : PE X (.Compare a [op] [b] pos) (tOp r ta tb) := by
  intro pins s σ H Q I h
  exact wpAny_Compare1 (binT ha hb I h fun v u s2 x y H2 I2 rx ry q => ho pins s2 σ H2 x y v u Q I2 rx ry q) hm
/-- a reading of a value as a test -/
def tTest (t : TE) : TT := fun σ H Q => t σ H fun x H' => ∃ k, x = .bl k ∧ Q k H'
theorem pt_cmpR {op : CmpOp} {r : R2} (ho : OpR X (compareOp op) r) (ha : PE X a ta) (hb : PE X b tb) (hm : behindInMarks op b = false) : PT X (.Compare a [op] [b] pos) (tTest (tOp r ta tb)) := by
  intro pins s σ H Q I h
  refine wpAny_isTrue_Compare1 (thn (ha pins s σ H _ I h) fun v s1 ⟨x, H1, I1, r1, q1⟩ => thn (hb pins s1 σ H1 _ I1 q1) fun u s2 ⟨y, H2, I2, r2, q2⟩ =>
    thn (ho pins s2 σ H2 x y v u _ I2 r1 r2 q2) fun c s3 ⟨z, H3, I3, r3, k, e, q3⟩ => ?_) hm
  subst e
  cases r3
  exact wpAny_truthy_bool ⟨H3, I3, q3⟩

/-! ### truth -/
theorem line63 : (sizeLine : Nat) < 2 ^ 63 := by rw [sizeLine_eq]; decide

/-! ### strs and bytes -/


/-! ### scalar builtins, by CallR -/
theorem vals1 {x : V} {us : List Value} (r : Vals [x] us) : ∃ u, us = [u] ∧ RelV x u := by
  cases r with
  | cons r1 r2 => cases r2; exact ⟨_, rfl, r1⟩
theorem vals2 {x y : V} {us : List Value} (r : Vals [x, y] us) : ∃ u w', us = [u, w'] ∧ RelV x u ∧ RelV y w' := by
  cases r with
  | cons r1 r2 =>
    cases r2 with
    | cons r3 r4 => cases r4; exact ⟨_, _, rfl, r1, r3⟩
theorem call_max2 (hc : X.calm = true) : CallR X (.builtin "max") (fun xs H Q => ∃ i j, xs = [.int i, .int j] ∧ Q (.int (if j > i then j else i)) H) := by
  intro pins s σ H xs us Q I r h
  obtain ⟨i, j, rfl, q⟩ := h
  obtain ⟨u, w', rfl, ⟨t, rfl⟩, ⟨t', rfl⟩⟩ := vals2 r
  refine max_two_ints (I.ok.hd hc) fun h' tk k => ⟨_, H, I.kept k, ?_, q⟩
  by_cases hj : j > i
  · rw [if_pos hj, if_pos hj]; exact ⟨_, rfl⟩
  · rw [if_neg hj, if_neg hj]; exact ⟨_, rfl⟩
theorem call_min2 (hc : X.calm = true) : CallR X (.builtin "min") (fun xs H Q => ∃ i j, xs = [.int i, .int j] ∧ Q (.int (if j < i then j else i)) H) := by
  intro pins s σ H xs us Q I r h
  obtain ⟨i, j, rfl, q⟩ := h
  obtain ⟨u, w', rfl, ⟨t, rfl⟩, ⟨t', rfl⟩⟩ := vals2 r
  refine min_two_ints (I.ok.hd hc) fun h' tk k => ⟨_, H, I.kept k, ?_, q⟩
  by_cases hj : j < i
  · rw [if_pos hj, if_pos hj]; exact ⟨_, rfl⟩
  · rw [if_neg hj, if_neg hj]; exact ⟨_, rfl⟩
theorem call_int1 : CallR X (.type "int") (fun xs H Q => (∃ i, xs = [.int i] ∧ Q (.int i) H) ∨ ∃ k, xs = [.bl k] ∧ Q (.int (if k then 1 else 0)) H) := by
  intro pins s σ H xs us Q I r h
  rcases h with ⟨i, rfl, q⟩ | ⟨k, rfl, q⟩
  · obtain ⟨u, rfl, t, rfl⟩ := vals1 r
    exact call_int_int ⟨.int i, H, I, ⟨_, rfl⟩, q⟩
  · obtain ⟨u, rfl, r1⟩ := vals1 r
    cases r1
    exact call_int_bool ⟨.int (if k then 1 else 0), H, I.tok _, ⟨_, rfl⟩, q⟩
end
end L2

namespace L2
open PySem PySem.Spec PyProof.Rows

/-! ### an instance, its attributes a map -/
structure ObjM (h : Heap) (x dx C : Addr) (mA : Str → Option Value) : Prop where
  obj : h.get? x = some (PySem.W.instObj C dx)
  ns : h.Ns1 dx mA
  ne : dx ≠ x

theorem lookIn_ns {h : Heap} {dx : Addr} {mA : Str → Option Value} (n : h.Ns1 dx mA) : ∃ od, h.get? dx = some od ∧ ∀ name, PySem.W.lookIn name od = some (mA name) := by
  obtain ⟨o, es, ep, ho, hd, hk, _, hm⟩ := n
  refine ⟨o, ho, fun name => ?_⟩
  have e := hm name
  unfold nsFind findBy at e
  rw [← Array.find?_toList] at e
  unfold PySem.W.lookIn
  rw [hd]
  dsimp only
  split
  · rename_i y q
    rw [q] at e
    exact congrArg some e
  · rename_i q
    rw [q] at e
    have a : es.toList.any (·.refKey) = false := by
      rw [List.any_eq_false]
      intro y hy
      obtain ⟨z, t, hkey⟩ := hk y (Array.mem_toList_iff.mp hy)
      simp [DictEntry.refKey, hkey]
    have a' : ¬ es.toList.any (·.refKey) = true := by rw [a]; exact Bool.false_ne_true
    rw [if_neg a']
    exact congrArg some e

theorem ObjM.look {h : Heap} {x dx C : Addr} {mA : Str → Option Value} (I : ObjM h x dx C mA) : ∃ od, PySem.W.InstAt h x (PySem.W.instObj C dx) C (some od) ∧ ∀ name, PySem.W.lookIn name od = some (mA name) :=
  let ⟨od, ho, hl⟩ := lookIn_ns I.ns
  ⟨od, ⟨I.obj, rfl, rfl, ho⟩, hl⟩

section
variable {prog : Program} {w : World} {A : Around} {E : Value → Shared → Prop} {s : Shared} {K : PySem.W.Frag} {x dx C f : Addr} {mA : Str → Option Value} {name : Str} {v : Value}





end

/-! ### the attributes as a list of pairs -/


section
variable {P : Program} {w : World} {H H' : Hp} {h h' : Heap} {a C dx : Addr} {fs fs' : List (Str × V)}
theorem ins_get (hok : HOk P w H h) (e : H a = some (.ins C dx fs)) : ∃ mA, ObjM h a dx C mA ∧ (∀ f, RelO (fs.lookup f) (mA f)) ∧ PySem.Within mA (fs.map (·.1)) ∧ fs.length ≤ 1000 ∧ H dx = some (.own a) := by
  obtain ⟨d, z, ne, ob, mA, n, r, q⟩ := (show ObjOk P w H h a (.ins C dx fs) from hok a _ e)
  exact ⟨mA, ⟨ob, n, ne⟩, r, q, z, d⟩
end

/-! ### what of the text a class must have -/
structure Cls (K : PySem.W.Frag) (C : Addr) : Prop where
  pg : PySem.W.plainGet K C Str.empty = true
  hd : PySem.W.hasDictIn K C = true
  po : PySem.W.plainOver K C = true
  sa : PySem.W.findIn K (.ref C) "__setattr__" = some (some (.builtin "object.__setattr__"))
theorem Cls.get {K : PySem.W.Frag} {C : Addr} (c : Cls K C) (f : Str) : PySem.W.plainGet K C f = true := c.pg

section
variable {X : Cx} {pins : List (Addr × Obj)} {σ : St} {H : Hp} {s : Shared} {a C dx : Addr} {fs : List (Str × V)} {f : Str} {v : V} {A : Around} {E : Value → Shared → Prop}






end

/-! ### readings and rules -/

section
variable {X : Cx} {o e value : Expr} {f : Str} {pos pos' tpos : Pos} {ta tv : TE}

end

/-! ### isinstance -/
section
variable {X : Cx} {pins : List (Addr × Obj)} {σ : St} {H : Hp} {s : Shared} {A : Around} {E : Value → Shared → Prop} {Q : Value → Shared → Prop} {c : Value} {b : Bool}
/-- the type of a value, as the fragment's deciders take it; for an instance its class -/
inductive TyOf (K : PySem.W.Frag) (H : Hp) : V → Value → Prop where
  | non : TyOf K H .non (.type "NoneType")
  | bl (x : Bool) : TyOf K H (.bl x) (.type "bool")
  | int (i : Int) : TyOf K H (.int i) (.type "int")
  | str (x : Str) : TyOf K H (.str x) (.type "str")
  | flt (x : UInt64) : TyOf K H (.flt x) (.type "float")
  | lst {a : Addr} {xs : List V} (e : H a = some (.lst xs)) : TyOf K H (.ref a) (.type "list")
  | frz {a : Addr} {o : Obj} {xs : List V} (e : H a = some (.frz o (.lst xs))) : TyOf K H (.ref a) (.type "list")
  | tup {a : Addr} {xs : List V} (e : H a = some (.tup xs)) : TyOf K H (.ref a) (.type "tuple")
  | dK {a : Addr} {kvs : List (Key × V)} (e : H a = some (.dK kvs)) : TyOf K H (.ref a) (.type "dict")
  | dT {a : Addr} {kvs : List (List Key × V)} (e : H a = some (.dT kvs)) : TyOf K H (.ref a) (.type "dict")
  | ins {a C dx : Addr} {fs : List (Str × V)} (e : H a = some (.ins C dx fs)) (cl : Cls K C) (ha : PySem.W.findIn K (.ref C) "__class__" = some (some (.builtin "object.__class__")))
      (hn : PySem.W.specialIn K (.builtin "object.__class__") "__get__" = some (some (.builtin "getset_descriptor.__get__"))) (htk : PySem.W.takesIn K (.builtin "object.__class__") = some true)
      (hm : PySem.W.mroIn K C (.type "object") = some true) : TyOf K H (.ref a) (.ref C)
/-- isinstance(x, c) for one class c, a built-in or an own one: kitOne's answer -/
theorem isinst_ok {x : V} {u t : Value} (I : Inv X pins σ H s) (rx : RelV x u) (ty : TyOf X.K H x t) (e : PySem.W.kitOne X.K t c = some b) (h : ∀ tk, Q (.bool b) { s with toks := tk }) :
    wpAny (model X.prog X.w) A (call (.builtin "isinstance") [u, c]) Q E s := by
  cases ty with
  | non => cases (show u = Value.none from rx); exact PySem.W.kia_one PySem.W.kitx_none I.kIn True.intro e (fun z => nomatch z) h
  | bl y => cases (show u = Value.bool y from rx); exact PySem.W.kia_one PySem.W.kitx_bool I.kIn True.intro e (fun z => nomatch z) h
  | int i => obtain ⟨t, q⟩ := (show ∃ t, u = Value.int i t from rx); cases q; exact PySem.W.kia_one PySem.W.kitx_int I.kIn True.intro e (fun z => nomatch z) h
  | str y => obtain ⟨t, q⟩ := (show ∃ t, u = Value.str y t from rx); cases q; exact PySem.W.kia_one PySem.W.kitx_str I.kIn True.intro e (fun z => nomatch z) h
  | flt y => obtain ⟨t, q⟩ := (show ∃ t, u = Value.float y t from rx); cases q; exact PySem.W.kia_one PySem.W.kitx_float I.kIn True.intro e (fun z => nomatch z) h
  | @lst a xs ea =>
    cases (show u = Value.ref a from rx)
    obtain ⟨_, _, n, _, h1⟩ := (show ObjOk X.prog X.w H s.heap a (.lst xs) from I.hok a _ ea)
    exact PySem.W.kia_one PySem.W.kitx_list I.kIn ⟨_, h1, rfl⟩ e (fun z => nomatch z) h
  | @frz a ob xs ea =>
    cases (show u = Value.ref a from rx)
    obtain ⟨_, _, _, n, _, h1⟩ := (show ObjOk X.prog X.w H s.heap a (.frz ob (.lst xs)) from I.hok a _ ea)
    exact PySem.W.kia_one PySem.W.kitx_list I.kIn ⟨_, h1, rfl⟩ e (fun z => nomatch z) h
  | @tup a xs ea =>
    cases (show u = Value.ref a from rx)
    obtain ⟨_, _, _, p⟩ := (show ObjOk X.prog X.w H s.heap a (.tup xs) from I.hok a _ ea)
    obtain ⟨o, h1, h2, _⟩ := p
    exact PySem.W.kia_one PySem.W.kitx_tuple I.kIn ⟨o, h1, h2⟩ e (fun z => nomatch z) h
  | @dK a kvs ea =>
    cases (show u = Value.ref a from rx)
    obtain ⟨_, _, vs, _, p⟩ := (show ObjOk X.prog X.w H s.heap a (.dK kvs) from I.hok a _ ea)
    obtain ⟨o, es, ep, h1, h2, _⟩ := p
    exact PySem.W.kia_one PySem.W.kitx_dict I.kIn ⟨o, h1, h2.1⟩ e (fun z => nomatch z) h
  | @dT a kvs ea =>
    cases (show u = Value.ref a from rx)
    obtain ⟨_, _, xs, _, o, es, ep, h1, h2, _⟩ := (show ObjOk X.prog X.w H s.heap a (.dT kvs) from I.hok a _ ea)
    exact PySem.W.kia_one PySem.W.kitx_dict I.kIn ⟨o, h1, h2.1⟩ e (fun z => nomatch z) h
  | @ins a C dx fs ea cl ha hn htk hm =>
    cases (show u = Value.ref a from rx)
    obtain ⟨mA, O, _⟩ := ins_get I.hok ea
    obtain ⟨od, J, _⟩ := O.look
    exact PySem.W.kia_one (PySem.W.kitx_own (cl.get _) cl.hd ha hn htk hm) I.kIn J e (fun z => nomatch z) h
end
end L2

namespace L2
open PySem PySem.Spec PyProof.Rows

/-! ### room -/
structure Room (k : Nat) (A : Around) : Prop where
  hd : A.handled = none
  dp : A.depth + 3 * k + 5 < recursionLimit
  un : A.units + 16 * k + 200 < cLine
theorem Room.mono {j k : Nat} {A : Around} (r : Room k A) (h : j ≤ k) : Room j A := ⟨r.hd, by have := r.dp; omega, by have := r.un; omega⟩
theorem Room.deeper {k : Nat} {A : Around} (r : Room (k + 1) A) (env : Env) : Room k (A.deeper env) :=
  ⟨r.hd, by have := r.dp; show A.depth + 1 + 3 * k + 5 < _; omega, by have := r.un; show A.units + 3 + 16 * k + 200 < _; omega⟩
theorem Room.depth {k : Nat} {A : Around} (r : Room k A) : A.depth < recursionLimit := by have := r.dp; omega

/-! ### argument lists and displays -/
def tNil : TA := fun _ H Q => Q [] H
def tCons (ta : TE) (tr : TA) : TA := fun σ H Q => ta σ H fun x H1 => tr σ H1 fun xs H2 => Q (x :: xs) H2
section
variable {X : Cx} {e : Expr} {es : List Expr} {te : TE} {t : TA} {pos : Pos}
theorem pa_nil : PA X [] tNil := fun _ _ _ _ H Q I h => Calls.spliced_nil ⟨[], H, I, .nil, h⟩
theorem pa_cons (ha : PE X e te) (hr : PA X es t) (hs : starEach (e :: es) X.env = (false, eval e X.env) :: starEach es X.env := by rfl) : PA X (e :: es) (tCons te t) := by
  intro pos pins s σ H Q I h
  rw [hs]
  show wpAny _ _ (spliced ((false, eval e X.env) :: backTo pos (starEach es X.env))) _ _ s
  refine Calls.spliced_cons (thn (ha pins s σ H _ I h) fun u s1 ⟨x, H1, I1, r1, q1⟩ => ?_)
  exact thn (hr pos pins s1 σ H1 _ I1 q1) fun us s2 ⟨xs, H2, I2, r2, q2⟩ => ⟨x :: xs, H2, I2, .cons r1 r2, q2⟩

/-- a tuple, a list of written items -/
def tTup (t : TA) : TE := fun σ H Q => t σ H fun xs H1 => xs.length ≤ sizeLine ∧ ∀ p, H1 p = none → Q (.ref p) (upd H1 p (.tup xs))
def tLst (t : TA) : TE := fun σ H Q => t σ H fun xs H1 => xs.length ≤ sizeLine ∧ ∀ p, H1 p = none → Q (.ref p) (upd H1 p (.lst xs))
theorem pe_tup {x1} (h : PA X es t) : PE X (.Tuple es x1 pos) (tTup t) := by
  intro pins s σ H Q I hq
  refine wpAny_Tuple_spliced (thn (h pos pins s σ H _ I hq) fun us s1 ⟨xs, H1, I1, r, z, q⟩ => ⟨by rw [← r.length]; exact z, ?_⟩)
  have hf : H1 s1.heap.objs.size = none := I1.hok.fresh (Nat.le_refl _)
  refine ⟨.ref s1.heap.objs.size, upd H1 s1.heap.objs.size (.tup xs), I1.laid (t' := s1.toks) (fun b u e => Heap.get?_push_of_some _ e) (Nat.le_refl _) ?_, rfl, q _ hf⟩
  exact ⟨z, us, r, ⟨_, Heap.get?_push_size _ rfl, rfl, _, rfl⟩⟩
theorem pe_lst (h : PA X es t) : PE X (.List es pos) (tLst t) := by
  intro pins s σ H Q I hq
  refine wpAny_List_spliced (thn (h pos pins s σ H _ I hq) fun us s1 ⟨xs, H1, I1, r, z, q⟩ => ⟨by rw [← r.length]; exact z, ?_⟩)
  have hf : H1 s1.heap.objs.size = none := I1.hok.fresh (Nat.le_refl _)
  refine ⟨.ref s1.heap.objs.size, upd H1 s1.heap.objs.size (.lst xs), I1.laid (t' := s1.toks) (fun b u e => Heap.get?_push_of_some _ e) (Nat.le_refl _) ?_, rfl, q _ hf⟩
  exact ⟨z, us, 0, r, Heap.get?_push_size _ rfl⟩
end

/-! ### what a def promises -/
/-- a def's promise: the bound arguments in the parameters' order, the heap, the wanted end, the wanted exception -/
abbrev Sp := List V → Hp → VK → XK → Prop
/-- how an exception lies behind a call (file 08 gives it): the callers' frames, abstract heap and state ahead of the call, the wish, the exception, the state -/
abbrev CXT := List Env → Hp → Shared → XK → Value → Shared → Prop

/-- the state at a call -/
structure Env0 (P : Program) (w : World) (K : PySem.W.Frag) (mg : Str → Option Value) (base : Heap) (A : Around) (outer : List Env) (s : Shared) (H : Hp) : Prop where
  frames : A.frames = some outer
  mod : Mod K mg base
  bs : ∀ b o, base.get? b = some o → s.heap.get? b = some o ∧ H b = none
  bsz : base.objs.size ≤ s.heap.objs.size
  funs : s.heap.FunFrames base outer
  frf : ∀ b ∈ frs outer, H b = none
  hok : HOk P w H s.heap
  bare : AllBare s.gens
/-- a call's end -/
def CE (outer : List Env) (P : Program) (w : World) (H : Hp) (s : Shared) (Q : VK) (u : Value) (s' : Shared) : Prop :=
  ∃ v H', s'.os = s.os ∧ AllBare s'.gens ∧ Un (frs outer) [] H H' s.heap s'.heap ∧ HOk P w H' s'.heap ∧ RelV v u ∧ Q v H'
def CR (CX : CXT) (outer : List Env) (P : Program) (w : World) (H : Hp) (s : Shared) (Q : VK) (E : XK) (r : Result) (s' : Shared) : Prop :=
  match r with
  | .ok (.ret u) => CE outer P w H s Q u s'
  | .ok _ => False
  | .error e => CX outer H s E e s'
structure FnOk (P : Program) (w : World) (K : PySem.W.Frag) (mg : Str → Option Value) (base : Heap) (CX : CXT) (k : Nat) (f : Addr) (fd : FuncData) (ps : List Str) (sp : Sp) : Prop where
  len : ∀ vs H Q E, sp vs H Q E → vs.length = ps.length
  run : ∀ (A : Around) (outer : List Env) (s : Shared) (H : Hp) (args : Args) (us : List Value) (vs : List V) (Q : VK) (E : XK), Room k A → Env0 P w K mg base A outer s H → BindsTo s fd args (ps.zip us) → Vals vs us → sp vs H Q E →
    codeAny (model P w) A (.call (.ref f) args) (CR CX outer P w H s Q E) s


section
variable {X : Cx} {pins : List (Addr × Obj)} {σ : St} {H : Hp} {s s' : Shared}
/-- from a body: what a callee wants -/
theorem Inv.env0 (I : Inv X pins σ H s) : Env0 X.prog X.w X.K X.mg X.base X.A X.stack s H :=
  ⟨I.ok.frames, I.ok.mod, I.bs, Nat.le_trans I.ok.bsz I.sz, I.stack, I.stkFree, I.hok, I.bare⟩
/-- behind a call -/
theorem Inv.after {Q : VK} {u : Value} (I : Inv X pins σ H s) (h : CE X.stack X.prog X.w H s Q u s') : EP X pins σ Q u s' := by
  obtain ⟨v, H', os, bare, un, hok, r, q⟩ := h
  obtain ⟨hh, g, d, t, os'⟩ := s'
  obtain rfl : os' = s.os := os
  exact ⟨v, H', I.call (h' := hh) (g' := g) (d' := d) (t' := t) (ch := []) un hok bare (fun b z => absurd z (by simp)), r, q⟩
end

/-! ### calls -/
/-- f(..): the written arguments, then the defaults dvs; E: what is wanted of an exception -/
def tCall (sp : Sp) (dvs : List V) (E : XK) (t : TA) : TE := fun σ H Q => t σ H fun vs H1 => sp (vs ++ dvs) H1 Q E

/-- how the parameters are bound: us the positional arguments, kw the keywords' values by name, ds the defaults that fill up -/
def Binds (K : PySem.W.Frag) (fd : FuncData) (ps : List Str) (ds : List Value) : Prop :=
  ∀ (s : Shared) (us : List Value), K.In s.heap → (us ++ ds).length = ps.length → BindsTo s fd ⟨us, []⟩ (ps.zip (us ++ ds))
/-- every parameter is given -/
theorem Binds.all {K : PySem.W.Frag} {fd : FuncData} {ps : List Str} (h : ∀ us : List Value, us.length = ps.length → bindArgs fd ⟨us, []⟩ = pure (ps.zip us)) : Binds K fd ps [] := fun s us _ hl => by
  rw [List.append_nil] at hl ⊢
  exact .of_eq (h us hl)

/-- an exception of a callee reaches what this body wants of exceptions -/
def Passes (CX : CXT) (X : Cx) (E : XK) : Prop := ∀ (pins : List (Addr × Obj)) (σ : St) (H : Hp) (s : Shared) (e : Value) (s' : Shared), Inv X pins σ H s → CX X.stack H s E e s' → X.xe e s'

section
variable {X : Cx} {CX : CXT} {k : Nat} {f C : Addr} {fd : FuncData} {ps : List Str} {sp : Sp} {dvs : List V} {ds : List Value} {E : XK} {x m : Str} {p pos apos : Pos} {e o : Expr} {es : List Expr} {ta : TE} {t : TA}

/-- the callee runs -/
theorem run_fn {pins : List (Addr × Obj)} {σ : St} {H : Hp} {s : Shared} {Q : VK} {us : List Value} {vs : List V} (F : FnOk X.prog X.w X.K X.mg X.base CX k f fd ps sp) (hr : Room k X.A) (hb : Binds X.K fd ps ds) (hd : Vals dvs ds) (hx : Passes CX X E)
    (I : Inv X pins σ H s) (r : Vals vs us) (h : sp (vs ++ dvs) H Q E) : wpAny (model X.prog X.w) X.A (call (.ref f) us) (EP X pins σ Q) X.xe s := by
  have r2 : Vals (vs ++ dvs) (us ++ ds) := r.append hd
  have hl : (us ++ ds).length = ps.length := by rw [← r2.length]; exact F.len _ _ _ _ h
  refine wpAny_call (codeAny_mono (F.run X.A X.stack s H ⟨us, []⟩ (us ++ ds) (vs ++ dvs) Q E hr I.env0 (hb s us I.kIn hl) r2 h) fun r s' hq => ?_)
  cases r with
  | error e => exact hx pins σ H s e s' I hq
  | ok fl =>
    cases fl with
    | ret u => exact I.after hq
    | next => exact False.elim hq
    | brk => exact False.elim hq
    | cont => exact False.elim hq

theorem pe_call (F : FnOk X.prog X.w X.K X.mg X.base CX k f fd ps sp) (hr : Room k X.A) (hg : Gl X x) (hm : X.mg x = some (.ref f)) (hk : PySem.W.keepIn X.K (.ref f) = true) (hb : Binds X.K fd ps ds) (hd : Vals dvs ds) (hx : Passes CX X E)
    (ha : PA X (e :: es) t) (hdb : (x == ("__debug__" : Str)) = false := by decide) (he : starEach (e :: es) X.env = (false, eval e X.env) :: starEach es X.env := by rfl) (hpl : (backTo pos (starEach es X.env)).any (·.1) = false := by rfl) :
    PE X (.Call (.Name x p) (e :: es) [] pos) (tCall sp dvs E t) := by
  intro pins s σ H Q I h
  refine wpAny_Call_Name_kw (ld_glob I hg hm ?_ hdb)
  refine PySem.W.callWith_K (h₀ := X.base) I.ok.mod.kin hk (thn (ha pos pins s σ H _ I h) fun us s1 ⟨vs, H1, I1, r, q⟩ => ⟨I1.kIn, ?_⟩) he hpl
  exact run_fn F hr hb hd hx I1 r q



end

/-! ### keywords -/
section
variable {X : Cx} {CX : CXT} {k : Nat} {f C : Addr} {fd : FuncData} {ps ks : List Str} {sp : Sp} {E : XK} {x m : Str} {p pos apos kpos : Pos} {e o : Expr} {es : List Expr} {kws : List Keyword} {te ta : TE} {t tk : TA} {nm : Option Str}

variable {g : List Value → List Value → List Value} {gV : List V → List V → List V}
end

/-! ### a def's body keeps its promise -/
/-- names: the parameters first -/
structure FnScope (N P : List Str) (sc : Scope) : Prop where
  kind : sc.kind = .function
  co : sc.isCoroutine = false
  gen : sc.isGenerator = false
  nd : N.Nodup
  pre : N.take P.length = P
  par : ∀ x ∈ P, sc.names.lookup x = some .local ∨ sc.names.lookup x = some .cell
  nofree : ∀ y ∈ sc.names, y.2 ≠ .free

theorem bindL_out {kindOf : Str → Option NameKind} {x : Str} : ∀ {binds : List (Str × Value)} {m : Str → Option Value}, (∀ v, (x, v) ∉ binds) → bindL kindOf binds m x = m x
  | [], _, _ => rfl
  | (n, v) :: r, m, h => by
    unfold bindL
    rw [bindL_out fun w hw => h w (List.mem_cons_of_mem _ hw)]
    split
    · have : x ≠ n := by rintro rfl; exact h v List.mem_cons_self
      simp [this]
    · rfl
theorem bindC_out {kindOf : Str → Option NameKind} {x : Str} : ∀ {binds : List (Str × Value)} {m : Str → Option Value}, (∀ v, (x, v) ∉ binds) → bindC kindOf binds m x = m x
  | [], _, _ => rfl
  | (n, v) :: r, m, h => by
    unfold bindC
    rw [bindC_out fun w hw => h w (List.mem_cons_of_mem _ hw)]
    split
    · rfl
    · have : x ≠ n := by rintro rfl; exact h v List.mem_cons_self
      simp [this]
theorem bindL_get {kindOf : Str → Option NameKind} {x : Str} {v : Value} : ∀ {P : List Str} {vs : List Value} {i : Nat} {m : Str → Option Value}, P.Nodup → P[i]? = some x → vs[i]? = some v → kindOf x = some .local →
    bindL kindOf (P.zip vs) m x = some v
  | [], _, _, _, _, h, _, _ => by simp at h
  | _ :: _, [], _, _, _, _, h, _ => by simp at h
  | p :: P, w :: vs, 0, m, nd, h1, h2, hk => by
    simp at h1 h2; subst h1; subst h2
    show bindL kindOf ((p, w) :: P.zip vs) m p = _
    unfold bindL
    rw [bindL_out fun v hv => (List.nodup_cons.mp nd).1 (List.of_mem_zip hv).1, if_pos hk]
    simp
  | p :: P, w :: vs, i + 1, m, nd, h1, h2, hk => by
    show bindL kindOf ((p, w) :: P.zip vs) m x = _
    unfold bindL
    exact bindL_get (i := i) (List.nodup_cons.mp nd).2 (by simpa using h1) (by simpa using h2) hk
theorem bindC_get {kindOf : Str → Option NameKind} {x : Str} {v : Value} : ∀ {P : List Str} {vs : List Value} {i : Nat} {m : Str → Option Value}, P.Nodup → P[i]? = some x → vs[i]? = some v → kindOf x ≠ some .local →
    bindC kindOf (P.zip vs) m x = some v
  | [], _, _, _, _, h, _, _ => by simp at h
  | _ :: _, [], _, _, _, _, h, _ => by simp at h
  | p :: P, w :: vs, 0, m, nd, h1, h2, hk => by
    simp at h1 h2; subst h1; subst h2
    show bindC kindOf ((p, w) :: P.zip vs) m p = _
    unfold bindC
    rw [bindC_out fun v hv => (List.nodup_cons.mp nd).1 (List.of_mem_zip hv).1, if_neg hk]
    simp
  | p :: P, w :: vs, i + 1, m, nd, h1, h2, hk => by
    show bindC kindOf ((p, w) :: P.zip vs) m x = _
    unfold bindC
    exact bindC_get (i := i) (List.nodup_cons.mp nd).2 (by simpa using h1) (by simpa using h2) hk

/-- the names' values at the entry -/
def start (N : List Str) (vs : List V) : St := vs.map some ++ List.replicate (N.length - vs.length) none

/-- the context of a def's body, at its entry; an exception leaves the frame, then lies as CX says -/
def cxOf (CX : CXT) (P : Program) (w : World) (K : PySem.W.Frag) (mg : Str → Option Value) (base : Heap) (N : List Str) (qual : Str) (scope : Scope) (f : Addr) (cd : Value) (A : Around) (outer : List Env) (s : Shared) (H : Hp) (E : XK) : Cx where
  prog := P
  w := w
  K := K
  mg := mg
  base := base
  A := A.deeper (envOfC qual scope s.heap.objs.size f cd)
  N := N
  s₀ := s
  H₀ := H
  env := envOfC qual scope s.heap.objs.size f cd
  outer := outer
  stack := envOfC qual scope s.heap.objs.size f cd :: outer
  ex := []
  calm := true
  fn := fun _ => true
  pn := []
  xe := fun e s' => wpAny (model P w) (A.deeper (envOfC qual scope s.heap.objs.size f cd)) (leaving (envOfC qual scope s.heap.objs.size f cd) e) (fun _ s'' => CX outer H s E e s'') (fun e' s'' => CX outer H s E e' s'') s'

theorem cell_has {sc : Scope} {n : Nat} {x : Str} (h : sc.names.lookup x = some .cell) : ∃ c, (cellsFrom n sc.names []).lookup x = some c := by
  have q := PySem.W.cellsFrom_some sc.names n [] (.inl h)
  exact Option.isSome_iff_exists.mp q

theorem inv_start {CX : CXT} {P : Program} {w : World} {K : PySem.W.Frag} {mg : Str → Option Value} {base : Heap} {N ps : List Str} {qual : Str} {scope : Scope} {f : Addr} {cd : Value} {A : Around} {outer : List Env} {s s1 : Shared} {H : Hp} {E : XK} {us : List Value} {vs : List V}
    (S : FnScope N ps scope) (hd : A.handled = none) (e0 : Env0 P w K mg base A outer s H) (hl : vs.length = ps.length) (r : Vals vs us)
    (x : InCallC s s.heap.objs.size (bindL (envOfC qual scope s.heap.objs.size f cd).kindOf (ps.zip us) fun _ => none) (cellsFrom (s.heap.objs.size + 1) scope.names []) (bindC (envOfC qual scope s.heap.objs.size f cd).kindOf (ps.zip us) fun _ => none) s1) :
    Inv (cxOf CX P w K mg base N qual scope f cd A outer s H E) [] (start N vs) H s1 := by
  have hpl : ps.length ≤ N.length := by have := congrArg List.length S.pre; rw [List.length_take] at this; omega
  obtain ⟨h1, tk, rfl, hk⟩ := x.done
  have noA : ∀ b : Addr, b ∉ (cxOf CX P w K mg base N qual scope f cd A outer s H E).ex := fun b z => absurd (show b ∈ ([] : List Addr) from z) (by simp)
  refine ⟨⟨e0.mod, S.kind, rfl, rfl, Nat.le_refl _, fun y z c h1 h2 => ?_, fun y hy => ?_, fun y c _ h => ?_, fun _ => hd, Around.frames_deeper e0.frames, .inr ⟨rfl, rfl⟩, fun b z => absurd z (noA b), e0.bs, e0.bsz, fun b _ _ => noA b, fun b z => absurd z (noA b), e0.funs, e0.frf⟩,
    rfl, e0.bare, Un.kept hk, ⟨_, x.toInCall.ns, fun i y v h1 h2 h3 => ?_⟩, fun y c h => ⟨_, x.cell y c h⟩, e0.hok.fresh (Nat.le_refl _), fun y c h => ?_, fun p hp => absurd (show p ∈ ([] : List (Addr × Obj)) from hp) (by simp), e0.hok.kept hk, ?_⟩
  · exact name_of_addr x.apart (PySem.mem_of_lookup h1) (PySem.mem_of_lookup h2)
  · have hy : scope.names.lookup y = some .cell ∨ scope.names.lookup y = some .free := hy
    rcases hy with hy | hy
    · exact cell_has hy
    · exact absurd rfl (S.nofree _ (PySem.mem_of_lookup hy))
  · exact Nat.le_of_lt (x.above y c (PySem.mem_of_lookup h))
  · have hi : i < vs.length := by
      unfold start at h2
      by_cases hi : i < vs.length
      · exact hi
      · rw [List.getElem?_append_right (by simpa using hi)] at h2
        rw [List.getElem?_replicate] at h2
        split at h2 <;> cases h2
    have ha : vs[i]? = some v := by
      unfold start at h2
      rw [List.getElem?_append_left (by simpa using hi), List.getElem?_map] at h2
      cases e : vs[i]? with
      | none => rw [e] at h2; cases h2
      | some a => rw [e] at h2; cases h2; rfl
    obtain ⟨u, hu, rv⟩ := r.get ha
    have hp : ps[i]? = some y := by
      rw [← S.pre, List.getElem?_take_of_lt (by omega)]; exact h1
    have ndP : ps.Nodup := by rw [← S.pre]; exact S.nd.sublist (List.take_sublist _ _)
    refine ⟨u, rv, ?_⟩
    rcases S.par y (List.mem_of_getElem? hp) with k | k
    · exact .inl ⟨k, bindL_get ndP hp hu k⟩
    · obtain ⟨c, e⟩ := cell_has (n := s.heap.objs.size + 1) k
      refine .inr ⟨.inl k, c, e, ?_⟩
      have q := x.cell y c e
      rw [bindC_get ndP hp hu (by show scope.names.lookup y ≠ _; rw [k]; decide)] at q
      exact q
  · exact e0.hok.fresh (Nat.le_of_lt (x.above y c (PySem.mem_of_lookup h)))
  · unfold start
    show _ = N.length
    rw [List.length_append, List.length_map, List.length_replicate]
    omega

/-- THE RULE: a def (or a method) of the text, by its body. The body's reading t is chosen for each entry; it is run at the parameters' values -/
theorem fn_of {CX : CXT} {P : Program} {w : World} {K : PySem.W.Frag} {mg : Str → Option Value} {base : Heap} {k : Nat} {f : Addr} {name qual : Str} {params : Arguments} {body : List Stmt} {scope : Scope} {dV kV doc pm cdv ct oc : Value} {an od : Option Addr}
    {osl : Array (Option Value)} {N ps : List Str} {sp : Sp} (lk : K.lookup f = some ⟨oc, od, .func (PySem.W.fnOf name qual params body scope dV kV doc pm an cdv ct), osl⟩) (hcd : PySem.W.codeIn K cdv qual = true) (S : FnScope N ps scope)
    (len : ∀ vs H Q E, sp vs H Q E → vs.length = ps.length)
    (hbody : ∀ (A : Around) (outer : List Env) (s : Shared) (H : Hp) (vs : List V) (Q : VK) (E : XK), Room k (A.deeper (envOfC qual scope s.heap.objs.size f cdv)) → sp vs H Q E →
      ∃ t, PSs (cxOf CX P w K mg base N qual scope f cdv A outer s H E) body t ∧ t { nx := fun _ H' => Q .non H', rt := Q } (start N vs) H) :
    FnOk P w K mg base CX (k + 1) f (PySem.W.fnOf name qual params body scope dV kV doc pm an cdv ct) ps sp := by
  refine ⟨len, fun A outer s H args us vs Q E hr e0 hb r hsp => ?_⟩
  have hl := len _ _ _ _ hsp
  have KX : K.In s.heap := e0.mod.kin.keeps fun b o e => (e0.bs b o e).1
  have lim : s.heap.NoLimit := e0.mod.nolimit.keeps fun b o e => (e0.bs b o e).1
  have hkind : ∀ y ∈ ps.zip us, scope.names.lookup y.1 = some .local ∨ (scope.names.lookup y.1 = some .cell ∧ ((cellsFrom (s.heap.objs.size + 1) scope.names []).lookup y.1).isSome = true) := fun ⟨n, v⟩ hy => by
    rcases S.par n (List.of_mem_zip hy).1 with q | q
    · exact .inl q
    · exact .inr ⟨q, PySem.W.cellsFrom_some _ _ _ (.inl q)⟩
  refine codeAny_call_function hr.depth (KX _ _ lk) rfl S.co S.gen rfl (PySem.W.codeRec_of KX hcd) (hb _ _ _ _ ?_)
  refine wpAny_newFunctionEnv_cells S.kind hkind fun env he s1 x => ?_
  subst he
  refine ⟨lim.keeps x.toInCall.keep, codeAny_func ?_⟩
  obtain ⟨t, ht, hq⟩ := hbody A outer s H vs Q E (hr.deeper _) hsp
  have I : Inv (cxOf CX P w K mg base N qual scope f cdv A outer s H E) [] (start N vs) H s1 := inv_start S hr.hd e0 hl r x
  refine wpAny_mono (ht [] s1 (start N vs) H _ I hq) (fun fl s' hs => ?_) fun e s' hs => hs
  have fin : ∀ {σ' : St} {H' : Hp} {v : V} {u : Value}, Inv (cxOf CX P w K mg base N qual scope f cdv A outer s H E) [] σ' H' s' → RelV v u → Q v H' → CE outer P w H s Q u s' :=
    fun {σ' H' v u} J rv q => ⟨v, H', J.os, J.bare, J.base, J.hok, rv, q⟩
  cases fl with
  | ret u =>
    obtain ⟨v, σ', H', J, rv, q⟩ := hs
    exact fin J rv q
  | next =>
    obtain ⟨σ', H', J, q⟩ := hs
    exact fin (v := V.non) (u := Value.none) J rfl q
  | brk =>
    obtain ⟨_, _, _, q⟩ := hs
    exact False.elim q
  | cont =>
    obtain ⟨_, _, _, q⟩ := hs
    exact False.elim q
end L2

namespace L2
open PySem PySem.Spec PyProof.Rows
section
variable {X : Cx} {x : Str} {p pos : Pos} {e : Expr} {es : List Expr} {t : TA} {id T : String} {r : List V → Hp → VK → Prop}

def tCB (r : List V → Hp → VK → Prop) (t : TA) : TE := fun σ H Q => t σ H fun vs H1 => r vs H1 Q
/-- f(e, ..), f a built-in function -/
theorem pe_callB (hc : CallR X (.builtin id) r) (hg : Gl X x) (hm : X.mg x = none) (hv : bootBuiltins x = some (.builtin id)) (ha : PA X (e :: es) t) (hn : x ≠ "__name__" := by decide) (hdb : (x == ("__debug__" : Str)) = false := by decide)
    (he : starEach (e :: es) X.env = (false, eval e X.env) :: starEach es X.env := by rfl) (hpl : (backTo pos (starEach es X.env)).any (·.1) = false := by rfl) : PE X (.Call (.Name x p) (e :: es) [] pos) (tCB r t) := by
  intro pins s σ H Q I h
  refine wpAny_Call_Name_kw (ld_blt I hg hm hv ?_ hn hdb)
  exact PyProof.Rows.callWith_builtin1 (thn (ha pos pins s σ H _ I h) fun us s1 ⟨vs, H1, I1, r1, q1⟩ => hc pins s1 σ H1 vs us Q I1 r1 q1) he hpl
/-- T(e, ..), T a built-in type -/
theorem pe_callTy (hc : CallR X (.type T) r) (hg : Gl X x) (hm : X.mg x = none) (hv : bootBuiltins x = some (.type T)) (ha : PA X (e :: es) t) (hn : x ≠ "__name__" := by decide) (hdb : (x == ("__debug__" : Str)) = false := by decide)
    (he : starEach (e :: es) X.env = (false, eval e X.env) :: starEach es X.env := by rfl) (hpl : (backTo pos (starEach es X.env)).any (·.1) = false := by rfl) : PE X (.Call (.Name x p) (e :: es) [] pos) (tCB r t) := by
  intro pins s σ H Q I h
  refine wpAny_Call_Name_kw (ld_blt I hg hm hv ?_ hn hdb)
  exact PyProof.Rows.callWith_type1 (thn (ha pos pins s σ H _ I h) fun us s1 ⟨vs, H1, I1, r1, q1⟩ => hc pins s1 σ H1 vs us Q I1 r1 q1) he hpl
end
end L2

namespace HT
open PySem PyProof.Rows



section
open PySem.SeqAt
open PySem.AutoSeq1 (wpAny_loadPart')
open PySem.MeetsSeq PySem.MeetsSeq2 PySem.MeetsSeq3

end

section
variable {prog : Program} {w : World} {A : Around} {E : Value → Shared → Prop} {s : Shared}



/-! ### t[a:b], not the whole -/
/-- a slice's bound as a place among n (d where it is left out) -/
def sIx (n d : Nat) : Option Int → Nat
  | none => d
  | some v => if v < 0 then (v + (n : Int)).toNat else min v.toNat n
theorem sIx_none (n d : Nat) : sIx n d none = d := rfl
theorem sIx_nat (n d k : Nat) : sIx n d (some (k : Int)) = min k n := by
  show (if (k : Int) < 0 then ((k : Int) + (n : Int)).toNat else min (k : Int).toNat n) = min k n
  rw [if_neg (by omega), Int.toNat_natCast]

end
end HT

namespace L2
open PySem PySem.Spec PyProof.Rows

/-! ### the parts of a slice -/
abbrev TO := St → Hp → (Option Int → Hp → Prop) → Prop
/-- a slice's part (left out, or an int) -/
def PO (X : Cx) (e : Option Expr) (t : TO) : Prop :=
  ∀ (pins : List (Addr × Obj)) (s : Shared) (σ : St) (H : Hp) (Q : Option Int → Hp → Prop), Inv X pins σ H s → t σ H Q →
    wpAny (model X.prog X.w) X.A (evalPart e X.env) (fun u s' => ∃ o H', Inv X pins σ H' s' ∧ IsPart u o ∧ Q o H') X.xe s
def tNoPart : TO := fun _ H Q => Q none H
def tPart (t : TE) : TO := fun σ H Q => t σ H fun x H1 => ∃ i, x = .int i ∧ Q (some i) H1


section
variable {X : Cx} {e : Expr} {te : TE} {lo hi : Option Expr} {tl th : TO} {pos p2 : Pos}

theorem po_none : PO X none tNoPart := by
  intro pins s σ H Q I h
  rw [evalPart_none]
  exact wpAny_pure ⟨none, H, I, .none, h⟩
theorem po_some (h : PE X e te) : PO X (some e) (tPart te) := by
  intro pins s σ H Q I hw
  rw [evalPart_some]
  refine thn (h pins s σ H _ I hw) fun u s1 ⟨x, H1, I1, r1, q1⟩ => ?_
  obtain ⟨i, rfl, q⟩ := q1
  obtain ⟨t, rfl⟩ := r1
  exact ⟨some i, H1, I1, .int i t, q⟩

/-- what a slice of a value is, by values: the slice object stands at sl -/
def SlR (X : Cx) (r : V → Option Int → Option Int → Hp → VK → Prop) : Prop :=
  ∀ (pins : List (Addr × Obj)) (s : Shared) (σ : St) (H : Hp) (x : V) (v vl vu : Value) (lo hi : Option Int) (sl : Addr) (Q : VK), Inv X pins σ H s → RelV x v → s.heap.IsSliceOf sl vl vu .none → IsPart vl lo → IsPart vu hi → r x lo hi H Q →
    ∃ T id, typeLookup (.type T) "__getitem__" = pure (some (.builtin id)) ∧ s.TypeIs v T ∧ wpAny (model X.prog X.w) X.A (getItem v (.ref sl)) (EP X pins σ Q) X.xe s
def tSl (r : V → Option Int → Option Int → Hp → VK → Prop) (te : TE) (tl th : TO) : TE := fun σ H Q => te σ H fun x H1 => tl σ H1 fun l H2 => th σ H2 fun u H3 => r x l u H3 Q
/-- a[lo:hi], any a -/
theorem pe_slice {r : V → Option Int → Option Int → Hp → VK → Prop} (hr : SlR X r) (he : PE X e te) (hl : PO X lo tl) (hu : PO X hi th) : PE X (.Subscript e (.Slice lo hi none p2) pos) (tSl r te tl th) := by
  intro pins s σ H Q I h
  refine Subscript_ (thn (he pins s σ H _ I h) fun v s1 ⟨x, H1, I1, r1, q1⟩ => ?_)
  refine wpAny_Slice (thn (hl pins s1 σ H1 _ I1 q1) fun vl s2 ⟨l, H2, I2, pl, q2⟩ => thn (hu pins s2 σ H2 _ I2 q2) fun vu s3 ⟨u, H3, I3, pu, q3⟩ => ?_)
  rw [evalPart_none]
  refine wpAny_pure ?_
  have I4 : Inv X pins σ H3 { s3 with heap := s3.heap.push { cls := .type "slice", data := .fields #[vl, vu, .none] } } := I3.kept (t' := s3.toks) fun b ob q => Heap.get?_push_of_some _ q
  obtain ⟨T, id, hT, ht, hg⟩ := hr pins { s3 with heap := s3.heap.push { cls := .type "slice", data := .fields #[vl, vu, .none] } } σ H3 x v vl vu l u s3.heap.objs.size Q I4 r1 (Heap.IsSliceOf.new ..) pl pu q3
  show wpAny (model X.prog X.w) X.A (subscriptTail e (.Slice lo hi none p2) v (.ref s3.heap.objs.size)) (EP X pins σ Q) X.xe { s3 with heap := s3.heap.push { cls := .type "slice", data := .fields #[vl, vu, .none] } }
  exact tail_any (ops := [.ref s3.heap.objs.size, v]) ht hT hg (by with_unfolding_all rfl)

/-- the items of xs[lo:hi] -/
def cutV (xs : List V) (lo hi : Option Int) : List V := (xs.drop (HT.sIx xs.length 0 lo)).take (HT.sIx xs.length xs.length hi - HT.sIx xs.length 0 lo)
theorem cutV_length (xs : List V) (lo hi : Option Int) : (cutV xs lo hi).length ≤ xs.length := by
  unfold cutV
  rw [List.length_take, List.length_drop]
  omega

/-! ### t < u, t + u -/
end
end L2

namespace L2
open PySem PySem.Spec PyProof.Rows

/-! ### places -/
/-- the place that an index of any sign means -/
def ixN (n : Nat) (i : Int) : Option Nat := if 0 ≤ i then (if i < n then some i.toNat else none) else if -(n : Int) ≤ i then some (i + n).toNat else none
def atI {α : Type} (xs : List α) (i : Int) : Option α := (ixN xs.length i).bind fun j => xs[j]?
theorem ixN_seq {n : Nat} {i : Int} {j : Nat} (h : ixN n i = some j) : seqIndex? i n = some j ∧ j < n ∧ -(n : Int) ≤ i ∧ i < n := by
  unfold ixN at h
  by_cases h0 : 0 ≤ i
  · rw [if_pos h0] at h
    by_cases h1 : i < n
    · rw [if_pos h1] at h
      have e : i.toNat = j := Option.some.inj h
      exact ⟨by rw [seqIndex_of h0 h1, e], by omega, by omega, h1⟩
    · rw [if_neg h1] at h; cases h
  · rw [if_neg h0] at h
    by_cases h1 : -(n : Int) ≤ i
    · rw [if_pos h1] at h
      have e : (i + n).toNat = j := Option.some.inj h
      exact ⟨by rw [seqIndex_neg (by omega) h1, e], by omega, h1, by omega⟩
    · rw [if_neg h1] at h; cases h
theorem atI_get {α : Type} {xs : List α} {i : Int} {v : α} (h : atI xs i = some v) : ∃ j, seqIndex? i xs.length = some j ∧ xs[j]? = some v ∧ j < xs.length ∧ -(xs.length : Int) ≤ i ∧ i < xs.length := by
  unfold atI at h
  cases e : ixN xs.length i with
  | none => rw [e] at h; cases h
  | some j =>
    rw [e] at h
    obtain ⟨h1, h2, h3, h4⟩ := ixN_seq e
    exact ⟨j, h1, h, h2, h3, h4⟩

/-! ### what may be subscripted -/
/-- what stands as an index of a plain subscript -/
def PlainIx (b : Expr) : Prop := ∀ o i, subscripted b false o i = operate [o, i] (getItem o i)
/-- a subscript by values -/
def IxR (X : Cx) (r : R2) : Prop :=
  ∀ (value slice : Expr) (pins : List (Addr × Obj)) (s : Shared) (σ : St) (H : Hp) (x y : V) (v u : Value) (Q : VK), Inv X pins σ H s → RelV x v → RelV y u → r x y H Q →
    subscripted slice false v u = operate [v, u] (getItem v u) → wpAny (model X.prog X.w) X.A (subscriptTail value slice v u) (EP X pins σ Q) X.xe s
/-- a call of a builtin's method by values: the receiver, the arguments -/
def MtR (X : Cx) (id : String) (r : V → List V → Hp → VK → Prop) : Prop :=
  ∀ (pins : List (Addr × Obj)) (s : Shared) (σ : St) (H : Hp) (x : V) (xs : List V) (v : Value) (us : List Value) (Q : VK), Inv X pins σ H s → RelV x v → Vals xs us → r x xs H Q →
    wpAny (model X.prog X.w) X.A (call (.builtin id) (v :: us)) (EP X pins σ Q) X.xe s
section
variable {X : Cx} {a b : Expr} {ta tb : TE} {pos : Pos}
/-- a[b] -/
theorem pe_ix {r : R2} (hr : IxR X r) (ha : PE X a ta) (hb : PE X b tb) (hs : PlainIx b) : PE X (.Subscript a b pos) (tOp r ta tb) := by
  intro pins s σ H Q I h
  exact Subscript_ (binT ha hb I h fun v u s2 x y H2 I2 rx ry q => hr a b pins s2 σ H2 x y v u Q I2 rx ry q (hs _ _))

def rIxL (K : PySem.W.Frag) : R2 := fun x y H Q => ∃ p xs i v, x = .ref p ∧ y = .int i ∧ SqL K H p xs ∧ atI xs i = some v ∧ Q v H
def rIxT (K : PySem.W.Frag) : R2 := fun x y H Q => ∃ p xs i v, x = .ref p ∧ y = .int i ∧ SqT K H p xs ∧ atI xs i = some v ∧ Q v H
theorem ix_list : IxR X (rIxL X.K) := by
  intro value slice pins s σ H x y v u Q I rx ry h hs
  obtain ⟨p, xs, i, z, rfl, rfl, hq, he, q⟩ := h
  cases rx
  obtain ⟨t, rfl⟩ := ry
  obtain ⟨its, r, pl, hz⟩ := I.list hq
  obtain ⟨j, h1, h2, h3, h4, h5⟩ := atI_get he
  obtain ⟨w, ew, rw'⟩ := r.get h2
  have hl := r.length
  have hn := line63
  have fin : EP X pins σ Q w s := ⟨z, H, I, rw', q⟩
  by_cases h0 : 0 ≤ i
  · have hj : i.toNat = j := by
      rw [seqIndex_of h0 h5] at h1
      exact Option.some.inj h1
    exact item_listR pl.isList h0 (by omega) (by rw [hj]; simpa using ew) fin hs
  · have hj : (i + (its.toArray.size : Int)).toNat = j := by
      rw [seqIndex_neg (by omega) h4] at h1
      rw [List.size_toArray, ← hl]
      exact Option.some.inj h1
    exact subscriptTail_builtinR (x := w) pl.isList.typeIs slot_list_getitem.lookup
      (wpAny_getItem_list_neg (Q := fun r s' => r = w ∧ EP X pins σ Q r s') pl.isList (by omega) (by rw [List.size_toArray] <;> omega) (by omega) (by rw [hj]; simpa using ew) ⟨rfl, fin⟩) hs
theorem ix_tup : IxR X (rIxT X.K) := by
  intro value slice pins s σ H x y v u Q I rx ry h hs
  obtain ⟨p, xs, i, z, rfl, rfl, hq, he, q⟩ := h
  cases rx
  obtain ⟨t, rfl⟩ := ry
  obtain ⟨its, r, pl, hz⟩ := I.tuple hq
  obtain ⟨j, h1, h2, h3, h4, h5⟩ := atI_get he
  obtain ⟨w, ew, rw'⟩ := r.get h2
  have hl := r.length
  have hn := line63
  have fin : EP X pins σ Q w s := ⟨z, H, I, rw', q⟩
  exact subscriptTail_builtinR (x := w) pl.typeIs slot_tuple_getitem.lookup
    (getItem_tuple (j := j) (Q := fun r s' => r = w ∧ EP X pins σ Q r s') pl (by omega) (by omega) (by rw [List.size_toArray, ← hl]; exact h1) (by simpa using ew) ⟨rfl, fin⟩) hs

/-! ### xs[i] = v, any sign -/
/-- the list's object behind a store -/
theorem mapSeq_set (its : List Value) (n j : Nat) (u : Value) : Obj.mapSeq (·.setIfInBounds j u) { cls := .type "list", data := .seq its.toArray n } = { cls := .type "list", data := .seq (its.set j u).toArray n } := by
  simp [Obj.mapSeq]
theorem Inv.lst {pins : List (Addr × Obj)} {σ : St} {H : Hp} {s : Shared} {p : Addr} {xs : List V} (I : Inv X pins σ H s) (h : H p = some (.lst xs)) :
    ∃ (its : List Value) (n : Nat), Vals xs its ∧ s.heap.get? p = some { cls := .type "list", data := .seq its.toArray n } ∧ xs.length ≤ sizeLine := by
  obtain ⟨z, its, n, r, e⟩ := I.hok p _ h
  exact ⟨its, n, r, e, z⟩
/-- the list at p is written by an update of its object -/
theorem Inv.lstUpd {pins : List (Addr × Obj)} {σ : St} {H : Hp} {s : Shared} {p : Addr} {xs ys : List V} {its its' : List Value} {n n' : Nat} {f : Obj → Obj} (I : Inv X pins σ H s) (h : H p = some (.lst xs))
    (ho : s.heap.get? p = some { cls := .type "list", data := .seq its.toArray n }) (hf : f { cls := .type "list", data := .seq its.toArray n } = { cls := .type "list", data := .seq its'.toArray n' }) (r : Vals ys its') (hz : ys.length ≤ sizeLine) (t : Nat) :
    Inv X pins σ (upd H p (.lst ys)) { s with heap := s.heap.update p f, toks := t } := by
  have e : (s.heap.update p f).get? p = some { cls := .type "list", data := .seq its'.toArray n' } := by
    rw [Heap.get?_update_self f ho (by rw [hf] <;> rfl), hf]
  refine I.write (x := p) (e := p) (by rw [h]; trivial) (.inl rfl) (fun b u hb q => (Heap.get?_update_other _ _ (Ne.symm hb)).trans q) ⟨_, e⟩ ?_
  exact ⟨hz, its', n', r, e⟩
def rSetL : V → V → V → Hp → (Hp → Prop) → Prop := fun o i v H Q => ∃ p xs k j, o = .ref p ∧ i = .int k ∧ H p = some (.lst xs) ∧ ixN xs.length k = some j ∧ Q (upd H p (.lst (xs.set j v)))
theorem set_list : PSet X rSetL := by
  intro pins s σ H o i v ov iv u Q I ro ri rv h
  obtain ⟨p, xs, k, j, rfl, rfl, hp, hj, q⟩ := h
  cases ro
  obtain ⟨t, rfl⟩ := ri
  obtain ⟨its, n, r, ho, hz⟩ := I.lst hp
  obtain ⟨h1, h2, h3, h4⟩ := ixN_seq hj
  have hl := r.length
  have hn := line63
  have I' : Inv X pins σ (upd H p (.lst (xs.set j v))) { s with heap := s.heap.update p (Obj.mapSeq (·.setIfInBounds j u)) } :=
    I.lstUpd hp ho (mapSeq_set its n j u) (r.set rv j) (by rw [List.length_set]; exact hz) s.toks
  by_cases h0 : 0 ≤ k
  · have hk : k.toNat = j := by
      rw [seqIndex_of h0 h4] at h1
      exact Option.some.inj h1
    exact PySem.W.ki_setAt ho h0 (by omega) (by rw [List.size_toArray, ← hl]; exact h4) (by rw [hk]; exact ⟨_, I', q⟩)
  · have hk : (k + (its.toArray.size : Int)).toNat = j := by
      rw [seqIndex_neg (by omega) h3] at h1
      rw [List.size_toArray, ← hl]
      exact Option.some.inj h1
    exact PySem.W.ki_setBack ho (by omega) (by rw [List.size_toArray, ← hl]; exact h3) (by omega) (by rw [hk]; exact ⟨_, I', q⟩)

/-! ### slices -/
theorem slice_bounds (lo hi : Option Int) (n : Nat) : (sliceBounds lo hi none n).1 = ((HT.sIx n 0 lo : Nat) : Int) ∧ (sliceBounds lo hi none n).2.1 = ((HT.sIx n n hi : Nat) : Int) ∧ (sliceBounds lo hi none n).2.2 = 1 := by
  refine ⟨?_, ?_, rfl⟩
  · cases lo with
    | none => simp [sliceBounds, HT.sIx]
    | some i =>
      simp only [sliceBounds, HT.sIx, Option.getD_none, show (1 : Int) > 0 by decide, if_true]
      by_cases h : i < 0
      · simp only [h, if_true] <;> omega
      · simp only [h, if_false] <;> omega
  · cases hi with
    | none => simp [sliceBounds, HT.sIx]
    | some i =>
      simp only [sliceBounds, HT.sIx, Option.getD_none, show (1 : Int) > 0 by decide, if_true]
      by_cases h : i < 0
      · simp only [h, if_true] <;> omega
      · simp only [h, if_false] <;> omega
theorem slicePick_cut (its : List Value) (lo hi : Option Int) : slicePick its.toArray lo hi none = ((its.drop (HT.sIx its.length 0 lo)).take (HT.sIx its.length its.length hi - HT.sIx its.length 0 lo)).toArray := by
  obtain ⟨h1, h2, h3⟩ := slice_bounds lo hi its.toArray.size
  unfold slicePick
  rw [h1, h2, h3]
  simp only [sliceRange_one, pick_run, List.size_toArray] <;> rfl
/-- xs[lo:hi] of a list: a new list -/
def rSlL (K : PySem.W.Frag) : V → Option Int → Option Int → Hp → VK → Prop := fun x lo hi H Q => ∃ a xs, x = .ref a ∧ SqL K H a xs ∧ ∀ p, H p = none → Q (.ref p) (upd H p (.lst (cutV xs lo hi)))
theorem sl_list : SlR X (rSlL X.K) := by
  intro pins s σ H x v vl vu lo hi sl Q I rx hs pl pu h
  obtain ⟨a, xs, rfl, hx, q⟩ := h
  cases rx
  obtain ⟨its, r, ht, hz⟩ := I.list hx
  have hlen := r.length
  refine ⟨"list", _, slot_list_getitem.lookup, ht.isList.typeIs, ?_⟩
  refine wpAny_getItem_list_slice ht.isList hs pl pu .none (by simp) ?_ (by rw [List.size_toArray] <;> omega)
  rw [slicePick_cut, ← hlen]
  refine ⟨.ref s.heap.objs.size, _, I.laid (t' := s.toks) (o := .lst (cutV xs lo hi)) (fun b ob q => Heap.get?_push_of_some _ q) (Nat.le_refl _) ?_, rfl, q _ (I.hok.fresh (Nat.le_refl _))⟩
  exact ⟨Nat.le_trans (cutV_length xs lo hi) hz, _, 0, (r.drop (HT.sIx xs.length 0 lo)).take (HT.sIx xs.length xs.length hi - HT.sIx xs.length 0 lo), Heap.get?_push_size _ rfl⟩

/-! ### in, not in: flat items -/
def flatV : V → Bool
  | .non => true
  | .bl _ => true
  | .int _ => true
  | .str _ => true
  | _ => false
/-- == of flat values -/
def eqV : V → V → Bool
  | .non, .non => true
  | .bl a, .bl b => a == b
  | .bl a, .int b => (if a then 1 else 0) == b
  | .int a, .bl b => a == (if b then 1 else 0)
  | .int a, .int b => a == b
  | .str a, .str b => a == b
  | _, _ => false
theorem eqAt_V {A : Around} {s : Shared} {y x : V} {u v : Value} (ry : RelV y u) (rx : RelV x v) (fy : flatV y = true) (fx : flatV x = true) : SeqAt.EqAt A s u v (eqV y x) := by
  cases y with
  | non =>
    cases ry
    cases x with
    | non => cases rx; exact SeqAt.EqAt.same _
    | bl b => cases rx; exact SeqAt.EqAt.none_bool b
    | int b => obtain ⟨t, rfl⟩ := rx; exact SeqAt.EqAt.none_int b t
    | str b => obtain ⟨t, rfl⟩ := rx; exact SeqAt.EqAt.none_str b t
    | _ => exact absurd (show false = true from fx) Bool.false_ne_true
  | bl a =>
    cases ry
    cases x with
    | non => cases rx; exact SeqAt.EqAt.bool_none a
    | bl b => cases rx; exact SeqAt.EqAt.bool_bool a b
    | int b => obtain ⟨t, rfl⟩ := rx; exact SeqAt.EqAt.bool_int a b t
    | str b => obtain ⟨t, rfl⟩ := rx; exact SeqAt.EqAt.bool_str a b t
    | _ => exact absurd (show false = true from fx) Bool.false_ne_true
  | int a =>
    obtain ⟨t', rfl⟩ := ry
    cases x with
    | non => cases rx; exact SeqAt.EqAt.int_none a t'
    | bl b => cases rx; exact SeqAt.EqAt.int_bool a t' b
    | int b => obtain ⟨t, rfl⟩ := rx; exact SeqAt.EqAt.int_int a t' b t
    | str b => obtain ⟨t, rfl⟩ := rx; exact SeqAt.EqAt.int_str a t' b t
    | _ => exact absurd (show false = true from fx) Bool.false_ne_true
  | str a =>
    obtain ⟨t', rfl⟩ := ry
    cases x with
    | non => cases rx; exact SeqAt.EqAt.str_none a t'
    | bl b => cases rx; exact SeqAt.EqAt.str_bool a t' b
    | int b => obtain ⟨t, rfl⟩ := rx; exact SeqAt.EqAt.str_int a t' b t
    | str b => obtain ⟨t, rfl⟩ := rx; exact SeqAt.EqAt.str_str a t' b t
    | _ => exact absurd (show false = true from fx) Bool.false_ne_true
  | _ => exact absurd (show false = true from fy) Bool.false_ne_true
/-- the items' answers, read off the values (a value's own answer does not lean on its token) -/
def eqU (x : V) (u : Value) : Bool := match u with
  | .none => eqV .non x
  | .bool b => eqV (.bl b) x
  | .int i _ => eqV (.int i) x
  | .str z _ => eqV (.str z) x
  | _ => false
theorem eqU_of {x y : V} {u : Value} (r : RelV y u) (f : flatV y = true) : eqU x u = eqV y x := by
  cases y with
  | non => cases r; rfl
  | bl b => cases r; rfl
  | int i => obtain ⟨t, rfl⟩ := r; rfl
  | str z => obtain ⟨t, rfl⟩ := r; rfl
  | _ => exact absurd (show false = true from f) Bool.false_ne_true
theorem any_eqU {x : V} : ∀ {xs : List V} {us : List Value}, Vals xs us → xs.all flatV = true → us.any (eqU x) = xs.any fun y => eqV y x
  | _, _, .nil, _ => rfl
  | y :: xs, u :: us, .cons r t, f => by
    rw [List.all_cons, Bool.and_eq_true] at f
    rw [List.any_cons, List.any_cons, eqU_of r f.1, any_eqU t f.2]
theorem mem_eqAt {A : Around} {s : Shared} {x : V} {v : Value} (rx : RelV x v) (fx : flatV x = true) : ∀ {xs : List V} {us : List Value}, Vals xs us → xs.all flatV = true → ∀ u ∈ us, SeqAt.EqAt A s u v (eqU x u)
  | _, _, .nil, _ => fun u hu => by cases hu
  | y :: xs, u :: us, .cons r t, f => fun u' hu => by
    rw [List.all_cons, Bool.and_eq_true] at f
    rcases List.mem_cons.mp hu with rfl | hu
    · rw [eqU_of r f.1]; exact eqAt_V r rx f.1 fx
    · exact mem_eqAt rx fx t f.2 u' hu
def inV (x : V) (xs : List V) : Bool := xs.any fun y => eqV y x
/-- x in a list or tuple of flat items -/
def rIn (K : PySem.W.Frag) (neg : Bool) : R2 := fun x y H Q => ∃ p xs, y = .ref p ∧ (SqL K H p xs ∨ SqT K H p xs) ∧ flatV x = true ∧ xs.all flatV = true ∧ Q (.bl (if neg then !inV x xs else inV x xs)) H
theorem op_in_seq : OpR X (compareOp .In) (rIn X.K false) := by
  intro pins s σ H x y v u Q I rx ry h
  obtain ⟨p, xs, rfl, hq, fx, fs, q⟩ := h
  cases ry
  rcases hq with hq | hq
  · obtain ⟨its, r, pl, hz⟩ := I.list hq
    refine SeqAt.in_listAt (eqU x) pl.isList (fun w hw => mem_eqAt rx fx r fs w (by simpa using hw)) ⟨.bl _, H, I, rfl, ?_⟩
    rw [show its.toArray.any (eqU x) = its.any (eqU x) by simp, any_eqU r fs]
    exact q
  · obtain ⟨its, r, pl, hz⟩ := I.tuple hq
    refine SeqAt.in_tupleAt (eqU x) pl (fun w hw => mem_eqAt rx fx r fs w (by simpa using hw)) ⟨.bl _, H, I, rfl, ?_⟩
    rw [show its.toArray.any (eqU x) = its.any (eqU x) by simp, any_eqU r fs]
    exact q
theorem op_notIn_seq : OpR X (compareOp .NotIn) (rIn X.K true) := by
  intro pins s σ H x y v u Q I rx ry h
  obtain ⟨p, xs, rfl, hq, fx, fs, q⟩ := h
  cases ry
  rcases hq with hq | hq
  · obtain ⟨its, r, pl, hz⟩ := I.list hq
    refine SeqAt.notIn_listAt (eqU x) pl.isList (fun w hw => mem_eqAt rx fx r fs w (by simpa using hw)) ⟨.bl _, H, I, rfl, ?_⟩
    rw [show its.toArray.any (eqU x) = its.any (eqU x) by simp, any_eqU r fs]
    exact q
  · obtain ⟨its, r, pl, hz⟩ := I.tuple hq
    refine SeqAt.notIn_tupleAt (eqU x) pl (fun w hw => mem_eqAt rx fx r fs w (by simpa using hw)) ⟨.bl _, H, I, rfl, ?_⟩
    rw [show its.toArray.any (eqU x) = its.any (eqU x) by simp, any_eqU r fs]
    exact q

/-! ### len, list(x), tuple(x) of any list or tuple that is read -/
theorem call_len_seq : CallR X (.builtin "len") (fun xs H Q => ∃ p ys, xs = [.ref p] ∧ (SqL X.K H p ys ∨ SqT X.K H p ys) ∧ Q (.int ys.length) H) := by
  intro pins s σ H xs us Q I r h
  obtain ⟨p, ys, rfl, hq, q⟩ := h
  obtain ⟨u, rfl, rx⟩ := vals1 r
  cases rx
  have hn := line63
  rcases hq with hq | hq
  · obtain ⟨its, r', pl, hz⟩ := I.list hq
    have hlen := r'.length
    exact Calls.call_len_list pl.isList (by simp only [List.size_toArray] <;> omega) ⟨.int ys.length, H, I.tok _, ⟨s.toks + 1, by rw [List.size_toArray, hlen]⟩, q⟩
  · obtain ⟨its, r', pl, hz⟩ := I.tuple hq
    have hlen := r'.length
    exact len_tuple pl (by simp only [List.size_toArray] <;> omega) ⟨.int ys.length, H, I.tok _, ⟨s.toks + 1, by rw [List.size_toArray, hlen]⟩, q⟩
theorem call_list_of : CallR X (.type "list") (fun xs H Q => ∃ p ys, xs = [.ref p] ∧ (SqL X.K H p ys ∨ SqT X.K H p ys) ∧ ∀ l, H l = none → Q (.ref l) (upd H l (.lst ys))) := by
  intro pins s σ H xs us Q I r h
  obtain ⟨p, ys, rfl, hq, q⟩ := h
  obtain ⟨u, rfl, rx⟩ := vals1 r
  cases rx
  have fin : ∀ (its : List Value), Vals ys its → ys.length ≤ sizeLine → ∀ (h' : Heap) (c' : Nat), (∀ b o', s.heap.get? b = some o' → h'.get? b = some o') →
      h'.get? s.heap.objs.size = some { cls := .type "list", dict := none, data := .seq its.toArray c', slots := #[] } → EP X pins σ Q (.ref s.heap.objs.size) { s with heap := h' } := fun its r' hz h' c' kp e =>
    ⟨.ref s.heap.objs.size, _, I.laid (t' := s.toks) kp (Nat.le_refl _) (show ObjOk X.prog X.w _ h' _ (.lst ys) from ⟨hz, its, c', r', e⟩), rfl, q _ (I.hok.fresh (Nat.le_refl _))⟩
  rcases hq with hq | hq
  · obtain ⟨its, r', pl, hz⟩ := I.list hq
    have hlen := r'.length
    obtain ⟨o, ho, hc, n, hd⟩ := pl.isList
    exact call_list_seq p (.inl rfl) ho hc hd (fun h' c' kp e => fin its r' hz h' c' kp e) (by simp only [List.size_toArray] <;> omega)
  · obtain ⟨its, r', pl, hz⟩ := I.tuple hq
    have hlen := r'.length
    obtain ⟨o, ho, hc, n, hd⟩ := pl
    exact call_list_seq p (.inr rfl) ho hc hd (fun h' c' kp e => fin its r' hz h' c' kp e) (by simp only [List.size_toArray] <;> omega)

/-! ### the call of a builtin's method: o.m(..) -/
/-- the value is of that builtin type -/
def tyV (K : PySem.W.Frag) (T : String) (x : V) (H : Hp) : Prop := match x with
  | .str _ => T = "str"
  | .int _ => T = "int"
  | .ref p => (T = "list" ∧ ∃ xs, SqL K H p xs) ∨ (T = "tuple" ∧ ∃ o, K.lookup p = some o ∧ o.cls = .type "tuple" ∧ o.dict = none) ∨
      (T = "dict" ∧ ((∃ kvs, H p = some (.dK kvs)) ∨ ∃ kvs, H p = some (.dT kvs))) ∨ (T = "set" ∧ ∃ S n, H p = some (.set S n))
  | _ => False
theorem tyV_is {pins : List (Addr × Obj)} {σ : St} {H : Hp} {s : Shared} {T : String} {x : V} {v : Value} (I : Inv X pins σ H s) (r : RelV x v) (ty : tyV X.K T x H) :
    s.TypeIs v T ∧ ∀ a, v = .ref a → ∃ ob, s.heap.get? a = some ob ∧ ob.dict = none := by
  cases x with
  | str z =>
    obtain ⟨t, rfl⟩ := r
    cases (show T = "str" from ty)
    exact ⟨typeIs_str s z t, fun _ e => nomatch e⟩
  | int i =>
    obtain ⟨t, rfl⟩ := r
    cases (show T = "int" from ty)
    exact ⟨typeIs_int s i t, fun _ e => nomatch e⟩
  | ref p =>
    cases r
    rcases ty with ⟨rfl, xs, hq⟩ | ⟨rfl, o, hk, hc, hd⟩ | ⟨rfl, hk⟩ | ⟨rfl, S, n, hk⟩
    · obtain ⟨its, _, pl, _⟩ := I.list hq
      refine ⟨pl.isList.typeIs, fun a e => ?_⟩
      cases e
      obtain ⟨o, n, e, c, hd, _⟩ := pl
      exact ⟨o, e, hd⟩
    · refine ⟨⟨o, I.kIn p o hk, hc⟩, fun a e => ?_⟩
      cases e
      exact ⟨o, I.kIn _ o hk, hd⟩
    · have z : ∃ o, s.heap.get? p = some o ∧ o.ExactDict := by
        rcases hk with ⟨kvs, hk⟩ | ⟨kvs, hk⟩
        · obtain ⟨_, _, _, _, o, _, _, e, ex, _⟩ := I.hok p _ hk
          exact ⟨o, e, ex⟩
        · obtain ⟨_, _, _, _, o, _, _, e, ex, _⟩ := I.hok p _ hk
          exact ⟨o, e, ex⟩
      obtain ⟨o, e, ex⟩ := z
      refine ⟨⟨o, e, ex.1⟩, fun a e2 => ?_⟩
      cases e2
      exact ⟨o, e, ex.2.1⟩
    · obtain ⟨o, _, _, _, e, ex, _⟩ := I.hok p _ hk
      refine ⟨⟨o, e, ex.1⟩, fun a e2 => ?_⟩
      cases e2
      exact ⟨o, e, ex.2.1⟩
  | _ => exact False.elim ty
def tBM0 (K : PySem.W.Frag) (T : String) (r : V → List V → Hp → VK → Prop) (to : TE) : TE := fun σ H Q => to σ H fun x H1 => tyV K T x H1 ∧ r x [] H1 Q
def tBM (K : PySem.W.Frag) (T : String) (r : V → List V → Hp → VK → Prop) (to : TE) (t : TA) : TE := fun σ H Q => to σ H fun x H1 => tyV K T x H1 ∧ t σ H1 fun xs H2 => r x xs H2 Q
variable {o e : Expr} {es : List Expr} {to : TE} {t : TA} {name : Str} {apos cpos : Pos} {T id : String} {r : V → List V → Hp → VK → Prop}
theorem pe_bm0 (pa : PlainAttrs T) (slot : Slot T name id) (hty : typeOf (.builtin id) = pure (.type "method_descriptor")) (hm : MtR X id r) (ho : PE X o to)
    (hbase : attributeBase o name X.env (eval o X.env) = eval o X.env := by rfl) (hline : (apos.endLine == cpos.line) = true := by rfl) : PE X (.Call (.Attribute o name apos) [] [] cpos) (tBM0 X.K T r to) := by
  intro pins s σ H Q I h
  refine wpAny_Call_method0_late hbase hline (thn (ho pins s σ H _ I h) fun v s1 ⟨x, H1, I1, r1, ty, q1⟩ => ?_)
  obtain ⟨h1, h2⟩ := tyV_is I1 r1 ty
  exact ⟨T, id, pa, slot, hty, h1, h2, Calls.callWith_builtin rfl (PySem.evalArgs_none (hm pins s1 σ H1 x [] v [] Q I1 r1 .nil q1))⟩
theorem pe_bm (pa : PlainAttrs T) (slot : Slot T name id) (hty : typeOf (.builtin id) = pure (.type "method_descriptor")) (hm : MtR X id r) (ho : PE X o to) (ha : PA X (e :: es) t)
    (hbase : attributeBase o name X.env (eval o X.env) = eval o X.env := by rfl)
    (hfew : ((backTo cpos (starEach (e :: es) X.env)).all (fun x => !x.1) && (backToKw cpos (keywordEach [] X.env)).all (fun x => x.1.isSome)
      && decide ((e :: es).length + ([] : List Keyword).length + (if ([] : List Keyword).isEmpty then 0 else 1) < 30)) = true := by rfl)
    (hline : (apos.endLine == cpos.line) = true := by rfl) (hs : starEach (e :: es) X.env = (false, eval e X.env) :: starEach es X.env := by rfl) (hplain : (backTo cpos (starEach es X.env)).any (·.1) = false := by rfl) :
    PE X (.Call (.Attribute o name apos) (e :: es) [] cpos) (tBM X.K T r to t) := by
  intro pins s σ H Q I h
  refine wpAny_Call_method_late hbase hfew hline rfl (thn (ho pins s σ H _ I h) fun v s1 ⟨x, H1, I1, r1, ty, q1⟩ => ?_)
  obtain ⟨h1, h2⟩ := tyV_is I1 r1 ty
  refine ⟨T, id, pa, slot, hty, h1, h2, ?_⟩
  have hA := ha cpos pins s1 σ H1 _ I1 q1
  rw [hs] at hA ⊢
  refine Calls.callWith_builtin (by show (false || (backTo cpos (starEach es X.env)).any (·.1)) = false; rw [hplain] <;> rfl) (Calls.evalArgs_plain ?_)
  exact thn hA fun us s2 ⟨vs, H2, I2, r2, q2⟩ => hm pins s2 σ H2 x vs v us Q I2 r1 r2 q2
/- xs.append(e), list.index on a module's tuple .. are MtR facts of 06m -/
end
end L2

namespace L2
open PySem PySem.Spec PyProof.Rows

def MtM (X : Cx) (id : String) (r : V → List V → Hp → VK → Prop) : Prop :=
  ∀ (pins : List (Addr × Obj)) (s : Shared) (σ : St) (H : Hp) (x : V) (xs : List V) (v : Value) (us : List Value) (Q : VK), Inv X pins σ H s → RelV x v → Vals xs us → r x xs H Q →
    wpAny (model X.prog X.w) X.A (call (.builtin id) (v :: us)) (EP X pins σ Q) X.xe s

/-! ### lists of values -/
theorem Vals.one : ∀ {x : V} {us : List Value}, Vals [x] us → ∃ u, us = [u] ∧ RelV x u
  | _, _, .cons r .nil => ⟨_, rfl, r⟩
theorem Vals.two : ∀ {x y : V} {us : List Value}, Vals [x, y] us → ∃ u v, us = [u, v] ∧ RelV x u ∧ RelV y v
  | _, _, _, .cons r (.cons q .nil) => ⟨_, _, rfl, r, q⟩
theorem Vals.zero : ∀ {us : List Value}, Vals [] us → us = []
  | _, .nil => rfl
theorem Vals.rep {xs : List V} {us : List Value} (h : Vals xs us) : ∀ k : Nat, Vals (List.replicate k xs).flatten (List.replicate k us).flatten
  | 0 => .nil
  | k + 1 => by
    rw [List.replicate_succ, List.replicate_succ, List.flatten_cons, List.flatten_cons]
    exact Vals.append h (Vals.rep h k)
theorem foldl_rep (its : List Value) : ∀ (k : Nat) (acc : List Value),
    List.foldl (fun x1 x2 => x1 ++ x2) acc.toArray (List.replicate k its.toArray) = (acc ++ (List.replicate k its).flatten).toArray
  | 0, acc => by simp
  | k + 1, acc => by
    have e : acc.toArray ++ its.toArray = (acc ++ its).toArray := by simp
    have e2 : (acc ++ its) ++ (List.replicate k its).flatten = acc ++ (List.replicate (k + 1) its).flatten := by
      rw [List.replicate_succ, List.flatten_cons, List.append_assoc]
    rw [← e2, ← foldl_rep its k (acc ++ its), ← e, List.replicate_succ, List.foldl_cons]

section
variable {X : Cx} {pins : List (Addr × Obj)} {σ : St} {H : Hp} {s : Shared} {l b : Addr} {xs ys zs : List V}

/-! ### the two steps: a tracked list is rewritten, a new list is laid -/
theorem Inv.lset {its its' : List Value} {n : Nat} {f : Array Value → Array Value} {t' : Nat} (I : Inv X pins σ H s) (hH : H l = some (.lst xs))
    (e : s.heap.get? l = some { cls := .type "list", data := .seq its.toArray n }) (hf : f its.toArray = its'.toArray) (hv : Vals ys its') (hz : ys.length ≤ sizeLine) :
    Inv X pins σ (upd H l (.lst ys)) { s with heap := s.heap.update l (Obj.mapSeq f), toks := t' } := by
  have q := PySem.IsL.update e f
  rw [hf] at q
  refine I.write (x := l) (e := l) (by rw [hH]; exact trivial) (.inl rfl) (fun b' u hb hu => (Heap.get?_update_other s.heap (Obj.mapSeq f) (Ne.symm hb)).trans hu) ⟨_, q⟩ ?_
  exact ⟨hz, its', _, hv, q⟩
theorem Inv.lnew {its : List Value} {t' : Nat} (I : Inv X pins σ H s) (hv : Vals ys its) (hz : ys.length ≤ sizeLine) :
    Inv X pins σ (upd H s.heap.objs.size (.lst ys)) { s with heap := s.heap.push { cls := .type "list", data := .seq its.toArray }, toks := t' } :=
  I.laid (fun _ _ q => Heap.get?_push_of_some _ q) (Nat.le_refl _) ⟨hz, its, 0, hv, Heap.get?_push_size _ rfl⟩
theorem Inv.fresh (I : Inv X pins σ H s) : H s.heap.objs.size = none := I.hok.fresh (Nat.le_refl _)
theorem Inv.lstM (I : Inv X pins σ H s) (hH : H l = some (.lst xs)) : xs.length ≤ sizeLine ∧ ∃ (its : List Value) (n : Nat), Vals xs its ∧ xs.length = its.length ∧ s.heap.get? l = some { cls := .type "list", data := .seq its.toArray n } := by
  obtain ⟨z, its, n, r, e⟩ := I.hok l _ hH
  exact ⟨z, its, n, r, r.length, e⟩

theorem notLongL {n : Nat} (h : n ≤ sizeLine) : Builtin.List.listTooLong n = false := by
  unfold Builtin.List.listTooLong
  exact decide_eq_false (by omega)
end

section
variable {X : Cx}

/-! ### methods -/
def rAppend : V → List V → Hp → VK → Prop := fun x vs H Q => ∃ l xs y, x = .ref l ∧ vs = [y] ∧ H l = some (.lst xs) ∧ xs.length < sizeLine ∧ Q .non (upd H l (.lst (xs ++ [y])))
theorem mt_append : MtM X "list.append" rAppend := by
  intro pins s σ H x vs v us Q I rx rv h
  obtain ⟨l, xs, y, rfl, rfl, hH, hz, q⟩ := h
  cases rx
  obtain ⟨u, rfl, ru⟩ := rv.one
  obtain ⟨z, its, n, r, hl, e⟩ := I.lstM hH
  refine call_meets F.slot_list_append ⟨_, e, rfl⟩ F.entry_list_append (F.args_list_append_2 _ _) (PySem.list_append l its.toArray n u (by rw [List.size_toArray]; omega)) ⟨e, ?_⟩
  refine ⟨.non, _, I.lset (its' := its ++ [u]) hH e (by simp) (r.append (.cons ru .nil)) ?_, rfl, q⟩
  rw [List.length_append, List.length_singleton]
  omega





def rClear : V → List V → Hp → VK → Prop := fun x vs H Q => ∃ l xs, x = .ref l ∧ vs = [] ∧ H l = some (.lst xs) ∧ Q .non (upd H l (.lst []))
theorem mt_clear : MtM X "list.clear" rClear := by
  intro pins s σ H x vs v us Q I rx rv h
  obtain ⟨l, xs, rfl, rfl, hH, q⟩ := h
  cases rx
  have hus := rv.zero
  subst hus
  obtain ⟨z, its, n, r, hl, e⟩ := I.lstM hH
  refine call_meets F.slot_list_clear ⟨_, e, rfl⟩ F.entry_list_clear (F.args_list_clear_1 _) (AutoSeq1.list_clear_list_0 l its.toArray n (by rw [List.size_toArray]; omega)) ⟨e, ?_⟩
  exact ⟨.non, _, I.lset (its' := []) (ys := []) hH e rfl .nil (Nat.zero_le _), rfl, q⟩

/-! ### list + list, list += list, list * int -/
def rCat : R2 := fun x y H Q => ∃ l b xs zs, x = .ref l ∧ y = .ref b ∧ H l = some (.lst xs) ∧ H b = some (.lst zs) ∧ xs.length + zs.length ≤ sizeLine ∧ ∀ p, H p = none → Q (.ref p) (upd H p (.lst (xs ++ zs)))
theorem op_cat : OpR X (binaryOp .Add) rCat := by
  intro pins s σ H x y v u Q I rx ry h
  obtain ⟨l, b, xs, zs, rfl, rfl, hH, hB, hz, q⟩ := h
  cases rx
  cases ry
  obtain ⟨z, its, n, r, hl, e⟩ := I.lstM hH
  obtain ⟨z2, its2, n2, r2, hl2, e2⟩ := I.lstM hB
  refine PySem.P.add_list e e2 ?_ (by rw [List.size_toArray, List.size_toArray]; omega)
  have ea : its.toArray ++ its2.toArray = (its ++ its2).toArray := by simp
  rw [ea]
  exact ⟨.ref _, _, I.lnew (t' := s.toks) (r.append r2) (by rw [List.length_append]; omega), rfl, q _ I.fresh⟩
/-- a list times an int (a negative one is nothing) -/
def rRep : R2 := fun x y H Q => ∃ l k xs, x = .ref l ∧ y = .int k ∧ H l = some (.lst xs) ∧ -(2 ^ 63) ≤ k ∧ k < 2 ^ 63 ∧ xs.length * k.toNat ≤ sizeLine ∧
  ∀ p, H p = none → Q (.ref p) (upd H p (.lst (List.replicate k.toNat xs).flatten))
theorem len_rep {α : Type} (xs : List α) (k : Nat) : (List.replicate k xs).flatten.length = k * xs.length := by
  induction k with
  | zero => simp
  | succ k ih => rw [List.replicate_succ, List.flatten_cons, List.length_append, ih, Nat.succ_mul, Nat.add_comm]
theorem op_rep : OpR X (binaryOp .Mult) rRep := by
  intro pins s σ H x y v u Q I rx ry h
  obtain ⟨l, k, xs, rfl, rfl, hH, h1, h2, hz, q⟩ := h
  cases rx
  obtain ⟨t, rfl⟩ := ry
  obtain ⟨z, its, n, r, hl, e⟩ := I.lstM hH
  have hlen : its.toArray.size * k.toNat ≤ sizeLine := by rw [List.size_toArray, ← hl]; exact hz
  have hcap : ¬ its.toArray.size * k.toNat > (2 ^ 63 - 1) / 8 := by
    have : (sizeLine : Nat) ≤ (2 ^ 63 - 1) / 8 := by decide
    omega
  have hfit : ¬ (!Builtin.List.listFitsIndex k) = true := by
    rw [fitsIndex_both h1 h2]
    exact Bool.false_ne_true
  have hlong : ¬ Builtin.List.listTooLong (its.toArray.size * k.toNat) = true := by
    rw [notLongL hlen]
    exact Bool.false_ne_true
  have hnew : List.foldl (fun x1 x2 => x1 ++ x2) #[] (List.replicate (if its.toArray.isEmpty = true then 0 else k.toNat) its.toArray) = (List.replicate k.toNat its).flatten.toArray := by
    have f0 : ∀ m : Nat, List.foldl (fun x1 x2 => x1 ++ x2) #[] (List.replicate m its.toArray) = (List.replicate m its).flatten.toArray := fun m => by
      have := foldl_rep its m []
      rw [List.nil_append] at this
      exact this
    rw [f0]
    cases its with
    | nil => simp
    | cons a r' => rw [if_neg (by simp)]
  refine wpAny_binaryOp_repeat_ref (T := "list") (U := "int") (by decide) ⟨_, e, rfl⟩ (fun s' => typeIs_int s' k t) noFill_list_mul F.fills_int_mul F.slot_int_rmul repeat_list F.slot_int_index.lookup
    (call_meets F.slot_int_rmul (typeIs_int s k t) F.entry_int_rmul (F.args_int_rmul_2 _ _) (int___rmul___int_list k t l its.toArray n)
      ⟨e, rfl, ⟨_, e, rfl⟩, call_meets F.slot_list_mul ⟨_, e, rfl⟩ F.entry_list_mul (F.args_list_mul_2 _ _) (AutoListH.list___mul___list_int_3 l its.toArray n k t hfit hcap hlong) ⟨e, ?_⟩⟩)
  rw [hnew]
  exact ⟨.ref _, _, I.lnew (t' := s.toks) (r.rep k.toNat) (by rw [len_rep, Nat.mul_comm]; exact hz), rfl, q _ I.fresh⟩

/-! ### del xs[i] -/
end

/-! ### xs[a:b] = ys -/
section
variable {prog : Program} {w : World} {A : Around} {E : Value → Shared → Prop} {s : Shared}
theorem splice_eq (its its2 : List Value) (a c : Nat) : its.toArray.extract 0 a ++ its2.toArray ++ its.toArray.extract c its.toArray.size = (its.take a ++ its2 ++ its.drop c).toArray := by
  apply Array.toList_inj.mp
  first
    | (simp
       exact List.take_of_length_le (by simp))
    | simp [List.take_of_length_le]
    | simp
theorem bounds_run {a c n : Nat} (hac : a ≤ c) (hc : c ≤ n) : sliceBounds (some (a : Int)) (some (c : Int)) none n = ((a : Int), (c : Int), 1) := by
  simp only [sliceBounds, Option.getD_none]
  have h1 : ¬ ((a : Int) < 0) := by omega
  have h2 : ¬ ((c : Int) < 0) := by omega
  simp only [h1, h2, if_false, show (1 : Int) > 0 by decide, if_true]
  congr 1
  · omega
  · congr 1; omega
set_option maxRecDepth 100000 in
/-- list.__setitem__ with a slice of step one and another list -/
theorem setItem_slice {l b sl : Addr} {items new : Array Value} {n n2 : Nat} {vl vu : Value} {a c : Nat} {Q : Unit → Shared → Prop}
    (e : s.heap.get? l = some { cls := .type "list", data := .seq items n }) (e2 : s.heap.get? b = some { cls := .type "list", data := .seq new n2 }) (hne : l ≠ b)
    (hs : s.heap.IsSliceOf sl vl vu .none) (pl : IsPart vl (some (a : Int))) (pu : IsPart vu (some (c : Int))) (hac : a ≤ c) (hc : c ≤ items.size)
    (hsz : items.size + new.size ≤ sizeLine) (h : Q () { s with heap := s.heap.update l (Obj.mapSeq fun xs => xs.extract 0 a ++ new ++ xs.extract c xs.size) }) :
    wpAny (model prog w) A (setItem (.ref l) (.ref sl) (.ref b)) Q E s := by
  have hl : s.heap.IsList l items := PySem.IsL.isList e
  have hb : s.heap.IsList b new := PySem.IsL.isList e2
  obtain ⟨os, hos, hcs, hds⟩ := id hs
  have hTs : s.TypeIs (.ref sl) "slice" := ⟨os, hos, hcs⟩
  have hstep : ¬ ((rawPart none == rawInt 0) = true) := Bool.false_ne_true
  have hsame : Builtin.List.listSameRef (.ref l) (.ref b) = false := by
    unfold Builtin.List.listSameRef
    exact beq_eq_false_iff_ne.mpr hne
  have hmax : (max (a : Int) (c : Int)).toNat = c := by omega
  have hz' : ((fun xs : Array Value => xs.extract 0 a ++ new ++ xs.extract c xs.size) items).size ≤ sizeLine + 1 := by
    simp only [Array.size_append, Array.size_extract]
    omega
  unfold setItem
  try with_reducible refine wpAny_holding ?_
  first | refine wpAny_bind (wpAny_pure ?_) | skip
  refine wpAny_bind (wpAny_sequenceKey hl.typeIs (by decide) ?_)
  refine wpAny_bind (wpAny_callSpecial?_slot (name := Str.ofString "__setitem__") hl.typeIs slot_list_setitem
    (wpAny_call_entry slot_list_setitem hl.typeIs entry_list_setitem ?_ (args_list_setitem _ _ _)))
  show wpAny _ _ (Builtin.List.listSubscript? (.ref sl) >>= _) _ _ s
  refine wpAny_bind ?_
  unfold Builtin.List.listSubscript?
  refine wpAny_bind (wpAny_specialOf hTs slice_no_index ?_)
  simp only [Option.isNone_none, if_true]
  refine wpAny_pure ?_
  show wpAny _ _ (typeOf (.ref sl) >>= _) _ _ s
  refine wpAny_bind (wpAny_typeOf hTs ?_)
  first
    | rw [if_neg (by decide)]
    | refine PySem.W.KFB.if_not (by decide) ?_
  rw [listSliceParts_eq]
  refine wpAny_bind (wpAny_bind (wpAny_field hos hds (x := .none) rfl (wpAny_bind (wpAny_listPart .none ?_))))
  rw [if_neg hstep]
  refine wpAny_bind (wpAny_field hos hds (x := vl) rfl (wpAny_bind (wpAny_listPart pl ?_)))
  refine wpAny_bind (wpAny_field hos hds (x := vu) rfl (wpAny_bind (wpAny_listPart pu (wpAny_pure ?_))))
  first
    | simp only [hsame, Bool.false_eq_true, if_false]
    | refine PySem.W.KFB.if_not hsame ?_
    | (dsimp only
       rw [if_neg (by rw [hsame]; exact Bool.false_ne_true)])
  refine wpAny_bind (m := Builtin.List.listAllItems (.ref b) "must assign iterable to extended slice") ?_
  unfold Builtin.List.listAllItems
  refine wpAny_bind (wpAny_typeOf hb.typeIs ?_)
  first
    | refine PySem.W.KFB.if_so (by decide) ?_
    | rw [if_pos (by decide)]
    | simp only [beq_self_eq_true, Bool.true_or, if_true]
  unfold Builtin.List.listItems
  refine wpAny_bind (wpAny_seqItems e2 rfl (wpAny_pure ?_))
  refine wpAny_bind (wpAny_bind (wpAny_seqItems e rfl (wpAny_pure ?_)))
  refine wpAny_bind (wpAny_of_eq ((sliceIndices_raw (some (a : Int)) (some (c : Int)) none items.size (by simp)).trans (congrArg (pure : Int × Int × Int → Sem (Int × Int × Int)) (bounds_run hac hc))) ?_)
  show wpAny _ _ (if ((1 : Int) == 1) = true then _ else _) _ _ s
  rw [if_pos (by decide)]
  refine wpAny_bind (wpAny_rule ?_)
  first
    | simp only [notLongL hsz, Bool.false_eq_true, if_false]
    | refine PySem.W.KFB.if_not (notLongL hsz) ?_
  first | refine wpAny_bind (wpAny_pure ?_) | skip
  show wpAny _ _ (updateSeq l (fun xs => xs.extract 0 ((a : Int)).toNat ++ new ++ xs.extract (max (a : Int) (c : Int)).toNat xs.size) >>= _) _ _ s
  rw [hmax, Int.toNat_natCast]
  refine wpAny_bind (wpAny_updateSeq (hz := Nat.le_trans (Nat.le_add_right _ _) hsz) (_hz' := hz') e rfl ?_)
  refine wpAny_bind (wpAny_letGo ?_)
  first
    | exact wpAny_bind (wpAny_pure (wpAny_pure ⟨.none, rfl, wpAny_pure h⟩))
    | exact wpAny_pure ⟨.none, rfl, wpAny_pure h⟩
end

section
variable {X : Cx}
/-- xs[a:c] = ys of another list, at the value level: sl is the slice object that was just made -/
theorem set_slice {pins : List (Addr × Obj)} {s : Shared} {σ : St} {H : Hp} {l b sl : Addr} {xs ys : List V} {a c : Int} {vl vu : Value} {Q : Unit → Shared → Prop} (I : Inv X pins σ H s)
    (hH : H l = some (.lst xs)) (hB : H b = some (.lst ys)) (hne : l ≠ b) (hs : s.heap.IsSliceOf sl vl vu .none) (ra : RelV (.int a) vl) (rc : RelV (.int c) vu) (h0 : 0 ≤ a) (hac : a ≤ c) (hc : c ≤ xs.length)
    (hz : xs.length + ys.length ≤ sizeLine) (h : ∀ s', Inv X pins σ (upd H l (.lst (xs.take a.toNat ++ ys ++ xs.drop c.toNat))) s' → Q () s') :
    wpAny (model X.prog X.w) X.A (setItem (.ref l) (.ref sl) (.ref b)) Q X.xe s := by
  obtain ⟨ta, rfl⟩ := ra
  obtain ⟨tc, rfl⟩ := rc
  obtain ⟨z, its, n, r, hl, e⟩ := I.lstM hH
  obtain ⟨z2, its2, n2, r2, hl2, e2⟩ := I.lstM hB
  obtain ⟨a', rfl⟩ := Int.eq_ofNat_of_zero_le h0
  obtain ⟨c', rfl⟩ := Int.eq_ofNat_of_zero_le (Int.le_trans h0 hac)
  simp only [Int.toNat_natCast] at h
  refine setItem_slice (a := a') (c := c') e e2 hne hs (.int _ _) (.int _ _) (by omega) (by rw [List.size_toArray]; omega) (by rw [List.size_toArray, List.size_toArray]; omega) (h _ ?_)
  refine I.lset (its' := its.take a' ++ its2 ++ its.drop c') (t' := s.toks) hH e ?_ (Vals.append (Vals.append (r.take _) r2) (r.drop _)) ?_
  · exact splice_eq its its2 a' c'
  · rw [List.length_append, List.length_append, List.length_take, List.length_drop]
    omega
end
end L2

namespace Att
open PySem PySem.W PySem.Calls PyProof.Rows

/-! ### the script -/
theorem ints_of_wellAll {P : Params} {h : Heap} : ∀ (ns : List Int) (vs : List Value), WellAll P h vs (ns.map WData.int) → IntsAre vs ns := by
  intro ns
  induction ns with
  | nil =>
    intro vs w
    rw [List.map_nil] at w
    cases w
    exact .nil
  | cons n ns ih =>
    intro vs w
    rw [List.map_cons] at w
    cases w with
    | cons a b =>
      cases a
      exact .cons _ _ (ih _ b)

theorem script_of {l : OpenLaw} {n : Nat} (hn : l.most = some n) {P : Params} {h : Heap} {args : List WData} {vals : List Value}
    (hpre : l.row.toRowW.claim.pre args = true) (hwl : WellAll P h vals args) :
    ∃ a vs ns, vals = [Value.ref a] ∧ args = [WData.list (ns.map WData.int)] ∧ h.get? a = some { cls := .type "list", data := .seq vs.toArray } ∧ IntsAre vs ns ∧ ns.length ≤ n := by
  have hsh : WShape.hasAll [] args [.list .int] = true := (pre_splitW hpre).1
  have hc : l.pre.holds [] { args := args } = true := (pre_splitW hpre).2
  obtain ⟨d, r, rfl, h1, h2⟩ := hasAllW_cons hsh
  obtain rfl := hasAllW_nil h2
  obtain ⟨xs, rfl, h3⟩ := hasW_list h1
  obtain ⟨ns, rfl⟩ := items_int h3
  have hlen : ns.length ≤ n := by
    unfold OpenLaw.pre at hc
    have h4 : (WTm.not (.lt (.lit (.int (n : Int))) (.len (.arg 0)))).holds [] { args := [.list (ns.map .int)] } = true := by
      have h4 := (holds_andW hc).1
      rw [hn] at h4
      exact h4
    have h5 := condW_of h4 (w_not (w_lt w_lit (w_len_list (w_arg rfl))))
    rw [List.length_map] at h5
    refine Nat.le_of_not_lt fun q => ?_
    have q' : (n : Int) < ((ns.length : Nat) : Int) := by omega
    first
      | (rw [decide_eq_true q'] at h5; exact absurd h5 (by decide))
      | (simp at h5; omega)
  cases hwl with
  | cons w1 w2 =>
    cases w2
    cases w1 with
    | list ho hall => exact ⟨_, _, ns, rfl, rfl, ho, ints_of_wellAll ns _ hall, hlen⟩

theorem post_true (l : OpenLaw) (args : List WData) : l.row.toRowW.claim.post args (.bool true) args = true :=
  postW_of (r := l.row.toRowW) (X := (true == true))
    (show WShape.has [] (.bool true) .bool = true by first | rfl | decide | simp [WShape.has, WShape.arms, WShape.armsAll])
    (show (WTm.eq .res (.lit (.bool true))).value [] { args := args, res := some (.bool true), after := args } = some (.bool (true == true)) from w_eq_bool (w_res rfl) w_lit) rfl

/-! ### the attachment: holds_open's last premise (the goal 'hc' behind k_head) from a wpAny of the law's body -/

/-- the same from a codeAny of the CALL (for a layer whose function contracts speak of calls) -/
theorem attach_call {l : OpenLaw} {n : Nat} {q : Program} {loose : List Str} {XP : (Str → Option Value) → Heap → Prop} {YP : World → Heap → Prop} {d : DefRec}
    (hn : l.most = some n) (hdf : d.params.defaults = [])
    (call : ∀ (w : World) (s₀ s₁ : Shared) (mg mb : Str → Option Value) (fa : Addr) (o : Obj) (pm cd doc : Value) (a : Addr) (vs : List Value) (ns : List Int),
      Ground q loose [] XP w s₀ mg mb s₁.heap → YP w s₁.heap →
      s₁.heap.get? fa = some o → o.data = .func (docDef d.name d.params d.body d.scope pm cd doc) → s₁.heap.CodeRec cd d.name → mg d.name = some (.ref fa) →
      s₁.heap.get? a = some { cls := .type "list", data := .seq vs.toArray } → IntsAre vs ns → ns.length ≤ n → s₁.gens = #[] →
      codeAny (model l.prog w) callerA (.call (.ref fa) ⟨[.ref a], []⟩) (fun r s' => r = .ok (.ret (.bool true)) ∧ OldK s₁.heap s'.heap ∧ s'.os = s₁.os ∧ AllBare s'.gens) s₁) :
    WalkO q loose XP YP l.row.toRowW d [] (fun f vs => PySem.call f vs) := by
  intro w s₀ s₁ mg mb G Y fa o pm cd doc dV kV ho hd hcd hD hmg hg args vals as hpre hlay hrd hwl hlo
  obtain rfl : dV = .none := Dflts.none hD hdf
  obtain rfl : kV = .none := Dflts.noKw hD
  obtain ⟨a, vs, ns, rfl, rfl, hobj, hints, hlen⟩ := script_of hn hpre hwl
  refine enter_call (codeAny_mono (call w s₀ s₁ mg mb fa o pm cd doc a vs ns G Y ho (fd_plain hd) hcd hmg hobj hints hlen hg) fun r s' hq => ?_)
  obtain ⟨rfl, h2, h3, h4⟩ := hq
  exact ⟨.inl ⟨.bool true, .bool true, [], rfl, fun _ => rfl, .bool true, post_true l _, fun _ => ⟨List.Pairwise.nil, fun _ hm => (nomatch hm)⟩⟩, h2, h3, h4⟩


/-! ### rules over ANY heap (no ledger) from facts about the written part K: the library's own take a ledger (News) for what they write -/
section
variable {prog : Program} {w : World} {A : Around} {E : Value → Shared → Prop} {s : Shared} {K : Frag}





/-! the whole heap as the ledger: makes every rule that writes through a ledger a rule over any heap -/

end
end Att

namespace L2
open PySem PySem.Spec PyProof.Rows

theorem vals_ints : ∀ {vs : List Value} {ns : List Int}, IntsAre vs ns → Vals (ns.map V.int) vs
  | _, _, .nil => .nil
  | _, _, .cons n t h => .cons ⟨t, rfl⟩ (vals_ints h)

/-- nothing is tracked but the script, known to the object (or it is an object of the module) -/
def Only (H : Hp) : Prop := ∀ b, H b = none ∨ ∃ o xs, H b = some (.frz o (.lst xs))

/-- THE HEAD: the law's promise, at the heap behind the top. F, the promise of the law's def, may use that base is part of the heap (so K.In base, base.Ns mainGlobals mg stand in Mod) -/
theorem law_call {P : Program} {w : World} {K : PySem.W.Frag} {mg mb : Str → Option Value} {CX : CXT} {k : Nat} {fa a : Addr} {fd : FuncData} {x : Str} {sp : Sp} {s₁ : Shared} {vs : List Value} {ns : List Int}
    (KX : K.In s₁.heap) (hns : s₁.heap.Ns mainGlobals mg) (hb : s₁.heap.Ns builtinsNs mb) (hbb : ∀ x : Str, x ≠ "__name__" → mb x = bootBuiltins x) (hlim : s₁.heap.NoLimit) (hg : s₁.gens = #[])
    (ha : s₁.heap.get? a = some { cls := .type "list", data := .seq vs.toArray }) (hi : IntsAre vs ns) (hl : ns.length ≤ sizeLine) (hr : Room k callerA)
    (F : ∀ base : Heap, K.In base → base.Ns mainGlobals mg → FnOk P w K mg base CX k fa fd [x] sp) (hbind : ∀ (s : Shared) (u : Value), BindsTo s fd ⟨[u], []⟩ [(x, u)])
    (hsp : ∀ H : Hp, Only H → SqL K H a (ns.map V.int) → sp [.ref a] H (fun v _ => v = .bl true) fun _ _ _ => False)
    (hCX : ∀ H e s', CX [] H s₁ (fun _ _ _ => False) e s' → False) :
    codeAny (model P w) callerA (.call (.ref fa) ⟨[.ref a], []⟩) (fun r s' => r = .ok (.ret (.bool true)) ∧ OldK s₁.heap s'.heap ∧ s'.os = s₁.os ∧ AllBare s'.gens) s₁ := by
  have rv := vals_ints hi
  have lenV := hi.length
  -- from an abstract heap in which nothing but the script may be tracked
  have core : ∀ H : Hp, Only H → SqL K H a (ns.map V.int) → HOk P w H s₁.heap → (∀ b, H b ≠ none → b = a) → (H a ≠ none → K.lookup a = none) →
      codeAny (model P w) callerA (.call (.ref fa) ⟨[.ref a], []⟩) (fun r s' => r = .ok (.ret (.bool true)) ∧ OldK s₁.heap s'.heap ∧ s'.os = s₁.os ∧ AllBare s'.gens) s₁ := by
    intro H hO hS hok hA hK
    have base_of : ∀ {b : Addr} {o : Obj}, s₁.heap.get? b = some o → H b = none → (hidT s₁.heap H).get? b = some o := fun e n => hidT_get e n
    have noA : ∀ {b : Addr} {o : Obj} {es : Array DictEntry} {ep : Nat}, s₁.heap.get? b = some o → o.data = .dict es ep → H b = none := fun {b o es ep} e d => by
      cases q : H b with
      | none => rfl
      | some u =>
        have e' : b = a := hA b (by rw [q]; simp)
        subst e'
        rw [ha] at e; cases e
        have d' : Data.seq vs.toArray _ = Data.dict es ep := d
        cases d'
    have nsK : ∀ {b : Addr} {m : Str → Option Value}, s₁.heap.Ns b m → (hidT s₁.heap H).Ns b m := fun {b m} ⟨o, es, ep, e, d, r⟩ => ⟨o, es, ep, base_of e (noA e d), d, r⟩
    have hKb : K.In (hidT s₁.heap H) := fun b o e => base_of (KX b o e) (by
      cases q : H b with
      | none => rfl
      | some u =>
        have e' : b = a := hA b (by rw [q]; simp)
        subst e'
        rw [hK (by rw [q]; simp)] at e; cases e)
    have hM : Mod K mg (hidT s₁.heap H) := ⟨hKb, nsK hns, ⟨mb, nsK hb, hbb⟩, let ⟨mc, h1, h2⟩ := hlim; ⟨mc, nsK h1, h2⟩⟩
    have e0 : Env0 P w K mg (hidT s₁.heap H) callerA [] s₁ H := ⟨rfl, hM, fun b o e => of_hidT e, Nat.le_of_eq (hidT_size _ _), trivial, fun b hb => absurd (show b ∈ ([] : List Addr) from hb) (by simp), hok, .of_eq hg⟩
    refine codeAny_mono ((F _ hKb (nsK hns)).run callerA [] s₁ H ⟨[.ref a], []⟩ [.ref a] [.ref a] _ _ hr e0 (hbind s₁ (.ref a)) (.cons rfl .nil) (hsp H hO hS)) fun r s' h => ?_
    cases r with
    | error e => exact (hCX H e s' h).elim
    | ok fl =>
      cases fl with
      | next => exact False.elim h
      | brk => exact False.elim h
      | cont => exact False.elim h
      | ret u =>
        obtain ⟨v, H', os, bare, un, hok', r', q⟩ := h
        have q' : v = .bl true := q
        subst q'
        obtain rfl : u = Value.bool true := r'
        refine ⟨rfl, OldK.of_keep fun b o e => ?_, os, bare⟩
        cases q : H b with
        | none => exact un.keep b o e q (by intro z; exact absurd (show b ∈ ([] : List Addr) from z) (by simp)) (by simp)
        | some u =>
          rcases hO b with z | ⟨ob, xs, z⟩
          · rw [q] at z; cases z
          · have z2 := un.frzs b ob _ z
            obtain ⟨e1, _⟩ := hok b _ z
            obtain ⟨e2, _⟩ := hok' b _ z2
            rw [e] at e1; cases e1
            exact e2
  cases hk : K.lookup a with
  | some o =>
    -- the script is one of the module's own objects
    have e := KX a o hk
    rw [ha] at e
    cases e
    refine core (fun _ => none) (fun _ => .inl rfl) (.inr ⟨_, vs.toArray, _, hk, rfl, rfl, rfl, by rw [List.size_toArray, lenV]; exact hl, by simpa using rv⟩) (fun b u z => by have z' : (none : Option HO) = some u := z; cases z') (fun b z => absurd rfl z) fun z => absurd rfl z
  | none =>
    refine core (fun b => if b = a then some (.frz { cls := .type "list", data := .seq vs.toArray } (.lst (ns.map V.int))) else none) (fun b => ?_) (.inl (.inr ⟨{ cls := .type "list", data := .seq vs.toArray }, if_pos rfl⟩)) (fun b u z => ?_) (fun b z => ?_) fun _ => hk
    · by_cases hb : b = a
      · exact .inr ⟨_, _, if_pos hb⟩
      · exact .inl (if_neg hb)
    · by_cases hb : b = a
      · have z' := (if_pos hb).symm.trans z
        cases z'
        subst hb
        exact ⟨ha, by rw [List.length_map]; exact hl, vs, _, rv, ha⟩
      · have z' := (if_neg hb).symm.trans z
        cases z'
    · by_cases hb : b = a
      · exact hb
      · exact absurd (if_neg hb) z
end L2

namespace L2
open PySem PySem.Spec PyProof.Rows


/-- the goal that k_head leaves (case hc), from the law's promise. F gives the function object fd (K's own) once, then the promise over every base -/
theorem walk_of {l : PySem.W.OpenLaw} {n k : Nat} {q : Program} {loose : List Str} {XP : (Str → Option Value) → Heap → Prop} {YP : World → Heap → Prop} {d : DefRec} {K : Params → PySem.W.Frag} {CX : World → CXT} {sp : World → Sp} {x : Str}
    (hn : l.most = some n) (hn2 : n ≤ sizeLine) (hdf : d.params.defaults = []) (hr : Room k callerA)
    (hY : ∀ (w : World) (h : Heap), YP w h → (K w.params).In h)
    (F : ∀ (w : World) (mg : Str → Option Value) (fa : Addr) (h : Heap), (K w.params).In h → h.Ns mainGlobals mg → mg d.name = some (.ref fa) →
      ∃ fd : FuncData, (∀ (s : Shared) (u : Value), BindsTo s fd ⟨[u], []⟩ [(x, u)]) ∧
        ∀ base : Heap, (K w.params).In base → base.Ns mainGlobals mg → FnOk l.prog w (K w.params) mg base (CX w) k fa fd [x] (sp w))
    (hsp : ∀ (w : World) (H : Hp) (a : Addr) (ns : List Int), ns.length ≤ n → Only H → SqL (K w.params) H a (ns.map V.int) → sp w [.ref a] H (fun v _ => v = .bl true) fun _ _ _ => False)
    (hCX : ∀ (w : World) (H : Hp) (s : Shared) (e : Value) (s' : Shared), CX w [] H s (fun _ _ _ => False) e s' → False) :
    PySem.W.WalkO q loose XP YP l.row.toRowW d [] (fun f vs => PySem.call f vs) := by
  refine Att.attach_call hn hdf fun w s₀ s₁ mg mb fa o pm cd doc a vs ns G Y ho hd hcd hmg hobj hints hlen hg => ?_
  have KX := hY w _ Y
  obtain ⟨fd, hb, hF⟩ := F w mg fa _ KX G.T.g hmg
  exact law_call KX G.T.g G.T.b G.T.builtins G.T.nolimit hg hobj hints (Nat.le_trans hlen hn2) hr hF hb (fun H hO hS => hsp w H a ns hlen hO hS) fun H e s' => hCX w H s₁ e s'
end L2

/- THE LAST THEOREM (shape; LID, My.* are yours):
   My.Adr: a structure of the addresses that your layer names (classes, functions); My.Txt K t: a structure (Prop) of the equations over K;
   My.txt_mk : {K} {implicit addresses ..} (e1 : nsIn K mainGlobals "law" = some (some (.ref f))) (e2 : K.lookup f = some ⟨oc, od, .func (fnOf "law" "law" params body scope dV kV doc pm an cdv ct), sl⟩) (e3 : codeIn K cdv "law" = true) .. : ∃ t, My.Txt K t

set_option maxRecDepth 100000 in
set_option maxHeartbeats 0 in
theorem PySem.Challenge.cw_LID_holds : PySem.Challenge.rw_LID.Holds := by
  w_on; o_law; k_head; (case hw => w_witness2)
  k_fill
  refine L2.walk_of (l := PySem.Challenge.rw_LID) (n := 63) (k := 40) (x := "script") (CX := fun w => ..) (sp := fun _ => My.sp_law) rfl (by decide) rfl ⟨rfl, by decide, by decide⟩ (fun w h Y => PySem.W.kIn_of Y) ?F ?S ?C
  case F =>
    intro w mg fa h KX G hmg
    have T : ∃ t, My.Txt (L2.KOf KX) t := by
      dsimp only [L2.KOf]                          -- K must stand as «<heap const> w.params» for k_is
      refine' My.txt_mk ?e1 ?e2 ?e3 ..
      (case e1 => PySem.W.k_is)                    -- in the order: a name -> its address -> its object -> its parts
      (case e2 => PySem.W.k_is)
      ..
    obtain ⟨t, T⟩ := T
    have e0 := hmg.symm.trans (PySem.W.mg_of KX G T.law)
    cases e0                                       -- fa is the law's own address
    exact ⟨_, fun s u => .of_eq rfl, fun base kb nb => My.law_fn T kb nb⟩     -- if «.of_eq rfl» comes too early: refine' ⟨_, ?b, fun base kb nb => My.law_fn T kb nb⟩; exact fun s u => .of_eq rfl
  case S => exact fun w H a ns hl hO hS => ..
  case C => exact ..
(the tactic k_is has no namespace: write k_is) -/

/-! SHORT WORDS over the layer: a def of the text, its body, what a loop and a test want. -/
namespace L2
open PySem PySem.Spec PyProof.Rows

/-! ### the text by places -/
def defArgs (s : Stmt) : Arguments := match s with
  | .FunctionDef _ a _ _ _ _ _ _ _ _ => a
  | _ => { posonlyargs := [], args := [], vararg := none, kwonlyargs := [], kw_defaults := [], kwarg := none, defaults := [] }
def defBody (s : Stmt) : List Stmt := match s with
  | .FunctionDef _ _ b _ _ _ _ _ _ _ => b
  | _ => []
def defScope (s : Stmt) : Scope := match s with
  | .FunctionDef _ _ _ _ _ _ sc _ _ _ => sc
  | _ => { kind := .function, names := [], isGenerator := false, isCoroutine := false }

/-! ### no exception leaves a def -/
abbrev E0 : XK := fun _ _ _ => False

/-! ### a def (or method) of the text as it stands behind the top -/
structure Fun (K : PySem.W.Frag) (x qual : Str) (st : Stmt) (f : Addr) (fd : FuncData) : Prop where
  ex : ∃ (oc : Value) (od : Option Addr) (kV doc pm : Value) (an : Option Addr) (cdv ct : Value) (osl : Array (Option Value)),
    fd = PySem.W.fnOf x qual (defArgs st) (defBody st) (defScope st) .none kV doc pm an cdv ct ∧ K.lookup f = some ⟨oc, od, .func fd, osl⟩ ∧ PySem.W.codeIn K cdv qual = true
  kp : PySem.W.keepIn K (.ref f) = true
section
variable {P : Program} {w : World} {K : PySem.W.Frag} {mg : Str → Option Value} {base : Heap}
/-- how its arguments bind (no defaults): h is «fun _ _ _ _ _ _ us hl => match us, hl with | [_, _], _ => rfl», one _ a parameter -/
theorem Fun.binds {x qual : Str} {st : Stmt} {f : Addr} {fd : FuncData} {ps : List Str} (F : Fun K x qual st f fd)
    (h : ∀ (kV doc pm : Value) (an : Option Addr) (cdv ct : Value) (us : List Value), us.length = ps.length → bindArgs (PySem.W.fnOf x qual (defArgs st) (defBody st) (defScope st) .none kV doc pm an cdv ct) ⟨us, []⟩ = pure (ps.zip us)) : Binds K fd ps [] := by
  obtain ⟨oc, od, kV, doc, pm, an, cdv, ct, osl, rfl, lk, hcd⟩ := F.ex
  exact .all (h kV doc pm an cdv ct)
theorem fun_mk {x qual : Str} {st : Stmt} {f : Addr} {oc : Value} {od an : Option Addr} {osl : Array (Option Value)} {kV doc pm cdv ct : Value} (l : K.lookup f = some ⟨oc, od, .func (PySem.W.fnOf x qual (defArgs st) (defBody st) (defScope st) .none kV doc pm an cdv ct), osl⟩)
    (c : PySem.W.codeIn K cdv qual = true) (k : PySem.W.keepIn K (.ref f) = true) : Fun K x qual st f (PySem.W.fnOf x qual (defArgs st) (defBody st) (defScope st) .none kV doc pm an cdv ct) := ⟨⟨oc, od, kV, doc, pm, an, cdv, ct, osl, rfl, l, c⟩, k⟩
end

/-! ### expressions in short: the name that stands in the i-th slot -/
section
variable {X : Cx}
theorem pv (i : Nat) {x : Str} {pos : Pos} (hN : X.N[i]? = some x := by rfl) (hv : Vis X.env.scope x := by first | exact Or.inl rfl | exact Or.inr (Or.inl rfl) | exact Or.inr (Or.inr rfl)) (hd : (x == ("__debug__" : Str)) = false := by decide)
    (hcd : (x == ("__classdict__" : Str)) = false := by decide) : PE X (.Name x pos) (tVar i) := pe_var hN hv hd hcd
end

/-! ### tests -/
theorem iteF {A B : Prop} (h : B) : if false = true then A else B := by
  rw [if_neg Bool.false_ne_true]
  exact h
theorem iteT {A B : Prop} (h : A) : if true = true then A else B := by
  rw [if_pos rfl]
  exact h
theorem ite2 {c A B : Prop} [Decidable c] (h1 : c → A) (h2 : ¬ c → B) : if c then A else B := by
  by_cases h : c
  · rw [if_pos h]
    exact h1 h
  · rw [if_neg h]
    exact h2 h

/-! ### heaps -/
/-- all that was tracked is as it was -/
def Same (H H' : Hp) : Prop := ∀ b o, H b = some o → H' b = some o
theorem Same.refl (H : Hp) : Same H H := fun _ _ h => h
theorem Same.trans {H H1 H2 : Hp} (a : Same H H1) (b : Same H1 H2) : Same H H2 := fun c o h => b c o (a c o h)
theorem Same.free {H H' : Hp} (e : Same H H') {l : Addr} (h : H' l = Option.none) : H l = Option.none := by
  cases q : H l with
  | none => rfl
  | some o =>
    rw [e l o q] at h
    cases h
theorem Same.seq {K : PySem.W.Frag} {H H' : Hp} {a : Addr} {xs : List V} (e : Same H H') (h : SqL K H a xs) : SqL K H' a xs := by
  rcases h with (h | ⟨o, h⟩) | h
  · exact .inl (.inl (e _ _ h))
  · exact .inl (.inr ⟨o, e _ _ h⟩)
  · exact .inr h

end L2

set_option Elab.async false
set_option linter.all false
set_option maxRecDepth 100000
/-! EXCEPTIONS over the hand layer: how one lies behind a call; raise; leaving a frame; try .. except -/
namespace L2
open PySem PySem.Spec PyProof.Rows

theorem hok_tracked {P : Program} {w : World} {H : Hp} {h h' : Heap} (x : HOk P w H h) (k : ∀ b o u, H b = some o → h.get? b = some u → h'.get? b = some u) : HOk P w H h' :=
  fun b u e => (x b u e).stay (fun c v hc q => by
    rcases hc with z | z
    · subst z; exact k _ _ _ e q
    · exact k _ _ _ z q) (fun _ q => q) fun _ _ q => q

/-- B holds all that stood, but the frames; the tracked things are in it -/
structure Keeps (B : Heap) (l : List Env) (H H' : Hp) (h : Heap) : Prop where
  tr : ∀ b o, H' b = some o → ∃ ob, B.get? b = some ob
  un : ∀ b o, h.get? b = some o → H b = none → b ∉ frs l → B.get? b = some o
  th : ∀ b o, h.get? b = some o → b ∉ frs l → ∃ ob, B.get? b = some ob

structure Fly (P : Program) (w : World) (l : List Env) (H H' : Hp) (s s' : Shared) (a : Addr) (C : Value) : Prop where
  os : s'.os = s.os
  bare : AllBare s'.gens
  un : Un (frs l) [] H H' s.heap s'.heap
  hok : HOk P w H' s'.heap
  fl : ∃ (B : Heap) (a0 : Value), Heap.FlyingW B l a C a0 s'.heap ∧ Keeps B l H H' s.heap

def CXK (P : Program) (w : World) : CXT := fun outer H s E e s' => ∃ (a : Addr) (C : Value) (H' : Hp), e = .ref a ∧ Fly P w outer H H' s s' a C ∧ E C none H'

theorem un_on {l : List Env} {H H' : Hp} {h h' h'' B : Heap} {a : Addr} {C a0 : Value} (u : Un (frs l) [] H H' h h') (fl : Heap.FlyingW B l a C a0 h') (k : Keeps B l H H' h) (st : B.StaysIn h'') (up : h'.UpToSlots h'') : Un (frs l) [] H H' h h'' where
  keep := fun b o q n hb _ => st b o (k.un b o q n hb)
  slot := fun b o q n hb hx => by
    obtain ⟨sl, e1⟩ := u.slot b o q n hb hx
    obtain ⟨_, o', ho', hd⟩ := fl.2.2.1.mem hb
    rw [e1] at ho'
    cases ho'
    obtain ⟨sl', e2⟩ := up b _ e1 hd
    exact ⟨sl', e2⟩
  free := u.free
  there := fun b o q hx => by
    by_cases hb : b ∈ frs l
    · obtain ⟨_, o', ho', hd⟩ := fl.2.2.1.mem hb
      obtain ⟨sl', e2⟩ := up b _ ho' hd
      exact ⟨_, e2⟩
    · obtain ⟨ob, e⟩ := k.th b o q hb
      exact ⟨ob, st b ob e⟩
  tups := u.tups
  frzs := u.frzs
  tbls := u.tbls

theorem hok_on {P : Program} {w : World} {l : List Env} {H H' : Hp} {h h' h'' B : Heap} {a : Addr} {C a0 : Value} (x : HOk P w H' h') (fl : Heap.FlyingW B l a C a0 h') (k : Keeps B l H H' h) (st : B.StaysIn h'') : HOk P w H' h'' :=
  hok_tracked x fun b o u e q => by
    obtain ⟨ob, e1⟩ := k.tr b o e
    have e2 := fl.1 b ob e1
    rw [q] at e2
    cases e2
    exact st b _ e1

/-! from the entry of a body to the state at a raising point, and on: the frame of the body is left -/
section
variable {X : Cx} {pins : List (Addr × Obj)} {σ : St} {H H' : Hp} {s : Shared} {h' h'' B : Heap} {a : Addr} {C a0 : Value}
theorem Inv.left (I : Inv X pins σ H s) (hex : X.ex = []) (hst : X.stack = X.env :: X.outer) (u : Un (frs X.stack) [] H H' s.heap h') (fl : Heap.FlyingW B X.stack a C a0 h') (k : Keeps B X.stack H H' s.heap)
    (st : B.StaysIn h'') (up : h'.UpToSlots h'') : Un X.fs [] X.H₀ H' X.s₀.heap h'' ∧ Keeps B X.outer X.H₀ H' X.s₀.heap := by
  have u2 := un_on u fl k st up
  have nx : ∀ b : Addr, b ∉ X.ex := fun b z => by rw [hex] at z; cases z
  have sub : ∀ b o, X.s₀.heap.get? b = some o → b ∉ X.fs → b ∉ frs X.stack := fun b o e hb z => by
    rcases List.mem_cons.mp (I.stkSub b z) with y | y
    · exact absurd (Nat.lt_of_lt_of_le (Heap.lt_size e) I.ok.above) (by rw [y]; exact Nat.lt_irrefl _)
    · exact hb y
  have infs : ∀ b, b ∈ X.fs → b ∈ frs X.stack := fun b hb => by
    rw [hst]
    obtain ⟨env, he, hf⟩ := List.mem_filterMap.mp hb
    exact List.mem_filterMap.mpr ⟨env, List.mem_cons_of_mem _ he, hf⟩
  refine ⟨⟨fun b o q n hb _ => ?_, fun b o q n hb _ => ?_, fun b o q n _ => ?_, fun b o q _ => ?_, fun b xs q => u2.tups b xs (I.base.tups b xs q), fun b o xs q => u2.frzs b o xs (I.base.frzs b o xs q), fun b ps q => ?_⟩, ⟨k.tr, fun b o q n hb => ?_, fun b o q hb => ?_⟩⟩
  · exact u2.keep b o (I.base.keep b o q n hb (nx b)) (I.base.free b o q n (nx b)) (sub b o q hb) (by simp)
  · obtain ⟨sl, e1⟩ := I.base.slot b o q n hb (nx b)
    obtain ⟨sl', e2⟩ := u2.slot b _ e1 (I.base.free b o q n (nx b)) (infs b hb) (by simp)
    exact ⟨sl', e2⟩
  · obtain ⟨o', e1⟩ := I.base.there b o q (nx b)
    exact u2.free b o' e1 (I.base.free b o q n (nx b)) (by simp)
  · obtain ⟨o', e1⟩ := I.base.there b o q (nx b)
    exact u2.there b o' e1 (by simp)
  · obtain ⟨m1, e1⟩ := I.base.tbls b ps q
    obtain ⟨m2, e2⟩ := u2.tbls b _ e1
    exact ⟨m1 ++ m2, by rw [e2, Array.append_assoc]⟩
  · exact k.un b o (I.base.keep b o q n hb (nx b)) (I.base.free b o q n (nx b)) (sub b o q hb)
  · obtain ⟨o', e1⟩ := I.base.there b o q (nx b)
    exact k.th b o' e1 (sub b o q hb)

/-- what stands at a raising point is kept by the heap without the frames -/
theorem Inv.keeps0 (I : Inv X pins σ H s) : Keeps (PySem.W.hideAll s.heap (frs X.stack)) X.stack H H s.heap where
  tr := fun b o e => by
    obtain ⟨ob, q⟩ := Option.isSome_iff_exists.mp (show (s.heap.get? b).isSome = true by
      have := I.hok.lt e
      cases z : s.heap.get? b with
      | some _ => rfl
      | none => exact absurd z (by
          obtain ⟨u, hu⟩ : ∃ u, s.heap.get? b = some u := by
            have x := I.hok b o e
            cases o with
            | lst xs => obtain ⟨_, _, _, _, q⟩ := (show _ ∧ _ from x); exact ⟨_, q⟩
            | tup xs => obtain ⟨_, _, _, o, q, _⟩ := (show _ ∧ _ from x); exact ⟨_, q⟩
            | dK kvs => obtain ⟨_, _, _, _, o, _, _, q, _⟩ := (show _ ∧ _ from x); exact ⟨_, q⟩
            | dT kvs => obtain ⟨_, _, _, _, o, _, _, q, _⟩ := (show _ ∧ _ from x); exact ⟨_, q⟩
            | set S n => obtain ⟨o, _, _, _, q, _⟩ := (show Heap.SetOf _ _ _ _ _ from x); exact ⟨_, q⟩
            | ins C dx fs => obtain ⟨_, _, _, q, _⟩ := (show _ ∧ _ from x); exact ⟨_, q⟩
            | own y => obtain ⟨o, q⟩ := (show ∃ o, _ from x); exact ⟨_, q⟩
            | xd fs => obtain ⟨mA, n, _⟩ := (show ∃ mA, _ from x); obtain ⟨o, _, _, q, _⟩ := n; exact ⟨_, q⟩
            | rng lo hi => obtain ⟨_, _, _, q⟩ := (show ∃ _ _ _, _ from x); exact ⟨_, q⟩
            | frz o u => obtain ⟨q, _⟩ := (show _ ∧ _ from x); exact ⟨_, q⟩
            | tbl ps => exact ⟨_, x⟩
            | met f y => exact ⟨_, x⟩
            | ext φ => obtain ⟨_, ⟨o, q⟩, _⟩ := (show _ ∧ _ from x); exact ⟨_, q⟩
          rw [hu]; simp))
    refine ⟨ob, PySem.W.hideAll_get _ q fun z => ?_⟩
    rw [I.stkFree b z] at e
    cases e
  un := fun b o q _ hb => PySem.W.hideAll_get _ q hb
  th := fun b o q hb => ⟨o, PySem.W.hideAll_get _ q hb⟩
end

section
variable {P : Program} {w : World} {K : PySem.W.Frag} {mg : Str → Option Value} {base : Heap} {N : List Str} {qual : Str} {scope : Scope} {f : Addr} {cd : Value} {A : Around} {outer : List Env} {s₀ : Shared} {H₀ : Hp} {E₀ : XK}
/-- raise in a def's body -/
theorem raise_leaves {pins : List (Addr × Obj)} {σ : St} {H : Hp} {s : Shared} {h' : Heap} {e : Addr} {C : Value} {vs : List Value} (I : Inv (cxOf (CXK P w) P w K mg base N qual scope f cd A outer s₀ H₀ E₀) pins σ H s)
    (hx : Heap.MadeExcOf s.heap h' e C vs) (q : E₀ C none H) : (cxOf (CXK P w) P w K mg base N qual scope f cd A outer s₀ H₀ E₀).xe (.ref e) { s with heap := h' } := by
  have hin : ∀ env ∈ (cxOf (CXK P w) P w K mg base N qual scope f cd A outer s₀ H₀ E₀).stack, ∀ b, env.frame = some b → b ∈ frs (cxOf (CXK P w) P w K mg base N qual scope f cd A outer s₀ H₀ E₀).stack := fun env he b hb => List.mem_filterMap.mpr ⟨env, he, hb⟩
  have FF := PySem.W.funFrames_hide I.stack hin
  have k0 := I.keeps0
  refine wpAny_leaves_madeW (base := PySem.W.hideAll s.heap (frs (cxOf (CXK P w) P w K mg base N qual scope f cd A outer s₀ H₀ E₀).stack)) (h := s.heap) I.ok.frames rfl (fun b o z => PySem.W.of_hideAll _ z) FF hx fun h'' t x1 x2 x3 x4 => ?_
  have up : s.heap.UpToSlots h'' := (Heap.UpToSlots.of_keeps hx.keeps).trans x4
  have FW : ∀ b ∈ frs (cxOf (CXK P w) P w K mg base N qual scope f cd A outer s₀ H₀ E₀).stack, ∃ o, s.heap.get? b = some o ∧ ∀ vs, o.data ≠ .fields vs := fun b hb => (I.stack.mem hb).2
  -- the frame was left: as in Inv.left, but the flight begins here
  have nx : ∀ b : Addr, b ∉ (cxOf (CXK P w) P w K mg base N qual scope f cd A outer s₀ H₀ E₀).ex := fun b z => by cases z
  have sub : ∀ b o, s₀.heap.get? b = some o → b ∉ frs outer → b ∉ frs (cxOf (CXK P w) P w K mg base N qual scope f cd A outer s₀ H₀ E₀).stack := fun b o e' hb z => by
    rcases List.mem_cons.mp (I.stkSub b z) with y | y
    · exact absurd (Nat.lt_of_lt_of_le (Heap.lt_size e') I.ok.above) (by rw [y]; exact Nat.lt_irrefl _)
    · exact hb y
  have infs : ∀ b, b ∈ frs outer → b ∈ frs (cxOf (CXK P w) P w K mg base N qual scope f cd A outer s₀ H₀ E₀).stack := fun b hb => by
    obtain ⟨env, he, hf⟩ := List.mem_filterMap.mp hb
    exact List.mem_filterMap.mpr ⟨env, List.mem_cons_of_mem _ he, hf⟩
  refine ⟨e, C, H, rfl, ⟨I.os, I.bare, ⟨fun b o z n hb _ => ?_, fun b o z n hb _ => ?_, fun b o z n _ => I.base.free b o z n (nx b), fun b o z _ => ?_, I.base.tups, I.base.frzs, I.base.tbls⟩, ?_, ⟨_, _, x1, ⟨k0.tr, fun b o z n hb => ?_, fun b o z hb => ?_⟩⟩⟩, q⟩
  · exact x1.1 b o (k0.un b o (I.base.keep b o z n hb (nx b)) (I.base.free b o z n (nx b)) (sub b o z hb))
  · obtain ⟨sl, e1⟩ := I.base.slot b o z n hb (nx b)
    obtain ⟨o', e2, hd⟩ := FW b (infs b hb)
    rw [e1] at e2
    cases e2
    obtain ⟨sl', e3⟩ := up b _ e1 hd
    exact ⟨sl', e3⟩
  · obtain ⟨o', e1⟩ := I.base.there b o z (nx b)
    by_cases hb : b ∈ frs outer
    · obtain ⟨o'', e2, hd⟩ := FW b (infs b hb)
      obtain ⟨sl', e3⟩ := up b _ e2 hd
      exact ⟨_, e3⟩
    · obtain ⟨ob, e2⟩ := k0.th b o' e1 (sub b o z hb)
      exact ⟨ob, x1.1 b ob e2⟩
  · refine hok_tracked I.hok fun b o u z y => ?_
    obtain ⟨ob, e1⟩ := k0.tr b o z
    have e2 := PySem.W.of_hideAll _ e1
    rw [y] at e2
    cases e2
    exact x1.1 b _ e1
  · exact k0.un b o (I.base.keep b o z n hb (nx b)) (I.base.free b o z n (nx b)) (sub b o z hb)
  · obtain ⟨o', e1⟩ := I.base.there b o z (nx b)
    exact k0.th b o' e1 (sub b o z hb)
/-- a callee's exception leaves this body too -/
theorem passX : Passes (CXK P w) (cxOf (CXK P w) P w K mg base N qual scope f cd A outer s₀ H₀ E₀) E₀ := by
  intro pins σ H s e s' I h
  obtain ⟨a, C, H', rfl, F, q⟩ := h
  obtain ⟨B, a0, fl, k⟩ := F.fl
  refine wpAny_leaves_onW (base := B) I.ok.frames rfl fl fun h'' x1 x2 => ?_
  obtain ⟨u, k'⟩ := I.left rfl rfl F.un fl k x1.1 x2
  exact ⟨a, C, H', rfl, ⟨F.os.trans I.os, F.bare, u, hok_on F.hok fl k x1.1, ⟨B, a0, x1, k'⟩⟩, q⟩
theorem passOwnX : PassesOwn (model (cxOf (CXK P w) P w K mg base N qual scope f cd A outer s₀ H₀ E₀).prog (cxOf (CXK P w) P w K mg base N qual scope f cd A outer s₀ H₀ E₀).w) (cxOf (CXK P w) P w K mg base N qual scope f cd A outer s₀ H₀ E₀).A (cxOf (CXK P w) P w K mg base N qual scope f cd A outer s₀ H₀ E₀).env (cxOf (CXK P w) P w K mg base N qual scope f cd A outer s₀ H₀ E₀).xe := PassesOwn.leaving
end
end L2

set_option Elab.async false
set_option linter.all false
set_option maxRecDepth 100000
namespace L2
open PySem PySem.Spec PyProof.Rows

/-! ### another context for the same body -/
theorem Cx.Ok.re {X : Cx} {A' : Around} {calm' : Bool} {pn' : List (Addr × Obj)} {xe' : Value → Shared → Prop} (ok : X.Ok) (hA : A'.frames = X.A.frames) (hc : calm' = true → A'.handled = none) : ({ X with A := A', calm := calm', pn := pn', xe := xe' } : Cx).Ok :=
  ⟨ok.mod, ok.kind, ok.glob, ok.blt, ok.above, ok.inj, ok.has, ok.cab, hc, hA.trans ok.frames, ok.stk, ok.exf, ok.bs, ok.bsz, ok.noex, ok.exfs, ok.funs, ok.frf⟩
theorem Inv.re {X : Cx} {pins pins' : List (Addr × Obj)} {σ : St} {H : Hp} {s : Shared} {A' : Around} {calm' : Bool} {pn' : List (Addr × Obj)} {xe' : Value → Shared → Prop} (I : Inv X pins σ H s) (hA : A'.frames = X.A.frames) (hc : calm' = true → A'.handled = none)
    (hp : ∀ p ∈ pn' ++ pins', p ∈ X.pn ++ pins) : Inv ({ X with A := A', calm := calm', pn := pn', xe := xe' } : Cx) pins' σ H s :=
  ⟨I.ok.re hA hc, I.os, I.bare, I.base, I.loc, I.cell, I.free, I.freeC, fun p h => I.pin p (hp p h), I.hok, I.len⟩

abbrev Cx.tryX (X : Cx) (pn' : List (Addr × Obj)) (E : Value → Shared → Prop) : Cx := { X with pn := pn', xe := E }
abbrev Cx.inH (X : Cx) (pn' : List (Addr × Obj)) (a : Addr) : Cx := { X with A := X.A.mark (some (.ref a)), calm := false, pn := pn', xe := fun _ _ => False }

/-! ### raise -/
theorem exc_obj {K : PySem.W.Frag} {h : Heap} {C : Addr} {bmB : List Value} {newId : String} (X : K.In h) (q : PySem.W.excIn K C bmB newId = true) :
    ∃ bm N nm qn bs hdct sn sub ab col dd k0 k1 k2 k3 k5 mN, h.get? C = some (excClassObj nm qn C N bs bm hdct sn sub ab col dd k0 k1 k2 k3 k5 newId) ∧ h.Ns N mN ∧ mN "__init__" = none ∧ OwnTail h bmB bm := by
  unfold PySem.W.excIn at q
  split at q
  case h_2 => cases q
  case h_1 dd cd sl ho =>
    split at q
    case h_2 => cases q
    case h_1 C' bm k0 k1 k2 k3 n k5 hm hs =>
      simp only [Bool.and_eq_true, beq_iff_eq, Bool.not_eq_true'] at q
      obtain ⟨⟨⟨⟨⟨q1, q2⟩, q3⟩, q4⟩, q5⟩, q6⟩ := q
      obtain ⟨nm, bs, mro, ns, qn, hd, sn, sub, ab, col, del⟩ := cd
      dsimp only at hm q3 q5 q6
      subst q1 q2 hm q3
      obtain ⟨l⟩ := sl
      dsimp only at hs
      subst hs
      exact ⟨bm, ns, nm, qn, bs, hd, sn, sub, ab, col, dd, k0, k1, k2, k3, k5, _, X _ _ ho, .of_isNs (PySem.W.isNs_of_in X q5), PySem.W.nsMap_none_of_in X q5 q6, PySem.W.tail_of_in X q4⟩

abbrev vErr : List Value := [.type "ValueError", .type "Exception", .type "BaseException", .type "object"]
/-- an own class of errors, straight or not under ValueError, without an __init__ -/
def ExcC (K : PySem.W.Frag) (C : Addr) : Prop := PySem.W.excIn K C vErr "ValueError.__new__" = true

def RaisesX (X : Cx) (C : Addr) (E : XK) : Prop := ∀ (pins : List (Addr × Obj)) (σ : St) (H : Hp) (s : Shared) (h' : Heap) (e : Addr) (vs : List Value), Inv X pins σ H s → Heap.MadeExcOf s.heap h' e (.ref C) vs → E (.ref C) none H → X.xe (.ref e) { s with heap := h' }
def tRaise (C : Addr) (E : XK) (t : TA) : TS := fun _ σ H => t σ H fun vs H1 => vs.length ≤ sizeLine ∧ E (.ref C) none H1
section
variable {X : Cx}
theorem ps_raise {x : Str} {C : Addr} {E : XK} {np cpos pos : Pos} {e₀ : Expr} {rest : List Expr} {t : TA} (hc : X.calm = true) (hg : Gl X x) (hm : X.mg x = some (.ref C)) (hC : ExcC X.K C) (hx : RaisesX X C E) (ha : PA X (e₀ :: rest) t)
    (hd : (x == ("__debug__" : Str)) = false := by decide) (he : starEach (e₀ :: rest) X.env = (false, eval e₀ X.env) :: starEach rest X.env := by rfl) (hpl : (backTo cpos (starEach rest X.env)).any (·.1) = false := by rfl) :
    PS X (.Raise (some (.Call (.Name x np) (e₀ :: rest) [] cpos)) none pos) (tRaise C E t) := by
  intro pins s σ H D I h
  obtain ⟨bm, N, nm, qn, bs, hdct, sn, sub, ab, col, dd, k0, k1, k2, k3, k5, mN, gC, gN, gi, gT⟩ := exc_obj I.ok.mod.kin hC
  refine wpAny_Raise_call_subT (C := C) (nm := nm) (q := qn) (N := N) (bs := bs) (bm := bm) (hdct := hdct) (sn := sn) (sub := sub) (ab := ab) (col := col) (dd := dd) (k0 := k0) (k1 := k1) (k2 := k2) (k3 := k3) (k5 := k5)
    PySem.F.excBase_ValueError (mN := mN) (gT.hasType (by decide)) (I.ok.hd hc) (by rw [he]; show (false || (backTo cpos (starEach rest X.env)).any (·.1)) = false; rw [hpl]; rfl) gi (ld_glob I hg hm ⟨rfl, ?_⟩ hd)
  have hp := ha cpos pins s σ H _ I h
  rw [he] at hp ⊢
  refine Calls.evalArgs_plain (thn hp fun us s1 ⟨vs, H1, I1, r, z, q⟩ => ?_)
  exact ⟨rfl, by rw [← r.length]; exact z, I1.bk _ _ gC, gN.keeps I1.bk, gT.keeps I1.bk, fun h' e hm' => hx pins σ H1 s1 h' e us I1 hm' q⟩
end

/-! ### a call whose exception is wanted by the state at the call -/
def PassesJ (X : Cx) (J : St → XK) : Prop := ∀ (pins : List (Addr × Obj)) (σ : St) (H : Hp) (s : Shared) (e : Value) (s' : Shared), Inv X pins σ H s → CXK X.prog X.w X.stack H s (J σ) e s' → X.xe e s'
def tCallJ (sp : Sp) (J : St → XK) (t : TA) : TE := fun σ H Q => t σ H fun vs H1 => sp vs H1 Q (J σ)
section
variable {X : Cx} {k : Nat} {f : Addr} {fd : FuncData} {ps : List Str} {sp : Sp} {J : St → XK} {x : Str} {p pos : Pos} {e : Expr} {es : List Expr} {t : TA}
theorem pe_callJ (F : FnOk X.prog X.w X.K X.mg X.base (CXK X.prog X.w) k f fd ps sp) (hr : Room k X.A) (hg : Gl X x) (hm : X.mg x = some (.ref f)) (hk : PySem.W.keepIn X.K (.ref f) = true) (hb : Binds X.K fd ps []) (hx : PassesJ X J)
    (ha : PA X (e :: es) t) (hdb : (x == ("__debug__" : Str)) = false := by decide) (he : starEach (e :: es) X.env = (false, eval e X.env) :: starEach es X.env := by rfl) (hpl : (backTo pos (starEach es X.env)).any (·.1) = false := by rfl) :
    PE X (.Call (.Name x p) (e :: es) [] pos) (tCallJ sp J t) := by
  intro pins s σ H Q I h
  refine wpAny_Call_Name_kw (ld_glob I hg hm ?_ hdb)
  refine PySem.W.callWith_K (h₀ := X.base) I.ok.mod.kin hk (thn (ha pos pins s σ H _ I h) fun us s1 ⟨vs, H1, I1, r, q⟩ => ⟨I1.kIn, ?_⟩) he hpl
  have hl : us.length = ps.length := by rw [← r.length]; exact F.len _ _ _ _ q
  have hbd := hb s1 us I1.kIn (by rw [List.append_nil]; exact hl)
  rw [List.append_nil] at hbd
  refine wpAny_call (codeAny_mono (F.run X.A X.stack s1 H1 ⟨us, []⟩ us vs Q (J σ) hr I1.env0 hbd r q) fun r' s' hq => ?_)
  cases r' with
  | error e => exact hx pins σ H1 s1 e s' I1 hq
  | ok fl =>
    cases fl with
    | ret u => exact I1.after hq
    | next => exact False.elim hq
    | brk => exact False.elim hq
    | cont => exact False.elim hq
end

/-! ### try .. except -/
/-- an exception that was caught, by its class -/
def excO (a : Addr) (C : Value) : HO := .ext fun h => ∃ o, h.get? a = some o ∧ o.cls = C
theorem un_exc {fs : List Addr} {H H' : Hp} {h h' : Heap} {a : Addr} {o : HO} (u : Un fs [] H H' h h') (hn : h.get? a = none) (hf : H' a = none) : Un fs [] H (upd H' a o) h h' where
  keep := u.keep
  slot := u.slot
  free := fun b ob q n hx => by
    have : b ≠ a := fun z => by rw [z, hn] at q; cases q
    rw [upd_ne this]
    exact u.free b ob q n hx
  there := u.there
  tups := fun b xs q => by
    have z := u.tups b xs q
    rw [upd_ne (ne_of_none z hf)]
    exact z
  frzs := fun b ob xs q => by
    have z := u.frzs b ob xs q
    rw [upd_ne (ne_of_none z hf)]
    exact z
  tbls := fun b ps q => by
    obtain ⟨m, z⟩ := u.tbls b ps q
    refine ⟨m, ?_⟩
    rw [upd_ne (ne_of_none z hf)]
    exact z
theorem hok_exc {P : Program} {w : World} {H : Hp} {h : Heap} {a : Addr} {C : Value} (x : HOk P w H h) (hf : H a = none) (he : ∃ o, h.get? a = some o ∧ o.cls = C) : HOk P w (upd H a (excO a C)) h := fun b u e => by
  by_cases hb : b = a
  · subst hb
    rw [upd_same] at e
    cases e
    obtain ⟨o, h1, h2⟩ := he
    exact ⟨⟨o, h1, h2⟩, ⟨o, h1⟩, fun _ _ ⟨o, q1, q2⟩ k => ⟨o, k o q1, q2⟩⟩
  · rw [upd_ne hb] at e
    exact (x b u e).stay (fun c v _ q => q) (fun c q => by rw [upd_ne (ne_of_none q hf)]; exact q) fun c xs q => by rw [upd_ne (ne_of_none q hf)]; exact q

/-- the name of the clause goes -/
theorem Inv.unname {X : Cx} {pins : List (Addr × Obj)} {σ : St} {H : Hp} {s : Shared} {i t : Nat} {x : Str} {m : Str → Option Value} {v : Option Value} {h' : Heap} (I : Inv X pins σ H s) (hN : X.N.Nodup) (hi : X.N[i]? = some x)
    (hl : ∀ (j : Nat) (y : Str) (v : V), X.N[j]? = some y → σ[j]? = some (some v) → Vis X.env.scope y → ∃ u, RelV v u ∧ Look X.env s.heap m y u)
    (hn' : h'.Ns X.env.locals (fun y => if y = x then v else m y)) (hs : Heap.SameBut X.env.locals s.heap h') : Inv X pins (σ.set i none) H { s with heap := h', toks := t } := by
  have ne : ∀ b o, X.s₀.heap.get? b = some o → b ≠ X.env.locals := fun b o e => Nat.ne_of_lt (Nat.lt_of_lt_of_le (Heap.lt_size e) I.ok.above)
  refine ⟨I.ok, I.os, I.bare, ⟨fun b o e n hb hx => ?_, fun b o e n hb hx => ?_, I.base.free, fun b o e hx => ?_, I.base.tups, I.base.frzs, I.base.tbls⟩, ⟨_, hn', fun j y v' e1 e2 e3 => ?_⟩, fun y c e => ?_, I.free, I.freeC, fun p hp => ?_, ?_, by simpa using I.len⟩
  · exact (hs.2 b (ne b o e)).trans (I.base.keep b o e n hb hx)
  · obtain ⟨sl, e1⟩ := I.base.slot b o e n hb hx
    exact ⟨sl, (hs.2 b (ne b o e)).trans e1⟩
  · obtain ⟨o', e1⟩ := I.base.there b o e hx
    exact ⟨o', (hs.2 b (ne b o e)).trans e1⟩
  · have hj : j ≠ i := fun z => by
      subst z
      by_cases hlt : j < σ.length
      · rw [List.getElem?_set_self hlt] at e2; cases e2
      · rw [List.getElem?_eq_none_iff.mpr (by rw [List.length_set]; omega)] at e2; cases e2
    rw [List.getElem?_set_ne (Ne.symm hj)] at e2
    obtain ⟨u', r', q⟩ := hl j y v' e1 e2 e3
    refine ⟨u', r', ?_⟩
    rcases q with ⟨k, e⟩ | ⟨k, c, e, z⟩
    · refine .inl ⟨k, ?_⟩
      have : y ≠ x := fun e => hj (nodup_ix hN e1 (e ▸ hi))
      simp [this, e]
    · exact .inr ⟨k, c, e, z.sameBut hs (I.cne y c e)⟩
  · obtain ⟨w', z⟩ := I.cell y c e
    exact ⟨w', z.sameBut hs (I.cne y c e)⟩
  · obtain ⟨e, n, ne, nf, d⟩ := I.pin p hp
    exact ⟨(hs.2 p.1 ne).trans e, n, ne, nf, d⟩
  · exact hok_tracked I.hok fun b o u e q => (hs.2 b (fun z => by rw [z, I.free] at e; cases e)).trans q

def Ends.unset (D : Ends) (i : Nat) : Ends := ⟨fun σ H => D.nx (σ.set i none) H, D.rt, fun σ H => D.bk (σ.set i none) H, fun σ H => D.ct (σ.set i none) H⟩
def tTry (K : PySem.W.Frag) (c : Addr) (tb : (St → XK) → TS) (th : TS) : TS := fun D σ H => tb (fun σ1 C _ H' => PySem.W.exmOne K C (.ref c) = some true ∧ th D σ1 H') D σ H
def tTryAs (K : PySem.W.Frag) (c : Addr) (i : Nat) (tb : (St → XK) → TS) (th : TS) : TS := fun D σ H =>
  tb (fun σ1 C _ H' => PySem.W.exmOne K C (.ref c) = some true ∧ ∀ a, H' a = none → th (D.unset i) (σ1.set i (some (.ref a))) (upd H' a (excO a C))) D σ H

section
variable {X : Cx} {body suite : List Stmt} {b₀ : Stmt} {x n : Str} {np hpos pos : Pos} {c : Addr} {i : Nat} {tb : (St → XK) → TS} {th : TS}
theorem Fly.caught {pins : List (Addr × Obj)} {σ : St} {H H' : Hp} {s s' : Shared} {a : Addr} {C : Value} {B h'' : Heap} {a0 : Value} (I : Inv X pins σ H s) (F : Fly X.prog X.w X.stack H H' s s' a C) (fl : Heap.FlyingW B X.stack a C a0 s'.heap) (k : Keeps B X.stack H H' s.heap)
    (st : B.StaysIn h'') (up : s'.heap.UpToSlots h'') : Inv X pins σ H' { s' with heap := h'' } :=
  I.call' (s' := { s' with heap := h'' }) (ch := []) F.os (un_on F.un fl k st up) (hok_on F.hok fl k st) F.bare (fun _ z => nomatch z)
theorem Fly.caughtAs {pins : List (Addr × Obj)} {σ : St} {H H' : Hp} {s s' : Shared} {a : Addr} {C : Value} {B h'' : Heap} {a0 : Value} (I : Inv X pins σ H s) (F : Fly X.prog X.w X.stack H H' s s' a C) (fl : Heap.FlyingW B X.stack a C a0 s'.heap) (k : Keeps B X.stack H H' s.heap)
    (fl2 : Heap.FlyingW B X.stack a C a0 h'') (up : s'.heap.UpToSlots h'') : H' a = none ∧ Inv X pins σ (upd H' a (excO a C)) { s' with heap := h'' } := by
  have hn : H' a = none := by
    cases q : H' a with
    | none => rfl
    | some o =>
      obtain ⟨ob, e⟩ := k.tr a o q
      rw [fl.2.1] at e
      cases e
  have ha : s.heap.get? a = none := by
    cases q : s.heap.get? a with
    | none => rfl
    | some o =>
      by_cases hb : a ∈ frs X.stack
      · obtain ⟨_, o', h1, h2⟩ := fl.2.2.1.mem hb
        obtain ⟨oe, vs, h3, _, h4, _⟩ := fl.first
        rw [h1] at h3
        cases h3
        exact absurd h4 (h2 vs)
      · obtain ⟨ob, e⟩ := k.th a o q hb
        rw [fl.2.1] at e
        cases e
  refine ⟨hn, I.call' (s' := { s' with heap := h'' }) (ch := []) F.os (un_exc (un_on F.un fl k fl2.1 up) ha hn) (hok_exc (hok_on F.hok fl k fl2.1) hn fl2.there) F.bare (fun _ z => nomatch z)⟩

theorem ps_tryAs (hcal : X.calm = true) (hst : X.stack = X.env :: X.outer) (hfr : X.env.frame = some X.env.locals) (hg : Gl X x) (hm : X.mg x = some (.ref c)) (hN : X.N.Nodup) (hi : X.N[i]? = some n) (hk : X.env.scope.names.lookup n = some .local)
    (hb : ∀ pn' E J, PassesJ (X.tryX pn' E) J → PSs (X.tryX pn' E) body (tb J)) (hh : ∀ pn' a, PSs (X.inH pn' a) (b₀ :: suite) th) (hd : (x == ("__debug__" : Str)) = false := by decide) :
    PS X (.Try body [.ExceptHandler (some (.Name x np)) (some n) (b₀ :: suite) hpos] [] [] pos) (tTryAs X.K c i tb th) := by
  intro pins s σ H D I h
  have hcl : X.calm = true → X.A.handled = none := I.ok.hd
  have hp : PassesJ (X.tryX (X.pn ++ pins) (fun e s' => ∃ pins' σ1 H1 s1, Inv (X.tryX (X.pn ++ pins) X.xe) pins' σ1 H1 s1 ∧ CXK X.prog X.w X.stack H1 s1 ((fun σ1 C _ H' => PySem.W.exmOne X.K C (.ref c) = some true ∧ ∀ a, H' a = none → th (D.unset i) (σ1.set i (some (.ref a))) (upd H' a (excO a C)) : St → XK) σ1) e s'))
      (fun σ1 C _ H' => PySem.W.exmOne X.K C (.ref c) = some true ∧ ∀ a, H' a = none → th (D.unset i) (σ1.set i (some (.ref a))) (upd H' a (excO a C))) :=
    fun pins' σ1 H1 s1 e s' I1 q => ⟨pins', σ1, H1, s1, I1.re rfl hcl (fun p z => z), q⟩
  have back : ∀ {A' : Around} {c' : Bool} {xe' : Value → Shared → Prop} {pins' : List (Addr × Obj)} {σ1 : St} {H1 : Hp} {s1 : Shared}, X.A.frames = A'.frames → Inv ({ X with A := A', calm := c', pn := X.pn ++ pins, xe := xe' } : Cx) pins' σ1 H1 s1 → Inv X pins σ1 H1 s1 :=
    fun hA I1 => I1.re (pn' := X.pn) (calm' := X.calm) (A' := X.A) (xe' := X.xe) hA hcl (fun p z => List.mem_append_left _ z)
  refine wpAny_Try_except (wpAny_mono (hb _ _ _ hp [] s σ H D (I.re rfl hcl (fun p z => by simpa using z)) h) (fun f s1 q => ?_) fun e s1 q => ?_)
  · cases f with
    | next => obtain ⟨σ', H', I', q⟩ := q; exact wpAny_execs_nil ⟨σ', H', back rfl I', q⟩
    | brk => obtain ⟨σ', H', I', q⟩ := q; exact ⟨σ', H', back rfl I', q⟩
    | cont => obtain ⟨σ', H', I', q⟩ := q; exact ⟨σ', H', back rfl I', q⟩
    | ret u => obtain ⟨v, σ', H', I', r, q⟩ := q; exact ⟨v, σ', H', back rfl I', r, q⟩
  · obtain ⟨pins', σ1, H1, s2, I1, a, C, H', rfl, F, hx, hq⟩ := q
    have I1 : Inv X pins σ1 H1 s2 := back rfl I1
    obtain ⟨B, a0, fl, k⟩ := F.fl
    have hs : X.A.frames = some (X.env :: X.outer) := by rw [← hst]; exact I1.ok.frames
    refine wpAny_looks_onW (base := B) hs hfr (by rw [← hst]; exact fl) fun h4 hh4 up4 => ?_
    refine wpAny_landsW hh4 fun h5 fl5 up5 => ?_
    have fl5' : Heap.FlyingW B X.stack a C a0 h5 := by rw [hst]; exact fl5
    have up : s1.heap.UpToSlots h5 := up4.trans up5
    have I5 := F.caught I1 fl k fl5'.1 up
    refine wpAny_handleBy_cons (codeAny_handlers_test ?_) (by intro q; cases q)
    have I5h : Inv (X.inH (X.pn ++ pins) a) [] σ1 H' { s1 with heap := h5 } := I5.re rfl (fun z => nomatch z) (fun p z => by simpa using z)
    refine ld_glob (X := X.inH (X.pn ++ pins) a) I5h hg hm ?_ hd
    have LT : PySem.W.Looks (model X.prog X.w) h5 (typeOf (.ref a)) C := by
      obtain ⟨ob, hob, hc⟩ := fl5'.there
      subst hc
      exact (PySem.W.Looks.ld hob).andThen .now
    refine (PySem.W.exm_one (K := X.K) (h := h5) I5.kIn LT hx).here ?_
    refine codeAny_handlers_suite_as ?_
    refine lands_againW fl5' fun h6 fl6 up6 => ?_
    obtain ⟨hn, I6⟩ := F.caughtAs I1 fl k fl6 (up.trans up6)
    have I6h : Inv (X.inH (X.pn ++ pins) a) [] σ1 (upd H' a (excO a C)) { s1 with heap := h6 } := I6.re rfl (fun z => nomatch z) (fun p z => by simpa using z)
    refine store_ok (X := X.inH (X.pn ++ pins) a) (v := .ref a) I6h hN hi (Or.inl hk) rfl (fun s7 I7 => ?_) (Or.inr hk)
    refine wpAny_mono (hh (X.pn ++ pins) a [] s7 _ _ _ I7 (hq a hn)) (fun f s8 q8 => ?_) (fun _ _ z => z.elim)
    have goes : ∀ {σ' : St} {H2 : Hp} {R : Unit → Shared → Prop}, Inv (X.inH (X.pn ++ pins) a) [] σ' H2 s8 → (∀ s9, Inv X pins (σ'.set i none) H2 s9 → R () s9) → wpAny (model X.prog X.w) X.A (do bindName X.env n .none; unbindBehindTheSuite X.env n hpos) R X.xe s8 := fun {σ' H2 R} I8 k8 => by
      have I8 : Inv X pins σ' H2 s8 := back (A' := X.A.mark (some (.ref a))) rfl I8
      obtain ⟨m, hn8, hl8⟩ := id I8.loc
      refine wpAny_nameGoes_keeps hk hn8 (by rw [I8.ok.kind]; rfl) fun h9 v hn9 hs9 => k8 _ (I8.unname hN hi hl8 hn9 hs9)
    cases f with
    | next => obtain ⟨σ', H2, I8, q8⟩ := q8; exact goes I8 fun s9 I9 => ⟨_, H2, I9, q8⟩
    | brk => obtain ⟨σ', H2, I8, q8⟩ := q8; exact goes I8 fun s9 I9 => ⟨_, H2, I9, q8⟩
    | cont => obtain ⟨σ', H2, I8, q8⟩ := q8; exact goes I8 fun s9 I9 => ⟨_, H2, I9, q8⟩
    | ret u => obtain ⟨v, σ', H2, I8, r, q8⟩ := q8; exact goes I8 fun s9 I9 => ⟨v, _, H2, I9, r, q8⟩

theorem ps_try (hcal : X.calm = true) (hst : X.stack = X.env :: X.outer) (hfr : X.env.frame = some X.env.locals) (hg : Gl X x) (hm : X.mg x = some (.ref c))
    (hb : ∀ pn' E J, PassesJ (X.tryX pn' E) J → PSs (X.tryX pn' E) body (tb J)) (hh : ∀ pn' a, PSs (X.inH pn' a) (b₀ :: suite) th) (hd : (x == ("__debug__" : Str)) = false := by decide) :
    PS X (.Try body [.ExceptHandler (some (.Name x np)) none (b₀ :: suite) hpos] [] [] pos) (tTry X.K c tb th) := by
  intro pins s σ H D I h
  have hcl : X.calm = true → X.A.handled = none := I.ok.hd
  have hp : PassesJ (X.tryX (X.pn ++ pins) (fun e s' => ∃ pins' σ1 H1 s1, Inv (X.tryX (X.pn ++ pins) X.xe) pins' σ1 H1 s1 ∧ CXK X.prog X.w X.stack H1 s1 ((fun σ1 C _ H' => PySem.W.exmOne X.K C (.ref c) = some true ∧ th D σ1 H' : St → XK) σ1) e s'))
      (fun σ1 C _ H' => PySem.W.exmOne X.K C (.ref c) = some true ∧ th D σ1 H') :=
    fun pins' σ1 H1 s1 e s' I1 q => ⟨pins', σ1, H1, s1, I1.re rfl hcl (fun p z => z), q⟩
  have back : ∀ {A' : Around} {c' : Bool} {xe' : Value → Shared → Prop} {pins' : List (Addr × Obj)} {σ1 : St} {H1 : Hp} {s1 : Shared}, X.A.frames = A'.frames → Inv ({ X with A := A', calm := c', pn := X.pn ++ pins, xe := xe' } : Cx) pins' σ1 H1 s1 → Inv X pins σ1 H1 s1 :=
    fun hA I1 => I1.re (pn' := X.pn) (calm' := X.calm) (A' := X.A) (xe' := X.xe) hA hcl (fun p z => List.mem_append_left _ z)
  refine wpAny_Try_except (wpAny_mono (hb _ _ _ hp [] s σ H D (I.re rfl hcl (fun p z => by simpa using z)) h) (fun f s1 q => ?_) fun e s1 q => ?_)
  · cases f with
    | next => obtain ⟨σ', H', I', q⟩ := q; exact wpAny_execs_nil ⟨σ', H', back rfl I', q⟩
    | brk => obtain ⟨σ', H', I', q⟩ := q; exact ⟨σ', H', back rfl I', q⟩
    | cont => obtain ⟨σ', H', I', q⟩ := q; exact ⟨σ', H', back rfl I', q⟩
    | ret u => obtain ⟨v, σ', H', I', r, q⟩ := q; exact ⟨v, σ', H', back rfl I', r, q⟩
  · obtain ⟨pins', σ1, H1, s2, I1, a, C, H', rfl, F, hx, hq⟩ := q
    have I1 : Inv X pins σ1 H1 s2 := back rfl I1
    obtain ⟨B, a0, fl, k⟩ := F.fl
    have hs : X.A.frames = some (X.env :: X.outer) := by rw [← hst]; exact I1.ok.frames
    refine wpAny_looks_onW (base := B) hs hfr (by rw [← hst]; exact fl) fun h4 hh4 up4 => ?_
    refine wpAny_landsW hh4 fun h5 fl5 up5 => ?_
    have fl5' : Heap.FlyingW B X.stack a C a0 h5 := by rw [hst]; exact fl5
    have up : s1.heap.UpToSlots h5 := up4.trans up5
    have I5 := F.caught I1 fl k fl5'.1 up
    refine wpAny_handleBy_cons (codeAny_handlers_test ?_) (by intro q; cases q)
    have I5h : Inv (X.inH (X.pn ++ pins) a) [] σ1 H' { s1 with heap := h5 } := I5.re rfl (fun z => nomatch z) (fun p z => by simpa using z)
    refine ld_glob (X := X.inH (X.pn ++ pins) a) I5h hg hm ?_ hd
    have LT : PySem.W.Looks (model X.prog X.w) h5 (typeOf (.ref a)) C := by
      obtain ⟨ob, hob, hc⟩ := fl5'.there
      subst hc
      exact (PySem.W.Looks.ld hob).andThen .now
    refine (PySem.W.exm_one (K := X.K) (h := h5) I5.kIn LT hx).here ?_
    refine codeAny_handlers_suite ?_
    refine lands_againW fl5' fun h6 fl6 up6 => ?_
    have I6 := F.caught I1 fl k fl6.1 (up.trans up6)
    have I6h : Inv (X.inH (X.pn ++ pins) a) [] σ1 H' { s1 with heap := h6 } := I6.re rfl (fun z => nomatch z) (fun p z => by simpa using z)
    refine wpAny_mono (hh (X.pn ++ pins) a [] _ _ _ _ I6h hq) (fun f s8 q8 => ?_) (fun _ _ z => z.elim)
    cases f with
    | next => obtain ⟨σ', H2, I8, q8⟩ := q8; exact ⟨_, H2, back (A' := X.A.mark (some (.ref a))) rfl I8, q8⟩
    | brk => obtain ⟨σ', H2, I8, q8⟩ := q8; exact ⟨_, H2, back (A' := X.A.mark (some (.ref a))) rfl I8, q8⟩
    | cont => obtain ⟨σ', H2, I8, q8⟩ := q8; exact ⟨_, H2, back (A' := X.A.mark (some (.ref a))) rfl I8, q8⟩
    | ret u => obtain ⟨v, σ', H2, I8, r, q8⟩ := q8; exact ⟨v, _, H2, back (A' := X.A.mark (some (.ref a))) rfl I8, r, q8⟩
end
end L2

set_option Elab.async false
set_option linter.all false
set_option maxRecDepth 100000
namespace L2
open PySem PySem.Spec PyProof.Rows Builtin Builtin.ObjectAttr Builtin.Getset_descriptor

/-- an own class of errors, as the written part tells it -/
structure ExK (K : PySem.W.Frag) (C : Addr) : Prop where
  ex : ExcC K C
  ga : PySem.W.findIn K (.ref C) "__getattribute__" = some (some (.builtin "BaseException.__getattribute__"))
  gn : PySem.W.findIn K (.ref C) "__getattr__" = some none
  cl : PySem.W.findIn K (.ref C) "__class__" = some (some (.builtin "object.__class__"))
  mb : PySem.W.mroIn K C (.type "BaseException") = some true
  mo : PySem.W.mroIn K C (.type "object") = some true
  ic : (PySem.W.clsIn K C).isSome = true
  sg : PySem.W.specialIn K (.builtin "object.__class__") "__get__" = some (some (.builtin "getset_descriptor.__get__"))
  tk : PySem.W.takesIn K (.builtin "object.__class__") = some true

section
variable {prog : Program} {w : World} {A : Around} {E : Value → Shared → Prop} {R : Result → Shared → Prop} {K : PySem.W.Frag} {C x : Addr} {s : Shared}
theorem xc_get (X : K.In s.heap) (L0 : PySem.W.Looks (model prog w) s.heap (typeOf (.ref x)) (.ref C)) (hm : PySem.W.mroIn K C (.type "object") = some true) (h : R (.ok (.ret (.ref C))) s) :
    codeAny (model prog w) A (.call (.builtin "getset_descriptor.__get__") ⟨[.builtin "object.__class__", .ref x, .ref C], []⟩) R s := by
  obtain ⟨hh, g, dr, t, os⟩ := s
  have L1 := PySem.W.looks_mroIn (M := model prog w) X hm
  have pl := PySem.W.KF.slot_gs.plain
  refine codeAny_call_builtin pl PySem.W.KF.entry_gs (PySem.W.KF.slot_gs.check _ _ _ _ _ _ _ _ PySem.W.KF.type_class (PySem.W.KF.args_gs _ _ _) ?_)
  unfold Builtin.«getset_descriptor.__get__» descrGet
  rw [PySem.W.dga_obj]
  refine wpAny_bind (wpAny_pure ?_)
  unfold descrGetter descrCheckInstance descrNameAndClass isInstance
  simp only [PySem.W.KF.owner_class]
  repeat lk
  refine ⟨Code.quiet_builtin _ (by decide +kernel), codeAny_builtin PySem.W.KF.entry_class ?_⟩
  unfold Builtin.«object.__class__» shownTypeOf
  repeat lk
  exact h

theorem xc_find (X : K.In s.heap) (k : ExK K C) : PySem.W.Looks (model prog w) s.heap (find (.ref x) (.ref C) "__class__") (.bind (.builtin "getset_descriptor.__get__") (.builtin "object.__class__")) := by
  have L1 := PySem.W.looks_findIn (M := model prog w) X k.cl
  have L2 : PySem.W.Looks (model prog w) s.heap (getOf (some (.builtin "object.__class__"))) (some (.builtin "getset_descriptor.__get__")) := PySem.W.looks_specialIn X k.sg
  have L3 := PySem.W.looks_takesIn (M := model prog w) X k.tk
  refine L1.andThen (L2.andThen ?_)
  have L4 : PySem.W.Looks (model prog w) s.heap (dataDescriptor? (some (.builtin "object.__class__")) (some (.builtin "getset_descriptor.__get__"))) (some (.builtin "getset_descriptor.__get__", .builtin "object.__class__")) := L3.andThen .now
  exact L4.andThen (PySem.W.Looks.tag .now)

theorem xc_entry {tk : Tok} {Q : Fin → Shared → Prop} (X : K.In s.heap) (k : ExK K C) (L0 : PySem.W.Looks (model prog w) s.heap (typeOf (.ref x)) (.ref C)) (h : Q (.done (.ret (.ref C))) s) :
    wpAny (model prog w) A (Builtin.«object.__getattribute__» ⟨[.ref x, .str "__class__" tk], []⟩) Q E s := by
  obtain ⟨hh, g, dr, t, os⟩ := s
  have L1 := xc_find (prog := prog) (w := w) (x := x) X k
  unfold Builtin.«object.__getattribute__» slotArgs attrName
  repeat lk
  show wpAny _ _ (run (.call (.builtin "getset_descriptor.__get__") ⟨[.builtin "object.__class__", .ref x, .ref C], []⟩) none) _ _ _
  refine wpAny_run (A := A) (xc_get X L0 k.mo ?_)
  show wpAny _ _ (pure (Value.ref C)) _ _ _
  exact wpAny_pure (wpAny_pure h)

theorem xc_check {nameV : Value} {Q : Unit → Shared → Prop} (X : K.In s.heap) (k : ExK K C) (L0 : PySem.W.Looks (model prog w) s.heap (typeOf (.ref x)) (.ref C)) (h : Q () s) :
    wpAny (model prog w) A (checkBuiltinCall "BaseException.__getattribute__" ⟨[.ref x, nameV], []⟩) Q E s := by
  obtain ⟨hh, g, dr, t, os⟩ := s
  have e1 : builtinKind "BaseException.__getattribute__" = some .slot := by decide +kernel
  have e2 : splitId "BaseException.__getattribute__" = some ("BaseException", "__getattribute__") := by decide +kernel
  have L1 := PySem.W.looks_mroIn (M := model prog w) X k.mb
  have hz := F.args_bexc_ga (.ref x) nameV
  have L2 : PySem.W.Looks (model prog w) hh (isInstance (.ref x) (.type "BaseException")) true := L0.andThen L1
  simp only [checkBuiltinCall, e1, e2]
  refine wpAny_bind (L2.at ?_)
  repeat (first | assumption | wp_step)
  all_goals exact h

theorem xc_by {tk : Tok} {fill : Bool} {Q : Value → Shared → Prop} (X : K.In s.heap) (k : ExK K C) (L0 : PySem.W.Looks (model prog w) s.heap (typeOf (.ref x)) (.ref C)) (h : Q (.ref C) s) :
    wpAny (model prog w) A (getAttrBy (.ref x) (.str "__class__" tk) fill) Q E s := by
  obtain ⟨hh, g, dr, t, os⟩ := s
  have L1 := PySem.W.looks_findIn (M := model prog w) X k.ga
  have L2 := PySem.W.looks_findIn (M := model prog w) X k.gn
  have hb := F.attr_ValueError.ga.bind (.ref x)
  unfold getAttrBy
  refine wpAny_holding (wpAny_bind (L0.at (wpAny_bind (L1.at ?_))))
  dsimp only
  have ne : (Value.builtin "BaseException.__getattribute__" == Value.builtin "object.__getattribute__") = false := by decide +kernel
  have oh : onTheHeap (Value.ref C) = true := rfl
  rw [ne, Bool.and_false, if_neg Bool.false_ne_true]
  unfold getAttrByItsOwn hookBefore
  rw [if_pos oh]
  refine wpAny_bind (L2.at (wpAny_bind (wpAny_attempt (wpAny_holding ?_))))
  unfold callGetattribute
  rw [Bool.false_and, if_neg Bool.false_ne_true]
  unfold boundAndCalled
  rw [hb]
  refine wpAny_bind (wpAny_pure ?_)
  refine wpAny_call (codeAny_call_builtin F.attr_ValueError.ga.plain F.entry_bexc_ga (xc_check X k L0 (xc_entry X k L0 ?_)))
  exact wpAny_pure h

theorem xc_attr {Q : Option Value → Shared → Prop} (X : K.In s.heap) (k : ExK K C) (L0 : PySem.W.Looks (model prog w) s.heap (typeOf (.ref x)) (.ref C)) (h : Q (some (.ref C)) { s with toks := s.toks + 1 }) :
    wpAny (model prog w) A (getAttr? (.ref x) "__class__") Q E s := by
  obtain ⟨hh, g, dr, t, os⟩ := s
  unfold getAttr? getAttrBy?
  exact wpAny_bind (wpAny_mkText (wpAny_bind (wpAny_attempt (xc_by X k L0 (wpAny_pure h)))))
end

def ExAt (a C : Addr) (h : Heap) : Prop := ∃ o, h.get? a = some o ∧ o.cls = .ref C
theorem ExAt.ty {a C : Addr} {h : Heap} (M : Model) (p : ExAt a C h) : PySem.W.Looks M h (typeOf (.ref a)) (.ref C) := by
  obtain ⟨o, h1, h2⟩ := p
  exact h2 ▸ (PySem.W.Looks.ld h1).andThen .now
theorem kitx_exc {K : PySem.W.Frag} {a C : Addr} (k : ExK K C) : PySem.W.KitX K (.ref a) (.ref C) (ExAt a C) where
  ty := fun M h _ p => p.ty M
  it := fun M h X _ => by
    obtain ⟨cd, hc⟩ := Option.isSome_iff_exists.mp k.ic
    unfold PySem.W.clsIn at hc
    split at hc
    case h_2 => cases hc
    case h_1 c' d' cd' sl' ho =>
      intro A' Q' E' s' kk q
      unfold isType loadHead
      exact wpAny_bind (wpAny_loadPart (kk _ _ (X _ _ ho)) (wpAny_pure q))
  ne := fun h tp dd its n sl X htp => by
    obtain ⟨cd, hc⟩ := Option.isSome_iff_exists.mp k.ic
    cases hb : (Value.ref C == Value.ref tp) with
    | false => rfl
    | true =>
      have e : C = tp := Value.ref.inj (beq_iff_eq.mp hb)
      subst e
      unfold PySem.W.clsIn at hc
      split at hc
      case h_2 => cases hc
      case h_1 c' d' cd' sl' ho =>
        have z := (X _ _ ho).symm.trans htp
        cases z
  ca := fun X p h => xc_attr X k (p.ty _) h

/-! ### isinstance -/
inductive TyX (K : PySem.W.Frag) (H : Hp) : V → Value → Prop where
  | ty {x : V} {t : Value} (h : TyOf K H x t) : TyX K H x t
  | exc {a C : Addr} (e : H a = some (excO a (.ref C))) (k : ExK K C) : TyX K H (.ref a) (.ref C)
def clsV : V → Option Value
  | .ref a => some (.ref a)
  | .ty n => some (.type n)
  | _ => none
theorem clsV_rel {c : V} {cv u : Value} (h : clsV c = some cv) (r : RelV c u) : u = cv := by
  cases c with
  | ref a => cases h; exact r
  | ty n => cases h; exact r
  | _ => cases h
theorem clsVs_rel : ∀ {cs : List V} {cvs us : List Value}, cs.map clsV = cvs.map some → Vals cs us → us = cvs
  | [], [], _, _, .nil => rfl
  | [], _ :: _, _, h, _ => by cases h
  | _ :: _, [], _, h, _ => by cases h
  | c :: cs, cv :: cvs, _, h, .cons r t => by
    have h1 : clsV c = some cv := List.head_eq_of_cons_eq h
    have h2 : cs.map clsV = cvs.map some := List.tail_eq_of_cons_eq h
    rw [clsV_rel h1 r, clsVs_rel h2 t]
section
variable {X : Cx}
theorem call_isi : CallR X (.builtin "isinstance") (fun xs H Q => ∃ x c t cv b, xs = [x, c] ∧ TyX X.K H x t ∧ clsV c = some cv ∧ PySem.W.kitOne X.K t cv = some b ∧ Q (.bl b) H) := by
  intro pins s σ H xs us Q I r h
  obtain ⟨x, c, t, cv, b, rfl, ty, hc, hk, q⟩ := h
  obtain ⟨u, us', rfl, rx, r2⟩ : ∃ u us', us = u :: us' ∧ RelV x u ∧ Vals [c] us' := by cases r with | cons a b => exact ⟨_, _, rfl, a, b⟩
  obtain ⟨v, rfl, rc⟩ : ∃ v, us' = [v] ∧ RelV c v := by cases r2 with | cons a b => cases b; exact ⟨_, rfl, a⟩
  have e := clsV_rel hc rc
  subst e
  cases ty with
  | ty ty => exact isinst_ok I rx ty hk fun tk => ⟨.bl b, H, I.tok tk, rfl, q⟩
  | @exc a C ea k =>
    cases (show u = Value.ref a from rx)
    obtain ⟨p, _⟩ := (show ObjOk X.prog X.w H s.heap a (excO a (.ref C)) from I.hok a _ ea)
    exact PySem.W.kia_one (kitx_exc k) I.kIn p hk (fun z => nomatch z) fun tk => ⟨.bl b, H, I.tok tk, rfl, q⟩
theorem call_isiT : CallR X (.builtin "isinstance") (fun xs H Q => ∃ a C tp cs cvs b, xs = [.ref a, .ref tp] ∧ H a = some (excO a (.ref C)) ∧ ExK X.K C ∧ H tp = some (.tup cs) ∧ cs.map clsV = cvs.map some ∧ PySem.W.kitAny X.K (.ref C) cvs = some b ∧ Q (.bl b) H) := by
  intro pins s σ H xs us Q I r h
  obtain ⟨a, C, tp, cs, cvs, b, rfl, ea, k, et, hc, hk, q⟩ := h
  obtain ⟨u, us', rfl, rx, r2⟩ : ∃ u us', us = u :: us' ∧ RelV (.ref a) u ∧ Vals [.ref tp] us' := by cases r with | cons a b => exact ⟨_, _, rfl, a, b⟩
  obtain ⟨v, rfl, rc⟩ : ∃ v, us' = [v] ∧ RelV (.ref tp) v := by cases r2 with | cons a b => cases b; exact ⟨_, rfl, a⟩
  cases (show u = Value.ref a from rx)
  cases (show v = Value.ref tp from rc)
  obtain ⟨p, _⟩ := (show ObjOk X.prog X.w H s.heap a (excO a (.ref C)) from I.hok a _ ea)
  obtain ⟨_, its, rt, o, h1, h2, n, h3⟩ := (show ObjOk X.prog X.w H s.heap tp (.tup cs) from I.hok tp _ et)
  have e := clsVs_rel hc rt
  subst e
  obtain ⟨oc, od, oda, osl⟩ := o
  dsimp only at h2 h3
  subst h2 h3
  exact PySem.W.kia_tup (kitx_exc k) I.kIn p h1 hk (fun z => nomatch z) fun tk => ⟨.bl b, H, I.tok tk, rfl, q⟩
end
end L2

set_option Elab.async false
set_option linter.all false
set_option maxRecDepth 100000
namespace L2
open PySem PySem.Spec PyProof.Rows

/-! ### == and != of lists and tuples -/
inductive EqD (K : PySem.W.Frag) (H : Hp) : Nat → V → V → Bool → Prop where
  | flat {n : Nat} {x y : V} (fx : flatV x = true) (fy : flatV y = true) : EqD K H n x y (eqV x y)
  | lst {n : Nat} {p q : Addr} {xs ys : List V} {e : Nat → Bool} (ne : p ≠ q) (hp : SqL K H p xs) (hq : SqL K H q ys) (hl : xs.length = ys.length)
      (h : ∀ (j : Nat) (x y : V), xs[j]? = some x → ys[j]? = some y → EqD K H n x y (e j)) : EqD K H (n + 1) (.ref p) (.ref q) ((List.range xs.length).all e)
  | lstN {n : Nat} {p q : Addr} {xs ys : List V} (ne : p ≠ q) (hp : SqL K H p xs) (hq : SqL K H q ys) (hl : xs.length ≠ ys.length) : EqD K H (n + 1) (.ref p) (.ref q) false
  | tup {n : Nat} {p q : Addr} {xs ys : List V} {e : Nat → Bool} (ne : p ≠ q) (hp : SqT K H p xs) (hq : SqT K H q ys)
      (h : ∀ (j : Nat) (x y : V), xs[j]? = some x → ys[j]? = some y → EqD K H n x y (e j)) : EqD K H (n + 1) (.ref p) (.ref q) ((List.range (min xs.length ys.length)).all e && xs.length == ys.length)

theorem Vals.at {xs : List V} {us : List Value} (r : Vals xs us) {j : Nat} (h : j < us.toArray.size) : ∃ x, xs[j]? = some x ∧ RelV x us.toArray[j] := by
  have hl : j < xs.length := by rw [r.length]; simpa using h
  obtain ⟨u, e, q⟩ := r.get (List.getElem?_eq_getElem hl)
  refine ⟨xs[j], List.getElem?_eq_getElem hl, ?_⟩
  have : us.toArray[j] = u := by
    simp only [List.getElem_toArray]
    have := List.getElem?_eq_some_iff.mp e
    exact this.2
  rw [this]; exact q

section
variable {X : Cx} {pins : List (Addr × Obj)} {σ : St} {H : Hp} {s : Shared}
theorem eqd_at (I : Inv X pins σ H s) {n : Nat} {x y : V} {b : Bool} (d : EqD X.K H n x y b) : ∀ {A : Around} {u v : Value}, RelV x u → RelV y v → A.units + n < cLine → SeqAt.EqAt A s u v b := by
  induction d with
  | flat fx fy => intro A u v rx ry hu; exact eqAt_V rx ry fx fy
  | @lst n p q xs ys e ne hp hq hl h ih =>
    intro A u v rx ry hu
    cases rx; cases ry
    obtain ⟨i1, r1, p1, z1⟩ := I.list hp
    obtain ⟨i2, r2, p2, z2⟩ := I.list hq
    have e1 := r1.length
    have e2 := r2.length
    rw [show xs.length = i1.toArray.size by simpa using e1]
    refine SeqAt.EqAt.of_refs ne (SeqAt.RcAt.lists p1.isList p2.isList (by simp only [List.size_toArray]; omega) (by omega) fun j h1 h2 => ?_)
    obtain ⟨a, ea, ra⟩ := r1.at h1
    obtain ⟨c, ec, rc⟩ := r2.at h2
    exact ih j a c ea ec ra rc (by show A.units + 1 + n < cLine; omega)
  | @lstN n p q xs ys ne hp hq hl =>
    intro A u v rx ry hu
    cases rx; cases ry
    obtain ⟨i1, r1, p1, z1⟩ := I.list hp
    obtain ⟨i2, r2, p2, z2⟩ := I.list hq
    have e1 := r1.length
    have e2 := r2.length
    exact SeqAt.EqAt.of_refs ne (SeqAt.RcAt.lists_lengths p1.isList p2.isList (by simp only [List.size_toArray, bne_iff_ne]; omega) (by omega))
  | @tup n p q xs ys e ne hp hq h ih =>
    intro A u v rx ry hu
    cases rx; cases ry
    obtain ⟨i1, r1, p1, z1⟩ := I.tuple hp
    obtain ⟨i2, r2, p2, z2⟩ := I.tuple hq
    have e1 := r1.length
    have e2 := r2.length
    rw [show xs.length = i1.toArray.size by simpa using e1, show ys.length = i2.toArray.size by simpa using e2]
    refine SeqAt.EqAt.of_refs ne (SeqAt.RcAt.tuples p1 p2 (by omega) fun j h1 h2 => ?_)
    obtain ⟨a, ea, ra⟩ := r1.at h1
    obtain ⟨c, ec, rc⟩ := r2.at h2
    exact ih j a c ea ec ra rc (by show A.units + 1 + n < cLine; omega)
theorem op_eqD {n : Nat} (hu : X.A.units + (n + 1) < cLine) : OpR X (compareOp .Eq) (fun x y H Q => ∃ p q b, x = .ref p ∧ y = .ref q ∧ EqD X.K H (n + 1) x y b ∧ Q (.bl b) H) := by
  intro pins s σ H x y v u Q I rx ry h
  obtain ⟨p, q, b, rfl, rfl, d, hq⟩ := h
  cases rx; cases ry
  cases d with
  | flat fx fy => cases fx
  | @lst _ _ _ xs ys e ne h1 h2 hl h =>
    obtain ⟨i1, r1, p1, z1⟩ := I.list h1
    obtain ⟨i2, r2, p2, z2⟩ := I.list h2
    have e1 := r1.length
    have e2 := r2.length
    rw [show xs.length = i1.toArray.size by simpa using e1] at hq
    refine SeqAt.RcAt.lists p1.isList p2.isList (by simp only [List.size_toArray]; omega) (by omega) (fun j h1 h2 => ?_) _ _ _ _ ⟨.bl _, H, I, rfl, hq⟩
    obtain ⟨a, ea, ra⟩ := r1.at h1
    obtain ⟨c, ec, rc⟩ := r2.at h2
    exact eqd_at I (h j a c ea ec) ra rc (by show X.A.units + 1 + n < cLine; omega)
  | @lstN _ _ _ xs ys ne h1 h2 hl =>
    obtain ⟨i1, r1, p1, z1⟩ := I.list h1
    obtain ⟨i2, r2, p2, z2⟩ := I.list h2
    have e1 := r1.length
    have e2 := r2.length
    exact SeqAt.RcAt.lists_lengths p1.isList p2.isList (by simp only [List.size_toArray, bne_iff_ne]; omega) (by omega) _ _ _ _ ⟨.bl _, H, I, rfl, hq⟩
  | @tup _ _ _ xs ys e ne h1 h2 h =>
    obtain ⟨i1, r1, p1, z1⟩ := I.tuple h1
    obtain ⟨i2, r2, p2, z2⟩ := I.tuple h2
    have e1 := r1.length
    have e2 := r2.length
    rw [show xs.length = i1.toArray.size by simpa using e1, show ys.length = i2.toArray.size by simpa using e2] at hq
    refine SeqAt.RcAt.tuples p1 p2 (by omega) (fun j h1 h2 => ?_) _ _ _ _ ⟨.bl _, H, I, rfl, hq⟩
    obtain ⟨a, ea, ra⟩ := r1.at h1
    obtain ⟨c, ec, rc⟩ := r2.at h2
    exact eqd_at I (h j a c ea ec) ra rc (by show X.A.units + 1 + n < cLine; omega)
theorem op_neD {n : Nat} (hu : X.A.units + (n + 1) < cLine) : OpR X (compareOp .NotEq) (fun x y H Q => ∃ p q b, x = .ref p ∧ y = .ref q ∧ EqD X.K H (n + 1) x y b ∧ Q (.bl (!b)) H) := by
  intro pins s σ H x y v u Q I rx ry h
  obtain ⟨p, q, b, rfl, rfl, d, hq⟩ := h
  cases rx; cases ry
  cases d with
  | flat fx fy => cases fx
  | @lst _ _ _ xs ys e ne h1 h2 hl h =>
    obtain ⟨i1, r1, p1, z1⟩ := I.list h1
    obtain ⟨i2, r2, p2, z2⟩ := I.list h2
    have e1 := r1.length
    have e2 := r2.length
    rw [show xs.length = i1.toArray.size by simpa using e1] at hq
    refine SeqAt.RcNeAt.lists p1.isList p2.isList (by simp only [List.size_toArray]; omega) (by omega) (fun j h1 h2 => ?_) _ _ _ _ ⟨.bl _, H, I, rfl, hq⟩
    obtain ⟨a, ea, ra⟩ := r1.at h1
    obtain ⟨c, ec, rc⟩ := r2.at h2
    exact eqd_at I (h j a c ea ec) ra rc (by show X.A.units + 1 + n < cLine; omega)
  | @lstN _ _ _ xs ys ne h1 h2 hl =>
    obtain ⟨i1, r1, p1, z1⟩ := I.list h1
    obtain ⟨i2, r2, p2, z2⟩ := I.list h2
    have e1 := r1.length
    have e2 := r2.length
    exact SeqAt.RcNeAt.lists_lengths p1.isList p2.isList (by simp only [List.size_toArray, bne_iff_ne]; omega) (by omega) _ _ _ _ ⟨.bl _, H, I, rfl, hq⟩
  | @tup _ _ _ xs ys e ne h1 h2 h =>
    obtain ⟨i1, r1, p1, z1⟩ := I.tuple h1
    obtain ⟨i2, r2, p2, z2⟩ := I.tuple h2
    have e1 := r1.length
    have e2 := r2.length
    rw [show xs.length = i1.toArray.size by simpa using e1, show ys.length = i2.toArray.size by simpa using e2] at hq
    refine SeqAt.RcNeAt.tuples p1 p2 (by omega) (fun j h1 h2 => ?_) _ _ _ _ ⟨.bl _, H, I, rfl, hq⟩
    obtain ⟨a, ea, ra⟩ := r1.at h1
    obtain ⟨c, ec, rc⟩ := r2.at h2
    exact eqd_at I (h j a c ea ec) ra rc (by show X.A.units + 1 + n < cLine; omega)
end
/-- two lists of flat things -/
def eqL : List V → List V → Bool
  | [], [] => true
  | x :: xs, y :: ys => eqV x y && eqL xs ys
  | _, _ => false
theorem eqL_len : ∀ {xs ys : List V}, xs.length ≠ ys.length → eqL xs ys = false
  | [], [], h => absurd rfl h
  | [], _ :: _, _ => rfl
  | _ :: _, [], _ => rfl
  | x :: xs, y :: ys, h => by
    show (eqV x y && eqL xs ys) = false
    rw [eqL_len (fun e => h (by simp [e])), Bool.and_false]
theorem range_succ_all (e : Nat → Bool) (n : Nat) : (List.range (n + 1)).all e = (e 0 && (List.range n).all fun j => e (j + 1)) := by
  rw [List.range_succ_eq_map, List.all_cons, List.all_map]
  rfl
theorem eqL_range : ∀ {xs ys : List V}, xs.length = ys.length → (List.range xs.length).all (fun j => eqV (xs.getD j .non) (ys.getD j .non)) = eqL xs ys
  | [], [], _ => rfl
  | [], _ :: _, h => by cases h
  | _ :: _, [], h => by cases h
  | x :: xs, y :: ys, h => by
    have h' : xs.length = ys.length := by simpa using h
    rw [List.length_cons, range_succ_all]
    have e := eqL_range h'
    simp only [List.getD_cons_zero, List.getD_cons_succ]
    rw [e]
    rfl
theorem eqd_flat {K : PySem.W.Frag} {H : Hp} {p q : Addr} {xs ys : List V} (ne : p ≠ q) (hp : SqL K H p xs) (hq : SqL K H q ys) (fx : xs.all flatV = true) (fy : ys.all flatV = true) : EqD K H 1 (.ref p) (.ref q) (eqL xs ys) := by
  by_cases h : xs.length = ys.length
  · rw [← eqL_range h]
    refine EqD.lst ne hp hq h fun j x y hx hy => ?_
    have e1 : xs.getD j .non = x := by rw [List.getD_eq_getElem?_getD, hx]; rfl
    have e2 : ys.getD j .non = y := by rw [List.getD_eq_getElem?_getD, hy]; rfl
    show EqD K H 0 x y (eqV (xs.getD j .non) (ys.getD j .non))
    rw [e1, e2]
    exact EqD.flat (List.all_eq_true.mp fx x (List.mem_of_getElem? hx)) (List.all_eq_true.mp fy y (List.mem_of_getElem? hy))
  · rw [eqL_len h]
    exact EqD.lstN ne hp hq h
theorem eqL_ints : ∀ (ns ms : List Int), eqL (ns.map V.int) (ms.map V.int) = decide (ns = ms)
  | [], [] => by simp [eqL]
  | [], _ :: _ => by simp [eqL]
  | _ :: _, [] => by simp [eqL]
  | n :: ns, m :: ms => by
    show (eqV (.int n) (.int m) && eqL (ns.map V.int) (ms.map V.int)) = _
    rw [eqL_ints ns ms]
    show ((n == m) && decide (ns = ms)) = _
    by_cases h : n = m
    · subst h; simp
    · simp [h]
theorem eqL_bls : ∀ (ns ms : List Bool), eqL (ns.map V.bl) (ms.map V.bl) = decide (ns = ms)
  | [], [] => by simp [eqL]
  | [], _ :: _ => by simp [eqL]
  | _ :: _, [] => by simp [eqL]
  | n :: ns, m :: ms => by
    show (eqV (.bl n) (.bl m) && eqL (ns.map V.bl) (ms.map V.bl)) = _
    rw [eqL_bls ns ms]
    show ((n == m) && decide (ns = ms)) = _
    by_cases h : n = m
    · subst h; simp
    · simp [h]
theorem flat_bls (ns : List Bool) : (ns.map V.bl).all flatV = true := by simp [flatV]
end L2

set_option Elab.async false
set_option linter.all false
set_option maxRecDepth 100000
namespace L2
open PySem PySem.Spec PyProof.Rows

/-! ### list comprehensions of one clause -/
def compX (X : Cx) (N : List Str) (scope : Scope) (cl : List (Str × Addr)) (C : Addr) (s : Shared) (H : Hp) (ex : List Addr) (pn : List (Addr × Obj)) : Cx :=
  { prog := X.prog, w := X.w, K := X.K, mg := X.mg, base := X.base, A := X.A, N := N, s₀ := s, H₀ := H, env := compEnvC scope cl C X.env, outer := X.stack, stack := X.stack, ex := ex, fn := fun _ => false, calm := X.calm, pn := pn, xe := fun _ _ => False }
def compSt (nt : Nat) (fr : List Nat) (σ : St) : St := List.replicate nt none ++ fr.map fun j => (σ[j]?).join
def tComp (wi : TI) (nt : Nat) (fr : List Nat) (g : TG) (te : TE) : TE := fun σ H Q => wi σ H fun J H1 => ∀ D, H1 D = none → ∃ (n : Nat) (W : Nat → List V → Hp → Prop), W 0 [] (upd H1 D (.lst [])) ∧
  ∀ i acc H, W i acc H → H D = some (.lst acc) ∧ acc.length < sizeLine ∧
    ((J.stop i H ∧ Q (.ref D) H) ∨ (i < n ∧ J.go i H ∧ ∀ x H', J.yld i H x H' → g x (compSt nt fr σ) H' fun σ2 H2 => te σ2 H2 fun y H3 => H3 D = some (.lst acc) ∧ W (i + 1) (acc ++ [y]) (upd H3 D (.lst (acc ++ [y])))))

/-- the targets are the first names of the block: the others stay -/
def GKeeps (nt : Nat) (g : TG) : Prop := ∀ (x : V) (σ : St) (H : Hp) (Q : St → Hp → Prop), g x σ H Q → g x σ H fun σ2 H2 => (∀ j, nt ≤ j → σ2[j]? = σ[j]?) ∧ Q σ2 H2
theorem gk_name {i nt : Nat} (h : i < nt) : GKeeps nt (gName i) := fun x σ H Q q => ⟨fun j hj => List.getElem?_set_ne (by omega), q⟩
/-- what the block's names are -/
structure CompOk (X : Cx) (N : List Str) (scope : Scope) (cl : List (Str × Addr)) (nt : Nat) (fr : List Nat) : Prop where
  clos : closureFor scope X.env = pure cl
  kind : scope.kind = .function
  cell : ∀ y ∈ scope.names, y.2 ≠ .cell
  names : ∀ y ∈ scope.names, y.2 = .local → scope.names.lookup y.1 = some .local
  sub : ∀ p ∈ cl, X.env.cells.lookup p.1 = some p.2
  has : ((relabel scope X.env).names.all fun y => !(y.2 == .cell || y.2 == .free) || (cl.lookup y.1).isSome) = true
  len : N.length = nt + fr.length
  frn : ∀ (j i : Nat), fr[j]? = some i → ∃ x, N[nt + j]? = some x ∧ X.N[i]? = some x ∧ (X.env.kindOf x = some .cell ∨ X.env.kindOf x = some .free) ∧ ((relabel scope X.env).names.lookup x = some .cell ∨ (relabel scope X.env).names.lookup x = some .free)

section
variable {X : Cx} {pins : List (Addr × Obj)} {σ : St} {H : Hp} {s : Shared} {N : List Str} {scope : Scope} {cl : List (Str × Addr)} {nt : Nat} {fr : List Nat}
theorem CompOk.cl_at (k : CompOk X N scope cl nt fr) {x : Str} {c : Addr} (h : cl.lookup x = some c) : X.env.cells.lookup x = some c := k.sub (x, c) (PySem.mem_of_lookup h)
/-- the block begins: its dict stands at C, younger than s -/
theorem CompOk.start (k : CompOk X N scope cl nt fr) (I : Inv X pins σ H s) {C : Addr} {h' : Heap} {t' : Nat} {ex : List Addr} (hex : ∀ b ∈ ex, FpOk X pins H b ∧ b < s.heap.objs.size) (hC : s.heap.objs.size ≤ C) (hn : h'.Ns C fun _ => none) (hk : ∀ b o, s.heap.get? b = some o → h'.get? b = some o) :
    Inv (compX X N scope cl C s H ex (X.pn ++ pins)) [] (compSt nt fr σ) H { s with heap := h', toks := t' } := by
  have ncell : ∀ x c, cl.lookup x = some c → c < s.heap.objs.size := fun x c e => by
    obtain ⟨v, z⟩ := I.cell x c (k.cl_at e)
    exact z.lt
  refine ⟨⟨I.ok.mod, ?_, I.ok.glob, I.ok.blt, hC, fun x y c h1 h2 => I.ok.inj x y c (k.cl_at h1) (k.cl_at h2), fun x hx => ?_, fun x c hf _ => (nomatch hf), I.ok.hd, I.ok.frames, .inl rfl, fun b hb => ⟨?_, fun x c e => ?_⟩, I.bs, ?_, fun b o e hb => ?_, fun b hb z => ?_, I.stack, I.stkFree⟩,
    rfl, I.bare, Un.kept hk, ⟨_, hn, fun i x v e1 e2 e3 => ?_⟩, fun x c e => ?_, I.hok.fresh hC, fun x c e => I.freeC x c (k.cl_at e), fun p hp => ?_, I.hok.kept hk, ?_⟩
  · show (relabel scope X.env).kind = .function
    exact k.kind
  · have hx : (relabel scope X.env).names.lookup x = some .cell ∨ (relabel scope X.env).names.lookup x = some .free := hx
    have hall := List.all_eq_true.mp k.has
    rcases hx with hx | hx
    · have := hall _ (PySem.mem_of_lookup hx)
      simp only [beq_self_eq_true, Bool.true_or, Bool.not_true, Bool.false_or] at this
      exact Option.isSome_iff_exists.mp this
    · have := hall _ (PySem.mem_of_lookup hx)
      simp only [beq_self_eq_true, Bool.or_true, Bool.not_true, Bool.false_or] at this
      exact Option.isSome_iff_exists.mp this
  · exact Nat.ne_of_lt (Nat.lt_of_lt_of_le (hex b hb).2 hC)
  · exact (hex b hb).1.2.2.2.2.1 x c (k.cl_at e)
  · exact Nat.le_trans I.ok.bsz I.sz
  · obtain ⟨_, _, _, h4, _⟩ := (hex b hb).1
    have hs := (I.ok.bs b o e).1
    rcases h4 with z | z
    · exact I.ok.noex b o e z
    · exact absurd (Nat.lt_of_lt_of_le (Heap.lt_size hs) z) (Nat.lt_irrefl _)
  · rcases List.mem_cons.mp (I.stkSub b z) with y | y
    · exact (hex b hb).1.2.1 y
    · exact (hex b hb).1.2.2.1 y
  · have hi : ¬ i < nt := fun hi => by
      unfold compSt at e2
      rw [List.getElem?_append_left (by simpa using hi), List.getElem?_replicate] at e2
      split at e2 <;> cases e2
    obtain ⟨j, rfl⟩ : ∃ j, i = nt + j := ⟨i - nt, by omega⟩
    unfold compSt at e2
    rw [List.getElem?_append_right (by simp), List.length_replicate, Nat.add_sub_cancel_left, List.getElem?_map] at e2
    cases hj : fr[j]? with
    | none => rw [hj] at e2; cases e2
    | some i' =>
      rw [hj] at e2
      have e2 : (σ[i']?).join = some v := Option.some.inj e2
      have e4 : σ[i']? = some (some v) := by
        cases z : σ[i']? with
        | none => rw [z] at e2; cases e2
        | some y => rw [z] at e2; rw [show y = some v from e2]
      obtain ⟨x', n1, n2, n3, n4⟩ := k.frn j i' hj
      have e1 : N[nt + j]? = some x := e1
      rw [n1] at e1; cases e1
      obtain ⟨m, hm, hl⟩ := I.loc
      obtain ⟨u, r, l⟩ := hl i' x v n2 e4 (n3.elim (fun z => .inr (.inl z)) fun z => .inr (.inr z))
      refine ⟨u, r, .inr ⟨n4, ?_⟩⟩
      rcases l with ⟨z, _⟩ | ⟨_, c, hc, hcell⟩
      · rcases n3 with y | y <;> (rw [z] at y; cases y)
      · have hall := List.all_eq_true.mp k.has
        have hs : (cl.lookup x).isSome = true := by
          rcases n4 with y | y
          · have := hall _ (PySem.mem_of_lookup y)
            simpa using this
          · have := hall _ (PySem.mem_of_lookup y)
            simpa using this
        obtain ⟨c', hc'⟩ := Option.isSome_iff_exists.mp hs
        have z := k.cl_at hc'
        rw [hc] at z; cases z
        exact ⟨c, hc', hcell.elim fun o ho => ⟨o, hk _ _ ho.1, ho.2⟩⟩
  · obtain ⟨v, o, ho, hd⟩ := I.cell x c (k.cl_at e)
    exact ⟨v, o, hk _ _ ho, hd⟩
  · obtain ⟨e, n, ne, nf, d⟩ := I.pin p (by have hp : p ∈ (X.pn ++ pins) ++ [] := hp; rw [List.append_nil] at hp; exact hp)
    refine ⟨hk _ _ e, n, Nat.ne_of_lt (Nat.lt_of_lt_of_le (Heap.lt_size e) hC), fun z => ?_, d⟩
    rcases List.mem_cons.mp (I.stkSub _ z) with y | y
    · exact ne y
    · exact nf y
  · show (compSt nt fr σ).length = N.length
    unfold compSt
    rw [List.length_append, List.length_replicate, List.length_map, k.len]
/-- the block is over -/
theorem Inv.blockEnd {ex : List Addr} {C : Addr} {σ' : St} {H H' : Hp} {s' : Shared} {h'' : Heap} {pn' pins' : List (Addr × Obj)} (I : Inv X pins σ H s) (hex : ∀ b ∈ ex, FpOk X pins H b) (J : Inv (compX X N scope cl C s H ex pn') pins' σ' H' s') (hC : s.heap.objs.size ≤ C)
    (hs : Heap.SameBut C s'.heap h'') : Inv X pins σ H' { s' with heap := h'' } := by
  have ne : ∀ b o, s.heap.get? b = some o → b ≠ C := fun b o e => Nat.ne_of_lt (Nat.lt_of_lt_of_le (Heap.lt_size e) hC)
  refine I.call' (s' := { s' with heap := h'' }) (ch := ex) J.os ⟨fun b o e n hb hx => ?_, fun b o e n hb hx => ?_, J.base.free, fun b o e hx => ?_, J.base.tups, J.base.frzs, J.base.tbls⟩ ?_ J.bare fun b hb => ⟨(hex b hb).2.2.2.1, (hex b hb).2.1, (hex b hb).2.2.2.2.1, (hex b hb).2.2.2.2.2⟩
  · exact (hs.2 b (ne b o e)).trans (J.base.keep b o e n hb hx)
  · obtain ⟨sl, e1⟩ := J.base.slot b o e n hb hx
    exact ⟨sl, (hs.2 b (ne b o e)).trans e1⟩
  · obtain ⟨o', e1⟩ := J.base.there b o e hx
    exact ⟨o', (hs.2 b (ne b o e)).trans e1⟩
  · exact hok_tracked J.hok fun b o u e q => (hs.2 b (fun z => by
      have := J.free
      rw [show (compX X N scope cl C s H ex pn').env.locals = C from rfl, ← z, e] at this
      cases this)).trans q

theorem pe_comp {elt iter tg : Expr} {pos : Pos} {wi : TI} {g : TG} {te : TE} (hc : X.calm = true) (k : CompOk X N scope cl nt fr) (hi : PI X tg iter wi) (gk : GKeeps nt g)
    (hg : ∀ C s H ex pn', PG (compX X N scope cl C s H ex pn') tg g) (he : ∀ C s H ex pn', PE (compX X N scope cl C s H ex pn') elt te) (hs : ∀ x, foldedSetIterable iter X.env x = pure x := by intro _; rfl) :
    PE X (.ListComp elt [⟨tg, iter, [], 0⟩] scope pos) (tComp wi nt fr g te) := by
  intro pins s σ H Q I h
  rw [eval_ListComp]
  refine wpAny_comprehension_free (use := none) rfl hs k.clos k.kind k.names (thn (hi pins s σ H _ I h) fun xv s1 h1 => thn h1 fun itv s2 h2 => ?_)
  obtain ⟨it, fp, tn, J, H2, rfl, I2, T, st2, f2, R2⟩ := h2
  have hfD : H2 s2.heap.objs.size = none := I2.fresh
  obtain ⟨n, W, w0, turn⟩ := R2 _ hfD
  have I3 : Inv X pins σ (upd H2 s2.heap.objs.size (.lst [])) { s2 with heap := s2.heap.push { cls := .type "list", data := .seq ([] : List Value).toArray } } := I2.lnew (its := []) (t' := s2.toks) .nil (Nat.zero_le _)
  have fp2 : ∀ b ∈ fp, b < s2.heap.objs.size := fun b hb => by
    obtain ⟨o, e, _⟩ := T.obj _ _ st2 b hb
    exact Heap.lt_size e
  have f3 : ∀ b ∈ fp, FpOk X pins (upd H2 s2.heap.objs.size (.lst [])) b := fun b hb => ⟨by rw [upd_ne (Nat.ne_of_lt (fp2 b hb))]; exact (f2 b hb).1, (f2 b hb).2⟩
  refine wpAny_newObj_type (hd := by show (0 : Nat) ≤ _; exact Nat.zero_le _) ?_
  refine wpAny_newFunctionEnv k.cell (by intro y hy; cases hy) (fun h4 hns hsb => ?_) k.kind
  have hsz : (s2.heap.push { cls := .type "list", data := .seq ([] : List Value).toArray }).objs.size = s2.heap.objs.size + 1 := Heap.size_push _ _
  have keep4 : ∀ b o, (s2.heap.push { cls := .type "list", data := .seq ([] : List Value).toArray }).get? b = some o → h4.get? b = some o := fun b o e =>
    (hsb.2 b (Nat.ne_of_lt (Heap.lt_size e))).trans (Heap.get?_push_of_some _ e)
  have I4 := k.start I3 (C := (s2.heap.push { cls := .type "list", data := .seq ([] : List Value).toArray }).objs.size) (h' := h4) (t' := s2.toks) (ex := fp) (fun b hb => ⟨f3 b hb, by rw [hsz]; exact Nat.lt_succ_of_lt (fp2 b hb)⟩) (Nat.le_refl _) hns keep4
  have st4 : tn 0 h4 := T.keep _ _ _ st2 fun b hb o e => keep4 b o (Heap.get?_push_of_some _ e)
  generalize hC : (s2.heap.push { cls := .type "list", data := .seq ([] : List Value).toArray }).objs.size = C at I4 hns
  have hC3 : ({ s2 with heap := s2.heap.push { cls := .type "list", data := .seq ([] : List Value).toArray } } : Shared).heap.objs.size ≤ C := by rw [← hC]; exact Nat.le_refl _
  have stat : ∀ {H' : Hp}, (∀ b ∈ fp, H' b = none) → ∀ b ∈ fp, FpOk (compX X N scope cl C { s2 with heap := s2.heap.push { cls := .type "list", data := .seq ([] : List Value).toArray } } (upd H2 s2.heap.objs.size (.lst [])) fp (X.pn ++ pins)) [] H' b := fun {H'} hn b hb => by
    refine ⟨hn b hb, ?_, fun z => ?_, .inl hb, fun x c e => (f2 b hb).2.2.2.2.1 x c (k.cl_at e), fun p hp => (f2 b hb).2.2.2.2.2 p (by have hp : p ∈ (X.pn ++ pins) ++ [] := hp; rw [List.append_nil] at hp; exact hp)⟩
    · rw [show (compX X N scope cl C { s2 with heap := s2.heap.push { cls := .type "list", data := .seq ([] : List Value).toArray } } (upd H2 s2.heap.objs.size (.lst [])) fp (X.pn ++ pins)).env.locals = C from rfl, ← hC, hsz]
      exact Nat.ne_of_lt (Nat.lt_succ_of_lt (fp2 b hb))
    · rcases List.mem_cons.mp (I2.stkSub b z) with y | y
      · exact (f2 b hb).2.1 y
      · exact (f2 b hb).2.2.1 y
  have loop : ∀ s5 : Shared, s5 = { s2 with heap := h4, toks := s2.toks } → codeAny (model X.prog X.w) X.A (.compLoop (.ListComp elt [⟨tg, iter, [], 0⟩] scope pos) 0 (.ref it) (.ref s2.heap.objs.size) (compEnvC scope cl C X.env))
      (compPost (model X.prog X.w) X.A X.xe none (EP X pins σ Q) (.ref s2.heap.objs.size) C) s5 := by
    rintro s5 rfl
    refine codeAny_loop rfl (fun m s' => ∃ i acc H', m = n - i ∧ Inv (compX X N scope cl C { s2 with heap := s2.heap.push { cls := .type "list", data := .seq ([] : List Value).toArray } } (upd H2 s2.heap.objs.size (.lst [])) fp (X.pn ++ pins)) [] (compSt nt fr σ) H' s' ∧ tn i s'.heap ∧ (∀ b ∈ fp, H' b = none) ∧ W i acc H') ?_ n ⟨0, [], _, rfl, I4, st4, fun b hb => (f3 b hb).1, w0⟩
    rintro m s6 ⟨i, acc, H6, rfl, I6, st6, fr6, w6⟩
    show wpAny _ _ ((compTurn (.ListComp elt [⟨tg, iter, [], 0⟩] scope pos) 0 (.ref it) (.ref s2.heap.objs.size) (compEnvC scope cl C X.env)).onRaise (fun x => do noteFrame x (compEnvC scope cl C X.env); theTreesLotGoes x)) _ _ s6
    refine wpAny_noted ?_
    rw [compTurn_list1]
    refine wpAny_bind (wpAny_standAt (wpAny_bind ?_))
    obtain ⟨hD6, hz6, alt⟩ := turn i acc H6 w6
    rcases alt with ⟨stop, qn⟩ | ⟨hin, go, step⟩
    · refine wpAny_mono (T.done (compX X N scope cl C { s2 with heap := s2.heap.push { cls := .type "list", data := .seq ([] : List Value).toArray } } (upd H2 s2.heap.objs.size (.lst [])) fp (X.pn ++ pins)) rfl rfl rfl hc i [] s6 (compSt nt fr σ) H6 (fun _ _ => False) I6 (stat fr6) st6 stop) (fun r s7 ⟨hr, I7⟩ => ?_) (fun _ _ z => z.elim)
      subst hr
      refine wpAny_pure ?_
      obtain ⟨m7, hn7, _⟩ := id I7.loc
      exact ⟨m7, hn7, fun h8 hs8 => ⟨.ref s2.heap.objs.size, H6, I3.blockEnd f3 I7 hC3 hs8, rfl, qn⟩⟩
    · refine wpAny_mono (T.item (compX X N scope cl C { s2 with heap := s2.heap.push { cls := .type "list", data := .seq ([] : List Value).toArray } } (upd H2 s2.heap.objs.size (.lst [])) fp (X.pn ++ pins)) rfl rfl rfl hc i [] s6 (compSt nt fr σ) H6 (fun _ _ => False) I6 (stat fr6) st6 go) (fun r s7 ⟨u, hr, h7⟩ => ?_) (fun _ _ z => z.elim)
      subst hr
      refine wpAny_bind (wpAny_mono h7 (fun _ s8 ⟨x, H8, I8, r8, y8, st8, fr8⟩ => ?_) (fun _ _ z => z.elim))
      have I8' := I8.pinned (stat fr8) (T.obj _ _ st8)
      refine wpAny_bind (wpAny_mono (hg _ _ _ _ _ _ s8 _ H8 x u _ I8' r8 (gk _ _ _ _ (step x H8 y8))) (fun _ s9 ⟨σ9, H9, I9, k9, q9⟩ => ?_) (fun _ _ z => z.elim))
      refine wpAny_bind (wpAny_bind (wpAny_mono (he _ _ _ _ _ _ s9 σ9 H9 _ I9 q9) (fun v s10 ⟨y, H10, I10, r10, hD10, q10⟩ => ?_) (fun _ _ z => z.elim)))
      refine wpAny_bind (wpAny_mono (mt_append (X := compX X N scope cl C { s2 with heap := s2.heap.push { cls := .type "list", data := .seq ([] : List Value).toArray } } (upd H2 s2.heap.objs.size (.lst [])) fp (X.pn ++ pins)) _ s10 σ9 H10 (.ref s2.heap.objs.size) [y] (.ref s2.heap.objs.size) [v] (fun v' H' => v' = .non ∧ H' = upd H10 s2.heap.objs.size (.lst (acc ++ [y]))) I10 rfl (.cons r10 .nil) ⟨_, acc, y, rfl, rfl, hD10, hz6, rfl, rfl⟩) (fun v' s11 ⟨_, H11, I11, _, _, e11⟩ => ?_) (fun _ _ z => z.elim))
      subst e11
      refine wpAny_pure (wpAny_pure ⟨rfl, n - (i + 1), by omega, i + 1, acc ++ [y], _, rfl, ?_, ?_, fun b hb => ?_, q10⟩)
      · refine (I11.unpinned (pins := [])).weak ?_ fun j v' e => ?_
        · rw [I11.len, ← I4.len]
        · by_cases hj : nt ≤ j
          · rw [k9 j hj]; exact e
          · unfold compSt at e
            rw [List.getElem?_append_left (by rw [List.length_replicate]; omega), List.getElem?_replicate] at e
            split at e <;> cases e
      · exact T.keep _ _ _ st8 fun b hb o e => (I11.pin (b, o) (List.mem_append_right _ (List.mem_append_right _ (mem_pinsAt hb e)))).1
      · obtain ⟨o, e, d⟩ := T.obj _ _ st8 b hb
        exact (I11.pin (b, o) (List.mem_append_right _ (List.mem_append_right _ (mem_pinsAt hb e)))).2.1
  refine codeAny_compStart_list (loop _ rfl) (T.self _ 0 _ _ _ st4 (loop _ rfl))
end
end L2

set_option Elab.async false
set_option linter.all false
set_option maxRecDepth 100000
namespace L2
open PySem PySem.Spec PyProof.Rows

/-! ### a def of the text, by its name -/
structure FnT (P : Program) (w : World) (K : PySem.W.Frag) (mg : Str → Option Value) (base : Heap) (x : Str) (k : Nat) (ps : List Str) (sp : Sp) : Prop where
  ex : ∃ (f : Addr) (fd : FuncData), FnOk P w K mg base (CXK P w) k f fd ps sp ∧ mg x = some (.ref f) ∧ PySem.W.keepIn K (.ref f) = true ∧ Binds K fd ps []
theorem Fun.okX {P : Program} {w : World} {K : PySem.W.Frag} {mg : Str → Option Value} {base : Heap} {x qual : Str} {st : Stmt} {f : Addr} {fd : FuncData} {N ps : List Str} {k : Nat} {sp : Sp} (F : Fun K x qual st f fd) (S : FnScope N ps (defScope st))
    (len : ∀ vs H Q E, sp vs H Q E → vs.length = ps.length)
    (hbody : ∀ (cdv : Value) (A : Around) (outer : List Env) (s : Shared) (H : Hp) (vs : List V) (Q : VK) (E : XK), Room k (A.deeper (envOfC qual (defScope st) s.heap.objs.size f cdv)) → sp vs H Q E →
      ∃ t, PSs (cxOf (CXK P w) P w K mg base N qual (defScope st) f cdv A outer s H E) (defBody st) t ∧ t { nx := fun _ H' => Q .non H', rt := Q } (start N vs) H) : FnOk P w K mg base (CXK P w) (k + 1) f fd ps sp := by
  obtain ⟨oc, od, kV, doc, pm, an, cdv, ct, osl, rfl, lk, hcd⟩ := F.ex
  exact fn_of lk hcd S len fun A outer s H vs Q E hr hsp => hbody cdv A outer s H vs Q E hr hsp
/-- a def as the top has left it -/
structure DefT (K : PySem.W.Frag) (mg : Str → Option Value) (x : Str) (st : Stmt) (ps : List Str) : Prop where
  ex : ∃ (f : Addr) (fd : FuncData), Fun K x x st f fd ∧ mg x = some (.ref f) ∧ Binds K fd ps []
theorem DefT.fn {P : Program} {w : World} {K : PySem.W.Frag} {mg : Str → Option Value} {base : Heap} {x : Str} {st : Stmt} {N ps : List Str} {k : Nat} {sp : Sp} (D : DefT K mg x st ps) (S : FnScope N ps (defScope st)) (len : ∀ vs H Q E, sp vs H Q E → vs.length = ps.length)
    (hbody : ∀ (f : Addr) (cdv : Value) (A : Around) (outer : List Env) (s : Shared) (H : Hp) (vs : List V) (Q : VK) (E : XK), Room k (A.deeper (envOfC x (defScope st) s.heap.objs.size f cdv)) → sp vs H Q E →
      ∃ t, PSs (cxOf (CXK P w) P w K mg base N x (defScope st) f cdv A outer s H E) (defBody st) t ∧ t { nx := fun _ H' => Q .non H', rt := Q } (start N vs) H) : FnT P w K mg base x (k + 1) ps sp := by
  obtain ⟨f, fd, F, hm, hb⟩ := D.ex
  exact ⟨f, fd, F.okX S len (hbody f), hm, F.kp, hb⟩
theorem DefT.mk' {K : PySem.W.Frag} {h : Heap} {mg : Str → Option Value} {x : Str} {st : Stmt} {ps : List Str} {f : Addr} {oc : Value} {od an : Option Addr} {osl : Array (Option Value)} {kV doc pm cdv ct : Value} (X : K.In h) (G : h.Ns mainGlobals mg)
    (a : PySem.W.nsIn K mainGlobals x = some (some (.ref f))) (l : K.lookup f = some ⟨oc, od, .func (PySem.W.fnOf x x (defArgs st) (defBody st) (defScope st) .none kV doc pm an cdv ct), osl⟩) (c : PySem.W.codeIn K cdv x = true) (k : PySem.W.keepIn K (.ref f) = true)
    (hb : ∀ (kV doc pm : Value) (an : Option Addr) (cdv ct : Value) (us : List Value), us.length = ps.length → bindArgs (PySem.W.fnOf x x (defArgs st) (defBody st) (defScope st) .none kV doc pm an cdv ct) ⟨us, []⟩ = pure (ps.zip us)) : DefT K mg x st ps :=
  have F := fun_mk (st := st) (x := x) (qual := x) l c k
  ⟨_, _, F, PySem.W.mg_of X G a, F.binds hb⟩

def tFn (sp : Sp) (E : XK) (t : TA) : TE := fun σ H Q => t σ H fun vs H1 => sp vs H1 Q E
section
variable {X : Cx} {k j : Nat} {ps : List Str} {sp : Sp} {E : XK} {J : St → XK} {x : Str} {p pos : Pos} {e : Expr} {es : List Expr} {t : TA}
theorem pe_fn (G : FnT X.prog X.w X.K X.mg X.base x k ps sp) (hr : Room j X.A) (hj : k ≤ j) (hg : Gl X x) (hx : Passes (CXK X.prog X.w) X E) (ha : PA X (e :: es) t) (hdb : (x == ("__debug__" : Str)) = false := by decide)
    (he : starEach (e :: es) X.env = (false, eval e X.env) :: starEach es X.env := by rfl) (hpl : (backTo pos (starEach es X.env)).any (·.1) = false := by rfl) : PE X (.Call (.Name x p) (e :: es) [] pos) (tFn sp E t) := by
  obtain ⟨f, fd, F, hm, hk, hb⟩ := G.ex
  intro pins s σ H Q I h
  refine pe_call F (hr.mono hj) hg hm hk hb .nil hx ha hdb he hpl pins s σ H Q I ?_
  show t σ H fun vs H1 => sp (vs ++ []) H1 Q E
  simp only [List.append_nil]
  exact h
theorem pe_fnJ (G : FnT X.prog X.w X.K X.mg X.base x k ps sp) (hr : Room j X.A) (hj : k ≤ j) (hg : Gl X x) (hx : PassesJ X J) (ha : PA X (e :: es) t) (hdb : (x == ("__debug__" : Str)) = false := by decide)
    (he : starEach (e :: es) X.env = (false, eval e X.env) :: starEach es X.env := by rfl) (hpl : (backTo pos (starEach es X.env)).any (·.1) = false := by rfl) : PE X (.Call (.Name x p) (e :: es) [] pos) (tCallJ sp J t) := by
  obtain ⟨f, fd, F, hm, hk, hb⟩ := G.ex
  exact pe_callJ F (hr.mono hj) hg hm hk hb hx ha hdb he hpl
/-- nothing is raised in a block -/
theorem passC {N : List Str} {scope : Scope} {cl : List (Str × Addr)} {C : Addr} {s : Shared} {H : Hp} {ex : List Addr} {pn' : List (Addr × Obj)} : Passes (CXK X.prog X.w) (compX X N scope cl C s H ex pn') E0 := by
  intro pins σ H' s' e s'' I h
  obtain ⟨_, _, _, _, _, q⟩ := h
  exact q.elim
end
/-- an own class of errors, by its name -/
structure ExT (K : PySem.W.Frag) (mg : Str → Option Value) (x : Str) (C : Addr) : Prop where
  k : ExK K C
  m : mg x = some (.ref C)

section
variable {X : Cx}
theorem raiseX {P : Program} {w : World} {K : PySem.W.Frag} {mg : Str → Option Value} {base : Heap} {N : List Str} {qual : Str} {scope : Scope} {f : Addr} {cd : Value} {A : Around} {outer : List Env} {s₀ : Shared} {H₀ : Hp} {E₀ : XK} {C : Addr} :
    RaisesX (cxOf (CXK P w) P w K mg base N qual scope f cd A outer s₀ H₀ E₀) C E₀ := fun pins σ H s h' e vs I hx q => raise_leaves I hx q

theorem pe_gint {x : Str} {n : Int} {pos : Pos} (hm : ∃ t, X.mg x = some (.int n t)) (hg : Gl X x) (hd : (x == ("__debug__" : Str)) = false := by decide) : PE X (.Name x pos) (tC (.int n)) := by
  obtain ⟨t, h⟩ := hm
  exact pe_glob hg h ⟨t, rfl⟩ hd
theorem pe_gcls {x : Str} {C : Addr} {pos : Pos} (T : ExT X.K X.mg x C) (hg : Gl X x) (hd : (x == ("__debug__" : Str)) = false := by decide) : PE X (.Name x pos) (tC (.ref C)) := pe_glob hg T.m rfl hd
theorem pe_gty {x : Str} {n : String} {pos : Pos} (hm : X.mg x = none) (hv : bootBuiltins x = some (.type n)) (hg : Gl X x) (hn : x ≠ "__name__" := by decide) (hd : (x == ("__debug__" : Str)) = false := by decide) : PE X (.Name x pos) (tC (.ty n)) := pe_bltn hg hm hv rfl hn hd
theorem ps_raiseT {x : Str} {C : Addr} {E : XK} {np cpos pos : Pos} {e₀ : Expr} {rest : List Expr} {t : TA} (T : ExT X.K X.mg x C) (hc : X.calm = true) (hg : Gl X x) (hx : RaisesX X C E) (ha : PA X (e₀ :: rest) t)
    (hd : (x == ("__debug__" : Str)) = false := by decide) (he : starEach (e₀ :: rest) X.env = (false, eval e₀ X.env) :: starEach rest X.env := by rfl) (hpl : (backTo cpos (starEach rest X.env)).any (·.1) = false := by rfl) :
    PS X (.Raise (some (.Call (.Name x np) (e₀ :: rest) [] cpos)) none pos) (tRaise C E t) := ps_raise hc hg T.m T.k.ex hx ha hd he hpl
theorem pe_append {o e : Expr} {to : TE} {t : TA} {apos cpos : Pos} (ho : PE X o to) (ha : PA X [e] t) (hbase : attributeBase o "append" X.env (eval o X.env) = eval o X.env := by rfl)
    (hfew : ((backTo cpos (starEach [e] X.env)).all (fun x => !x.1) && (backToKw cpos (keywordEach [] X.env)).all (fun x => x.1.isSome) && decide ([e].length + ([] : List Keyword).length + (if ([] : List Keyword).isEmpty then 0 else 1) < 30)) = true := by rfl)
    (hline : (apos.endLine == cpos.line) = true := by rfl) (hs : starEach [e] X.env = (false, eval e X.env) :: starEach [] X.env := by rfl) (hplain : (backTo cpos (starEach [] X.env)).any (·.1) = false := by rfl) :
    PE X (.Call (.Attribute o "append" apos) [e] [] cpos) (tBM X.K "list" rAppend to t) :=
  pe_bm PySem.F.plainAttrs_list PySem.F.slot_list_append PySem.F.type_list_append (fun pins s σ H x xs v us Q I rx rs q => mt_append pins s σ H x xs v us Q I rx rs q) ho ha hbase hfew hline hs hplain
/-! ### all, big divisors -/
theorem call_allB (hc : X.calm = true) : CallR X (.builtin "all") (fun xs H Q => ∃ (p : Addr) (bs : List Bool), xs = [.ref p] ∧ SqL X.K H p (bs.map V.bl) ∧ Q (.bl (bs.all id)) H) := by
  intro pins s σ H xs us Q I r h
  obtain ⟨p, bs, rfl, hq, q⟩ := h
  obtain ⟨u, rfl, rx⟩ := r.one
  cases rx
  obtain ⟨its, ri, pl, hz⟩ := I.list hq
  have hl := pl.isList
  have hlt : p < s.heap.objs.size := by obtain ⟨_, e, _⟩ := hl; exact Heap.lt_size e
  have hn : its.toArray.size = bs.length := by have := ri.length; simpa using this.symm
  have wl := Walks.list (prog := X.prog) (w := X.w) (A := X.A.in1) (I.ok.hd hc) s.heap.objs.size p (Nat.ne_of_lt hlt) its.toArray
  refine call_all_walk (wpAny_pyIter_list hl ⟨_, _, _, _, _, _, (fun i => (bs[i]?).getD true), rfl, wl, ⟨⟨_, Heap.get?_push_size _ rfl, rfl, rfl⟩, hl.push _⟩, ?_, ?_⟩)
  · intro i v s' Q' E' hP hQ
    have hP : its.toArray[i]? = some v := hP
    have hP : its[i]? = some v := by simpa using hP
    have hi : i < (bs.map V.bl).length := by
      have := (List.getElem?_eq_some_iff.mp hP).1
      rw [ri.length]; exact this
    obtain ⟨u, e, q'⟩ := ri.get (List.getElem?_eq_getElem hi)
    rw [hP] at e
    cases e
    have hi' : i < bs.length := by simpa using hi
    have e2 : (bs.map V.bl)[i] = V.bl bs[i] := List.getElem_map _
    rw [e2] at q'
    cases (show v = Value.bool bs[i] from q')
    simp only [List.getElem?_eq_getElem hi', Option.getD_some] at hQ
    exact wpAny_truthy_bool hQ
  · intro h' tk hk
    have e : ((List.range its.toArray.size).all fun i => (bs[i]?).getD true) = bs.all id := by rw [hn]; exact LSm.range_all bs
    rw [e]
    exact ⟨.bl _, H, I.kept (t' := tk) (LSm.kept_iter hk), rfl, q⟩
def CDivB (_ j : Int) : Prop := 0 < j ∧ j.natAbs.log2 < 9000
theorem op_fdivB : OpR X (binaryOp .FloorDiv) (rI CDivB fun i j => .int (i / j)) := opI fun i j _ _ _ _ _ hc q => by
  have e : i / j = i.fdiv j := (Int.fdiv_eq_ediv_of_nonneg i (Int.le_of_lt hc.1)).symm
  rw [e] at q
  exact floordiv_int (by have := hc.1; omega) q (.inl (PyProof.noPylong_of_log2 hc.2))
/-! ### the same rules, where the reading must not name the context -/
theorem ix_listK {K : PySem.W.Frag} (h : X.K = K := by rfl) : IxR X (rIxL K) := h ▸ ix_list
theorem ix_tupK {K : PySem.W.Frag} (h : X.K = K := by rfl) : IxR X (rIxT K) := h ▸ ix_tup
theorem sl_listK {K : PySem.W.Frag} (h : X.K = K := by rfl) : SlR X (rSlL K) := h ▸ sl_list
theorem op_inK {K : PySem.W.Frag} (h : X.K = K := by rfl) : OpR X (compareOp .In) (rIn K false) := h ▸ op_in_seq
theorem op_notInK {K : PySem.W.Frag} (h : X.K = K := by rfl) : OpR X (compareOp .NotIn) (rIn K true) := h ▸ op_notIn_seq
def rEqD (K : PySem.W.Frag) (n : Nat) : R2 := fun x y H Q => ∃ p q b, x = .ref p ∧ y = .ref q ∧ EqD K H (n + 1) x y b ∧ Q (.bl b) H
def rNeD (K : PySem.W.Frag) (n : Nat) : R2 := fun x y H Q => ∃ p q b, x = .ref p ∧ y = .ref q ∧ EqD K H (n + 1) x y b ∧ Q (.bl (!b)) H
theorem op_eqK {K : PySem.W.Frag} {n : Nat} (hu : X.A.units + (n + 1) < cLine) (h : X.K = K := by rfl) : OpR X (compareOp .Eq) (rEqD K n) := h ▸ op_eqD hu
theorem op_neK {K : PySem.W.Frag} {n : Nat} (hu : X.A.units + (n + 1) < cLine) (h : X.K = K := by rfl) : OpR X (compareOp .NotEq) (rNeD K n) := h ▸ op_neD hu
def rIsi (K : PySem.W.Frag) : List V → Hp → VK → Prop := fun xs H Q => ∃ x c t cv b, xs = [x, c] ∧ TyX K H x t ∧ clsV c = some cv ∧ PySem.W.kitOne K t cv = some b ∧ Q (.bl b) H
def rIsiT (K : PySem.W.Frag) : List V → Hp → VK → Prop := fun xs H Q => ∃ a C tp cs cvs b, xs = [.ref a, .ref tp] ∧ H a = some (excO a (.ref C)) ∧ ExK K C ∧ H tp = some (.tup cs) ∧ cs.map clsV = cvs.map some ∧ PySem.W.kitAny K (.ref C) cvs = some b ∧ Q (.bl b) H
def rLen (K : PySem.W.Frag) : List V → Hp → VK → Prop := fun xs H Q => ∃ p ys, xs = [.ref p] ∧ (SqL K H p ys ∨ SqT K H p ys) ∧ Q (.int ys.length) H
def rListOf (K : PySem.W.Frag) : List V → Hp → VK → Prop := fun xs H Q => ∃ p ys, xs = [.ref p] ∧ (SqL K H p ys ∨ SqT K H p ys) ∧ ∀ l, H l = none → Q (.ref l) (upd H l (.lst ys))
def rAll (K : PySem.W.Frag) : List V → Hp → VK → Prop := fun xs H Q => ∃ (p : Addr) (bs : List Bool), xs = [.ref p] ∧ SqL K H p (bs.map V.bl) ∧ Q (.bl (bs.all id)) H
theorem call_isiK {K : PySem.W.Frag} (h : X.K = K := by rfl) : CallR X (.builtin "isinstance") (rIsi K) := h ▸ call_isi
theorem call_isiTK {K : PySem.W.Frag} (h : X.K = K := by rfl) : CallR X (.builtin "isinstance") (rIsiT K) := h ▸ call_isiT
theorem call_lenK {K : PySem.W.Frag} (h : X.K = K := by rfl) : CallR X (.builtin "len") (rLen K) := h ▸ call_len_seq
theorem call_listK {K : PySem.W.Frag} (h : X.K = K := by rfl) : CallR X (.type "list") (rListOf K) := h ▸ call_list_of
theorem call_allK {K : PySem.W.Frag} (hc : X.calm = true) (h : X.K = K := by rfl) : CallR X (.builtin "all") (rAll K) := h ▸ call_allB hc
theorem pi_listK {K : PySem.W.Frag} {tg l : Expr} {tl : TE} (hl : PE X l tl) (h : X.K = K := by rfl) : PI X tg l (iList K tl) := h ▸ pi_list hl
theorem pe_appendK {K : PySem.W.Frag} {o e : Expr} {to : TE} {t : TA} {apos cpos : Pos} (ho : PE X o to) (ha : PA X [e] t) (hK : X.K = K := by rfl) (hbase : attributeBase o "append" X.env (eval o X.env) = eval o X.env := by rfl)
    (hfew : ((backTo cpos (starEach [e] X.env)).all (fun x => !x.1) && (backToKw cpos (keywordEach [] X.env)).all (fun x => x.1.isSome) && decide ([e].length + ([] : List Keyword).length + (if ([] : List Keyword).isEmpty then 0 else 1) < 30)) = true := by rfl)
    (hline : (apos.endLine == cpos.line) = true := by rfl) (hs : starEach [e] X.env = (false, eval e X.env) :: starEach [] X.env := by rfl) (hplain : (backTo cpos (starEach [] X.env)).any (·.1) = false := by rfl) :
    PE X (.Call (.Attribute o "append" apos) [e] [] cpos) (tBM K "list" rAppend to t) := hK ▸ pe_append ho ha hbase hfew hline hs hplain
theorem comp_ok0 {N : List Str} {scope : Scope} {nt : Nat} (clos : closureFor scope X.env = pure []) (kind : scope.kind = .function) (cell : ∀ y ∈ scope.names, y.2 ≠ .cell) (names : ∀ y ∈ scope.names, y.2 = .local → scope.names.lookup y.1 = some .local)
    (has : ((relabel scope X.env).names.all fun y => !(y.2 == .cell || y.2 == .free) || (([] : List (Str × Addr)).lookup y.1).isSome) = true) (len : N.length = nt) : CompOk X N scope [] nt [] :=
  ⟨clos, kind, cell, names, fun p hp => (nomatch hp), has, len, fun j i h => by simp at h⟩
end
/-! ### words for readings -/
theorem huN {k : Nat} {A : Around} (hr : Room k A) (n : Nat) (h : n ≤ 100 := by decide) : A.units + n < cLine := by
  have := hr.un
  omega
/-- a comprehension over a list, whose element changes nothing -/
theorem comp_list {K : PySem.W.Frag} {a : Addr} {xs : List V} {f : V → V} {nt : Nat} {fr : List Nat} {g : TG} {te : TE} {σ : St} {H : Hp} {Q : Addr → Hp → Prop} (hs : SqL K H a xs) (hz : xs.length < sizeLine) (ha : ∃ o, H a = some o)
    (he : ∀ (i : Nat) (x : V) (H' : Hp) (k : VK), xs[i]? = some x → Same H H' → k (f x) H' → g x (compSt nt fr σ) H' fun σ2 H2 => te σ2 H2 k) (hq : ∀ D, H D = none → Q D (upd H D (.lst (xs.map f)))) :
    ∀ D, H D = none → ∃ (n : Nat) (W : Nat → List V → Hp → Prop), W 0 [] (upd H D (.lst [])) ∧ ∀ i acc H', W i acc H' → H' D = some (.lst acc) ∧ acc.length < sizeLine ∧
      (((Itl K a).stop i H' ∧ Q D H') ∨ (i < n ∧ (Itl K a).go i H' ∧ ∀ x H2, (Itl K a).yld i H' x H2 → g x (compSt nt fr σ) H2 fun σ2 H3 => te σ2 H3 fun y H4 => H4 D = some (.lst acc) ∧ W (i + 1) (acc ++ [y]) (upd H4 D (.lst (acc ++ [y]))))) := by
  intro D hD
  have sm : ∀ o, Same H (upd H D o) := fun o b u e => by rw [upd_ne (ne_of_none e hD)]; exact e
  refine ⟨xs.length, fun i acc H' => i ≤ xs.length ∧ acc = (xs.take i).map f ∧ H' = upd H D (.lst acc), ⟨Nat.zero_le _, rfl, rfl⟩, ?_⟩
  rintro i acc H' ⟨hi, rfl, rfl⟩
  have hl : ((xs.take i).map f).length = i := by rw [List.length_map, List.length_take]; omega
  refine ⟨upd_same, by omega, ?_⟩
  by_cases h : i < xs.length
  · refine .inr ⟨h, ⟨xs, xs[i], (sm _).seq hs, List.getElem?_eq_getElem h⟩, ?_⟩
    rintro x H2 ⟨rfl, hy⟩
    have hx := hy xs ((sm _).seq hs)
    refine he i x _ _ hx (sm _) ⟨upd_same, by omega, ?_, by rw [upd_upd]⟩
    have e : xs.take (i + 1) = xs.take i ++ [x] := by
      rw [List.take_succ, hx]; rfl
    rw [e, List.map_append]
    rfl
  · have e : i = xs.length := by omega
    subst e
    refine .inl ⟨⟨xs, (sm _).seq hs, Nat.le_refl _⟩, ?_⟩
    rw [List.take_length]
    exact hq D hD
end L2

set_option Elab.async false
set_option linter.all false
set_option maxRecDepth 100000
namespace L2
open PySem PySem.Spec PyProof.Rows
section
variable {X : Cx} {pins : List (Addr × Obj)} {σ : St} {H : Hp} {s : Shared} {N : List Str} {scope : Scope} {cl : List (Str × Addr)} {nt : Nat} {fr : List Nat}
theorem ps_setComp {elt iter tg : Expr} {pos py spos : Pos} {y : Str} {ix : Nat} {wi : TI} {g : TG} {te : TE} (hc : X.calm = true) (k : CompOk X N scope cl nt fr) (hi : PI X tg iter wi) (gk : GKeeps nt g)
    (hg : ∀ C s H ex pn', PG (compX X N scope cl C s H ex pn') tg g) (he : ∀ C s H ex pn', PE (compX X N scope cl C s H ex pn') elt te) (hN : X.N.Nodup) (hi2 : X.N[ix]? = some y) (hy : X.env.scope.names.lookup y = some .local) (hsw : swapsWith (.ListComp elt [⟨tg, iter, [], 0⟩] scope pos) (some (.Name y py)) spos.line X.env = pure true := by rfl)
    (hs : ∀ x, foldedSetIterable iter X.env x = pure x := by intro _; rfl) :
    PS X (.Assign [.Name y py] (.ListComp elt [⟨tg, iter, [], 0⟩] scope pos) spos) (tAsg (tComp wi nt fr g te) (gName ix)) := by
  intro pins s σ H DD I h
  rw [exec_Assign_Name_used _ _ _ _ hsw]
  refine wpAny_bind (wpAny_standAt (wpAny_bind ?_))
  show wpAny _ X.A (do let _ ← comprehension (.ListComp elt [⟨tg, iter, [], 0⟩] scope pos) scope X.env _ (newList []) false (eval iter X.env) (some (assign (.Name y py) X.env))) _ _ s
  refine wpAny_bind (wpAny_mono (wpAny_comprehension_free (use := some (assign (.Name y py) X.env)) (Q := fun _ s' => SP X pins DD .next s') rfl hs k.clos k.kind k.names (thn (hi pins s σ H _ I h) fun xv s1 h1 => thn h1 fun itv s2 h2 => ?_)) (fun _ s' hq => wpAny_pure (wpAny_pure hq)) fun _ _ e => e)
  obtain ⟨it, fp, tn, J, H2, rfl, I2, T, st2, f2, R2⟩ := h2
  have hfD : H2 s2.heap.objs.size = none := I2.fresh
  obtain ⟨n, W, w0, turn⟩ := R2 _ hfD
  have I3 : Inv X pins σ (upd H2 s2.heap.objs.size (.lst [])) { s2 with heap := s2.heap.push { cls := .type "list", data := .seq ([] : List Value).toArray } } := I2.lnew (its := []) (t' := s2.toks) .nil (Nat.zero_le _)
  have fp2 : ∀ b ∈ fp, b < s2.heap.objs.size := fun b hb => by
    obtain ⟨o, e, _⟩ := T.obj _ _ st2 b hb
    exact Heap.lt_size e
  have f3 : ∀ b ∈ fp, FpOk X pins (upd H2 s2.heap.objs.size (.lst [])) b := fun b hb => ⟨by rw [upd_ne (Nat.ne_of_lt (fp2 b hb))]; exact (f2 b hb).1, (f2 b hb).2⟩
  refine wpAny_newObj_type (hd := by show (0 : Nat) ≤ _; exact Nat.zero_le _) ?_
  refine wpAny_newFunctionEnv k.cell (by intro y hy; cases hy) (fun h4 hns hsb => ?_) k.kind
  have hsz : (s2.heap.push { cls := .type "list", data := .seq ([] : List Value).toArray }).objs.size = s2.heap.objs.size + 1 := Heap.size_push _ _
  have keep4 : ∀ b o, (s2.heap.push { cls := .type "list", data := .seq ([] : List Value).toArray }).get? b = some o → h4.get? b = some o := fun b o e =>
    (hsb.2 b (Nat.ne_of_lt (Heap.lt_size e))).trans (Heap.get?_push_of_some _ e)
  have I4 := k.start I3 (C := (s2.heap.push { cls := .type "list", data := .seq ([] : List Value).toArray }).objs.size) (h' := h4) (t' := s2.toks) (ex := fp) (fun b hb => ⟨f3 b hb, by rw [hsz]; exact Nat.lt_succ_of_lt (fp2 b hb)⟩) (Nat.le_refl _) hns keep4
  have st4 : tn 0 h4 := T.keep _ _ _ st2 fun b hb o e => keep4 b o (Heap.get?_push_of_some _ e)
  generalize hC : (s2.heap.push { cls := .type "list", data := .seq ([] : List Value).toArray }).objs.size = C at I4 hns
  have hC3 : ({ s2 with heap := s2.heap.push { cls := .type "list", data := .seq ([] : List Value).toArray } } : Shared).heap.objs.size ≤ C := by rw [← hC]; exact Nat.le_refl _
  have stat : ∀ {H' : Hp}, (∀ b ∈ fp, H' b = none) → ∀ b ∈ fp, FpOk (compX X N scope cl C { s2 with heap := s2.heap.push { cls := .type "list", data := .seq ([] : List Value).toArray } } (upd H2 s2.heap.objs.size (.lst [])) fp (X.pn ++ pins)) [] H' b := fun {H'} hn b hb => by
    refine ⟨hn b hb, ?_, fun z => ?_, .inl hb, fun x c e => (f2 b hb).2.2.2.2.1 x c (k.cl_at e), fun p hp => (f2 b hb).2.2.2.2.2 p (by have hp : p ∈ (X.pn ++ pins) ++ [] := hp; rw [List.append_nil] at hp; exact hp)⟩
    · rw [show (compX X N scope cl C { s2 with heap := s2.heap.push { cls := .type "list", data := .seq ([] : List Value).toArray } } (upd H2 s2.heap.objs.size (.lst [])) fp (X.pn ++ pins)).env.locals = C from rfl, ← hC, hsz]
      exact Nat.ne_of_lt (Nat.lt_succ_of_lt (fp2 b hb))
    · rcases List.mem_cons.mp (I2.stkSub b z) with y | y
      · exact (f2 b hb).2.1 y
      · exact (f2 b hb).2.2.1 y
  have loop : ∀ s5 : Shared, s5 = { s2 with heap := h4, toks := s2.toks } → codeAny (model X.prog X.w) X.A (.compLoop (.ListComp elt [⟨tg, iter, [], 0⟩] scope pos) 0 (.ref it) (.ref s2.heap.objs.size) (compEnvC scope cl C X.env))
      (compPost (model X.prog X.w) X.A X.xe (some (assign (.Name y py) X.env)) (fun _ s' => SP X pins DD .next s') (.ref s2.heap.objs.size) C) s5 := by
    rintro s5 rfl
    refine codeAny_loop rfl (fun m s' => ∃ i acc H', m = n - i ∧ Inv (compX X N scope cl C { s2 with heap := s2.heap.push { cls := .type "list", data := .seq ([] : List Value).toArray } } (upd H2 s2.heap.objs.size (.lst [])) fp (X.pn ++ pins)) [] (compSt nt fr σ) H' s' ∧ tn i s'.heap ∧ (∀ b ∈ fp, H' b = none) ∧ W i acc H') ?_ n ⟨0, [], _, rfl, I4, st4, fun b hb => (f3 b hb).1, w0⟩
    rintro m s6 ⟨i, acc, H6, rfl, I6, st6, fr6, w6⟩
    show wpAny _ _ ((compTurn (.ListComp elt [⟨tg, iter, [], 0⟩] scope pos) 0 (.ref it) (.ref s2.heap.objs.size) (compEnvC scope cl C X.env)).onRaise (fun x => do noteFrame x (compEnvC scope cl C X.env); theTreesLotGoes x)) _ _ s6
    refine wpAny_noted ?_
    rw [compTurn_list1]
    refine wpAny_bind (wpAny_standAt (wpAny_bind ?_))
    obtain ⟨hD6, hz6, alt⟩ := turn i acc H6 w6
    rcases alt with ⟨stop, qn⟩ | ⟨hin, go, step⟩
    · refine wpAny_mono (T.done (compX X N scope cl C { s2 with heap := s2.heap.push { cls := .type "list", data := .seq ([] : List Value).toArray } } (upd H2 s2.heap.objs.size (.lst [])) fp (X.pn ++ pins)) rfl rfl rfl hc i [] s6 (compSt nt fr σ) H6 (fun _ _ => False) I6 (stat fr6) st6 stop) (fun r s7 ⟨hr, I7⟩ => ?_) (fun _ _ z => z.elim)
      subst hr
      refine wpAny_pure ?_
      obtain ⟨m7, hn7, _⟩ := id I7.loc
      have I7x : Inv X pins σ H6 s7 := I3.blockEnd (h'' := s7.heap) f3 I7 hC3 (.refl ..)
      show wpAny _ X.A (assign (.Name y py) X.env (.ref s2.heap.objs.size)) _ _ _
      refine wpAny_assign_Name (store_ok2 (v := .ref s2.heap.objs.size) I7x hN hi2 (Or.inl hy) rfl (fun s8 I8 ⟨a8, sb8, or8⟩ => ?_) (Or.inr hy))
      have ne8 : C ≠ a8 := fun z => by
        rcases or8 with q | q
        · have hL := I3.lt
          rw [← q, ← z] at hL
          exact absurd (Nat.lt_of_lt_of_le hL hC3) (Nat.lt_irrefl _)
        · obtain ⟨v8, q8⟩ := I3.cell _ _ q
          have hL := q8.lt
          rw [← z] at hL
          exact absurd (Nat.lt_of_lt_of_le hL hC3) (Nat.lt_irrefl _)
      refine ⟨m7, hn7.sameBut sb8 ne8, fun h9 hs9 => ⟨_, H6, ?_, qn⟩⟩
      refine I8.turned (it := C) (t' := s8.toks) (fun b o hb e => (hs9.2 b hb).trans e) I7.free (Nat.ne_of_gt (Nat.lt_of_lt_of_le I3.lt hC3)) (.inr (Nat.le_trans I3.sz hC3)) (fun x c e z => ?_) (fun p hp z => ?_)
      · obtain ⟨v8, q8⟩ := I3.cell x c e
        have hL := q8.lt
        rw [z] at hL
        exact absurd (Nat.lt_of_lt_of_le hL hC3) (Nat.lt_irrefl _)
      · have hL := Heap.lt_size (I3.pin p hp).1
        rw [z] at hL
        exact absurd (Nat.lt_of_lt_of_le hL hC3) (Nat.lt_irrefl _)
    · refine wpAny_mono (T.item (compX X N scope cl C { s2 with heap := s2.heap.push { cls := .type "list", data := .seq ([] : List Value).toArray } } (upd H2 s2.heap.objs.size (.lst [])) fp (X.pn ++ pins)) rfl rfl rfl hc i [] s6 (compSt nt fr σ) H6 (fun _ _ => False) I6 (stat fr6) st6 go) (fun r s7 ⟨u, hr, h7⟩ => ?_) (fun _ _ z => z.elim)
      subst hr
      refine wpAny_bind (wpAny_mono h7 (fun _ s8 ⟨x, H8, I8, r8, y8, st8, fr8⟩ => ?_) (fun _ _ z => z.elim))
      have I8' := I8.pinned (stat fr8) (T.obj _ _ st8)
      refine wpAny_bind (wpAny_mono (hg _ _ _ _ _ _ s8 _ H8 x u _ I8' r8 (gk _ _ _ _ (step x H8 y8))) (fun _ s9 ⟨σ9, H9, I9, k9, q9⟩ => ?_) (fun _ _ z => z.elim))
      refine wpAny_bind (wpAny_bind (wpAny_mono (he _ _ _ _ _ _ s9 σ9 H9 _ I9 q9) (fun v s10 ⟨y, H10, I10, r10, hD10, q10⟩ => ?_) (fun _ _ z => z.elim)))
      refine wpAny_bind (wpAny_mono (mt_append (X := compX X N scope cl C { s2 with heap := s2.heap.push { cls := .type "list", data := .seq ([] : List Value).toArray } } (upd H2 s2.heap.objs.size (.lst [])) fp (X.pn ++ pins)) _ s10 σ9 H10 (.ref s2.heap.objs.size) [y] (.ref s2.heap.objs.size) [v] (fun v' H' => v' = .non ∧ H' = upd H10 s2.heap.objs.size (.lst (acc ++ [y]))) I10 rfl (.cons r10 .nil) ⟨_, acc, y, rfl, rfl, hD10, hz6, rfl, rfl⟩) (fun v' s11 ⟨_, H11, I11, _, _, e11⟩ => ?_) (fun _ _ z => z.elim))
      subst e11
      refine wpAny_pure (wpAny_pure ⟨rfl, n - (i + 1), by omega, i + 1, acc ++ [y], _, rfl, ?_, ?_, fun b hb => ?_, q10⟩)
      · refine (I11.unpinned (pins := [])).weak ?_ fun j v' e => ?_
        · rw [I11.len, ← I4.len]
        · by_cases hj : nt ≤ j
          · rw [k9 j hj]; exact e
          · unfold compSt at e
            rw [List.getElem?_append_left (by rw [List.length_replicate]; omega), List.getElem?_replicate] at e
            split at e <;> cases e
      · exact T.keep _ _ _ st8 fun b hb o e => (I11.pin (b, o) (List.mem_append_right _ (List.mem_append_right _ (mem_pinsAt hb e)))).1
      · obtain ⟨o, e, d⟩ := T.obj _ _ st8 b hb
        exact (I11.pin (b, o) (List.mem_append_right _ (List.mem_append_right _ (mem_pinsAt hb e)))).2.1
  refine codeAny_compStart_list (loop _ rfl) (T.self _ 0 _ _ _ st4 (loop _ rfl))
end
/-! ### x.index(y) of flat things -/
section
variable {X : Cx}
end
/-- a comprehension over range(n), by what holds between two turns -/
theorem comp_range {n : Nat} {nt : Nat} {fr : List Nat} {g : TG} {te : TE} {σ : St} {H : Hp} {Q : Addr → Hp → Prop} (hz : n < sizeLine) (Pv : Addr → Nat → List V → Hp → Prop) (h0 : ∀ D, H D = none → Pv D 0 [] (upd H D (.lst [])))
    (hk : ∀ D i acc H', Pv D i acc H' → H' D = some (.lst acc) ∧ acc.length = i)
    (hs : ∀ D i acc H', H D = none → i < n → Pv D i acc H' → g (.int (0 + (i : Int))) (compSt nt fr σ) H' fun σ2 H2 => te σ2 H2 fun y H3 => H3 D = some (.lst acc) ∧ Pv D (i + 1) (acc ++ [y]) (upd H3 D (.lst (acc ++ [y]))))
    (hd : ∀ D acc H', H D = none → Pv D n acc H' → Q D H') :
    ∀ D, H D = none → ∃ (m : Nat) (W : Nat → List V → Hp → Prop), W 0 [] (upd H D (.lst [])) ∧ ∀ i acc H', W i acc H' → H' D = some (.lst acc) ∧ acc.length < sizeLine ∧
      (((Itr 0 n).stop i H' ∧ Q D H') ∨ (i < m ∧ (Itr 0 n).go i H' ∧ ∀ x H2, (Itr 0 n).yld i H' x H2 → g x (compSt nt fr σ) H2 fun σ2 H3 => te σ2 H3 fun y H4 => H4 D = some (.lst acc) ∧ W (i + 1) (acc ++ [y]) (upd H4 D (.lst (acc ++ [y]))))) := by
  intro D hD
  refine ⟨n, fun i acc H' => i ≤ n ∧ Pv D i acc H', ⟨Nat.zero_le _, h0 D hD⟩, ?_⟩
  rintro i acc H' ⟨hi, p⟩
  obtain ⟨k1, k2⟩ := hk D i acc H' p
  refine ⟨k1, by omega, ?_⟩
  by_cases h : i < n
  · refine .inr ⟨h, h, ?_⟩
    rintro x H2 ⟨rfl, rfl⟩
    have key := hs D i acc _ hD h p
    have e : (fun (σ2 : St) (H2 : Hp) => te σ2 H2 fun y H3 => H3 D = some (.lst acc) ∧ Pv D (i + 1) (acc ++ [y]) (upd H3 D (.lst (acc ++ [y])))) = (fun (σ2 : St) (H3 : Hp) => te σ2 H3 fun y H4 => H4 D = some (.lst acc) ∧ i + 1 ≤ n ∧ Pv D (i + 1) (acc ++ [y]) (upd H4 D (.lst (acc ++ [y])))) := by
      funext σ2 H3
      have : (fun (y : V) (H3 : Hp) => H3 D = some (.lst acc) ∧ Pv D (i + 1) (acc ++ [y]) (upd H3 D (.lst (acc ++ [y])))) = (fun (y : V) (H4 : Hp) => H4 D = some (.lst acc) ∧ i + 1 ≤ n ∧ Pv D (i + 1) (acc ++ [y]) (upd H4 D (.lst (acc ++ [y])))) := by
        funext y H4
        have h1 : i + 1 ≤ n := h
        simp [h1]
      rw [this]
    rw [e] at key
    exact key
  · have e : i = n := by omega
    subst e
    exact .inl ⟨Nat.le_refl _, hd D acc H' hD p⟩
/-- one name of the def around is used in the block -/
theorem comp_ok1 {X : Cx} {N : List Str} {scope : Scope} {x : Str} {c : Addr} {nt i : Nat} (clos : closureFor scope X.env = pure [(x, c)]) (kind : scope.kind = .function) (cell : ∀ y ∈ scope.names, y.2 ≠ .cell) (names : ∀ y ∈ scope.names, y.2 = .local → scope.names.lookup y.1 = some .local)
    (sub : X.env.cells.lookup x = some c) (has : ((relabel scope X.env).names.all fun y => !(y.2 == .cell || y.2 == .free) || ([(x, c)].lookup y.1).isSome) = true) (len : N.length = nt + 1) (hN : N[nt]? = some x) (hX : X.N[i]? = some x)
    (hk : X.env.kindOf x = some .cell) (hr : (relabel scope X.env).names.lookup x = some .cell) : CompOk X N scope [(x, c)] nt [i] :=
  ⟨clos, kind, cell, names, fun p hp => (by
    rw [List.mem_singleton] at hp
    subst hp
    exact sub), has, len, fun j i' h => (by
    cases j with
    | zero => cases h; exact ⟨x, hN, hX, .inl hk, .inl hr⟩
    | succ j => cases h)⟩
end L2

set_option Elab.async false
set_option linter.all false
set_option maxRecDepth 100000
namespace L2
open PySem PySem.Spec PyProof.Rows
/-! ### zip of two lists -/
def Itz (K : PySem.W.Frag) (a b : Addr) : It :=
  ⟨fun i H => ∃ xs ys x y, SqL K H a xs ∧ SqL K H b ys ∧ xs[i]? = some x ∧ ys[i]? = some y,
   fun i H v H' => ∃ T, v = .ref T ∧ H T = none ∧ ∀ xs ys x y, SqL K H a xs → SqL K H b ys → xs[i]? = some x → ys[i]? = some y → H' = upd H T (.tup [x, y]),
   fun i H => ∃ xs ys, SqL K H a xs ∧ SqL K H b ys ∧ (xs.length ≤ i ∨ ys.length ≤ i)⟩
def zipSt (z TI TO i1 i2 l1 l2 : Addr) (i : Nat) (h : Heap) : Prop :=
  IsZip h z TI TO .none ∧ IsPair h TI (.ref i1) (.ref i2) ∧ (∃ a b, IsPair h TO a b) ∧ h.IsListIter i1 l1 i ∧ h.IsListIter i2 l2 i
section
variable {X : Cx} {pins : List (Addr × Obj)} {σ : St} {H : Hp} {s : Shared} {h' : Heap}
theorem Inv.turnedL {t' : Nat} {ch : List Addr} (I : Inv X pins σ H s) (hf : ∀ b ∈ ch, FpOk X pins H b) (k : ∀ b o, b ∉ ch → s.heap.get? b = some o → h'.get? b = some o) : Inv X pins σ H { s with heap := h', toks := t' } := by
  have nit : ∀ b u, H b = some u → b ∉ ch := fun b u e z => by rw [(hf b z).1] at e; cases e
  refine I.step (g' := s.gens) (d' := s.drawn) (ch := ch) (fun b hb => ?_) (fun b o _ _ hc e _ => k b o hc e) (fun b o _ _ hc e _ => ⟨o.slots, k b o hc e⟩) (fun _ _ _ _ n => n)
    (fun b o hc e => ⟨o, k b o hc e⟩) (fun _ _ e => e) (fun _ _ _ e => e) (fun b ps e => ⟨#[], by rw [e]; simp⟩) (fun m hm => ?_) (fun b u e => ?_) I.bare
  · obtain ⟨f0, f1, f2, f3, f4, f5⟩ := hf b hb
    exact ⟨f3, f1, f4, f5⟩
  · obtain ⟨o, es, ep, ho, r⟩ := hm
    exact ⟨o, es, ep, k _ o (fun z => (hf _ z).2.1 rfl) ho, r⟩
  · refine (I.hok b u e).stay (fun c v hc q => k c v ?_ q) (fun _ q => q) fun _ _ q => q
    rcases hc with z | z
    · rw [z]; exact nit b u e
    · exact nit c _ z
/-- the same, and a new thing is laid -/
theorem Inv.turnedLay {t' : Nat} {ch : List Addr} {T : Addr} {o : HO} (I : Inv X pins σ H s) (hf : ∀ b ∈ ch, FpOk X pins H b) (hT : s.heap.objs.size ≤ T) (k : ∀ b o, b ∉ ch → s.heap.get? b = some o → h'.get? b = some o) (new : ObjOk X.prog X.w (upd H T o) h' T o) :
    Inv X pins σ (upd H T o) { s with heap := h', toks := t' } := by
  have nit : ∀ b u, H b = some u → b ∉ ch := fun b u e z => by rw [(hf b z).1] at e; cases e
  have hn : H T = none := I.hok.fresh hT
  have lt : ∀ b ob, s.heap.get? b = some ob → b ≠ T := fun b ob e z => by
    have := Heap.lt_size e
    rw [z] at this
    exact absurd (Nat.lt_of_lt_of_le this hT) (Nat.lt_irrefl _)
  refine I.step (g' := s.gens) (d' := s.drawn) (ch := ch) (fun b hb => ?_) (fun b o _ _ hc e _ => k b o hc e) (fun b o _ _ hc e _ => ⟨o.slots, k b o hc e⟩) (fun b o _ e n => by rw [upd_ne (lt b o e)]; exact n)
    (fun b o hc e => ⟨o, k b o hc e⟩) (fun b xs e => by rw [upd_ne (ne_of_none e hn)]; exact e) (fun b _ _ e => by rw [upd_ne (ne_of_none e hn)]; exact e) (fun b ps e => ⟨#[], by rw [upd_ne (ne_of_none e hn), e]; simp⟩) (fun m hm => ?_) (fun b u e => ?_) I.bare
  · obtain ⟨f0, f1, f2, f3, f4, f5⟩ := hf b hb
    exact ⟨f3, f1, f4, f5⟩
  · obtain ⟨o, es, ep, ho, r⟩ := hm
    exact ⟨o, es, ep, k _ o (fun z => (hf _ z).2.1 rfl) ho, r⟩
  · by_cases hb : b = T
    · subst hb
      rw [upd_same] at e
      cases e
      exact new
    · rw [upd_ne hb] at e
      refine (I.hok b u e).stay (fun c v hc q => k c v ?_ q) (fun c q => by rw [upd_ne (ne_of_none q hn)]; exact q) fun c xs q => by rw [upd_ne (ne_of_none q hn)]; exact q
      rcases hc with z | z
      · rw [z]; exact nit b u e
      · exact nit c _ z
end
theorem turn_zip {P : Program} {w : World} {K : PySem.W.Frag} {es : List Expr} {kk : Nat} {pos : Pos} {z TI TO i1 i2 l1 l2 : Addr} (ap : ZipApart z TI TO i1 i2 l1 l2) : Turn P w K (.Tuple es kk pos) (Itz K l1 l2) [z, TI, TO, i1, i2] z (zipSt z TI TO i1 i2 l1 l2) where
  mem := by simp
  obj := fun i h st b hb => by
    obtain ⟨h1, h2, ⟨a, c, h3⟩, h4, h5⟩ := st
    simp only [List.mem_cons, List.not_mem_nil, or_false] at hb
    rcases hb with rfl | rfl | rfl | rfl | rfl
    · exact ⟨_, h1, fun v q => by cases (show Data.fields _ = Data.cell v from q)⟩
    · exact ⟨_, h2, fun v q => by cases (show Data.seq _ = Data.cell v from q)⟩
    · exact ⟨_, h3, fun v q => by cases (show Data.seq _ = Data.cell v from q)⟩
    · obtain ⟨o, e, c, d⟩ := h4
      exact ⟨o, e, fun v q => by rw [d] at q; cases q⟩
    · obtain ⟨o, e, c, d⟩ := h5
      exact ⟨o, e, fun v q => by rw [d] at q; cases q⟩
  keep := fun i h h' st k => by
    obtain ⟨h1, h2, ⟨a, c, h3⟩, h4, h5⟩ := st
    exact ⟨k _ (by simp) _ h1, k _ (by simp) _ h2, ⟨a, c, k _ (by simp) _ h3⟩, h4.at fun o e => k _ (by simp) o e, h5.at fun o e => k _ (by simp) o e⟩
  item := by
    intro X hP hw hK hc i pins s σ H E I hf st hg
    subst hP hw hK
    obtain ⟨xs, ys, x, y, hq1, hq2, hx, hy⟩ := hg
    obtain ⟨its1, rv1, p1, hz1⟩ := I.list hq1
    obtain ⟨its2, rv2, p2, hz2⟩ := I.list hq2
    obtain ⟨u1, hu1, ru1⟩ := rv1.get hx
    obtain ⟨u2, hu2, ru2⟩ := rv2.get hy
    obtain ⟨h1, h2, h3, h4, h5⟩ := st
    have W := WalksT.zip2 (prog := X.prog) (w := X.w) (A := X.A) (I.ok.hd hc) z TI TO i1 i2 l1 l2 ap its1.toArray its2.toArray
    have hi1 : i < its1.length := (List.getElem?_eq_some_iff.mp hu1).1
    have hi2 : i < its2.length := (List.getElem?_eq_some_iff.mp hu2).1
    refine W.item i s _ _ (by simp only [List.size_toArray]; omega) ⟨h1, h2, h3, h4, h5, p1.isList, p2.isList⟩ fun T vals h' tk hv hT ht mid kp => ⟨_, rfl, ?_⟩
    refine W.go es kk pos i T _ _ _ mid fun h'' st'' kp2 => ?_
    obtain ⟨v1, v2, e1, e2, rfl⟩ := hv
    have e1 : its1[i]? = some v1 := by simpa using e1
    have e2 : its2[i]? = some v2 := by simpa using e2
    rw [hu1] at e1; cases e1
    rw [hu2] at e2; cases e2
    have apT := W.apart i T h' mid
    have kk' : ∀ b o, b ∉ [z, TO, i1, i2] → s.heap.get? b = some o → h''.get? b = some o := fun b o hb e => kp2 b o hb (kp b o hb e)
    have ch : ∀ b ∈ [z, TO, i1, i2], FpOk X pins H b := fun b hb => hf b (by
      simp only [List.mem_cons, List.not_mem_nil, or_false] at hb ⊢
      rcases hb with rfl | rfl | rfl | rfl <;> simp)
    have hn : H T = none := I.hok.fresh hT
    have ht2 : IsTup h'' T #[u1, u2] := by
      obtain ⟨o, eo, r⟩ := ht
      exact ⟨o, kp2 T o apT eo, r⟩
    refine ⟨.ref T, upd H T (.tup [x, y]), I.turnedLay (t' := tk) ch hT kk' ⟨(by show 2 ≤ sizeLine; decide), [u1, u2], .cons ru1 (.cons ru2 .nil), ht2⟩, rfl, ⟨T, rfl, hn, ?_⟩, ?_, ?_⟩
    · intro xs' ys' x' y' a1 a2 b1 b2
      rw [I.list_inj a1 hq1] at b1
      rw [I.list_inj a2 hq2] at b2
      rw [hx] at b1; cases b1
      rw [hy] at b2; cases b2
      rfl
    · obtain ⟨g1, g2, g3, g4, g5, _⟩ := st''
      exact ⟨g1, g2, g3, g4, g5⟩
    · intro b hb
      have nb : b ≠ T := fun q => by
        obtain ⟨o, e, _⟩ : ∃ o, s.heap.get? b = some o ∧ True := by
          simp only [List.mem_cons, List.not_mem_nil, or_false] at hb
          rcases hb with rfl | rfl | rfl | rfl | rfl
          · exact ⟨_, h1, trivial⟩
          · exact ⟨_, h2, trivial⟩
          · obtain ⟨_, _, h3⟩ := h3
            exact ⟨_, h3, trivial⟩
          · obtain ⟨o, e, _⟩ := h4
            exact ⟨o, e, trivial⟩
          · obtain ⟨o, e, _⟩ := h5
            exact ⟨o, e, trivial⟩
        have := Heap.lt_size e
        rw [q] at this
        exact absurd (Nat.lt_of_lt_of_le this hT) (Nat.lt_irrefl _)
      rw [upd_ne nb]
      exact (hf b hb).1
  done := by
    intro X hP hw hK hc i pins s σ H E I hf st hg
    subst hP hw hK
    obtain ⟨xs, ys, hq1, hq2, hx⟩ := hg
    obtain ⟨its1, rv1, p1, hz1⟩ := I.list hq1
    obtain ⟨its2, rv2, p2, hz2⟩ := I.list hq2
    obtain ⟨h1, h2, ⟨a, c, h3⟩, h4, h5⟩ := st
    have l1 := rv1.length
    have l2 := rv2.length
    refine wpAny_pyNext_zip_end (I.ok.hd hc) ap h1 h2 h3 h4 h5 p1.isList p2.isList ?_ fun h' kp => ⟨rfl, I.turnedL (t' := s.toks) (ch := [z, TO, i1, i2]) (fun b hb => hf b ?_) fun b o hb e => ?_⟩
    · rcases hx with q | q
      · left; simp; omega
      · right; simp; omega
    · simp only [List.mem_cons, List.not_mem_nil, or_false] at hb ⊢
      rcases hb with rfl | rfl | rfl | rfl <;> simp
    · simp only [List.mem_cons, List.not_mem_nil, or_false, not_or] at hb
      exact kp b o hb.1 hb.2.1 hb.2.2.1 hb.2.2.2 e
  self := fun _ _ _ _ _ st h => wpAny_pyIter_zip st.1 h
theorem apart_of {n l1 l2 : Nat} (h1 : l1 < n) (h2 : l2 < n) : ZipApart (n + 4) (n + 2) (n + 3) n (n + 1) l1 l2 := by
  constructor <;> intro h
  · exact absurd (show n + 2 = n + 4 from h) (by omega)
  · exact absurd (show n + 3 = n + 4 from h) (by omega)
  · exact absurd (show n = n + 4 from h) (by omega)
  · exact absurd (show n + 1 = n + 4 from h) (by omega)
  · exact absurd (show n + 2 = n + 3 from h) (by omega)
  · exact absurd (show n + 2 = n from h) (by omega)
  · exact absurd (show n + 2 = n + 1 from h) (by omega)
  · exact absurd (show n + 3 = n from h) (by omega)
  · exact absurd (show n + 3 = n + 1 from h) (by omega)
  · exact absurd (show n = n + 1 from h) (by omega)
  · exact absurd (show l1 = n + 4 from h) (by omega)
  · exact absurd (show l1 = n + 3 from h) (by omega)
  · exact absurd (show l1 = n from h) (by omega)
  · exact absurd (show l1 = n + 1 from h) (by omega)
  · exact absurd (show l2 = n + 4 from h) (by omega)
  · exact absurd (show l2 = n + 3 from h) (by omega)
  · exact absurd (show l2 = n from h) (by omega)
  · exact absurd (show l2 = n + 1 from h) (by omega)
theorem boot_zip : bootBuiltins "zip" = some (.type "zip") := by decide +kernel
def iZip (K : PySem.W.Frag) (ta : TA) : TI := fun σ H R => ta σ H fun vs H1 => ∃ a b, vs = [.ref a, .ref b] ∧ (∃ xs, SqL K H1 a xs) ∧ (∃ ys, SqL K H1 b ys) ∧ R (Itz K a b) H1
section
variable {X : Cx}
theorem pi_zipK {K : PySem.W.Frag} {es : List Expr} {kk : Nat} {tpos : Pos} {a b : Expr} {ta : TA} {p pos : Pos} (hg : Gl X "zip") (hm : X.mg "zip" = none) (ha : PA X [a, b] ta) (hK : X.K = K := by rfl) (hs : starEach [a, b] X.env = [(false, eval a X.env), (false, eval b X.env)] := by rfl) (hs2 : starEach [b] X.env = [(false, eval b X.env)] := by rfl) :
    PI X (.Tuple es kk tpos) (.Call (.Name "zip" p) [a, b] [] pos) (iZip K ta) := by
  subst hK
  intro pins s σ H R I h
  refine Call_ (ld_blt I hg hm boot_zip (PyProof.Rows.callWith_type1 (thn (ha pos pins s σ H _ I h) fun us s1 ⟨vs, H1, I1, r1, q1⟩ => ?_) (by rw [hs, hs2]) (by rw [hs2]; rfl)))
  obtain ⟨l1, l2, e, ⟨xs, hq1⟩, ⟨ys, hq2⟩, q⟩ := q1
  subst e
  cases r1 with
  | cons r rr =>
    cases rr with
    | cons r' rr' =>
      cases rr'
      cases r
      cases r'
      obtain ⟨its1, rv1, p1, hz1⟩ := I1.list hq1
      obtain ⟨its2, rv2, p2, hz2⟩ := I1.list hq2
      have b1 : l1 < s1.heap.objs.size := by obtain ⟨_, e, _⟩ := p1.isList; exact Heap.lt_size e
      have b2 : l2 < s1.heap.objs.size := by obtain ⟨_, e, _⟩ := p2.isList; exact Heap.lt_size e
      refine call_zip_2 p1.isList p2.isList fun h' z1 z2 z3 z4 z5 zs zk => ?_
      refine wpAny_pyIter_zip z1 ?_
      have I2 : Inv X pins σ H1 { s1 with heap := h' } := I1.kept (t' := s1.toks) zk
      refine ⟨s1.heap.objs.size + 4, _, _, _, H1, rfl, I2, turn_zip (z := s1.heap.objs.size + 4) (TI := s1.heap.objs.size + 2) (TO := s1.heap.objs.size + 3) (i1 := s1.heap.objs.size) (i2 := s1.heap.objs.size + 1) (l1 := l1) (l2 := l2) (apart_of b1 b2), ⟨z1, z2, ⟨_, _, z3⟩, z4, z5⟩, fun b hb => ?_, q⟩
      have hb' : s1.heap.objs.size ≤ b := by
        simp only [List.mem_cons, List.not_mem_nil, or_false] at hb
        rcases hb with rfl | rfl | rfl | rfl | rfl
        · exact Nat.le_add_right _ 4
        · exact Nat.le_add_right _ 2
        · exact Nat.le_add_right _ 3
        · exact Nat.le_refl _
        · exact Nat.le_add_right _ 1
      exact I1.fpOk (H' := H1) hb' (I1.hok.fresh hb')
/-- (a, b) = a tuple of two -/
theorem pg_tupK {K : PySem.W.Frag} {es : List Expr} {k : Nat} {t : TGs} {n : Nat} {pos : Pos} (hc : X.calm = true) (h : PGs X es t) (hK : X.K = K := by rfl)
    (hn : (assignEach es X.env).length = n := by rfl) (hst : (assignEach es X.env).findIdx? (·.1) = none := by rfl) : PG X (.Tuple es k pos) (gTup K n t) := hK ▸ pg_tup hc h hn hst
theorem gk_tup2 {K : PySem.W.Frag} : GKeeps 2 (gTup K 2 (gCons (gName 0) (gCons (gName 1) gNil))) := by
  intro x σ H Q q
  obtain ⟨a, xs, e, hq, hl, v, r, e1, v2, r2, e2, e3, q⟩ := q
  refine ⟨a, xs, e, hq, hl, v, r, e1, v2, r2, e2, e3, fun j hj => ?_, q⟩
  rw [List.getElem?_set_ne (by omega), List.getElem?_set_ne (by omega)]
/-- two names of the def around are used in the block -/
theorem comp_ok2 {N : List Str} {scope : Scope} {x y : Str} {c d : Addr} {nt i j : Nat} (clos : closureFor scope X.env = pure [(x, c), (y, d)]) (kind : scope.kind = .function) (cell : ∀ y ∈ scope.names, y.2 ≠ .cell) (names : ∀ y ∈ scope.names, y.2 = .local → scope.names.lookup y.1 = some .local)
    (sub : X.env.cells.lookup x = some c) (sub2 : X.env.cells.lookup y = some d) (has : ((relabel scope X.env).names.all fun z => !(z.2 == .cell || z.2 == .free) || ([(x, c), (y, d)].lookup z.1).isSome) = true) (len : N.length = nt + 2) (hN : N[nt]? = some x) (hN2 : N[nt + 1]? = some y) (hX : X.N[i]? = some x) (hX2 : X.N[j]? = some y)
    (hk : X.env.kindOf x = some .cell) (hk2 : X.env.kindOf y = some .cell) (hr : (relabel scope X.env).names.lookup x = some .cell) (hr2 : (relabel scope X.env).names.lookup y = some .cell) : CompOk X N scope [(x, c), (y, d)] nt [i, j] :=
  ⟨clos, kind, cell, names, fun p hp => (by
    simp only [List.mem_cons, List.not_mem_nil, or_false] at hp
    rcases hp with rfl | rfl
    · exact sub
    · exact sub2), has, len, fun m i' h => (by
    match m, h with
    | 0, h => cases h; exact ⟨x, hN, hX, .inl hk, .inl hr⟩
    | 1, h => cases h; exact ⟨y, hN2, hX2, .inl hk2, .inl hr2⟩
    | m + 2, h => cases h)⟩
end
section
variable {X : Cx}
end
end L2

set_option Elab.async false
set_option linter.all false
set_option maxRecDepth 100000
namespace L2
open PySem PySem.Spec PyProof.Rows

/-! ### a def that is called within an except suite -/
section
variable {X : Cx} {k j : Nat} {ps : List Str} {sp : Sp} {E : XK} {x : Str} {p pos : Pos} {e : Expr} {es : List Expr} {t : TA}
end
/-- a class of the text that nothing raises -/
structure ExM (mg : Str → Option Value) (x : Str) (C : Addr) : Prop where
  m : mg x = some (.ref C)
theorem pe_gclm {X : Cx} {x : Str} {C : Addr} {pos : Pos} (T : ExM X.mg x C) (hg : Gl X x) (hd : (x == ("__debug__" : Str)) = false := by decide) : PE X (.Name x pos) (tC (.ref C)) := pe_glob hg T.m rfl hd
end L2

set_option Elab.async false
set_option linter.all false
set_option maxRecDepth 100000
namespace L2
open PySem PySem.Spec PyProof.Rows

/-! ### a comprehension with a test -/
section
variable {X : Cx} {pins : List (Addr × Obj)} {σ : St} {H : Hp} {s : Shared} {N : List Str} {scope : Scope} {cl : List (Str × Addr)} {nt : Nat} {fr : List Nat}
end
theorem pe_clearK {X : Cx} {K : PySem.W.Frag} {o : Expr} {to : TE} {apos cpos : Pos} (ho : PE X o to) (hK : X.K = K := by rfl) (hbase : attributeBase o "clear" X.env (eval o X.env) = eval o X.env := by rfl) (hline : (apos.endLine == cpos.line) = true := by rfl) :
    PE X (.Call (.Attribute o "clear" apos) [] [] cpos) (tBM0 K "list" rClear to) :=
  hK ▸ pe_bm0 PySem.F.plainAttrs_list PySem.F.slot_list_clear PySem.F.type_list_clear (fun pins s σ H x xs v us Q I rx rs q => mt_clear pins s σ H x xs v us Q I rx rs q) ho hbase hline
end L2

set_option Elab.async false
set_option linter.all false
set_option maxRecDepth 100000
set_option maxHeartbeats 4000000
namespace L2
open PySem PySem.Spec PyProof.Rows SeqAt

/-! ### a method of an own class -/

section
variable {X : Cx} {k j : Nat} {C : Addr} {ps : List Str} {sp : Sp} {E : XK} {J : St → XK} {x m : Str} {p pos apos : Pos} {e o : Expr} {es : List Expr} {ta : TE} {t : TA} {pl : Sem Bool}
end

/-! ### attributes, over a named K -/
section
variable {X : Cx} {o e value : Expr} {f : Str} {pos pos' tpos : Pos} {ta tv : TE}
end

/-! ### a tuple of the text's top -/
def KTup (K : PySem.W.Frag) (p : Addr) (xs : List V) : Prop := ∃ (its : Array Value) (n : Nat) (sl : Array (Option Value)), K.lookup p = some ⟨.type "tuple", none, .seq its n, sl⟩ ∧ its.size ≤ sizeLine ∧ Vals xs its.toList
theorem KTup.sq {K : PySem.W.Frag} {p : Addr} {xs : List V} {H : Hp} (h : KTup K p xs) : SqT K H p xs := let ⟨its, n, sl, a, b, c⟩ := h; .inr ⟨_, its, n, a, rfl, rfl, b, c⟩
theorem KTup.ty {K : PySem.W.Frag} {p : Addr} {xs : List V} {H : Hp} (h : KTup K p xs) : tyV K "tuple" (.ref p) H := let ⟨_, _, _, a, _, _⟩ := h; .inr (.inl ⟨rfl, _, a, rfl, rfl⟩)
theorem pe_gref {X : Cx} {x : Str} {a : Addr} {pos : Pos} (hm : X.mg x = some (.ref a)) (hg : Gl X x) (hd : (x == ("__debug__" : Str)) = false := by decide) : PE X (.Name x pos) (tC (.ref a)) := pe_glob hg hm rfl hd
theorem tuple_index2 (l : Addr) (a b : Value) (n : Nat) (dd : Option Addr) (sl : Array (Option Value)) (x : Value) (e : Value → Bool) (j : Nat) (hj : j = if e a then 0 else 1) (hit : e a = true ∨ e b = true) :
    Meets (Builtin.«tuple.index» ⟨[.ref l, x], []⟩)
      (fun A R s => s.heap.get? l = some { cls := .type "tuple", dict := dd, data := .seq #[a, b] n, slots := sl } ∧ (∀ y, y ∈ #[a, b] → EqAt A.in1 s y x (e y)) ∧ R (.ok (.ret (.int j s.toks))) { s with toks := s.toks + 1 }) := by
  intro prog w A R s h
  obtain ⟨hp, g, d, tk, os⟩ := s; obtain ⟨hl, he, h⟩ := h
  unfold Builtin.«tuple.index»
  simp only [Std.Legacy.Range.forIn_eq_forIn_range']
  wp_walk using wpAny_loadPart' hl
  have e0 : [:min #[a, b].size #[a, b].size].size = 2 := by simp [Std.Legacy.Range.size]
  generalize hL : [:min #[a, b].size #[a, b].size].size = N at e0 ⊢
  subst e0
  change wpAny (model prog w) A.in1 (List.forIn'.loop [0, 1] _ [0, 1] (none, ()) _) _ _ _
  change wpAny (model prog w) A.in1 ((eqBool a x >>= _) >>= _) _ _ _
  refine wpAny_bind ?_
  refine wpAny_bind (he a (by simp) prog w _ _ ?_)
  cases ea : e a with
  | true =>
    rw [ea] at hj
    subst hj
    wp_walk
    exact h
  | false =>
    rw [ea] at hj
    subst hj
    refine wpAny_pure ?_
    change wpAny (model prog w) A.in1 ((eqBool b x >>= _) >>= _) _ _ _
    refine wpAny_bind ?_
    refine wpAny_bind (he b (by simp) prog w _ _ ?_)
    rw [hit.resolve_left (by rw [ea]; exact Bool.false_ne_true)]
    wp_walk
    exact h
def rIndexT (K : PySem.W.Frag) : V → List V → Hp → VK → Prop := fun x vs H Q => ∃ p y z1 z2, x = .ref p ∧ vs = [y] ∧ KTup K p [z1, z2] ∧ flatV z1 = true ∧ flatV z2 = true ∧ flatV y = true ∧ (eqV z1 y = true ∨ eqV z2 y = true) ∧ Q (.int (if eqV z1 y then 0 else 1)) H
section
variable {X : Cx}
theorem mt_indexT : MtM X "tuple.index" (rIndexT X.K) := by
  intro pins s σ H x vs v us Q I rx rv h
  obtain ⟨p, y, z1, z2, rfl, rfl, ⟨its, n, sl, lk, hz, r⟩, f1, f2, fy, hit, q⟩ := h
  cases rx
  obtain ⟨u, rfl, ru⟩ := rv.one
  obtain ⟨u1, u2, eu, r1, r2⟩ := r.two
  have hi : its = #[u1, u2] := by apply Array.toList_inj.mp; rw [eu]
  subst hi
  have e := I.kIn _ _ lk
  have fx : ([z1, z2] : List V).all flatV = true := by simp [f1, f2]
  have h1 : eqU y u1 = eqV z1 y := eqU_of r1 f1
  have h2 : eqU y u2 = eqV z2 y := eqU_of r2 f2
  refine call_meets F.slot_tuple_index ⟨_, e, rfl⟩ F.entry_tuple_index (F.args_tuple_index_2 _ _) (tuple_index2 p u1 u2 n none sl u (eqU y) (if eqU y u1 then 0 else 1) rfl (by rw [h1, h2]; exact hit)) ⟨e, fun w hw => mem_eqAt ru fy r fx w (by simpa using hw), ?_⟩
  rw [h1]
  refine ⟨.int (if eqV z1 y then 0 else 1), H, I.tok _, ?_, q⟩
  by_cases c : eqV z1 y = true
  · rw [if_pos c, if_pos c]; exact ⟨_, rfl⟩
  · rw [if_neg c, if_neg c]; exact ⟨_, rfl⟩
theorem pe_indexTK {K : PySem.W.Frag} {o e : Expr} {to : TE} {t : TA} {apos cpos : Pos} (ho : PE X o to) (ha : PA X [e] t) (hK : X.K = K := by rfl) (hbase : attributeBase o "index" X.env (eval o X.env) = eval o X.env := by rfl)
    (hfew : ((backTo cpos (starEach [e] X.env)).all (fun x => !x.1) && (backToKw cpos (keywordEach [] X.env)).all (fun x => x.1.isSome) && decide ([e].length + ([] : List Keyword).length + (if ([] : List Keyword).isEmpty then 0 else 1) < 30)) = true := by rfl)
    (hline : (apos.endLine == cpos.line) = true := by rfl) (hs : starEach [e] X.env = (false, eval e X.env) :: starEach [] X.env := by rfl) (hplain : (backTo cpos (starEach [] X.env)).any (·.1) = false := by rfl) :
    PE X (.Call (.Attribute o "index" apos) [e] [] cpos) (tBM K "tuple" (rIndexT K) to t) :=
  hK ▸ pe_bm PySem.F.plainAttrs_tuple PySem.F.slot_tuple_index PySem.F.type_tuple_index (fun pins s σ H x xs v us Q I rx rs q => mt_indexT pins s σ H x xs v us Q I rx rs q) ho ha hbase hfew hline hs hplain
end
end L2

set_option Elab.async false
set_option linter.all false
set_option maxRecDepth 100000
namespace L2
open PySem PySem.Spec PyProof.Rows

/-! ### readings, rule by rule -/
section
variable {K : PySem.W.Frag} {σ : St} {H : Hp} {Q : VK} {i : Nat} {v x y : V} {r : R2} {ta tb : TE} {nx bk ct : St → Hp → Prop} {rt : VK} {E : XK} {C : Addr} {m : Str} {sp : Sp} {t : TA} {J : St → XK}
theorem g_var (h : σ[i]? = some (some v)) (q : Q v H) : tVar i σ H Q := ⟨v, h, q⟩
theorem g_c (q : Q v H) : tC v σ H Q := q
theorem g_op (q : ta σ H fun x H1 => tb σ H1 fun y H2 => r x y H2 Q) : tOp r ta tb σ H Q := q
theorem g_un {r : V → Hp → VK → Prop} (q : ta σ H fun x H1 => r x H1 Q) : tUn r ta σ H Q := q
theorem g_I0 {g : Int → Int → V} {a b : Int} (q : Q (g a b) H) : rI0 g (.int a) (.int b) H Q := ⟨a, b, rfl, rfl, q⟩
theorem g_I {c : Int → Int → Prop} {g : Int → Int → V} {a b : Int} (h : c a b) (q : Q (g a b) H) : rI c g (.int a) (.int b) H Q := ⟨a, b, rfl, rfl, h, q⟩
theorem g_U {g : Int → V} {a : Int} (q : Q (g a) H) : rU g (.int a) H Q := ⟨a, rfl, q⟩
theorem g_eq (h : scal x y = true) (q : Q (.bl (decide (x = y))) H) : rEq x y H Q := ⟨h, q⟩
theorem g_ne (h : scal x y = true) (q : Q (.bl (!decide (x = y))) H) : rNe x y H Q := ⟨h, q⟩
theorem g_eqD {n : Nat} {p q : Addr} {b : Bool} (h : EqD K H (n + 1) (.ref p) (.ref q) b) (z : Q (.bl b) H) : rEqD K n (.ref p) (.ref q) H Q := ⟨p, q, b, rfl, rfl, h, z⟩
theorem g_neD {n : Nat} {p q : Addr} {b : Bool} (h : EqD K H (n + 1) (.ref p) (.ref q) b) (z : Q (.bl (!b)) H) : rNeD K n (.ref p) (.ref q) H Q := ⟨p, q, b, rfl, rfl, h, z⟩
theorem g_ixL {p : Addr} {xs : List V} {j : Int} (h : H p = some (.lst xs)) (e : atI xs j = some v) (q : Q v H) : rIxL K (.ref p) (.int j) H Q := ⟨p, xs, j, v, rfl, rfl, SqL.of h, e, q⟩
theorem g_ixT {p : Addr} {xs : List V} {j : Int} (h : H p = some (.tup xs)) (e : atI xs j = some v) (q : Q v H) : rIxT K (.ref p) (.int j) H Q := ⟨p, xs, j, v, rfl, rfl, SqT.of h, e, q⟩
theorem g_len {p : Addr} {xs : List V} (h : H p = some (.lst xs)) (q : Q (.int xs.length) H) : rLen K [.ref p] H Q := ⟨p, xs, rfl, .inl (SqL.of h), q⟩
theorem g_list {p : Addr} {xs : List V} (h : H p = some (.lst xs)) (q : ∀ l, H l = none → Q (.ref l) (upd H l (.lst xs))) : rListOf K [.ref p] H Q := ⟨p, xs, rfl, .inl (SqL.of h), q⟩
theorem g_cb {r : List V → Hp → VK → Prop} (q : t σ H fun vs H1 => r vs H1 Q) : tCB r t σ H Q := q
theorem g_nil {Q : List V → Hp → Prop} (q : Q [] H) : tNil σ H Q := q
theorem g_cons {Q : List V → Hp → Prop} (q : ta σ H fun x H1 => t σ H1 fun xs H2 => Q (x :: xs) H2) : tCons ta t σ H Q := q
theorem g_tup (q : t σ H fun xs H1 => xs.length ≤ sizeLine ∧ ∀ p, H1 p = none → Q (.ref p) (upd H1 p (.tup xs))) : tTup t σ H Q := q
theorem g_lst (q : t σ H fun xs H1 => xs.length ≤ sizeLine ∧ ∀ p, H1 p = none → Q (.ref p) (upd H1 p (.lst xs))) : tLst t σ H Q := q
theorem g_fn (q : t σ H fun vs H1 => sp vs H1 Q E) : tFn sp E t σ H Q := q
theorem g_fnJ (q : t σ H fun vs H1 => sp vs H1 Q (J σ)) : tCallJ sp J t σ H Q := q
/-! tests -/
theorem g_test {Q : Bool → Hp → Prop} (q : ta σ H fun x H' => ∃ k, x = .bl k ∧ Q k H') : tTest ta σ H Q := q
theorem g_tB {Q : Bool → Hp → Prop} (q : ta σ H fun x H' => ∃ k, x = .bl k ∧ Q k H') : tB ta σ H Q := q
theorem g_bl {Q : Bool → Prop} {b : Bool} (q : Q b) : ∃ k, V.bl b = .bl k ∧ Q k := ⟨b, rfl, q⟩
theorem g_and {u w : TT} {Q : Bool → Hp → Prop} (q : u σ H fun c H1 => if c = true then w σ H1 Q else Q false H1) : tAnd u w σ H Q := q
theorem g_or {u w : TT} {Q : Bool → Hp → Prop} (q : u σ H fun c H1 => if c = true then Q true H1 else w σ H1 Q) : tOr u w σ H Q := q
theorem g_not {u : TT} {Q : Bool → Hp → Prop} (q : u σ H fun c H1 => Q (!c) H1) : tNot u σ H Q := q
theorem g_andV (q : ta σ H fun x H1 => ∃ c, x = .bl c ∧ if c = true then tb σ H1 Q else Q (.bl false) H1) : tAndV ta tb σ H Q := q
theorem g_ifE {u : TT} (q : u σ H fun c H1 => if c = true then ta σ H1 Q else tb σ H1 Q) : tIf u ta tb σ H Q := q
/-! rows -/
theorem g_seq {s u : TS} (q : s ⟨u ⟨nx, rt, bk, ct⟩, rt, bk, ct⟩ σ H) : tSeq s u ⟨nx, rt, bk, ct⟩ σ H := q
theorem g_next (q : nx σ H) : tNext ⟨nx, rt, bk, ct⟩ σ H := q
theorem g_drop (q : ta σ H fun _ H1 => nx σ H1) : tDrop ta ⟨nx, rt, bk, ct⟩ σ H := q
theorem g_ret (q : ta σ H rt) : tRet ta ⟨nx, rt, bk, ct⟩ σ H := q
theorem g_if {c : TT} {s u : TS} {D : Ends} (q : c σ H fun b H1 => if b = true then s D σ H1 else u D σ H1) : tIfS c s u D σ H := q
theorem g_asg {g : TG} (q : ta σ H fun x H1 => g x σ H1 nx) : tAsg ta g ⟨nx, rt, bk, ct⟩ σ H := q
theorem g_name {k : St → Hp → Prop} (q : k (σ.set i (some v)) H) : gName i v σ H k := q
theorem g_sub {ts : TSet} {k : St → Hp → Prop} (q : ta σ H fun o H1 => tb σ H1 fun j H2 => ts o j v H2 fun H3 => k σ H3) : gSub ta tb ts v σ H k := q
theorem g_setL {p : Addr} {xs : List V} {z : Int} {j : Nat} {k : Hp → Prop} (h : H p = some (.lst xs)) (e : ixN xs.length z = some j) (q : k (upd H p (.lst (xs.set j v)))) : rSetL (.ref p) (.int z) v H k := ⟨p, xs, z, j, rfl, rfl, h, e, q⟩
theorem g_tryAs {c : Addr} {tb : (St → XK) → TS} {th : TS} (q : tb (fun σ1 C _ H' => PySem.W.exmOne K C (.ref c) = some true ∧ ∀ a, H' a = none → th ⟨fun σ H => nx (σ.set i none) H, rt, fun σ H => bk (σ.set i none) H, fun σ H => ct (σ.set i none) H⟩ (σ1.set i (some (.ref a))) (upd H' a (excO a C))) ⟨nx, rt, bk, ct⟩ σ H) :
    tTryAs K c i tb th ⟨nx, rt, bk, ct⟩ σ H := q
theorem g_isi {t cv : Value} {c : V} {b : Bool} (ty : TyX K H x t) (hc : clsV c = some cv) (hk : PySem.W.kitOne K t cv = some b) (q : Q (.bl b) H) : rIsi K [x, c] H Q := ⟨x, c, t, cv, b, rfl, ty, hc, hk, q⟩
theorem g_isiT {a C tp : Addr} {cs : List V} {cvs : List Value} {b : Bool} (ha : H a = some (excO a (.ref C))) (hk : ExK K C) (ht : H tp = some (.tup cs)) (hc : cs.map clsV = cvs.map some) (he : PySem.W.kitAny K (.ref C) cvs = some b) (q : Q (.bl b) H) : rIsiT K [.ref a, .ref tp] H Q := ⟨a, C, tp, cs, cvs, b, rfl, ha, hk, ht, hc, he, q⟩
theorem g_raise (q : t σ H fun vs H1 => vs.length ≤ sizeLine ∧ E (.ref C) none H1) {D : Ends} : tRaise C E t D σ H := q
theorem g_bm {T : String} {r : V → List V → Hp → VK → Prop} (q : ta σ H fun x H1 => tyV K T x H1 ∧ t σ H1 fun xs H2 => r x xs H2 Q) : tBM K T r ta t σ H Q := q
theorem g_app {p : Addr} {xs : List V} (h : H p = some (.lst xs)) (l : xs.length < sizeLine) (q : Q .non (upd H p (.lst (xs ++ [y])))) : rAppend (.ref p) [y] H Q := ⟨p, xs, y, rfl, rfl, h, l, q⟩
theorem g_tyL {p : Addr} {xs : List V} {R : Prop} (h : H p = some (.lst xs)) (q : R) : tyV K "list" (.ref p) H ∧ R := ⟨.inl ⟨rfl, xs, SqL.of h⟩, q⟩
theorem g_cat {p q : Addr} {xs ys : List V} (h : H p = some (.lst xs)) (h' : H q = some (.lst ys)) (l : xs.length + ys.length ≤ sizeLine) (k : ∀ z, H z = none → Q (.ref z) (upd H z (.lst (xs ++ ys)))) : rCat (.ref p) (.ref q) H Q := ⟨p, q, xs, ys, rfl, rfl, h, h', l, k⟩
end
/-- a choice by a test over whole numbers -/
theorem g_ite {c : Prop} [Decidable c] {A B : Prop} (h1 : c → A) (h2 : ¬ c → B) : if decide c = true then A else B := by
  by_cases h : c
  · rw [decide_eq_true h]; exact iteT (h1 h)
  · rw [decide_eq_false h]; exact iteF (h2 h)
theorem g_iteN {c : Prop} [Decidable c] {A B : Prop} (h1 : ¬ c → A) (h2 : c → B) : if (!decide c) = true then A else B := by
  by_cases h : c
  · rw [decide_eq_true h]; exact iteF (h2 h)
  · rw [decide_eq_false h]; exact iteT (h1 h)
theorem g_iteB {b : Bool} {A B : Prop} (h1 : b = true → A) (h2 : b = false → B) : if b = true then A else B := by
  cases b
  · exact iteF (h2 rfl)
  · exact iteT (h1 rfl)
end L2

set_option Elab.async false
set_option linter.all false
set_option maxRecDepth 100000
namespace L2
open PySem PySem.Spec PyProof.Rows

/-! ### loops and comprehensions, read -/
section
variable {K : PySem.W.Frag} {σ : St} {H : Hp} {ta : TE} {t : TA}
theorem g_for {wi : TI} {g : TG} {tb : TS} {D : Ends} (q : wi σ H fun J H1 => ∃ W : Nat → Nat → St → Hp → Prop, (∃ m, W 0 m σ H1) ∧ ∀ i m σ H, W i m σ H →
    (J.stop i H ∧ D.nx σ H) ∨ (J.go i H ∧ ∃ N : St → Hp → Prop, (∀ σ' H', N σ' H' → ∃ m', m' < m ∧ W (i + 1) m' σ' H') ∧ ∀ x H', J.yld i H x H' → g x σ H' fun σ2 H2 => tb { D with nx := N, ct := N, bk := D.nx } σ2 H2)) : tFor wi g tb D σ H := q
theorem g_rng1 {R : It → Hp → Prop} (q : t σ H fun vs H1 => ∃ j : Int, vs = [.int j] ∧ -(2 ^ 62) ≤ j ∧ j < 2 ^ 62 ∧ R (Itr 0 j.toNat) H1) : iRng1 t σ H R := q
theorem g_rng2 {R : It → Hp → Prop} (q : t σ H fun vs H1 => ∃ i j : Int, vs = [.int i, .int j] ∧ (-(2 ^ 62) ≤ i ∧ i < 2 ^ 62 ∧ -(2 ^ 62) ≤ j ∧ j < 2 ^ 62) ∧ R (Itr i (j - i).toNat) H1) : iRng2 t σ H R := q
theorem g_rngW {N : Int} {R : Int → Prop} (h1 : -(2 ^ 62) ≤ N) (h2 : N < 2 ^ 62) (q : R N) : ∃ j, [V.int N] = [.int j] ∧ -(2 ^ 62) ≤ j ∧ j < 2 ^ 62 ∧ R j := ⟨N, rfl, h1, h2, q⟩
theorem g_lsti {R : It → Hp → Prop} (q : ta σ H fun x H1 => ∃ a, x = .ref a ∧ (∃ xs, SqL K H1 a xs) ∧ R (Itl K a) H1) : iList K ta σ H R := q
theorem g_lstW {a : Addr} {xs : List V} {R : Addr → Prop} (h : SqL K H a xs) (q : R a) : ∃ a', V.ref a = .ref a' ∧ (∃ xs, SqL K H a' xs) ∧ R a' := ⟨a, rfl, ⟨xs, h⟩, q⟩
theorem g_comp {wi : TI} {nt : Nat} {fr : List Nat} {g : TG} {te : TE} {Q : VK} (q : wi σ H fun J H1 => ∀ D, H1 D = none → ∃ (n : Nat) (W : Nat → List V → Hp → Prop), W 0 [] (upd H1 D (.lst [])) ∧
  ∀ i acc H, W i acc H → H D = some (.lst acc) ∧ acc.length < sizeLine ∧
    ((J.stop i H ∧ Q (.ref D) H) ∨ (i < n ∧ J.go i H ∧ ∀ x H', J.yld i H x H' → g x (compSt nt fr σ) H' fun σ2 H2 => te σ2 H2 fun y H3 => H3 D = some (.lst acc) ∧ W (i + 1) (acc ++ [y]) (upd H3 D (.lst (acc ++ [y])))))) : tComp wi nt fr g te σ H Q := q
theorem seq_cutC {a b : TS} {nx bk ct : St → Hp → Prop} {rt : VK} (M : St → Hp → Prop) (hb : ∀ σ' H', M σ' H' → b ⟨nx, rt, bk, ct⟩ σ' H') (ha : ∀ R : St → Hp → Prop, (∀ σ' H', M σ' H' → R σ' H') → a ⟨R, rt, bk, ct⟩ σ H) : tSeq a b ⟨nx, rt, bk, ct⟩ σ H := ha _ hb
theorem g_bm0 {T : String} {r : V → List V → Hp → VK → Prop} {Q : VK} (q : ta σ H fun x H1 => tyV K T x H1 ∧ r x [] H1 Q) : tBM0 K T r ta σ H Q := q
theorem g_clear {p : Addr} {xs : List V} {Q : VK} (h : H p = some (.lst xs)) (q : Q .non (upd H p (.lst []))) : rClear (.ref p) [] H Q := ⟨p, xs, rfl, rfl, h, q⟩
theorem iteNT {A B : Prop} (h : B) : if (!true) = true then A else B := h
theorem iteNF {A B : Prop} (h : A) : if (!false) = true then A else B := h
/-- over range(n), nothing else being touched -/
theorem comp_rangeF {n : Nat} {nt : Nat} {fr : List Nat} {g : TG} {te : TE} {f : Nat → V} {Q : Addr → Hp → Prop} (hz : n < sizeLine)
    (hs : ∀ (i : Nat) (H' : Hp) (k : VK), i < n → Same H H' → k (f i) H' → g (.int (0 + (i : Int))) (compSt nt fr σ) H' fun σ2 H2 => te σ2 H2 k)
    (hd : ∀ D, H D = none → Q D (upd H D (.lst ((List.range n).map f)))) :
    ∀ D, H D = none → ∃ (m : Nat) (W : Nat → List V → Hp → Prop), W 0 [] (upd H D (.lst [])) ∧ ∀ i acc H', W i acc H' → H' D = some (.lst acc) ∧ acc.length < sizeLine ∧
      (((Itr 0 n).stop i H' ∧ Q D H') ∨ (i < m ∧ (Itr 0 n).go i H' ∧ ∀ x H2, (Itr 0 n).yld i H' x H2 → g x (compSt nt fr σ) H2 fun σ2 H3 => te σ2 H3 fun y H4 => H4 D = some (.lst acc) ∧ W (i + 1) (acc ++ [y]) (upd H4 D (.lst (acc ++ [y]))))) := by
  refine comp_range hz (fun D i acc H' => acc = (List.range i).map f ∧ H' = upd H D (.lst acc)) (fun D hD => ⟨rfl, rfl⟩) ?_ ?_ ?_
  · rintro D i acc H' ⟨rfl, rfl⟩
    exact ⟨upd_same, by rw [List.length_map, List.length_range]⟩
  · rintro D i acc H' hD hi ⟨rfl, rfl⟩
    refine hs i _ _ hi (fun b u e => by rw [upd_ne (ne_of_none e hD)]; exact e) ⟨upd_same, ?_, ?_⟩
    · rw [List.range_succ, List.map_append]; rfl
    · rw [upd_upd]
  · rintro D acc H' hD ⟨rfl, rfl⟩
    exact hd D hD
end
end L2

set_option Elab.async false
set_option linter.all false
set_option maxRecDepth 100000
namespace L2
open PySem PySem.Spec PyProof.Rows

/-! ### a dict of the text's top, its keys texts -/
section
variable {X : Cx}

/-! ### a def that stands in a local name -/
variable {k j i : Nat} {E : XK} {x : Str} {p pos : Pos} {e : Expr} {es : List Expr} {t : TA}

/-! ### C.m(..): a def of a class, by the class -/
variable {m : Str} {apos : Pos} {ps : List Str} {sp : Sp} {pl : Sem Bool}
end
end L2

set_option Elab.async false
set_option linter.all false
set_option maxRecDepth 100000
namespace L2
open PySem PySem.Spec PyProof.Rows

/-! ### a method by the object's own class -/
section
variable {X : Cx} {k j : Nat} {E : XK} {m : Str} {pos apos : Pos} {e o : Expr} {es : List Expr} {ta : TE} {t : TA} {pl : Sem Bool}
end

/-! ### an attribute among the targets -/
end L2

set_option Elab.async false
set_option linter.all false
set_option maxRecDepth 100000
namespace L2
open PySem PySem.Spec PyProof.Rows

/-! ### x in range(n) -/
theorem range_contains (r : Addr) (a b c i : Int) (t u v ti : Tok) :
    Meets (Builtin.«range.__contains__» ⟨[.ref r, .int i ti], []⟩) (fun _ R s => s.heap.get? r = some { cls := .type "range", dict := none, data := .fields #[.int a t, .int b u, .int c v], slots := #[] } ∧ R (.ok (.ret (.bool (Builtin.Range.rangePlace? a b c i).isSome))) s) :=
  .of_wp fun prog w A R s h => by obtain ⟨hp, g, d, tk, os⟩ := s; obtain ⟨hl, h⟩ := h; wp_walk; exact ⟨_, rfl, h⟩
theorem place_one (i n : Int) : (Builtin.Range.rangePlace? 0 n 1 i).isSome = decide (0 ≤ i ∧ i < n) := by
  unfold Builtin.Range.rangePlace?
  by_cases h : 0 ≤ i ∧ i < n
  · simp [h]
  · simp [h]
end L2

set_option Elab.async false
set_option linter.all false
set_option maxRecDepth 100000
namespace L2
open PySem PySem.Spec PyProof.Rows

/-! ### a tuple walked; x not in range(n); except (A, B) -/
section
variable {X : Cx}
theorem pi_tupK {K : PySem.W.Frag} {tg l : Expr} {tl : TE} (hl : PE X l tl) (h : X.K = K := by rfl) : PI X tg l (iTup K tl) := h ▸ pi_tup hl
end
section
variable {K : PySem.W.Frag} {σ : St} {H : Hp} {ta : TE} {t : TA}
theorem g_tupi {R : It → Hp → Prop} (q : ta σ H fun x H1 => ∃ a, x = .ref a ∧ (∃ xs, SqT K H1 a xs) ∧ R (Itt K a) H1) : iTup K ta σ H R := q
theorem g_tupW {a : Addr} {xs : List V} {R : Addr → Prop} (h : SqT K H a xs) (q : R a) : ∃ a', V.ref a = .ref a' ∧ (∃ xs, SqT K H a' xs) ∧ R a' := ⟨a, rfl, ⟨xs, h⟩, q⟩
end
theorem wpAny_notin_range {prog : Program} {w : World} {A : Around} {E : Value → Shared → Prop} {s : Shared} {r : Addr} {a b c i : Int} {t u v ti : Tok} {Q : Value → Shared → Prop} (hr : IsRange s.heap r a b c t u v)
    (h : Q (.bool (!(Builtin.Range.rangePlace? a b c i).isSome)) s) : wpAny (model prog w) A (compareOp .NotIn (.int i ti) (.ref r)) Q E s := by
  have hT : s.TypeIs (.ref r) "range" := ⟨_, hr, rfl⟩
  show wpAny _ _ (do return .bool (!(← contains (.ref r) (.int i ti)))) Q E s
  refine wpAny_bind ?_
  unfold contains
  try with_reducible refine wpAny_holding ?_
  refine wpAny_bind (wpAny_specialOf hT F.slot_range_contains.lookup ?_)
  show wpAny _ _ (if (some (Value.builtin "range.__contains__") == some Value.none) = true then _ else _) _ E s
  rw [if_neg (by rw [beq_builtin_none]; exact Bool.false_ne_true)]
  refine wpAny_bind (wpAny_callSpecialUnlessNone?_slot (name := Str.ofString "__contains__") hT F.slot_range_contains
    (call_meets F.slot_range_contains hT F.entry_range_contains (F.args_range_contains_2 _ _) (range_contains r a b c i t u v ti) ⟨hr, ?_⟩))
  exact wpAny_truthy_bool (wpAny_pure h)
def tNotInRng (ta : TE) (tn : TA) : TE := fun σ H Q => ta σ H fun x H1 => tn σ H1 fun vs H2 => ∃ i n : Int, x = .int i ∧ vs = [.int n] ∧ Q (.bl (!decide (0 ≤ i ∧ i < n))) H2
theorem g_notInRng {σ : St} {H : Hp} {ta : TE} {tn : TA} {Q : VK} (q : ta σ H fun x H1 => tn σ H1 fun vs H2 => ∃ i n : Int, x = .int i ∧ vs = [.int n] ∧ Q (.bl (!decide (0 ≤ i ∧ i < n))) H2) : tNotInRng ta tn σ H Q := q
theorem g_inRngW {i n : Int} {R : Int → Int → Prop} (q : R i n) : ∃ i' n' : Int, V.int i = .int i' ∧ [V.int n] = [.int n'] ∧ R i' n' := ⟨i, n, rfl, rfl, q⟩
theorem pt_notInRng {X : Cx} {a e : Expr} {ta : TE} {tn : TA} {p cp pos : Pos} (hg : Gl X "range") (hm : X.mg "range" = none) (ha : PE X a ta) (he : PA X [e] tn) (hb : behindInMarks .NotIn (.Call (.Name "range" p) [e] [] cp) = false := by rfl) (hs : starEach [e] X.env = [(false, eval e X.env)] := by rfl) :
    PT X (.Compare a [.NotIn] [.Call (.Name "range" p) [e] [] cp] pos) (tTest (tNotInRng ta tn)) := by
  intro pins s σ H Q I h
  refine wpAny_isTrue_Compare1 (thn (ha pins s σ H _ I h) fun iv s1 ⟨x, H1, I1, rx, q1⟩ => ?_) hb
  refine Call_ (ld_blt I1 hg hm boot_range (PyProof.Rows.callWith_type1 (thn (he cp pins s1 σ H1 _ I1 q1) fun us s2 ⟨vs, H2, I2, r2, q2⟩ => ?_) hs rfl))
  obtain ⟨i, n, ex, ev, k, ek, q⟩ := q2
  subst ex; subst ev
  obtain ⟨ti, rfl⟩ := rx
  cases r2 with
  | cons r rr =>
    cases rr
    obtain ⟨t, rfl⟩ := r
    refine call_range_1 (wpAny_notin_range (IsRange.new ..) ?_)
    rw [place_one]
    cases ek
    exact wpAny_truthy_bool ⟨H2, I2.kept (fun b o e => Heap.get?_push_of_some _ e), q⟩
def tTryT (K : PySem.W.Frag) (c d : Addr) (tb : (St → XK) → TS) (th : TS) : TS := fun D σ H => tb (fun σ1 C _ H' => PySem.W.exmAny K C [.ref c, .ref d] = some true ∧ th D σ1 H') D σ H
theorem g_tryT {K : PySem.W.Frag} {c d : Addr} {tb : (St → XK) → TS} {th : TS} {nx bk ct : St → Hp → Prop} {rt : VK} {σ : St} {H : Hp} (q : tb (fun σ1 C _ H' => PySem.W.exmAny K C [.ref c, .ref d] = some true ∧ th ⟨nx, rt, bk, ct⟩ σ1 H') ⟨nx, rt, bk, ct⟩ σ H) : tTryT K c d tb th ⟨nx, rt, bk, ct⟩ σ H := q
section
variable {X : Cx} {body suite : List Stmt} {b₀ : Stmt} {x y n : Str} {np np2 hpos pos tpos : Pos} {kk : Nat} {c d : Addr} {i : Nat} {tb : (St → XK) → TS} {th : TS}
theorem ps_tryT (hcal : X.calm = true) (hst : X.stack = X.env :: X.outer) (hfr : X.env.frame = some X.env.locals) (hg : Gl X x) (hg2 : Gl X y) (hm : X.mg x = some (.ref c)) (hm2 : X.mg y = some (.ref d))
    (hb : ∀ pn' E J, PassesJ (X.tryX pn' E) J → PSs (X.tryX pn' E) body (tb J)) (hh : ∀ pn' a, PSs (X.inH pn' a) (b₀ :: suite) th) (hd : (x == ("__debug__" : Str)) = false := by decide) (hd2 : (y == ("__debug__" : Str)) = false := by decide) :
    PS X (.Try body [.ExceptHandler (some (.Tuple [.Name x np, .Name y np2] kk tpos)) none (b₀ :: suite) hpos] [] [] pos) (tTryT X.K c d tb th) := by
  intro pins s σ H D I h
  have hcl : X.calm = true → X.A.handled = none := I.ok.hd
  have hp : PassesJ (X.tryX (X.pn ++ pins) (fun e s' => ∃ pins' σ1 H1 s1, Inv (X.tryX (X.pn ++ pins) X.xe) pins' σ1 H1 s1 ∧ CXK X.prog X.w X.stack H1 s1 ((fun σ1 C _ H' => PySem.W.exmAny X.K C [.ref c, .ref d] = some true ∧ th D σ1 H' : St → XK) σ1) e s'))
      (fun σ1 C _ H' => PySem.W.exmAny X.K C [.ref c, .ref d] = some true ∧ th D σ1 H') :=
    fun pins' σ1 H1 s1 e s' I1 q => ⟨pins', σ1, H1, s1, I1.re rfl hcl (fun p z => z), q⟩
  have back : ∀ {A' : Around} {c' : Bool} {xe' : Value → Shared → Prop} {pins' : List (Addr × Obj)} {σ1 : St} {H1 : Hp} {s1 : Shared}, X.A.frames = A'.frames → Inv ({ X with A := A', calm := c', pn := X.pn ++ pins, xe := xe' } : Cx) pins' σ1 H1 s1 → Inv X pins σ1 H1 s1 :=
    fun hA I1 => I1.re (pn' := X.pn) (calm' := X.calm) (A' := X.A) (xe' := X.xe) hA hcl (fun p z => List.mem_append_left _ z)
  refine wpAny_Try_except (wpAny_mono (hb _ _ _ hp [] s σ H D (I.re rfl hcl (fun p z => by simpa using z)) h) (fun f s1 q => ?_) fun e s1 q => ?_)
  · cases f with
    | next => obtain ⟨σ', H', I', q⟩ := q; exact wpAny_execs_nil ⟨σ', H', back rfl I', q⟩
    | brk => obtain ⟨σ', H', I', q⟩ := q; exact ⟨σ', H', back rfl I', q⟩
    | cont => obtain ⟨σ', H', I', q⟩ := q; exact ⟨σ', H', back rfl I', q⟩
    | ret u => obtain ⟨v, σ', H', I', r, q⟩ := q; exact ⟨v, σ', H', back rfl I', r, q⟩
  · obtain ⟨pins', σ1, H1, s2, I1, a, C, H', rfl, F, hx, hq⟩ := q
    have I1 : Inv X pins σ1 H1 s2 := back rfl I1
    obtain ⟨B, a0, fl, k⟩ := F.fl
    have hs : X.A.frames = some (X.env :: X.outer) := by rw [← hst]; exact I1.ok.frames
    refine wpAny_looks_onW (base := B) hs hfr (by rw [← hst]; exact fl) fun h4 hh4 up4 => ?_
    refine wpAny_landsW hh4 fun h5 fl5 up5 => ?_
    have fl5' : Heap.FlyingW B X.stack a C a0 h5 := by rw [hst]; exact fl5
    have up : s1.heap.UpToSlots h5 := up4.trans up5
    have I5 := F.caught I1 fl k fl5'.1 up
    refine wpAny_handleBy_cons (codeAny_handlers_test ?_) (by intro q; cases q)
    have I5h : Inv (X.inH (X.pn ++ pins) a) [] σ1 H' { s1 with heap := h5 } := I5.re rfl (fun z => nomatch z) (fun p z => by simpa using z)
    refine wpAny_Tuple ?_
    refine wpAny_items_cons (ld_glob (X := X.inH (X.pn ++ pins) a) I5h hg hm ?_ hd)
    refine wpAny_items_cons (ld_glob (X := X.inH (X.pn ++ pins) a) I5h hg2 hm2 ?_ hd2)
    refine wpAny_items_nil ⟨by size_fits, ?_⟩
    have kp : ∀ q o, h5.get? q = some o → (h5.push { cls := .type "tuple", data := .seq [Value.ref c, Value.ref d].toArray }).get? q = some o := fun _ _ z => Heap.get?_push_of_some _ z
    have LT : PySem.W.Looks (model X.prog X.w) (h5.push { cls := .type "tuple", data := .seq [Value.ref c, Value.ref d].toArray }) (typeOf (.ref a)) C := by
      obtain ⟨ob, hob, hc⟩ := fl5'.there
      subst hc
      exact (PySem.W.Looks.ld (kp _ _ hob)).andThen .now
    refine (PySem.W.exm_tup2 (K := X.K) (I5.kIn.keeps kp) LT (Heap.get?_push_size h5 rfl) hx).here ?_
    refine codeAny_handlers_suite ?_
    refine lands_againW (PySem.W.flying_keeps fl5' kp) fun h6 fl6 up6 => ?_
    have I6 := F.caught I1 fl k fl6.1 (up.trans ((Heap.UpToSlots.of_keeps kp).trans up6))
    have I6h : Inv (X.inH (X.pn ++ pins) a) [] σ1 H' { s1 with heap := h6 } := I6.re rfl (fun z => nomatch z) (fun p z => by simpa using z)
    refine wpAny_mono (hh (X.pn ++ pins) a [] _ _ _ _ I6h hq) (fun f s8 q8 => ?_) (fun _ _ z => z.elim)
    cases f with
    | next => obtain ⟨σ', H2, I8, q8⟩ := q8; exact ⟨_, H2, back (A' := X.A.mark (some (.ref a))) rfl I8, q8⟩
    | brk => obtain ⟨σ', H2, I8, q8⟩ := q8; exact ⟨_, H2, back (A' := X.A.mark (some (.ref a))) rfl I8, q8⟩
    | cont => obtain ⟨σ', H2, I8, q8⟩ := q8; exact ⟨_, H2, back (A' := X.A.mark (some (.ref a))) rfl I8, q8⟩
    | ret u => obtain ⟨v, σ', H2, I8, r, q8⟩ := q8; exact ⟨v, _, H2, back (A' := X.A.mark (some (.ref a))) rfl I8, r, q8⟩
end
end L2

set_option Elab.async false
set_option linter.all false
set_option maxRecDepth 100000
namespace L2
open PySem PySem.Spec PyProof.Rows

/-! ### three names closed over; zip of two lists, the first no longer; xs[a:c] = ys -/
section
variable {X : Cx}
theorem comp_ok3 {N : List Str} {scope : Scope} {x y z : Str} {c d e : Addr} {nt i j k : Nat} (clos : closureFor scope X.env = pure [(x, c), (y, d), (z, e)]) (kind : scope.kind = .function) (cell : ∀ y ∈ scope.names, y.2 ≠ .cell) (names : ∀ y ∈ scope.names, y.2 = .local → scope.names.lookup y.1 = some .local)
    (sub : X.env.cells.lookup x = some c) (sub2 : X.env.cells.lookup y = some d) (sub3 : X.env.cells.lookup z = some e) (has : ((relabel scope X.env).names.all fun w => !(w.2 == .cell || w.2 == .free) || ([(x, c), (y, d), (z, e)].lookup w.1).isSome) = true) (len : N.length = nt + 3) (hN : N[nt]? = some x) (hN2 : N[nt + 1]? = some y) (hN3 : N[nt + 2]? = some z) (hX : X.N[i]? = some x) (hX2 : X.N[j]? = some y) (hX3 : X.N[k]? = some z)
    (hk : X.env.kindOf x = some .cell) (hk2 : X.env.kindOf y = some .cell) (hk3 : X.env.kindOf z = some .cell) (hr : (relabel scope X.env).names.lookup x = some .cell) (hr2 : (relabel scope X.env).names.lookup y = some .cell) (hr3 : (relabel scope X.env).names.lookup z = some .cell) : CompOk X N scope [(x, c), (y, d), (z, e)] nt [i, j, k] :=
  ⟨clos, kind, cell, names, fun p hp => (by
    simp only [List.mem_cons, List.not_mem_nil, or_false] at hp
    rcases hp with rfl | rfl | rfl
    · exact sub
    · exact sub2
    · exact sub3), has, len, fun m i' h => (by
    match m, h with
    | 0, h => cases h; exact ⟨x, hN, hX, .inl hk, .inl hr⟩
    | 1, h => cases h; exact ⟨y, hN2, hX2, .inl hk2, .inl hr2⟩
    | 2, h => cases h; exact ⟨z, hN3, hX3, .inl hk3, .inl hr3⟩
    | m + 3, h => cases h)⟩
/-- o[lo:hi] = a list -/
def gSlc (to : TE) (tl th : TO) : TG := fun v σ H Q => to σ H fun o H1 => tl σ H1 fun lo H2 => th σ H2 fun hi H3 => ∃ (l b : Addr) (xs ys : List V) (a c : Int), o = .ref l ∧ v = .ref b ∧ lo = some a ∧ hi = some c ∧ H3 l = some (.lst xs) ∧ H3 b = some (.lst ys) ∧ l ≠ b ∧ 0 ≤ a ∧ a ≤ c ∧ c ≤ xs.length ∧ xs.length + ys.length ≤ sizeLine ∧ Q σ (upd H3 l (.lst (xs.take a.toNat ++ ys ++ xs.drop c.toNat)))
theorem pg_slice {o : Expr} {lo hi : Option Expr} {to : TE} {tl th : TO} {p2 pos : Pos} (ho : PE X o to) (hl : PO X lo tl) (hu : PO X hi th)
    (ha : ∀ v, assign (.Subscript o (.Slice lo hi none p2) pos) X.env v = (do
      let ov ← holding [v] (eval o X.env)
      let iv ← holding [v, ov] (eval (.Slice lo hi none p2) X.env)
      standAt pos
      holding [v, ov, iv] (setItem ov iv v)
      release [iv, v, ov] []) := by intro _; rfl) : PG X (.Subscript o (.Slice lo hi none p2) pos) (gSlc to tl th) := by
  intro pins s σ H v u Q I r h
  rw [ha]
  refine wpAny_bind (wpAny_holding (thn (ho pins s σ H _ I h) fun ov s1 ⟨x, H1, I1, r1, q1⟩ => ?_))
  refine wpAny_bind (wpAny_holding ?_)
  refine wpAny_Slice (thn (hl pins s1 σ H1 _ I1 q1) fun vl s2 ⟨l, H2, I2, pl, q2⟩ => thn (hu pins s2 σ H2 _ I2 q2) fun vu s3 ⟨uu, H3, I3, pu, q3⟩ => ?_)
  rw [evalPart_none]
  refine wpAny_pure ?_
  obtain ⟨lst, b, xs, ys, a, c, rfl, rfl, rfl, rfl, e1, e2, ne, h0, hac, hc, hz, q⟩ := q3
  cases r1
  cases r
  have I4 : Inv X pins σ H3 { s3 with heap := s3.heap.push { cls := .type "slice", data := .fields #[vl, vu, .none] } } := I3.kept (t' := s3.toks) fun b ob q => Heap.get?_push_of_some _ q
  refine wpAny_bind (wpAny_standAt (wpAny_bind (wpAny_holding ?_)))
  cases pl
  cases pu
  refine set_slice I4 e1 e2 ne (Heap.IsSliceOf.new ..) ⟨_, rfl⟩ ⟨_, rfl⟩ h0 hac hc hz fun s' I' => ?_
  exact wpAny_release ⟨σ, _, I', q⟩
end
section
variable {K : PySem.W.Frag} {σ : St} {H : Hp}
theorem g_slc {to : TE} {tl th : TO} {v : V} {Q : St → Hp → Prop} (q : to σ H fun o H1 => tl σ H1 fun lo H2 => th σ H2 fun hi H3 => ∃ (l b : Addr) (xs ys : List V) (a c : Int), o = .ref l ∧ v = .ref b ∧ lo = some a ∧ hi = some c ∧ H3 l = some (.lst xs) ∧ H3 b = some (.lst ys) ∧ l ≠ b ∧ 0 ≤ a ∧ a ≤ c ∧ c ≤ xs.length ∧ xs.length + ys.length ≤ sizeLine ∧ Q σ (upd H3 l (.lst (xs.take a.toNat ++ ys ++ xs.drop c.toNat)))) : gSlc to tl th v σ H Q := q
theorem g_sl {r : V → Option Int → Option Int → Hp → VK → Prop} {te : TE} {tl th : TO} {Q : VK} (q : te σ H fun x H1 => tl σ H1 fun l H2 => th σ H2 fun u H3 => r x l u H3 Q) : tSl r te tl th σ H Q := q
theorem g_noPart {Q : Option Int → Hp → Prop} (q : Q none H) : tNoPart σ H Q := q
theorem g_part {te : TE} {Q : Option Int → Hp → Prop} (q : te σ H fun x H1 => ∃ i, x = .int i ∧ Q (some i) H1) : tPart te σ H Q := q
/-- over zip(a, b), the first no longer than the other; the element changes nothing -/
theorem comp_zipS {a b : Addr} {xs ys : List V} {f : Nat → V} {nt : Nat} {fr : List Nat} {g : TG} {te : TE} {Q : Addr → Hp → Prop} (h1 : SqL K H a xs) (h2 : SqL K H b ys) (hl : xs.length ≤ ys.length) (hz : xs.length < sizeLine) (ha : ∃ o, H a = some o) (hb : ∃ o, H b = some o)
    (he : ∀ (i : Nat) (x y : V) (T : Addr) (H' : Hp) (k : VK), xs[i]? = some x → ys[i]? = some y → Same H H' → H' T = some (.tup [x, y]) → k (f i) H' → g (.ref T) (compSt nt fr σ) H' fun σ2 H2 => te σ2 H2 k) (hq : ∀ D H', H D = none → Same H H' → H' D = some (.lst ((List.range xs.length).map f)) → Q D H') :
    ∀ D, H D = none → ∃ (m : Nat) (W : Nat → List V → Hp → Prop), W 0 [] (upd H D (.lst [])) ∧ ∀ i acc H', W i acc H' → H' D = some (.lst acc) ∧ acc.length < sizeLine ∧
      (((Itz K a b).stop i H' ∧ Q D H') ∨ (i < m ∧ (Itz K a b).go i H' ∧ ∀ x H2, (Itz K a b).yld i H' x H2 → g x (compSt nt fr σ) H2 fun σ2 H3 => te σ2 H3 fun y H4 => H4 D = some (.lst acc) ∧ W (i + 1) (acc ++ [y]) (upd H4 D (.lst (acc ++ [y]))))) := by
  intro D hD
  have sn : ∀ {H : Hp} {p : Addr} {o : HO}, H p = none → Same H (upd H p o) := fun n b u e => by rw [upd_ne (ne_of_none e n)]; exact e
  refine ⟨xs.length, fun i acc H' => i ≤ xs.length ∧ acc = (List.range i).map f ∧ Same H H' ∧ H' D = some (.lst acc), ⟨Nat.zero_le _, rfl, sn hD, upd_same⟩, ?_⟩
  rintro i acc H' ⟨hi, rfl, s', e'⟩
  refine ⟨e', by rw [List.length_map, List.length_range]; omega, ?_⟩
  by_cases h : i < xs.length
  · have hx := List.getElem?_eq_getElem h
    have hy := List.getElem?_eq_getElem (show i < ys.length by omega)
    refine .inr ⟨h, ⟨xs, ys, _, _, s'.seq h1, s'.seq h2, hx, hy⟩, ?_⟩
    rintro v H2 ⟨T, rfl, nT, hH⟩
    obtain rfl := hH xs ys _ _ (s'.seq h1) (s'.seq h2) hx hy
    refine he i _ _ T _ _ hx hy (s'.trans (sn nT)) upd_same ⟨sn nT _ _ e', h, ?_, ?_, upd_same⟩
    · rw [List.range_succ, List.map_append]
      rfl
    · intro c o ec
      rw [upd_ne (ne_of_none ec hD)]
      exact sn nT _ _ (s' c o ec)
  · have e : i = xs.length := by omega
    subst e
    exact .inl ⟨⟨xs, ys, s'.seq h1, s'.seq h2, .inl (Nat.le_refl _)⟩, hq D H' hD s' e'⟩
end
end L2

set_option Elab.async false
set_option linter.all false
set_option maxRecDepth 100000
namespace L2
open PySem PySem.Spec PyProof.Rows

/-! ### xs[lo:hi:st]; a comprehension over range(a, b) -/
def stepIx (n : Nat) (lo hi st : Option Int) : List Nat := sliceRange (sliceBounds lo hi st n).1 (sliceBounds lo hi st n).2.1 (sliceBounds lo hi st n).2.2
def stepV (xs : List V) (lo hi st : Option Int) : List V := (stepIx xs.length lo hi st).filterMap fun x => xs[x]?
theorem vals_pick {xs : List V} {us : List Value} (r : Vals xs us) : ∀ L : List Nat, Vals (L.filterMap fun x => xs[x]?) (L.filterMap fun x => us[x]?)
  | [] => .nil
  | i :: L => by
    rw [List.filterMap_cons, List.filterMap_cons]
    cases e : xs[i]? with
    | none => rw [r.none_of e]; exact vals_pick r L
    | some x =>
      obtain ⟨u, e2, rx⟩ := r.get e
      rw [e2]
      exact .cons rx (vals_pick r L)
section
variable {X : Cx} {e : Expr} {te : TE} {lo hi : Option Expr} {se : Expr} {tl th ts : TO} {pos p2 : Pos}
def tSlS (K : PySem.W.Frag) (te : TE) (tl th ts : TO) : TE := fun σ H Q => te σ H fun x H1 => tl σ H1 fun l H2 => th σ H2 fun u H3 => ts σ H3 fun t H4 => ∃ a xs, x = .ref a ∧ SqL K H4 a xs ∧ t ≠ some 0 ∧ (stepV xs l u t).length ≤ sizeLine ∧ ∀ p, H4 p = none → Q (.ref p) (upd H4 p (.lst (stepV xs l u t)))
theorem pe_sliceS {K : PySem.W.Frag} (he : PE X e te) (hl : PO X lo tl) (hu : PO X hi th) (ht : PO X (some se) ts) (hK : X.K = K := by rfl) : PE X (.Subscript e (.Slice lo hi (some se) p2) pos) (tSlS K te tl th ts) := by
  subst hK
  intro pins s σ H Q I h
  refine Subscript_ (thn (he pins s σ H _ I h) fun v s1 ⟨x, H1, I1, r1, q1⟩ => ?_)
  refine wpAny_Slice (thn (hl pins s1 σ H1 _ I1 q1) fun vl s2 ⟨l, H2, I2, pl, q2⟩ => thn (hu pins s2 σ H2 _ I2 q2) fun vu s3 ⟨u, H3, I3, pu, q3⟩ => thn (ht pins s3 σ H3 _ I3 q3) fun vt s4 ⟨t, H4, I4, pt, q4⟩ => ?_)
  obtain ⟨a, xs, rfl, hx, h0, hz, q⟩ := q4
  cases r1
  have I5 : Inv X pins σ H4 { s4 with heap := s4.heap.push { cls := .type "slice", data := .fields #[vl, vu, vt] } } := I4.kept (t' := s4.toks) fun b ob q => Heap.get?_push_of_some _ q
  obtain ⟨its, r, hT, hz'⟩ := I5.list hx
  have hlen := r.length
  show wpAny (model X.prog X.w) X.A (subscriptTail e (.Slice lo hi (some se) p2) (.ref a) (.ref s4.heap.objs.size)) (EP X pins σ Q) X.xe { s4 with heap := s4.heap.push { cls := .type "slice", data := .fields #[vl, vu, vt] } }
  refine tail_any (ops := [.ref a, .ref s4.heap.objs.size]) hT.isList.typeIs slot_list_getitem.lookup ?_ (by with_unfolding_all rfl)
  refine wpAny_getItem_list_slice hT.isList (Heap.IsSliceOf.new ..) pl pu pt h0 ?_ (by rw [List.size_toArray] <;> omega)
  have e1 : slicePick its.toArray l u t = ((stepIx xs.length l u t).filterMap fun x => its[x]?).toArray := by
    unfold slicePick stepIx
    rw [hlen]
    simp only [List.size_toArray, List.getElem?_toArray]
  rw [e1]
  exact ⟨.ref _, _, I5.laid (t' := s4.toks) (o := .lst (stepV xs l u t)) (fun b ob q => Heap.get?_push_of_some _ q) (Nat.le_refl _) ⟨hz, _, 0, vals_pick r _, Heap.get?_push_size _ rfl⟩, rfl, q _ (I5.hok.fresh (Nat.le_refl _))⟩
theorem g_slS {K : PySem.W.Frag} {σ : St} {H : Hp} {Q : VK} (q : te σ H fun x H1 => tl σ H1 fun l H2 => th σ H2 fun u H3 => ts σ H3 fun t H4 => ∃ a xs, x = .ref a ∧ SqL K H4 a xs ∧ t ≠ some 0 ∧ (stepV xs l u t).length ≤ sizeLine ∧ ∀ p, H4 p = none → Q (.ref p) (upd H4 p (.lst (stepV xs l u t)))) : tSlS K te tl th ts σ H Q := q
end
/-- a comprehension over range(lo, lo + n), by what holds between two turns -/
theorem comp_rangeL {lo : Int} {n : Nat} {nt : Nat} {fr : List Nat} {g : TG} {te : TE} {σ : St} {H : Hp} {Q : Addr → Hp → Prop} (hz : n < sizeLine) (Pv : Addr → Nat → List V → Hp → Prop) (h0 : ∀ D, H D = none → Pv D 0 [] (upd H D (.lst [])))
    (hk : ∀ D i acc H', Pv D i acc H' → H' D = some (.lst acc) ∧ acc.length = i)
    (hs : ∀ D i acc H', H D = none → i < n → Pv D i acc H' → g (.int (lo + (i : Int))) (compSt nt fr σ) H' fun σ2 H2 => te σ2 H2 fun y H3 => H3 D = some (.lst acc) ∧ Pv D (i + 1) (acc ++ [y]) (upd H3 D (.lst (acc ++ [y]))))
    (hd : ∀ D acc H', H D = none → Pv D n acc H' → Q D H') :
    ∀ D, H D = none → ∃ (m : Nat) (W : Nat → List V → Hp → Prop), W 0 [] (upd H D (.lst [])) ∧ ∀ i acc H', W i acc H' → H' D = some (.lst acc) ∧ acc.length < sizeLine ∧
      (((Itr lo n).stop i H' ∧ Q D H') ∨ (i < m ∧ (Itr lo n).go i H' ∧ ∀ x H2, (Itr lo n).yld i H' x H2 → g x (compSt nt fr σ) H2 fun σ2 H3 => te σ2 H3 fun y H4 => H4 D = some (.lst acc) ∧ W (i + 1) (acc ++ [y]) (upd H4 D (.lst (acc ++ [y]))))) := by
  intro D hD
  refine ⟨n, fun i acc H' => i ≤ n ∧ Pv D i acc H', ⟨Nat.zero_le _, h0 D hD⟩, ?_⟩
  rintro i acc H' ⟨hi, p⟩
  obtain ⟨k1, k2⟩ := hk D i acc H' p
  refine ⟨k1, by omega, ?_⟩
  by_cases h : i < n
  · refine .inr ⟨h, h, ?_⟩
    rintro x H2 ⟨rfl, rfl⟩
    have key := hs D i acc _ hD h p
    have e : (fun (σ2 : St) (H2 : Hp) => te σ2 H2 fun y H3 => H3 D = some (.lst acc) ∧ Pv D (i + 1) (acc ++ [y]) (upd H3 D (.lst (acc ++ [y])))) = (fun (σ2 : St) (H3 : Hp) => te σ2 H3 fun y H4 => H4 D = some (.lst acc) ∧ i + 1 ≤ n ∧ Pv D (i + 1) (acc ++ [y]) (upd H4 D (.lst (acc ++ [y])))) := by
      funext σ2 H3
      have : (fun (y : V) (H3 : Hp) => H3 D = some (.lst acc) ∧ Pv D (i + 1) (acc ++ [y]) (upd H3 D (.lst (acc ++ [y])))) = (fun (y : V) (H4 : Hp) => H4 D = some (.lst acc) ∧ i + 1 ≤ n ∧ Pv D (i + 1) (acc ++ [y]) (upd H4 D (.lst (acc ++ [y])))) := by
        funext y H4
        have h1 : i + 1 ≤ n := h
        simp [h1]
      rw [this]
    rw [e] at key
    exact key
  · have e : i = n := by omega
    subst e
    exact .inl ⟨Nat.le_refl _, hd D acc H' hD p⟩
end L2

set_option Elab.async false
set_option linter.all false
set_option maxRecDepth 100000
namespace L2
open PySem PySem.Spec PyProof.Rows
theorem op_isB {X : Cx} : OpR X (compareOp .Is) (fun x y H Q => ∃ a b, x = .bl a ∧ y = .bl b ∧ Q (.bl (a == b)) H) := by
  intro pins s σ H x y v u Q I rx ry h
  obtain ⟨a, b, rfl, rfl, q⟩ := h
  cases rx
  cases ry
  exact PyProof.Rows.is_bool (fin_bl I q rfl)
end L2

set_option Elab.async false
set_option linter.all false
set_option maxRecDepth 100000
set_option maxHeartbeats 4000000
namespace S
open PySem L2
def top (i : Nat) : Stmt := PySem.Challenge.pw_slipring_k17_looks_at_spoilt_cells.main.body.getD i (.Pass ⟨0, 0, 0, 0⟩)
theorem boot_VE : bootBuiltins "ValueError" = some (.type "ValueError") := by decide +kernel
structure Cl where
  RingError : Addr
  BadSize : Addr
  NoTurn : Addr
  BadMark : Addr
  Crooked : Addr
  NoCell : Addr
  BadCells : Addr
  BadOrder : Addr
  NoHand : Addr
  NoWaiting : Addr
  NotSound : Addr
  BadStand : Addr
  TooMany : Addr
  NoName : Addr
  NoText : Addr
  NoRow : Addr
  t_HANDS : Addr
structure Txt (K : PySem.W.Frag) (mg : Str → Option Value) (cl : Cl) : Prop where
  c_RingError : ExM mg "RingError" cl.RingError
  c_BadSize : ExT K mg "BadSize" cl.BadSize
  c_NoTurn : ExT K mg "NoTurn" cl.NoTurn
  c_BadMark : ExT K mg "BadMark" cl.BadMark
  c_Crooked : ExT K mg "Crooked" cl.Crooked
  c_NoCell : ExT K mg "NoCell" cl.NoCell
  c_BadCells : ExT K mg "BadCells" cl.BadCells
  c_BadOrder : ExM mg "BadOrder" cl.BadOrder
  c_NoHand : ExT K mg "NoHand" cl.NoHand
  c_NoWaiting : ExM mg "NoWaiting" cl.NoWaiting
  c_NotSound : ExT K mg "NotSound" cl.NotSound
  c_BadStand : ExM mg "BadStand" cl.BadStand
  c_TooMany : ExM mg "TooMany" cl.TooMany
  c_NoName : ExM mg "NoName" cl.NoName
  c_NoText : ExM mg "NoText" cl.NoText
  c_NoRow : ExM mg "NoRow" cl.NoRow
  m_LEAST_SIZE : ∃ t, mg "LEAST_SIZE" = some (.int (2) t)
  m_MOST_SIZE : ∃ t, mg "MOST_SIZE" = some (.int (8) t)
  m_FREE : ∃ t, mg "FREE" = some (.int (0) t)
  m_MOST_MARK : ∃ t, mg "MOST_MARK" = some (.int (3) t)
  m_CELLS_OF_A_PLACE : ∃ t, mg "CELLS_OF_A_PLACE" = some (.int (4) t)
  m_NEW_MARK : ∃ t, mg "NEW_MARK" = some (.int (2) t)
  m_NO_ORDER : ∃ t, mg "NO_ORDER" = some (.int (-1) t)
  m_NO_TURN : ∃ t, mg "NO_TURN" = some (.int (-1) t)
  m_STILL : ∃ t, mg "STILL" = some (.int (0) t)
  m_RUNG : ∃ t, mg "RUNG" = some (.int (1) t)
  r_HANDS : mg "HANDS" = some (.ref cl.t_HANDS)
  kt_HANDS : KTup K cl.t_HANDS [.str "giver", .str "taker"]
  z_len : mg "len" = none
  z_range : mg "range" = none
  z_max : mg "max" = none
  z_min : mg "min" = none
  z_isinstance : mg "isinstance" = none
  z_int : mg "int" = none
  z_bool : mg "bool" = none
  z_list : mg "list" = none
  z_all : mg "all" = none
  z_ValueError : mg "ValueError" = none
  z_zip : mg "zip" = none
local macro_rules | `(tactic| walk_at "at") => `(tactic| first | assumption | exact upd_same | (refine (upd_ne ?_).trans ?_; (walk_at "ne"); (walk_at "at")) | (refine Same.at ?_ ?_; assumption; (walk_at "at")))
local macro_rules | `(tactic| walk_at "ne") => `(tactic| first | assumption | exact Ne.symm (by assumption) | ((refine' ne_of_none ?h ?n); (case n => assumption); (case h => walk_at "at")) | ((refine Ne.symm ?_); (refine' ne_of_none ?h ?n); (case n => assumption); (case h => walk_at "at")))
local macro_rules | `(tactic| walk_at "cond") => `(tactic| first | trivial | exact Or.inl ⟨by decide, by decide⟩ | exact Or.inr ⟨by decide, by decide⟩ | exact Or.inl ⟨by omega, by omega⟩ | exact Or.inr ⟨by omega, by omega⟩ | (show (0 : Int) < _; omega) | (show (0 : Int) < _; decide))
local macro_rules | `(tactic| walk_at "go1") => `(tactic| first
  | ((with_reducible refine' g_var ?h ?_); (case h => exact rfl))
  | with_reducible refine g_c ?_ | with_reducible refine g_op ?_ | with_reducible refine g_un ?_ | with_reducible refine g_I0 ?_ | with_reducible refine g_U ?_
  | ((with_reducible refine' g_I ?h ?_); (case h => walk_at "cond"))
  | ((with_reducible refine' g_eq ?h ?_); (case h => exact rfl)) | ((with_reducible refine' g_ne ?h ?_); (case h => exact rfl))
  | with_reducible refine g_cb ?_ | with_reducible refine g_nil ?_ | with_reducible refine g_cons ?_
  | (with_reducible refine g_tup ?_) | (with_reducible refine g_lst ?_) | with_reducible refine g_fn ?_ | with_reducible refine g_fnJ ?_
  | with_reducible refine g_fld ?_ | with_reducible refine g_mt ?_ | with_reducible refine g_mtJ ?_ | with_reducible refine g_mk ?_ | with_reducible refine g_mkJ ?_
  | with_reducible refine g_test ?_ | with_reducible refine g_tB ?_ | with_reducible refine g_and ?_ | with_reducible refine g_or ?_ | with_reducible refine g_not ?_ | with_reducible refine g_andV ?_ | with_reducible refine g_orV ?_ | with_reducible refine g_notV ?_ | with_reducible refine g_ifE ?_
  | with_reducible refine g_bl ?_ | with_reducible refine iteT ?_ | with_reducible refine iteF ?_ | with_reducible refine iteNT ?_ | with_reducible refine iteNF ?_
  | with_reducible refine g_seq ?_ | with_reducible refine g_next ?_ | with_reducible refine g_drop ?_ | with_reducible refine g_ret ?_ | with_reducible refine g_retN ?_ | with_reducible refine g_if ?_ | with_reducible refine g_asg ?_ | with_reducible refine g_name ?_ | with_reducible refine g_sub ?_ | with_reducible refine g_sfld ?_ | with_reducible refine g_raise ?_ | with_reducible refine g_tryAs ?_
  | ((with_reducible refine' g_fld1 ?h ?c ?n ?l ?_); (case h => walk_at "at"); (case c => walk_at "cls"); (case n => walk_at "nat"); (case l => exact rfl))
  | ((with_reducible refine' g_sfld1 ?h ?c ?n ?l ?_); (case h => walk_at "at"); (case c => walk_at "cls"); (case n => walk_at "nat"); (case l => exact Nat.le_of_ble_eq_true rfl))
  | with_reducible refine g_aug ?_ | with_reducible refine g_rAdd ?_
  | ((with_reducible refine' g_aug1 ?h ?c ?n ?l ?_); (case h => walk_at "at"); (case c => walk_at "cls"); (case n => walk_at "nat"); (case l => exact rfl))
  | ((with_reducible refine' g_aug2 ?h ?l ?_); (case h => walk_at "at"); (case l => exact Nat.le_of_ble_eq_true rfl))
  | ((with_reducible refine' g_mt1 ?h ?l ?_); (case h => walk_at "at"); (case l => exact rfl))
  | ((with_reducible refine' g_ixL ?h ?e ?_); (case h => walk_at "at"); (case e => exact rfl))
  | ((with_reducible refine' g_ixT ?h ?e ?_); (case h => walk_at "at"); (case e => exact rfl))
  | ((with_reducible refine' g_len ?h ?_); (case h => walk_at "at")) | ((with_reducible refine' g_list ?h ?_); (case h => walk_at "at"))
  | with_reducible refine g_for ?_ | with_reducible refine g_rng1 ?_ | with_reducible refine g_rng2 ?_ | with_reducible refine g_lsti ?_ | with_reducible refine g_comp ?_
  | ((with_reducible refine' g_rngW ?h1 ?h2 ?_); (case h1 => omega); (case h2 => omega)) | ((with_reducible refine' g_rngW ?h1 ?h2 ?_); (case h1 => decide); (case h2 => decide))
  | ((with_reducible refine' g_lstW ?h ?_); (case h => exact SqL.of (by walk_at "at")))
  | with_reducible refine g_bm0 ?_ | ((with_reducible refine' g_clear ?h ?_); (case h => walk_at "at"))
  | with_reducible refine g_bm ?_ | ((with_reducible refine' g_tyL ?h ?_); (case h => walk_at "at")) | ((with_reducible refine' g_app ?h ?l ?_); (case h => walk_at "at"); (case l => first | exact Nat.le_of_ble_eq_true rfl | omega)))
local macro_rules | `(tactic| walk_at "go") => `(tactic| repeat (walk_at "go1"))
set_option hygiene false in
local macro_rules | `(tactic| walk_at "cls") => `(tactic| first | assumption)
set_option hygiene false in
local macro_rules | `(tactic| walk_at "nat") => `(tactic| first | assumption)
section
variable {P : Program} {w : World} {K : PySem.W.Frag} {mg : Str → Option Value} {base : Heap} {cl : Cl}
theorem one_le_line : 1 ≤ sizeLine := by decide
/-! ### turns -/
def sp_check_size (cl : Cl) : Sp := fun vs H Q E => ∃ n, vs = [.int n] ∧ (if 2 ≤ n ∧ n ≤ 8 then Q .non H else E (.ref cl.BadSize) none H)
def guardT (cl : Cl) (n t : Int) (H : Hp) (E : XK) (k : Prop) : Prop := if 2 ≤ n ∧ n ≤ 8 then (if 0 ≤ t ∧ t < 2 * n then k else E (.ref cl.NoTurn) none H) else E (.ref cl.BadSize) none H
theorem guardT_imp {cl : Cl} {n t : Int} {H : Hp} {E : XK} {k k' : Prop} (h : guardT cl n t H E k) (i : 2 ≤ n → n ≤ 8 → 0 ≤ t → t < 2 * n → k → k') : guardT cl n t H E k' := by
  unfold guardT at h ⊢
  by_cases a : 2 ≤ n ∧ n ≤ 8
  · rw [if_pos a] at h ⊢
    by_cases b : 0 ≤ t ∧ t < 2 * n
    · rw [if_pos b] at h ⊢; exact i a.1 a.2 b.1 b.2 h
    · rw [if_neg b] at h ⊢; exact h
  · rw [if_neg a] at h ⊢; exact h
def sp_check_turn (cl : Cl) : Sp := fun vs H Q E => ∃ n t, vs = [.int n, .int t] ∧ guardT cl n t H E (Q .non H)
def sp_place_of (cl : Cl) : Sp := fun vs H Q E => ∃ n t, vs = [.int n, .int t] ∧ guardT cl n t H E (Q (.int (t % n)) H)
def sp_lap_of (cl : Cl) : Sp := fun vs H Q E => ∃ n t, vs = [.int n, .int t] ∧ guardT cl n t H E (Q (.int (t / n)) H)
def sp_onward (cl : Cl) : Sp := fun vs H Q E => ∃ n t m, vs = [.int n, .int t, .int m] ∧ guardT cl n t H E (Q (.int ((t + m) % (2 * n))) H)
def sp_distance (cl : Cl) : Sp := fun vs H Q E => ∃ n a b, vs = [.int n, .int a, .int b] ∧ guardT cl n a H E (guardT cl n b H E (Q (.int ((b - a) % (2 * n))) H))
abbrev s_check_size : Stmt := top 20
theorem sc_check_size : FnScope ["size"] ["size"] (defScope s_check_size) := ⟨rfl, rfl, rfl, by decide +kernel, rfl, by decide +kernel, by decide +kernel⟩
theorem ok_check_size (D : DefT K mg "check_size" s_check_size ["size"]) (T : Txt K mg cl) : FnT P w K mg base "check_size" 1 ["size"] (sp_check_size cl) := by
  refine D.fn sc_check_size (fun vs H Q E h => ?_) (fun f cdv A outer s H vs Q E hr h => ?_)
  · obtain ⟨n, rfl, _⟩ := h
    rfl
  · obtain ⟨n, rfl, h⟩ := h
    refine ⟨_, (pss_one (ps_if (PW.pt (pw_or (pt_cmpR op_lt (pv 0) (pe_gint T.m_LEAST_SIZE rfl) (nomark _)) (pw_or1 (pt_cmpR op_gt (pv 0) (pe_gint T.m_MOST_SIZE rfl) (nomark _)))))
        (pss_one (ps_raiseT T.c_BadSize rfl rfl raiseX (pa_cons pe_str pa_nil)))
        pss_nil)), ?_⟩
    refine ⟨_, rfl, _, _, rfl, rfl, _, rfl, ite2 (fun c => ?_) (fun c => ⟨_, rfl, _, _, rfl, rfl, _, rfl, ite2 (fun d => ?_) (fun d => ?_)⟩)⟩
    · rw [if_neg (by have := of_decide_eq_true c; omega)] at h
      exact ite2 (fun _ => ⟨one_le_line, h⟩) (fun z => absurd rfl z)
    · rw [if_neg (by have := of_decide_eq_true d; omega)] at h
      exact ⟨one_le_line, h⟩
    · simp only [decide_eq_true_eq] at c d
      rw [if_pos (by omega)] at h
      exact h
abbrev s_check_turn : Stmt := top 21
theorem sc_check_turn : FnScope ["size", "turn"] ["size", "turn"] (defScope s_check_turn) := ⟨rfl, rfl, rfl, by decide +kernel, rfl, by decide +kernel, by decide +kernel⟩
theorem ok_check_turn (D : DefT K mg "check_turn" s_check_turn ["size", "turn"]) (T : Txt K mg cl) (G_check_size : FnT P w K mg base "check_size" 1 ["size"] (sp_check_size cl)) : FnT P w K mg base "check_turn" 2 ["size", "turn"] (sp_check_turn cl) := by
  refine D.fn sc_check_turn (fun vs H Q E h => ?_) (fun f cdv A outer s H vs Q E hr h => ?_)
  · obtain ⟨n, t, rfl, _⟩ := h
    rfl
  · obtain ⟨n, t, rfl, h⟩ := h
    refine ⟨_, (pss_cons (ps_expr (pe_fn G_check_size hr (by decide) rfl passX (pa_cons (pv 0) pa_nil)))
      (pss_one (ps_if (PW.pt (pw_or (pt_cmpR op_lt (pv 1) pe_int (nomark _)) (pw_or1 (pt_cmpR op_ge (pv 1) (pe_op op_mul pe_int (pv 0)) (nomark _)))))
        (pss_one (ps_raiseT T.c_NoTurn rfl rfl raiseX (pa_cons pe_str pa_nil)))
        pss_nil))), ?_⟩
    unfold guardT at h
    refine ⟨_, rfl, n, rfl, ite2 (fun a => ?_) (fun a => ?_)⟩
    · rw [if_pos a] at h
      simp [tIfS, tOr, tTest, tOp, rI0, rI, tVar, tC, L2.start, tRaise, tCons, tNil, tNext, CMul]
      refine ite2 (fun c => ?_) (fun c => ite2 (fun d => ?_) (fun d => ?_))
      · rw [if_neg (by omega)] at h; exact ⟨one_le_line, h⟩
      · rw [if_neg (by omega)] at h; exact ⟨one_le_line, h⟩
      · rw [if_pos (by omega)] at h; exact h
    · rw [if_neg a] at h
      exact h
abbrev s_place_of : Stmt := top 22
theorem sc_place_of : FnScope ["size", "turn"] ["size", "turn"] (defScope s_place_of) := ⟨rfl, rfl, rfl, by decide +kernel, rfl, by decide +kernel, by decide +kernel⟩
theorem ok_place_of (D : DefT K mg "place_of" s_place_of ["size", "turn"]) (T : Txt K mg cl) (G_check_turn : FnT P w K mg base "check_turn" 2 ["size", "turn"] (sp_check_turn cl)) : FnT P w K mg base "place_of" 3 ["size", "turn"] (sp_place_of cl) := by
  refine D.fn sc_place_of (fun vs H Q E h => ?_) (fun f cdv A outer s H vs Q E hr h => ?_)
  · obtain ⟨n, t, rfl, _⟩ := h
    rfl
  · obtain ⟨n, t, rfl, h⟩ := h
    refine ⟨_, (pss_cons (ps_expr (pe_fn G_check_turn hr (by decide) rfl passX (pa_cons (pv 0) (pa_cons (pv 1) pa_nil))))
      (pss_one (ps_ret (pe_op op_mod (pv 1) (pv 0))))), ?_⟩
    refine ⟨_, rfl, _, rfl, n, t, rfl, guardT_imp h fun n2 n8 t0 t1 q => ?_⟩
    exact ⟨_, rfl, _, rfl, _, _, rfl, rfl, (by omega), q⟩
abbrev s_onward : Stmt := top 23
theorem sc_onward : FnScope ["size", "turn", "many"] ["size", "turn", "many"] (defScope s_onward) := ⟨rfl, rfl, rfl, by decide +kernel, rfl, by decide +kernel, by decide +kernel⟩
theorem ok_onward (D : DefT K mg "onward" s_onward ["size", "turn", "many"]) (T : Txt K mg cl) (G_check_turn : FnT P w K mg base "check_turn" 2 ["size", "turn"] (sp_check_turn cl)) : FnT P w K mg base "onward" 3 ["size", "turn", "many"] (sp_onward cl) := by
  refine D.fn sc_onward (fun vs H Q E h => ?_) (fun f cdv A outer s H vs Q E hr h => ?_)
  · obtain ⟨n, t, m, rfl, _⟩ := h
    rfl
  · obtain ⟨n, t, m, rfl, h⟩ := h
    refine ⟨_, (pss_cons (ps_expr (pe_fn G_check_turn hr (by decide) rfl passX (pa_cons (pv 0) (pa_cons (pv 1) pa_nil))))
      (pss_one (ps_ret (pe_op op_mod (pe_op op_add (pv 1) (pv 2)) (pe_op op_mul pe_int (pv 0)))))), ?_⟩
    refine ⟨_, rfl, _, rfl, n, t, rfl, guardT_imp h fun n2 n8 t0 t1 q => ?_⟩
    exact ⟨_, rfl, _, rfl, _, _, rfl, rfl, _, rfl, _, _, rfl, rfl, .inl ⟨by decide, by decide⟩, _, _, rfl, rfl, (by omega), q⟩
abbrev s_distance : Stmt := top 24
theorem sc_distance : FnScope ["size", "one", "other"] ["size", "one", "other"] (defScope s_distance) := ⟨rfl, rfl, rfl, by decide +kernel, rfl, by decide +kernel, by decide +kernel⟩
theorem ok_distance (D : DefT K mg "distance" s_distance ["size", "one", "other"]) (T : Txt K mg cl) (G_check_turn : FnT P w K mg base "check_turn" 2 ["size", "turn"] (sp_check_turn cl)) : FnT P w K mg base "distance" 3 ["size", "one", "other"] (sp_distance cl) := by
  refine D.fn sc_distance (fun vs H Q E h => ?_) (fun f cdv A outer s H vs Q E hr h => ?_)
  · obtain ⟨n, a, b, rfl, _⟩ := h
    rfl
  · obtain ⟨n, a, b, rfl, h⟩ := h
    refine ⟨_, (pss_cons (ps_expr (pe_fn G_check_turn hr (by decide) rfl passX (pa_cons (pv 0) (pa_cons (pv 1) pa_nil))))
      (pss_cons (ps_expr (pe_fn G_check_turn hr (by decide) rfl passX (pa_cons (pv 0) (pa_cons (pv 2) pa_nil))))
      (pss_one (ps_ret (pe_op op_mod (pe_op op_sub (pv 2) (pv 1)) (pe_op op_mul pe_int (pv 0))))))), ?_⟩
    refine ⟨_, rfl, _, rfl, n, a, rfl, guardT_imp h fun n2 n8 t0 t1 q => ?_⟩
    refine ⟨_, rfl, _, rfl, n, b, rfl, guardT_imp q fun n2 n8 t0 t1 q => ?_⟩
    exact ⟨_, rfl, _, rfl, _, _, rfl, rfl, _, rfl, _, _, rfl, rfl, .inl ⟨by decide, by decide⟩, _, _, rfl, rfl, (by omega), q⟩
/-! ### marks -/
def guardM (cl : Cl) (m : Int) (H : Hp) (E : XK) (k : Prop) : Prop := if 0 ≤ m ∧ m ≤ 3 then k else E (.ref cl.BadMark) none H
theorem guardM_imp {cl : Cl} {m : Int} {H : Hp} {E : XK} {k k' : Prop} (h : guardM cl m H E k) (i : 0 ≤ m → m ≤ 3 → k → k') : guardM cl m H E k' := by
  unfold guardM at h ⊢
  by_cases a : 0 ≤ m ∧ m ≤ 3
  · rw [if_pos a] at h ⊢; exact i a.1 a.2 h
  · rw [if_neg a] at h ⊢; exact h
def sp_check_mark (cl : Cl) : Sp := fun vs H Q E => ∃ m, vs = [.int m] ∧ guardM cl m H E (Q .non H)
def sp_mark_of : Sp := fun vs H Q E => ∃ a b, vs = [.int a, .int b] ∧ Q (.int (2 * a + b)) H
abbrev s_check_mark : Stmt := top 28
theorem sc_check_mark : FnScope ["mark"] ["mark"] (defScope s_check_mark) := ⟨rfl, rfl, rfl, by decide +kernel, rfl, by decide +kernel, by decide +kernel⟩
theorem ok_check_mark (D : DefT K mg "check_mark" s_check_mark ["mark"]) (T : Txt K mg cl) : FnT P w K mg base "check_mark" 1 ["mark"] (sp_check_mark cl) := by
  refine D.fn sc_check_mark (fun vs H Q E h => ?_) (fun f cdv A outer s H vs Q E hr h => ?_)
  · obtain ⟨n, rfl, _⟩ := h
    rfl
  · obtain ⟨n, rfl, h⟩ := h
    refine ⟨_, (pss_one (ps_if (PW.pt (pw_or (pt_cmpR op_lt (pv 0) pe_int (nomark _)) (pw_or1 (pt_cmpR op_gt (pv 0) (pe_gint T.m_MOST_MARK rfl) (nomark _)))))
        (pss_one (ps_raiseT T.c_BadMark rfl rfl raiseX (pa_cons pe_str pa_nil)))
        pss_nil)), ?_⟩
    unfold guardM at h
    refine ⟨_, rfl, _, _, rfl, rfl, _, rfl, ite2 (fun c => ?_) (fun c => ⟨_, rfl, _, _, rfl, rfl, _, rfl, ite2 (fun d => ?_) (fun d => ?_)⟩)⟩
    · rw [if_neg (by have := of_decide_eq_true c; omega)] at h
      exact ite2 (fun _ => ⟨one_le_line, h⟩) (fun z => absurd rfl z)
    · rw [if_neg (by have := of_decide_eq_true d; omega)] at h
      exact ⟨one_le_line, h⟩
    · simp only [decide_eq_true_eq] at c d
      rw [if_pos (by omega)] at h
      exact h
theorem guardT_ok {cl : Cl} {n t : Int} {H : Hp} {E : XK} {k : Prop} (n2 : 2 ≤ n) (n8 : n ≤ 8) (t0 : 0 ≤ t) (t1 : t < 2 * n) (h : k) : guardT cl n t H E k := by
  unfold guardT
  rw [if_pos ⟨n2, n8⟩, if_pos ⟨t0, t1⟩]
  exact h
theorem guardM_ok {cl : Cl} {m : Int} {H : Hp} {E : XK} {k : Prop} (m0 : 0 ≤ m) (m1 : m ≤ 3) (h : k) : guardM cl m H E k := by
  unfold guardM
  rw [if_pos ⟨m0, m1⟩]
  exact h
/-! ### the draws -/
def Well (H : Hp) (w : Addr) : Prop := ∃ a b p, H w = some (.lst [.int a, .int b, .int p]) ∧ 0 < p ∧ p < 2147483648
/-- all but the thing at w is as it was -/
def But (w : Addr) (H H' : Hp) : Prop := ∀ b o, H b = some o → b ≠ w → H' b = some o
theorem But.refl (w : Addr) (H : Hp) : But w H H := fun _ _ e _ => e
theorem But.trans {w : Addr} {H H1 H2 : Hp} (a : But w H H1) (b : But w H1 H2) : But w H H2 := fun c o e n => b c o (a c o e n) n
theorem But.of {w : Addr} {H H' : Hp} (s : Same H H') : But w H H' := fun b o e _ => s b o e
theorem But.upd {w : Addr} {H : Hp} {o : HO} : But w H (upd H w o) := fun b u e n => by rw [upd_ne n]; exact e
theorem same_new {H : Hp} {p : Addr} {o : HO} (n : H p = none) : Same H (upd H p o) := fun b u e => by rw [upd_ne (ne_of_none e n)]; exact e
theorem Well.same {H H' : Hp} {w : Addr} (h : Well H w) (s : Same H H') : Well H' w := let ⟨a, b, p, e, q⟩ := h; ⟨a, b, p, s _ _ e, q⟩
theorem Well.at {H : Hp} {w : Addr} (h : Well H w) : ∃ o, H w = some o := let ⟨_, _, _, e, _⟩ := h; ⟨_, e⟩
def sp_law_take : Sp := fun vs H Q _ => ∃ w m, vs = [.ref w, .int m] ∧ Well H w ∧ 0 < m ∧ m < 2 ^ 200 ∧ ∀ r H', 0 ≤ r → r < m → Well H' w → But w H H' → Q (.int r) H'
theorem nlog (n : Int) (h0 : 0 < n) (h : n < 2 ^ 200) : n.natAbs.log2 < 9000 := by
  have h1 : n.natAbs < 2 ^ 200 := by omega
  have h2 := (Nat.log2_lt (n := n.natAbs) (k := 200) (by omega)).mpr h1
  omega
abbrev s_law_take : Stmt := top 69
theorem sc_law_take : FnScope ["well", "many", "got"] ["well", "many"] (defScope s_law_take) := ⟨rfl, rfl, rfl, by decide +kernel, rfl, by decide +kernel, by decide +kernel⟩
theorem ok_law_take (D : DefT K mg "_law_take" s_law_take ["well", "many"]) (T : Txt K mg cl) : FnT P w K mg base "_law_take" 1 ["well", "many"] sp_law_take := by
  refine D.fn sc_law_take (fun vs H Q E h => ?_) (fun f cdv A outer s H vs Q E hr h => ?_)
  · obtain ⟨w, m, rfl, _⟩ := h
    rfl
  · obtain ⟨w, m, rfl, ⟨a, b, p, hw, p0, p1⟩, m0, m1, k⟩ := h
    refine ⟨_, (pss_cons (ps_if (pt_cmpR op_gt (pe_ix (ix_listK (K := K)) (pv 0) pe_int (fun _ _ => rfl)) pe_int (nomark _))
         (pss_cons (ps_set (i := 2) sc_law_take.nd rfl (by first | exact Or.inl rfl | exact Or.inr rfl) (pe_op op_mod (pe_ix (ix_listK (K := K)) (pv 0) pe_int (fun _ _ => rfl)) (pv 1)))
          (pss_cons (ps_asg (pe_op op_fdivB (pe_ix (ix_listK (K := K)) (pv 0) pe_int (fun _ _ => rfl)) (pv 1)) (pg_sub (pv 0) pe_int set_list))
          (pss_one (ps_ret (pv 2)))))
         pss_nil)
      (pss_cons (ps_asg (pe_op op_add (pe_op op_mod (pe_op op_mul (pe_ix (ix_listK (K := K)) (pv 0) pe_int (fun _ _ => rfl)) pe_int) (pe_ix (ix_listK (K := K)) (pv 0) pe_int (fun _ _ => rfl))) pe_int) (pg_sub (pv 0) pe_int set_list))
      (pss_one (ps_ret (pe_op op_mod (pe_op op_fdivB (pe_op op_mod (pe_op op_mul (pe_ix (ix_listK (K := K)) (pv 0) pe_int (fun _ _ => rfl)) (pe_ix (ix_listK (K := K)) (pv 0) pe_int (fun _ _ => rfl))) pe_int) pe_int) (pv 1)))))), ?_⟩
    refine ⟨_, rfl, w, _, 0, _, rfl, rfl, SqL.of hw, rfl, _, _, rfl, rfl, _, rfl, ite2 (fun c => ?_) (fun c => ?_)⟩
    · refine ⟨_, rfl, w, _, 0, _, rfl, rfl, SqL.of hw, rfl, _, rfl, _, _, rfl, rfl, m0, ?_⟩
      refine ⟨_, rfl, w, _, 0, _, rfl, rfl, SqL.of hw, rfl, _, rfl, _, _, rfl, rfl, ⟨m0, nlog m m0 m1⟩, _, rfl, w, _, 0, 0, rfl, rfl, hw, rfl, ?_⟩
      exact ⟨_, rfl, k _ _ (Int.emod_nonneg _ (by omega)) (Int.emod_lt_of_pos _ m0) ⟨_, _, _, upd_same, p0, p1⟩ But.upd⟩
    · refine ⟨_, rfl, w, _, 1, _, rfl, rfl, SqL.of hw, rfl, _, _, rfl, rfl, .inr ⟨by decide, by decide⟩, _, rfl, w, _, 2, _, rfl, rfl, SqL.of hw, rfl, _, _, rfl, rfl, p0, _, _, rfl, rfl, _, rfl, w, _, 1, 1, rfl, rfl, hw, rfl, ?_⟩
      have h1 := Int.emod_nonneg (b * 48271) (show p ≠ 0 by omega)
      have h2 := Int.emod_lt_of_pos (b * 48271) p0
      refine ⟨_, rfl, w, _, 1, _, rfl, rfl, SqL.of upd_same, rfl, _, rfl, w, _, 1, _, rfl, rfl, SqL.of upd_same, rfl, _, _, rfl, rfl, .inl ⟨by omega, by omega⟩, _, _, rfl, rfl, (by show (0 : Int) < 2147483423; decide), _, _, rfl, rfl, ⟨by decide, by decide⟩, _, rfl, _, _, rfl, rfl, m0, ?_⟩
      exact k _ _ (Int.emod_nonneg _ (by omega)) (Int.emod_lt_of_pos _ m0) ⟨_, _, _, upd_same, p0, p1⟩ But.upd
theorem atI_map {ns : List Int} {n : Nat} (h : n < ns.length) : atI (ns.map V.int) (n : Int) = some (.int ns[n]) := by
  have hl : (ns.map V.int).length = ns.length := List.length_map _
  unfold atI ixN
  rw [if_pos (by omega), if_pos (by omega)]
  show (ns.map V.int)[(n : Int).toNat]? = _
  rw [show (n : Int).toNat = n by omega, List.getElem?_map, List.getElem?_eq_getElem h]
  rfl
abbrev primesL : List V := [.int 2147483647, .int 2147483629, .int 2147483587, .int 2147483579, .int 2147483563, .int 2147483549, .int 2147483543, .int 2147483497]
theorem primes_at (j : Int) (h0 : 0 ≤ j) (h1 : j < 8) : ∃ v, atI primesL j = some (.int v) ∧ 0 < v ∧ v < 2147483648 := by
  have : j = 0 ∨ j = 1 ∨ j = 2 ∨ j = 3 ∨ j = 4 ∨ j = 5 ∨ j = 6 ∨ j = 7 := by omega
  rcases this with rfl | rfl | rfl | rfl | rfl | rfl | rfl | rfl <;> exact ⟨_, rfl, by decide, by decide⟩
def sp_law_well (K : PySem.W.Frag) : Sp := fun vs H Q _ => ∃ (c : Addr) (ns : List Int) (k : Nat), vs = [.ref c, .int (k : Int)] ∧ SqL K H c (ns.map V.int) ∧ k < 1000 ∧ ∀ w H', H w = none → Same H H' → Well H' w → Q (.ref w) H'
abbrev s_law_well : Stmt := top 68
theorem sc_law_well : FnScope ["script", "k", "cell", "primes", "seed"] ["script", "k"] (defScope s_law_well) := ⟨rfl, rfl, rfl, by decide +kernel, rfl, by decide +kernel, by decide +kernel⟩
theorem ok_law_well (D : DefT K mg "_law_well" s_law_well ["script", "k"]) (T : Txt K mg cl) : FnT P w K mg base "_law_well" 1 ["script", "k"] (sp_law_well K) := by
  refine D.fn sc_law_well (fun vs H Q E h => ?_) (fun f cdv A outer s H vs Q E hr h => ?_)
  · obtain ⟨c, ns, k, rfl, _⟩ := h
    rfl
  · obtain ⟨c, ns, n, rfl, hc, hn, k⟩ := h
    refine ⟨_, (pss_cons (ps_set (i := 2) sc_law_well.nd rfl (by first | exact Or.inl rfl | exact Or.inr rfl) pe_int)
      (pss_cons (ps_if (pt_cmpR op_lt (pv 1) (pe_callB (call_lenK (K := K)) (by rfl) T.z_len PySem.boot_len (pa_cons (pv 0) pa_nil)) (nomark _))
         (pss_one (ps_set (i := 2) sc_law_well.nd rfl (by first | exact Or.inl rfl | exact Or.inr rfl) (pe_ix (ix_listK (K := K)) (pv 0) (pv 1) (fun _ _ => rfl))))
         pss_nil)
      (pss_cons (ps_set (i := 3) sc_law_well.nd rfl (by first | exact Or.inl rfl | exact Or.inr rfl) (pe_lst (pa_cons pe_int (pa_cons pe_int (pa_cons pe_int (pa_cons pe_int (pa_cons pe_int (pa_cons pe_int (pa_cons pe_int (pa_cons pe_int pa_nil))))))))))
      (pss_cons (ps_set (i := 4) sc_law_well.nd rfl (by first | exact Or.inl rfl | exact Or.inr rfl) (pe_op op_mod (pe_op op_mul (pe_op op_add (pe_op op_mod (pv 2) pe_int) pe_int) (pe_op op_add pe_int (pe_op op_mul pe_int (pv 1)))) pe_int))
      (pss_cons (ps_set (i := 4) sc_law_well.nd rfl (by first | exact Or.inl rfl | exact Or.inr rfl) (pe_op op_add (pe_op op_add (pe_op op_mod (pe_op op_mul (pv 4) (pv 4)) pe_int) (pv 1)) pe_int))
      (pss_cons (ps_if (pt_cmpR op_ge (pv 2) (pe_op op_pow pe_int pe_int) (nomark _))
         (pss_one (ps_ret (pe_lst (pa_cons (pv 2) (pa_cons (pv 4) (pa_cons (pe_ix (ix_listK (K := K)) (pv 3) (pe_op op_mod (pv 1) pe_int) (fun _ _ => rfl)) pa_nil))))))
         pss_nil)
      (pss_one (ps_ret (pe_lst (pa_cons pe_int (pa_cons (pv 4) (pa_cons (pe_ix (ix_listK (K := K)) (pv 3) (pe_op op_mod (pv 1) pe_int) (fun _ _ => rfl)) pa_nil)))))))))))), ?_⟩
    refine ⟨_, rfl, _, rfl, c, _, rfl, .inl hc, _, _, rfl, rfl, _, rfl, ite2 (fun a => ⟨_, rfl, _, rfl, c, _, (n : Int), _, rfl, rfl, hc, atI_map (by have := of_decide_eq_true a; rw [List.length_map] at this; omega), ?_⟩) (fun a => ?_)⟩
    all_goals
      refine ⟨by show 8 ≤ sizeLine; decide, fun p hp => ?_⟩
      refine ⟨_, rfl, _, _, rfl, rfl, (by show (0 : Int) < 2147483489; decide), _, _, rfl, rfl, _, rfl, _, _, rfl, rfl, .inl ⟨by decide, by decide⟩, _, _, rfl, rfl, _, _, rfl, rfl, .inl ⟨by omega, by omega⟩, _, _, rfl, rfl, (by show (0 : Int) < 2147483489; decide), ?_⟩
      refine ⟨_, rfl, _, rfl, _, _, rfl, rfl, .inl ⟨by omega, by omega⟩, _, _, rfl, rfl, (by show (0 : Int) < 2147483477; decide), _, rfl, _, _, rfl, rfl, _, _, rfl, rfl, ?_⟩
      refine ⟨_, rfl, _, _, rfl, rfl, ⟨by decide, by decide, by decide⟩, _, _, rfl, rfl, _, rfl, ite2 (fun b => ?_) (fun b => ?_)⟩
      all_goals
        obtain ⟨v, hv, v0, v1⟩ := primes_at ((n : Int) % 8) (by omega) (by omega)
        first
          | refine ⟨_, rfl, _, rfl, _, rfl, _, rfl, _, _, rfl, rfl, (by show (0 : Int) < 8; decide), p, _, _, _, rfl, rfl, SqL.of upd_same, hv, (by show 3 ≤ sizeLine; decide), fun q hq => ?_⟩
          | refine ⟨_, rfl, _, rfl, _, rfl, _, _, rfl, rfl, (by show (0 : Int) < 8; decide), p, _, _, _, rfl, rfl, SqL.of upd_same, hv, (by show 3 ≤ sizeLine; decide), fun q hq => ?_⟩
        exact k q _ ((same_new hp).free hq) ((same_new hp).trans (same_new hq)) ⟨_, _, _, upd_same, v0, v1⟩
def sp_law_whole : Sp := fun vs H Q _ => ∃ i, vs = [.int i] ∧ Q (.bl true) H
def sp_law_far : Sp := fun vs H Q _ => ∃ w, vs = [.ref w] ∧ Well H w ∧ ∀ r H', 1 ≤ r → r < 2 ^ 200 → Well H' w → But w H H' → Q (.int r) H'
abbrev s_law_far : Stmt := top 70
theorem sc_law_far : FnScope ["well"] ["well"] (defScope s_law_far) := ⟨rfl, rfl, rfl, by decide +kernel, rfl, by decide +kernel, by decide +kernel⟩
theorem ten58 : (0 : Int) < 10 ^ 58 ∧ (10 : Int) ^ 58 < 2 ^ 200 - 1 := by decide
theorem ok_law_far (D : DefT K mg "_law_far" s_law_far ["well"]) (T : Txt K mg cl) (G_law_take : FnT P w K mg base "_law_take" 1 ["well", "many"] sp_law_take) : FnT P w K mg base "_law_far" 2 ["well"] sp_law_far := by
  refine D.fn sc_law_far (fun vs H Q E h => ?_) (fun f cdv A outer s H vs Q E hr h => ?_)
  · obtain ⟨w, rfl, _⟩ := h
    rfl
  · obtain ⟨w, rfl, hw, k⟩ := h
    refine ⟨_, (pss_one (ps_ret (pe_ix (ix_listK (K := K)) (pe_lst (pa_cons (pe_op op_add pe_int (pe_fn G_law_take hr (by decide) rfl passX (pa_cons (pv 0) (pa_cons pe_int pa_nil)))) (pa_cons (pe_op op_add pe_int (pe_fn G_law_take hr (by decide) rfl passX (pa_cons (pv 0) (pa_cons (pe_op op_pow pe_int pe_int) pa_nil)))) pa_nil))) (pe_fn G_law_take hr (by decide) rfl passX (pa_cons (pv 0) (pa_cons pe_int pa_nil))) (fun _ _ => rfl)))), ?_⟩
    refine ⟨_, rfl, w, 3, rfl, hw, by decide, by decide, fun r1 H1 a1 b1 w1 s1 => ?_⟩
    refine ⟨_, _, rfl, rfl, _, rfl, _, _, rfl, rfl, ⟨by decide, by decide, by decide⟩, w, _, rfl, w1, ten58.1, Int.lt_trans ten58.2 (by decide), fun r2 H2 a2 b2 w2 s2 => ?_⟩
    refine ⟨_, _, rfl, rfl, (by show 2 ≤ sizeLine; decide), fun p hp => ?_⟩
    have np : w ≠ p := by obtain ⟨o, e⟩ := w2.at; exact ne_of_none e hp
    refine ⟨_, rfl, w, 2, rfl, w2.same (same_new hp), by decide, by decide, fun r3 H3 a3 b3 w3 s3 => ?_⟩
    have e3 : H3 p = _ := s3 p _ upd_same np.symm
    have b58 := ten58.2
    have b2 : r2 < 10 ^ 58 := b2
    have bt : But w H H3 := (s1.trans s2).trans ((But.of (same_new hp)).trans s3)
    have : r3 = 0 ∨ r3 = 1 := by omega
    rcases this with rfl | rfl
    · exact ⟨p, _, 0, _, rfl, rfl, SqL.of e3, rfl, k _ _ (by omega) (by omega) w3 bt⟩
    · exact ⟨p, _, 1, _, rfl, rfl, SqL.of e3, rfl, k _ _ (by omega) (by omega) w3 bt⟩
/-- a word between two rows -/
theorem seq_cut {a b : TS} {D : Ends} {σ : St} {H : Hp} (M : St → Hp → Prop) (hb : ∀ σ' H', M σ' H' → b D σ' H') (ha : ∀ R : St → Hp → Prop, (∀ σ' H', M σ' H' → R σ' H') → a { D with nx := R } σ H) : tSeq a b D σ H := ha _ hb
theorem seq_cutI {c : TT} {t u b : TS} {D : Ends} {σ : St} {H : Hp} (M : St → Hp → Prop) (hb : ∀ σ' H', M σ' H' → b D σ' H') (ha : ∀ R : St → Hp → Prop, (∀ σ' H', M σ' H' → R σ' H') → tIfS c t u { D with nx := R } σ H) : tSeq (tIfS c t u) b D σ H := ha _ hb
theorem gn {i : Nat} {v : V} {σ : St} {H : Hp} {k : St → Hp → Prop} (h : k (σ.set i (some v)) H) : gName i v σ H k := h
theorem pickL {ns : List Int} {Pr : Int → Prop} (h : ∀ v ∈ ns, Pr v) {r : Int} (h0 : 0 ≤ r) (h1 : r < ns.length) : ∃ v, atI (ns.map V.int) r = some (.int v) ∧ Pr v := by
  have hr : r.toNat < ns.length := by omega
  refine ⟨ns[r.toNat], ?_, h _ (List.getElem_mem hr)⟩
  have e := atI_map hr
  rwa [show ((r.toNat : Nat) : Int) = r by omega] at e
theorem same_but {w : Addr} {H H1 H2 : Hp} (s : Same H H1) (n : H w = none) (b : But w H1 H2) : Same H H2 := fun c o e => b c o (s c o e) (ne_of_none e n)
/-- what is made new in between is away from w -/
theorem Well.ne {H : Hp} {w p : Addr} (h : Well H w) (n : H p = none) : p ≠ w := by
  obtain ⟨o, e⟩ := h.at
  exact (ne_of_none e n).symm
/-! ### rows of bits -/
def b2i (b : Bool) : Int := if b then 1 else 0
def toB (ns : List Int) : List Bool := ns.map fun x => x == 1
def bitsOk (ns : List Int) : Bool := ns.all fun x => x == 0 || x == 1
theorem toB_len (ns : List Int) : (toB ns).length = ns.length := List.length_map _
theorem bitsOk_eq {ns : List Int} (h : bitsOk ns = true) : (toB ns).map b2i = ns := by
  induction ns with
  | nil => rfl
  | cons x xs ih =>
    unfold bitsOk at h ih
    rw [List.all_cons, Bool.and_eq_true] at h
    have e : b2i (x == 1) = x := by
      have h1 := h.1
      unfold b2i
      by_cases hx : x = 1
      · subst hx; rfl
      · have : x = 0 := by simpa [hx] using h1
        subst this; rfl
    show b2i (x == 1) :: (toB xs).map b2i = x :: xs
    rw [e, ih h.2]
theorem toB_map (bs : List Bool) : toB (bs.map b2i) = bs := by
  unfold toB
  rw [List.map_map]
  have : ((fun x => x == (1 : Int)) ∘ b2i) = id := by funext b; cases b <;> rfl
  rw [this, List.map_id]
theorem bitsOk_map (bs : List Bool) : bitsOk (bs.map b2i) = true := by
  unfold bitsOk
  rw [List.all_map]
  simp only [List.all_eq_true]
  intro b _
  cases b <;> rfl
theorem b2i_inj {bs cs : List Bool} (h : bs.map b2i = cs.map b2i) : bs = cs := by rw [← toB_map bs, ← toB_map cs, h]
/-- how many of a row's beginning are alike -/
def alikeB : List Bool → Nat
  | [] => 0
  | b :: bs => 1 + (bs.takeWhile fun x => x == b).length
def frontB (bs : List Bool) : Option Nat := if (bs.drop (alikeB bs)).any (fun x => x == bs.headD false) then none else some (((if bs.headD false then bs.length else 0) + alikeB bs) % (2 * bs.length))
def rowB (n t : Nat) : List Bool := List.replicate (t % n) (t / n == 1) ++ List.replicate (n - t % n) (!(t / n == 1))
def lawB (bs : List Bool) : Option Nat := (List.range (2 * bs.length)).find? fun t => rowB bs.length t == bs
def allB : Nat → List (List Bool)
  | 0 => [[]]
  | n + 1 => (allB n).flatMap fun bs => [false :: bs, true :: bs]
theorem mem_allB : ∀ bs : List Bool, bs ∈ allB bs.length
  | [] => List.mem_singleton.mpr rfl
  | b :: bs => by
    show b :: bs ∈ (allB bs.length).flatMap fun bs => [false :: bs, true :: bs]
    refine List.mem_flatMap.mpr ⟨bs, mem_allB bs, ?_⟩
    cases b <;> simp
def upTo8 : List (List Bool) := allB 2 ++ allB 3 ++ allB 4 ++ allB 5 ++ allB 6 ++ allB 7 ++ allB 8
theorem mem_upTo8 {bs : List Bool} (h2 : 2 ≤ bs.length) (h8 : bs.length ≤ 8) : bs ∈ upTo8 := by
  have h := mem_allB bs
  unfold upTo8
  have : bs.length = 2 ∨ bs.length = 3 ∨ bs.length = 4 ∨ bs.length = 5 ∨ bs.length = 6 ∨ bs.length = 7 ∨ bs.length = 8 := by omega
  simp only [List.mem_append]
  rcases this with e | e | e | e | e | e | e <;> rw [e] at h <;> simp [h]
theorem front_all : upTo8.all (fun bs => frontB bs == lawB bs) = true := by decide +kernel
theorem front_law {bs : List Bool} (h2 : 2 ≤ bs.length) (h8 : bs.length ≤ 8) : frontB bs = lawB bs := by
  have h := List.all_eq_true.mp front_all bs (mem_upTo8 h2 h8)
  simpa using h
theorem alike_all : upTo8.all (fun bs => decide (1 ≤ alikeB bs) && decide (alikeB bs ≤ bs.length) && (List.range bs.length).all fun j => !decide (j ≤ alikeB bs) || (if bs[j]? = bs[0]? then decide (j + 1 ≤ alikeB bs) else decide (j = alikeB bs))) = true := by decide +kernel
theorem alike_b {bs : List Bool} (h2 : 2 ≤ bs.length) (h8 : bs.length ≤ 8) : 1 ≤ alikeB bs ∧ alikeB bs ≤ bs.length ∧ ∀ j, j < bs.length → j ≤ alikeB bs → (bs[j]? = bs[0]? → j + 1 ≤ alikeB bs) ∧ (bs[j]? ≠ bs[0]? → j = alikeB bs) := by
  have h := List.all_eq_true.mp alike_all bs (mem_upTo8 h2 h8)
  simp only [Bool.and_eq_true, decide_eq_true_eq, List.all_eq_true, List.mem_range, Bool.or_eq_true, Bool.not_eq_true', decide_eq_false_iff_not] at h
  refine ⟨h.1.1, h.1.2, fun j hj hl => ?_⟩
  rcases h.2 j hj with z | z
  · exact absurd hl z
  · constructor
    · intro e
      rw [if_pos e] at z
      exact of_decide_eq_true z
    · intro e
      rw [if_neg e] at z
      exact of_decide_eq_true z
theorem cut_from {xs : List V} {j : Nat} (h : j ≤ xs.length) : cutV xs (some (j : Int)) none = xs.drop j := by
  unfold cutV
  rw [HT.sIx_nat, HT.sIx_none, Nat.min_eq_left h]
  exact List.take_of_length_le (by rw [List.length_drop]; omega)
theorem cut_to {xs : List V} {j : Nat} (h : j ≤ xs.length) : cutV xs none (some (j : Int)) = xs.take j := by
  unfold cutV
  rw [HT.sIx_nat, HT.sIx_none, Nat.min_eq_left h]
  rfl
theorem inV_bits (b : Bool) (bs : List Bool) : inV (.int (b2i b)) ((bs.map b2i).map V.int) = bs.any fun x => x == b := by
  unfold inV
  induction bs with
  | nil => rfl
  | cons c cs ih =>
    simp only [List.map_cons, List.any_cons]
    rw [ih]
    cases b <;> cases c <;> rfl
theorem flat_ints (ns : List Int) : (ns.map V.int).all flatV = true := by simp [flatV]
def sp_check_bits (K : PySem.W.Frag) (cl : Cl) : Sp := fun vs H Q E => ∃ a ns, vs = [.ref a] ∧ SqL K H a (ns.map V.int) ∧ (if 2 ≤ (ns.length : Int) ∧ (ns.length : Int) ≤ 8 then (if bitsOk ns = true then Q .non H else E (.ref cl.BadMark) none H) else E (.ref cl.BadSize) none H)
abbrev s_check_bits : Stmt := top 51
theorem sc_check_bits : FnScope ["bits", "bit"] ["bits"] (defScope s_check_bits) := ⟨rfl, rfl, rfl, by decide +kernel, rfl, by decide +kernel, by decide +kernel⟩
theorem bit_bad {ns : List Int} {i : Nat} {x : Int} (h : (ns.map V.int)[i]? = some (.int x)) (hx : ¬ (0 ≤ x ∧ x ≤ 1)) : bitsOk ns = false := by
  rw [List.getElem?_map] at h
  cases e : ns[i]? with
  | none => rw [e] at h; cases h
  | some y =>
    rw [e] at h
    cases h
    cases hb : bitsOk ns with
    | false => rfl
    | true =>
      have hb := List.all_eq_true.mp hb x (List.mem_of_getElem? e)
      simp only [Bool.or_eq_true, beq_iff_eq] at hb
      omega
theorem bits_good {ns : List Int} (h : ∀ (i : Nat) (x : Int), (ns.map V.int)[i]? = some (.int x) → 0 ≤ x ∧ x ≤ 1) : bitsOk ns = true := by
  refine List.all_eq_true.mpr fun x hx => ?_
  obtain ⟨i, hi⟩ := List.getElem?_of_mem hx
  have := h i x (by rw [List.getElem?_map, hi]; rfl)
  simp only [Bool.or_eq_true, beq_iff_eq]
  omega
theorem ints_at {ns : List Int} {i : Nat} {x : V} (h : (ns.map V.int)[i]? = some x) : ∃ v, x = .int v := by
  rw [List.getElem?_map] at h
  cases e : ns[i]? with
  | none => rw [e] at h; cases h
  | some y => rw [e] at h; cases h; exact ⟨_, rfl⟩
theorem ok_check_bits (D : DefT K mg "check_bits" s_check_bits ["bits"]) (T : Txt K mg cl) (G_check_size : FnT P w K mg base "check_size" 1 ["size"] (sp_check_size cl)) : FnT P w K mg base "check_bits" 2 ["bits"] (sp_check_bits K cl) := by
  refine D.fn sc_check_bits (fun vs H Q E h => ?_) (fun f cdv A outer s H vs Q E hr h => ?_)
  · obtain ⟨a, ns, rfl, _⟩ := h
    rfl
  · obtain ⟨a, ns, rfl, hS, h⟩ := h
    refine ⟨_, (pss_cons (ps_expr (pe_fn G_check_size hr (by decide) rfl passX (pa_cons (pe_callB (call_lenK (K := K)) (by rfl) T.z_len PySem.boot_len (pa_cons (pv 0) pa_nil)) pa_nil)))
      (pss_one (ps_for passOwnX rfl (pi_listK (K := K) (pv 0)) (pg_name (i := 1) sc_check_bits.nd rfl (by first | exact Or.inl rfl | exact Or.inr rfl))
        (pss_one (ps_if (PW.pt (pw_or (pt_cmpR op_lt (pv 1) pe_int (nomark _)) (pw_or1 (pt_cmpR op_gt (pv 1) pe_int (nomark _)))))
           (pss_one (ps_raiseT T.c_BadMark rfl rfl raiseX (pa_cons pe_str pa_nil)))
           pss_nil))))), ?_⟩
    refine ⟨_, rfl, a, _, rfl, .inl hS, _, rfl, ?_⟩
    rw [List.length_map]
    refine ite2 (fun c => ?_) (fun c => ?_)
    · rw [if_pos c] at h
      refine ⟨_, rfl, a, rfl, ⟨_, hS⟩, for_list (xs := ns.map V.int) (fun i σ H' => ∃ x, σ = [some (.ref a), x] ∧ H' = H ∧ ∀ (j : Nat) (y : Int), j < i → (ns.map V.int)[j]? = some (.int y) → 0 ≤ y ∧ y ≤ 1) ⟨_, rfl, rfl, fun j y hj => absurd hj (Nat.not_lt_zero _)⟩ ?_ ?_ ?_⟩
      · rintro i σ H' _ ⟨x, rfl, rfl, _⟩
        exact hS
      · rintro i x σ H' hx ⟨y, rfl, rfl, hb⟩
        obtain ⟨v, rfl⟩ := ints_at hx
        refine ⟨_, rfl, _, _, rfl, rfl, _, rfl, ite2 (fun d => ?_) (fun d => ⟨_, rfl, _, _, rfl, rfl, _, rfl, ite2 (fun d2 => ?_) (fun d2 => ?_)⟩)⟩
        · rw [if_neg (by rw [bit_bad hx (by have := of_decide_eq_true d; omega)]; decide)] at h
          exact ite2 (fun _ => ⟨one_le_line, h⟩) (fun z => absurd rfl z)
        · rw [if_neg (by rw [bit_bad hx (by have := of_decide_eq_true d2; omega)]; decide)] at h
          exact ⟨one_le_line, h⟩
        · simp only [decide_eq_true_eq] at d d2
          refine ⟨_, rfl, rfl, fun j y hj e => ?_⟩
          by_cases hji : j < i
          · exact hb j y hji e
          · have : j = i := by omega
            subst this
            rw [hx] at e
            cases e
            omega
      · rintro σ H' ⟨x, rfl, rfl, hb⟩
        rw [if_pos (bits_good fun i x e => hb i x (List.getElem?_eq_some_iff.mp e).1 e)] at h
        exact h
    · rw [if_neg c] at h
      exact h
def sp_alike_ahead (K : PySem.W.Frag) : Sp := fun vs H Q _ => ∃ (a : Addr) (bs : List Bool), vs = [.ref a] ∧ SqL K H a ((bs.map b2i).map V.int) ∧ 2 ≤ bs.length ∧ bs.length ≤ 8 ∧ Q (.int (alikeB bs : Nat)) H
abbrev s_alike_ahead : Stmt := top 53
theorem sc_alike_ahead : FnScope ["bits", "many"] ["bits"] (defScope s_alike_ahead) := ⟨rfl, rfl, rfl, by decide +kernel, rfl, by decide +kernel, by decide +kernel⟩
theorem b2i_ne {b c : Bool} : (V.int (b2i b) = V.int (b2i c)) ↔ b = c := by cases b <;> cases c <;> simp [b2i]
theorem ok_alike_ahead (D : DefT K mg "alike_ahead" s_alike_ahead ["bits"]) (T : Txt K mg cl) : FnT P w K mg base "alike_ahead" 1 ["bits"] (sp_alike_ahead K) := by
  refine D.fn sc_alike_ahead (fun vs H Q E h => ?_) (fun f cdv A outer s H vs Q E hr h => ?_)
  · obtain ⟨a, ns, rfl, _⟩ := h
    rfl
  · obtain ⟨a, bs, rfl, hS, h2, h8, h⟩ := h
    refine ⟨_, (pss_cons (ps_set (i := 1) sc_alike_ahead.nd rfl (by first | exact Or.inl rfl | exact Or.inr rfl) pe_int)
      (pss_cons (ps_while passOwnX (PW.pt (pw_and (pt_cmpR op_lt (pv 1) (pe_callB (call_lenK (K := K)) (by rfl) T.z_len PySem.boot_len (pa_cons (pv 0) pa_nil)) (nomark _)) (pw_and1 (pt_cmpR op_eq (pe_ix (ix_listK (K := K)) (pv 0) (pv 1) (fun _ _ => rfl)) (pe_ix (ix_listK (K := K)) (pv 0) pe_int (fun _ _ => rfl)) (nomark _)))))
         (pss_one (ps_aug (i := 1) sc_alike_ahead.nd rfl (by first | exact Or.inl rfl | exact Or.inr rfl) pe_int ip_add)))
      (pss_one (ps_ret (pv 1))))), ?_⟩
    obtain ⟨l1, l2, l3⟩ := alike_b h2 h8
    have hl : ((bs.map b2i).map V.int).length = bs.length := by rw [List.length_map, List.length_map]
    refine ⟨fun z σ H' => ∃ g : Nat, z = bs.length - g ∧ 1 ≤ g ∧ g ≤ alikeB bs ∧ σ = [some (.ref a), some (.int (g : Int))] ∧ H' = H, ⟨_, 1, rfl, Nat.le_refl 1, l1, rfl, rfl⟩, ?_⟩
    rintro z σ H' ⟨g, rfl, g1, ga, rfl, rfl⟩
    refine ⟨_, rfl, _, rfl, a, _, rfl, .inl hS, _, _, rfl, rfl, _, rfl, ite2 (fun c => ?_) (fun c => iteF ?_)⟩
    · have hg : g < bs.length := by have := of_decide_eq_true c; rw [hl] at this; omega
      have e1 := atI_map (ns := bs.map b2i) (n := g) (by rw [List.length_map]; exact hg)
      have e0 := atI_map (ns := bs.map b2i) (n := 0) (by rw [List.length_map]; omega)
      refine ⟨_, rfl, _, rfl, a, _, (g : Int), _, rfl, rfl, hS, e1, _, rfl, a, _, 0, _, rfl, rfl, hS, e0, rfl, _, rfl, ?_⟩
      rw [List.getElem_map, List.getElem_map]
      refine ite2 (fun b => ?_) (fun b => ?_)
      · have heq : bs[g] = bs[0] := b2i_ne.mp (by simpa using b)
        have lt := (l3 g hg ga).1 (by rw [List.getElem?_eq_getElem hg, List.getElem?_eq_getElem (by omega), heq])
        refine ⟨fun σ' H' => σ' = [some (.ref a), some (.int ((g + 1 : Nat) : Int))] ∧ H' = _, fun σ' H' ⟨h1, h2⟩ => ⟨bs.length - (g + 1), by omega, g + 1, rfl, by omega, lt, h1, h2⟩, ?_⟩
        exact ⟨_, rfl, _, _, rfl, rfl, rfl, rfl⟩
      · have hne : bs[g] ≠ bs[0] := fun e => b (by rw [e]; simp)
        have eq := (l3 g hg ga).2 (by rw [List.getElem?_eq_getElem hg, List.getElem?_eq_getElem (by omega)]; intro e; exact hne (Option.some.inj e))
        subst eq
        exact ⟨_, rfl, h⟩
    · have hg : ¬ g < bs.length := fun z => c (decide_eq_true (by rw [hl]; omega))
      have : g = alikeB bs := by omega
      subst this
      exact ⟨_, rfl, h⟩
def frontG (cl : Cl) (ns : List Int) (H : Hp) (E : XK) (k : Nat → Hp → Prop) : Prop :=
  if 2 ≤ (ns.length : Int) ∧ (ns.length : Int) ≤ 8 then (if bitsOk ns = true then (∀ H', Same H H' → (match frontB (toB ns) with | none => E (.ref cl.Crooked) none H' | some f => k f H')) else E (.ref cl.BadMark) none H) else E (.ref cl.BadSize) none H
def sp_front (K : PySem.W.Frag) (cl : Cl) : Sp := fun vs H Q E => ∃ a ns, vs = [.ref a] ∧ SqL K H a (ns.map V.int) ∧ frontG cl ns H E fun f H' => Q (.int (f : Nat)) H'
abbrev s_front : Stmt := top 54
theorem sc_front : FnScope ["bits", "many", "size"] ["bits"] (defScope s_front) := ⟨rfl, rfl, rfl, by decide +kernel, rfl, by decide +kernel, by decide +kernel⟩
theorem ok_front (D : DefT K mg "front" s_front ["bits"]) (T : Txt K mg cl) (G_check_bits : FnT P w K mg base "check_bits" 2 ["bits"] (sp_check_bits K cl)) (G_alike_ahead : FnT P w K mg base "alike_ahead" 1 ["bits"] (sp_alike_ahead K)) (G_onward : FnT P w K mg base "onward" 3 ["size", "turn", "many"] (sp_onward cl)) : FnT P w K mg base "front" 4 ["bits"] (sp_front K cl) := by
  refine D.fn sc_front (fun vs H Q E h => ?_) (fun f cdv A outer s H vs Q E hr h => ?_)
  · obtain ⟨a, ns, rfl, _⟩ := h
    rfl
  · obtain ⟨a, ns, rfl, hS, h⟩ := h
    refine ⟨_, (pss_cons (ps_expr (pe_fn G_check_bits hr (by decide) rfl passX (pa_cons (pv 0) pa_nil)))
      (pss_cons (ps_set (i := 1) sc_front.nd rfl (by first | exact Or.inl rfl | exact Or.inr rfl) (pe_fn G_alike_ahead hr (by decide) rfl passX (pa_cons (pv 0) pa_nil)))
      (pss_cons (ps_if (pt_cmpR (op_inK (K := K)) (pe_ix (ix_listK (K := K)) (pv 0) pe_int (fun _ _ => rfl)) (pe_slice (sl_listK (K := K)) (pv 0) (po_some (pv 1)) po_none) (by with_unfolding_all rfl))
         (pss_one (ps_raiseT T.c_Crooked rfl rfl raiseX (pa_cons pe_str pa_nil)))
         pss_nil)
      (pss_cons (ps_set (i := 2) sc_front.nd rfl (by first | exact Or.inl rfl | exact Or.inr rfl) (pe_callB (call_lenK (K := K)) (by rfl) T.z_len PySem.boot_len (pa_cons (pv 0) pa_nil)))
      (pss_one (ps_ret (pe_fn G_onward hr (by decide) rfl passX (pa_cons (pv 2) (pa_cons (pe_op op_mul (pe_ix (ix_listK (K := K)) (pv 0) pe_int (fun _ _ => rfl)) (pv 2)) (pa_cons (pv 1) pa_nil)))))))))), ?_⟩
    unfold frontG at h
    refine ⟨_, rfl, a, ns, rfl, hS, ite2 (fun c => ite2 (fun d => ?_) (fun d => ?_)) (fun c => ?_)⟩
    · rw [if_pos c, if_pos d] at h
      have e := bitsOk_eq d
      have hl : (toB ns).length = ns.length := toB_len ns
      generalize hb : toB ns = bs at e hl h
      subst e
      have h2 : 2 ≤ bs.length := by rw [hl]; omega
      have h8 : bs.length ≤ 8 := by rw [hl]; omega
      obtain ⟨l1, l2, l3⟩ := alike_b h2 h8
      have e0 := atI_map (ns := bs.map b2i) (n := 0) (by rw [List.length_map]; omega)
      rw [List.getElem_map] at e0
      have hh : bs.headD false = bs[0] := by
        cases bs with
        | nil => simp at h2
        | cons b bs => rfl
      refine ⟨_, rfl, a, bs, rfl, hS, h2, h8, ?_⟩
      refine ⟨_, rfl, a, _, 0, _, rfl, rfl, hS, e0, _, rfl, _, rfl, _, rfl, a, _, rfl, hS, fun p hp => ?_⟩
      rw [cut_from (by rw [List.length_map, List.length_map]; exact l2), ← List.map_drop, ← List.map_drop]
      have s1 : Same H (upd H p (.lst (((bs.drop (alikeB bs)).map b2i).map V.int))) := same_new hp
      have hq := h _ s1
      refine ⟨p, _, rfl, .inl (SqL.of upd_same), rfl, flat_ints _, _, rfl, ?_⟩
      rw [if_neg Bool.false_ne_true, inV_bits]
      unfold frontB at hq
      rw [hh] at hq
      refine ite2 (fun z => ?_) (fun z => ?_)
      · rw [if_pos z] at hq
        exact ⟨one_le_line, hq⟩
      · rw [if_neg z] at hq
        refine ⟨_, rfl, a, _, rfl, .inl (s1.seq hS), ?_⟩
        rw [List.length_map, List.length_map]
        refine ⟨_, rfl, _, rfl, a, _, 0, _, rfl, rfl, s1.seq hS, e0, _, rfl, _, _, rfl, rfl, .inr ⟨by omega, by omega⟩, _, rfl, (bs.length : Int), _, _, rfl, guardT_ok (by omega) (by omega) ?_ ?_ ?_⟩
        · unfold b2i; split <;> omega
        · unfold b2i; split <;> omega
        · have e : (b2i bs[0] * (bs.length : Int) + (alikeB bs : Int)) % (2 * (bs.length : Int)) = ((((if bs[0] = true then bs.length else 0) + alikeB bs) % (2 * bs.length) : Nat) : Int) := by
            unfold b2i
            split
            · rw [Int.one_mul]; push_cast; rfl
            · rw [Int.zero_mul]; push_cast; rfl
          rw [e]
          exact hq
    · rw [if_pos c, if_neg d] at h
      exact h
    · rw [if_neg c] at h
      exact h
theorem _root_.L2.Same.nw {H0 H : Hp} {p : Addr} {o : HO} (s : Same H0 H) (n : H p = none) : Same H0 (upd H p o) := s.trans (same_new n)
theorem eight_line : 2000 ≤ sizeLine := by decide
/-! ### rows of marks -/
def marksOk (ns : List Int) : Bool := ns.all fun x => decide (0 ≤ x) && decide (x ≤ 3)
def lapI (m : Int) : Int := m / 2
def tbI (m : Int) : Int := if m / 2 = m % 2 then 0 else 1
def mwI (l b : Int) : Int := 2 * l + (if b = 0 then l else 1 - l)
theorem marks_mem {ns : List Int} (h : marksOk ns = true) {x : Int} (hx : x ∈ ns) : 0 ≤ x ∧ x ≤ 3 := by
  have h := List.all_eq_true.mp h x hx
  simpa using h
theorem mark_bad {ns : List Int} {i : Nat} {x : Int} (h : (ns.map V.int)[i]? = some (.int x)) (hx : ¬ (0 ≤ x ∧ x ≤ 3)) : marksOk ns = false := by
  rw [List.getElem?_map] at h
  cases e : ns[i]? with
  | none => rw [e] at h; cases h
  | some y =>
    rw [e] at h
    cases h
    cases hb : marksOk ns with
    | false => rfl
    | true => exact absurd (marks_mem hb (List.mem_of_getElem? e)) hx
theorem marks_good {ns : List Int} (h : ∀ (i : Nat) (x : Int), (ns.map V.int)[i]? = some (.int x) → 0 ≤ x ∧ x ≤ 3) : marksOk ns = true := by
  refine List.all_eq_true.mpr fun x hx => ?_
  obtain ⟨i, hi⟩ := List.getElem?_of_mem hx
  have := h i x (by rw [List.getElem?_map, hi]; rfl)
  simpa using this
theorem laps_ok {ns : List Int} (h : marksOk ns = true) : bitsOk (ns.map lapI) = true := by
  refine List.all_eq_true.mpr fun x hx => ?_
  obtain ⟨m, hm, rfl⟩ := List.mem_map.mp hx
  have := marks_mem h hm
  have e : lapI m = 0 ∨ lapI m = 1 := by unfold lapI; omega
  simpa using e
theorem tbits_ok (ns : List Int) : bitsOk (ns.map tbI) = true := by
  refine List.all_eq_true.mpr fun x hx => ?_
  obtain ⟨m, hm, rfl⟩ := List.mem_map.mp hx
  have e : tbI m = 0 ∨ tbI m = 1 := by unfold tbI; split <;> simp
  simpa using e
def sp_mark_lap : Sp := fun vs H Q E => ∃ m, vs = [.int m] ∧ Q (.int (m / 2)) H
def sp_mark_side : Sp := fun vs H Q E => ∃ m, vs = [.int m] ∧ Q (.int (m % 2)) H
def sp_taker_bit : Sp := fun vs H Q E => ∃ m, vs = [.int m] ∧ Q (.int (tbI m)) H
def sp_mark_with : Sp := fun vs H Q E => ∃ l b, vs = [.int l, .int b] ∧ Q (.int (mwI l b)) H
abbrev s_mark_lap : Stmt := top 29
theorem sc_mark_lap : FnScope ["mark"] ["mark"] (defScope s_mark_lap) := ⟨rfl, rfl, rfl, by decide +kernel, rfl, by decide +kernel, by decide +kernel⟩
theorem ok_mark_lap (D : DefT K mg "mark_lap" s_mark_lap ["mark"]) (T : Txt K mg cl) : FnT P w K mg base "mark_lap" 1 ["mark"] sp_mark_lap := by
  refine D.fn sc_mark_lap (fun vs H Q E h => ?_) (fun f cdv A outer s H vs Q E hr h => ?_)
  · obtain ⟨a, rfl, _⟩ := h
    rfl
  · obtain ⟨a, rfl, h⟩ := h
    refine ⟨_, (pss_one (ps_ret (pe_op op_fdivB (pv 0) pe_int))), ?_⟩
    exact ⟨_, rfl, _, _, rfl, rfl, ⟨by decide, nlog 2 (by decide) (by decide)⟩, h⟩
abbrev s_mark_side : Stmt := top 30
theorem sc_mark_side : FnScope ["mark"] ["mark"] (defScope s_mark_side) := ⟨rfl, rfl, rfl, by decide +kernel, rfl, by decide +kernel, by decide +kernel⟩
theorem ok_mark_side (D : DefT K mg "mark_side" s_mark_side ["mark"]) (T : Txt K mg cl) : FnT P w K mg base "mark_side" 1 ["mark"] sp_mark_side := by
  refine D.fn sc_mark_side (fun vs H Q E h => ?_) (fun f cdv A outer s H vs Q E hr h => ?_)
  · obtain ⟨a, rfl, _⟩ := h
    rfl
  · obtain ⟨a, rfl, h⟩ := h
    refine ⟨_, (pss_one (ps_ret (pe_op op_mod (pv 0) pe_int))), ?_⟩
    exact ⟨_, rfl, _, _, rfl, rfl, (by show (0 : Int) < 2; decide), h⟩
abbrev s_taker_bit : Stmt := top 55
theorem sc_taker_bit : FnScope ["mark"] ["mark"] (defScope s_taker_bit) := ⟨rfl, rfl, rfl, by decide +kernel, rfl, by decide +kernel, by decide +kernel⟩
theorem ok_taker_bit (D : DefT K mg "taker_bit" s_taker_bit ["mark"]) (T : Txt K mg cl) (G_mark_lap : FnT P w K mg base "mark_lap" 1 ["mark"] sp_mark_lap) (G_mark_side : FnT P w K mg base "mark_side" 1 ["mark"] sp_mark_side) : FnT P w K mg base "taker_bit" 2 ["mark"] sp_taker_bit := by
  refine D.fn sc_taker_bit (fun vs H Q E h => ?_) (fun f cdv A outer s H vs Q E hr h => ?_)
  · obtain ⟨a, rfl, _⟩ := h
    rfl
  · obtain ⟨m, rfl, h⟩ := h
    refine ⟨_, (pss_one (ps_ret (pe_ifExp (pt_cmpR op_ne (pe_fn G_mark_lap hr (by decide) rfl passX (pa_cons (pv 0) pa_nil)) (pe_fn G_mark_side hr (by decide) rfl passX (pa_cons (pv 0) pa_nil)) (nomark _)) pe_int pe_int))), ?_⟩
    refine ⟨_, rfl, m, rfl, _, rfl, m, rfl, rfl, _, rfl, ite2 (fun c => ?_) (fun c => ?_)⟩
    · have e : tbI m = 1 := by
        unfold tbI
        rw [if_neg]
        intro e
        rw [e] at c
        simp at c
      rw [e] at h
      exact h
    · have e : tbI m = 0 := by
        unfold tbI
        rw [if_pos]
        simpa using c
      rw [e] at h
      exact h
def marksG (cl : Cl) (ns : List Int) (H : Hp) (E : XK) (k : Prop) : Prop := if 2 ≤ (ns.length : Int) ∧ (ns.length : Int) ≤ 8 then (if marksOk ns = true then k else E (.ref cl.BadMark) none H) else E (.ref cl.BadSize) none H
theorem marksG_imp {cl : Cl} {ns : List Int} {H : Hp} {E : XK} {k k' : Prop} (h : marksG cl ns H E k) (i : 2 ≤ ns.length → ns.length ≤ 8 → marksOk ns = true → k → k') : marksG cl ns H E k' := by
  unfold marksG at h ⊢
  by_cases a : 2 ≤ (ns.length : Int) ∧ (ns.length : Int) ≤ 8
  · rw [if_pos a] at h ⊢
    by_cases b : marksOk ns = true
    · rw [if_pos b] at h ⊢; exact i (by omega) (by omega) b h
    · rw [if_neg b] at h ⊢; exact h
  · rw [if_neg a] at h ⊢; exact h
theorem marksG_ok {cl : Cl} {ns : List Int} {H : Hp} {E : XK} {k : Prop} (h2 : 2 ≤ ns.length) (h8 : ns.length ≤ 8) (hm : marksOk ns = true) (h : k) : marksG cl ns H E k := by
  unfold marksG
  rw [if_pos ⟨by omega, by omega⟩, if_pos hm]
  exact h
def sp_check_marks (K : PySem.W.Frag) (cl : Cl) : Sp := fun vs H Q E => ∃ a ns, vs = [.ref a] ∧ SqL K H a (ns.map V.int) ∧ marksG cl ns H E (Q .non H)
abbrev s_check_marks : Stmt := top 52
theorem sc_check_marks : FnScope ["marks", "mark"] ["marks"] (defScope s_check_marks) := ⟨rfl, rfl, rfl, by decide +kernel, rfl, by decide +kernel, by decide +kernel⟩
theorem ok_check_marks (D : DefT K mg "check_marks" s_check_marks ["marks"]) (T : Txt K mg cl) (G_check_size : FnT P w K mg base "check_size" 1 ["size"] (sp_check_size cl)) (G_check_mark : FnT P w K mg base "check_mark" 1 ["mark"] (sp_check_mark cl)) : FnT P w K mg base "check_marks" 2 ["marks"] (sp_check_marks K cl) := by
  refine D.fn sc_check_marks (fun vs H Q E h => ?_) (fun f cdv A outer s H vs Q E hr h => ?_)
  · obtain ⟨a, ns, rfl, _⟩ := h
    rfl
  · obtain ⟨a, ns, rfl, hS, h⟩ := h
    refine ⟨_, (pss_cons (ps_expr (pe_fn G_check_size hr (by decide) rfl passX (pa_cons (pe_callB (call_lenK (K := K)) (by rfl) T.z_len PySem.boot_len (pa_cons (pv 0) pa_nil)) pa_nil)))
      (pss_one (ps_for passOwnX rfl (pi_listK (K := K) (pv 0)) (pg_name (i := 1) sc_check_marks.nd rfl (by first | exact Or.inl rfl | exact Or.inr rfl))
        (pss_one (ps_expr (pe_fn G_check_mark hr (by decide) rfl passX (pa_cons (pv 1) pa_nil))))))), ?_⟩
    unfold marksG at h
    refine ⟨_, rfl, a, _, rfl, .inl hS, _, rfl, ?_⟩
    rw [List.length_map]
    refine ite2 (fun c => ?_) (fun c => ?_)
    · rw [if_pos c] at h
      refine ⟨_, rfl, a, rfl, ⟨_, hS⟩, for_list (xs := ns.map V.int) (fun i σ H' => ∃ x, σ = [some (.ref a), x] ∧ H' = H ∧ ∀ (j : Nat) (y : Int), j < i → (ns.map V.int)[j]? = some (.int y) → 0 ≤ y ∧ y ≤ 3) ⟨_, rfl, rfl, fun j y hj => absurd hj (Nat.not_lt_zero _)⟩ ?_ ?_ ?_⟩
      · rintro i σ H' _ ⟨x, rfl, rfl, _⟩
        exact hS
      · rintro i x σ H' hx ⟨y, rfl, rfl, hb⟩
        obtain ⟨v, rfl⟩ := ints_at hx
        refine ⟨_, rfl, v, rfl, ite2 (fun d => ?_) (fun d => ?_)⟩
        · refine ⟨_, rfl, rfl, fun j y hj e => ?_⟩
          by_cases hji : j < i
          · exact hb j y hji e
          · have : j = i := by omega
            subst this
            rw [hx] at e
            cases e
            exact d
        · rw [if_neg (by rw [mark_bad hx d]; decide)] at h
          exact h
      · rintro σ H' ⟨x, rfl, rfl, hb⟩
        rw [if_pos (marks_good fun i x e => hb i x (List.getElem?_eq_some_iff.mp e).1 e)] at h
        exact h
    · rw [if_neg c] at h
      exact h
theorem front_row {ns row : List Int} {H1 : Hp} {E : XK} {k : Nat → Hp → Prop} (hl : row.length = ns.length) (h2 : 2 ≤ ns.length) (h8 : ns.length ≤ 8) (hb : bitsOk row = true) (hs : ∀ f H', Same H1 H' → frontB (toB row) = some f → k f H') (hn : ∀ H', Same H1 H' → frontB (toB row) = none → E (.ref cl.Crooked) none H') : frontG cl row H1 E k := by
  unfold frontG
  rw [if_pos ⟨by omega, by omega⟩, if_pos hb]
  intro H' s
  cases e : frontB (toB row) with
  | none => exact hn H' s e
  | some f => exact hs f H' s e
def turnP (cl : Cl) (row : List Int) (H : Hp) (E : XK) (k : Nat → Hp → Prop) : Prop := (∀ f H', Same H H' → frontB (toB row) = some f → k f H') ∧ ∀ H', Same H H' → frontB (toB row) = none → E (.ref cl.Crooked) none H'
def sp_giver_turn (K : PySem.W.Frag) (cl : Cl) : Sp := fun vs H Q E => ∃ a ns, vs = [.ref a] ∧ SqL K H a (ns.map V.int) ∧ (∃ o, H a = some o) ∧ marksG cl ns H E (turnP cl (ns.map lapI) H E fun f H' => Q (.int (f : Nat)) H')
def sp_taker_turn (K : PySem.W.Frag) (cl : Cl) : Sp := fun vs H Q E => ∃ a ns, vs = [.ref a] ∧ SqL K H a (ns.map V.int) ∧ (∃ o, H a = some o) ∧ marksG cl ns H E (turnP cl (ns.map tbI) H E fun f H' => Q (.int (f : Nat)) H')
def onI (f : Int → Int) : V → V
  | .int m => .int (f m)
  | v => v
theorem map_onI (f : Int → Int) (ns : List Int) : (ns.map V.int).map (onI f) = (ns.map f).map V.int := by rw [List.map_map, List.map_map]; rfl
abbrev s_giver_turn : Stmt := top 56
theorem sc_giver_turn : FnScope ["marks"] ["marks"] (defScope s_giver_turn) := ⟨rfl, rfl, rfl, by decide +kernel, rfl, by decide +kernel, by decide +kernel⟩
theorem ok_giver_turn (D : DefT K mg "giver_turn" s_giver_turn ["marks"]) (T : Txt K mg cl) (G_check_marks : FnT P w K mg base "check_marks" 2 ["marks"] (sp_check_marks K cl)) (G_mark_lap : FnT P w K mg base "mark_lap" 1 ["mark"] sp_mark_lap) (G_front : FnT P w K mg base "front" 4 ["bits"] (sp_front K cl)) : FnT P w K mg base "giver_turn" 5 ["marks"] (sp_giver_turn K cl) := by
  refine D.fn sc_giver_turn (fun vs H Q E h => ?_) (fun f cdv A outer s H vs Q E hr h => ?_)
  · obtain ⟨a, ns, rfl, _⟩ := h
    rfl
  · obtain ⟨a, ns, rfl, hS, ha, h⟩ := h
    refine ⟨_, (pss_cons (ps_expr (pe_fn G_check_marks hr (by decide) rfl passX (pa_cons (pv 0) pa_nil)))
      (pss_one (ps_ret (pe_fn G_front hr (by decide) rfl passX (pa_cons (pe_comp (N := ["mark"]) (nt := 1) (fr := []) rfl (comp_ok0 rfl rfl (by decide +kernel) (by decide +kernel) rfl rfl) (pi_listK (K := K) (pv 0)) (gk_name (by decide)) (fun _ _ _ _ _ => pg_name (i := 0) (show (["mark"] : List Str).Nodup by decide +kernel) rfl (Or.inl rfl) (Or.inr rfl)) (fun _ _ _ _ _ => (pe_fn G_mark_lap hr (by decide) rfl passC (pa_cons (pv 0) pa_nil)))) pa_nil))))), ?_⟩
    refine ⟨_, rfl, a, ns, rfl, hS, marksG_imp h fun h2 h8 hm q => ?_⟩
    refine ⟨_, rfl, a, rfl, ⟨_, hS⟩, comp_list (xs := ns.map V.int) (f := onI lapI) hS (by rw [List.length_map]; have := eight_line; omega) ha ?_ ?_⟩
    · intro i x H' kk hx _ q
      obtain ⟨v, rfl⟩ := ints_at hx
      exact ⟨_, rfl, v, rfl, q⟩
    · intro c hc
      rw [map_onI]
      exact ⟨c, ns.map lapI, rfl, SqL.of upd_same, front_row (ns := ns) (List.length_map _) h2 h8 (laps_ok hm) (fun f H' s e => q.1 f H' ((same_new hc).trans s) e) (fun H' s e => q.2 H' ((same_new hc).trans s) e)⟩
abbrev s_taker_turn : Stmt := top 57
theorem sc_taker_turn : FnScope ["marks"] ["marks"] (defScope s_taker_turn) := ⟨rfl, rfl, rfl, by decide +kernel, rfl, by decide +kernel, by decide +kernel⟩
theorem ok_taker_turn (D : DefT K mg "taker_turn" s_taker_turn ["marks"]) (T : Txt K mg cl) (G_check_marks : FnT P w K mg base "check_marks" 2 ["marks"] (sp_check_marks K cl)) (G_taker_bit : FnT P w K mg base "taker_bit" 2 ["mark"] sp_taker_bit) (G_front : FnT P w K mg base "front" 4 ["bits"] (sp_front K cl)) : FnT P w K mg base "taker_turn" 5 ["marks"] (sp_taker_turn K cl) := by
  refine D.fn sc_taker_turn (fun vs H Q E h => ?_) (fun f cdv A outer s H vs Q E hr h => ?_)
  · obtain ⟨a, ns, rfl, _⟩ := h
    rfl
  · obtain ⟨a, ns, rfl, hS, ha, h⟩ := h
    refine ⟨_, (pss_cons (ps_expr (pe_fn G_check_marks hr (by decide) rfl passX (pa_cons (pv 0) pa_nil)))
      (pss_one (ps_ret (pe_fn G_front hr (by decide) rfl passX (pa_cons (pe_comp (N := ["mark"]) (nt := 1) (fr := []) rfl (comp_ok0 rfl rfl (by decide +kernel) (by decide +kernel) rfl rfl) (pi_listK (K := K) (pv 0)) (gk_name (by decide)) (fun _ _ _ _ _ => pg_name (i := 0) (show (["mark"] : List Str).Nodup by decide +kernel) rfl (Or.inl rfl) (Or.inr rfl)) (fun _ _ _ _ _ => (pe_fn G_taker_bit hr (by decide) rfl passC (pa_cons (pv 0) pa_nil)))) pa_nil))))), ?_⟩
    refine ⟨_, rfl, a, ns, rfl, hS, marksG_imp h fun h2 h8 hm q => ?_⟩
    refine ⟨_, rfl, a, rfl, ⟨_, hS⟩, comp_list (xs := ns.map V.int) (f := onI tbI) hS (by rw [List.length_map]; have := eight_line; omega) ha ?_ ?_⟩
    · intro i x H' kk hx _ q
      obtain ⟨v, rfl⟩ := ints_at hx
      exact ⟨_, rfl, v, rfl, q⟩
    · intro c hc
      rw [map_onI]
      exact ⟨c, ns.map tbI, rfl, SqL.of upd_same, front_row (ns := ns) (List.length_map _) h2 h8 (tbits_ok ns) (fun f H' s e => q.1 f H' ((same_new hc).trans s) e) (fun H' s e => q.2 H' ((same_new hc).trans s) e)⟩
def rowI (n t : Nat) : List Int := (rowB n t).map b2i
def eltI (n t j : Nat) : Int := if (0 + (j : Int)) < (t : Int) % (n : Int) then (t : Int) / (n : Int) else 1 - (t : Int) / (n : Int)
theorem row_all : (List.range 7).all (fun m => (List.range (2 * (m + 2))).all fun t => (List.range (m + 2)).map (eltI (m + 2) t) == rowI (m + 2) t) = true := by decide +kernel
theorem row_at {n t : Nat} (n2 : 2 ≤ n) (n8 : n ≤ 8) (ht : t < 2 * n) : (List.range n).map (eltI n t) = rowI n t := by
  have h := List.all_eq_true.mp row_all (n - 2) (List.mem_range.mpr (by omega))
  rw [show n - 2 + 2 = n by omega] at h
  have h := List.all_eq_true.mp h t (List.mem_range.mpr ht)
  simpa using h
theorem rowI_len {n t : Nat} (n2 : 2 ≤ n) : (rowI n t).length = n := by
  unfold rowI rowB
  have := Nat.mod_lt t (show 0 < n by omega)
  rw [List.length_map, List.length_append, List.length_replicate, List.length_replicate]
  omega
def sp_bits_before (cl : Cl) : Sp := fun vs H Q E => ∃ n t, vs = [.int n, .int t] ∧ guardT cl n t H E (∀ D H', H D = none → Same H H' → H' D = some (.lst ((rowI n.toNat t.toNat).map V.int)) → Q (.ref D) H')
def marksI (n t g : Nat) : List Int := List.zipWith mwI (rowI n g) (rowI n t)
def on2I (f : Int → Int → Int) : V → V → V
  | .int l, .int b => .int (f l b)
  | v, _ => v
theorem zip_on2I (f : Int → Int → Int) : ∀ (xs ys : List Int), List.zipWith (on2I f) (xs.map V.int) (ys.map V.int) = (List.zipWith f xs ys).map V.int
  | [], _ => rfl
  | _ :: _, [] => rfl
  | x :: xs, y :: ys => congrArg (V.int (f x y) :: ·) (zip_on2I f xs ys)
def sp_marks_of (cl : Cl) : Sp := fun vs H Q E => ∃ n t g, vs = [.int n, .int t, .int g] ∧ guardT cl n t H E (guardT cl n g H E (if n < (g - t) % (2 * n) then (∀ H', Same H H' → E (.ref cl.Crooked) none H') else ∀ D H', H D = none → Same H H' → H' D = some (.lst ((marksI n.toNat t.toNat g.toNat).map V.int)) → Q (.ref D) H'))
theorem front_lt {bs : List Bool} {f : Nat} (h2 : 2 ≤ bs.length) (h : frontB bs = some f) : f < 2 * bs.length := by
  unfold frontB at h
  split at h
  · cases h
  · cases h
    exact Nat.mod_lt _ (by omega)
def soundO (n : Nat) (t g : Option Nat) : Bool := match t, g with
  | some t, some g => decide (((g : Int) - (t : Int)) % (2 * (n : Int)) ≤ (n : Int))
  | _, _ => false
def soundI (ns : List Int) : Bool := soundO ns.length (frontB (toB (ns.map tbI))) (frontB (toB (ns.map lapI)))
def sp_sound_marks (K : PySem.W.Frag) (cl : Cl) : Sp := fun vs H Q E => ∃ a ns, vs = [.ref a] ∧ SqL K H a (ns.map V.int) ∧ (∃ o, H a = some o) ∧ marksG cl ns H E (∀ H', Same H H' → Q (.bl (soundI ns)) H')
abbrev s_sound_marks : Stmt := top 58
theorem sc_sound_marks : FnScope ["marks", "ahead"] ["marks"] (defScope s_sound_marks) := ⟨rfl, rfl, rfl, by decide +kernel, rfl, by decide +kernel, by decide +kernel⟩
theorem ok_sound_marks (D : DefT K mg "sound_marks" s_sound_marks ["marks"]) (T : Txt K mg cl) (cx : PySem.W.exmOne K (.ref cl.Crooked) (.ref cl.Crooked) = some true) (G_check_marks : FnT P w K mg base "check_marks" 2 ["marks"] (sp_check_marks K cl)) (G_distance : FnT P w K mg base "distance" 3 ["size", "one", "other"] (sp_distance cl)) (G_taker_turn : FnT P w K mg base "taker_turn" 5 ["marks"] (sp_taker_turn K cl)) (G_giver_turn : FnT P w K mg base "giver_turn" 5 ["marks"] (sp_giver_turn K cl)) : FnT P w K mg base "sound_marks" 6 ["marks"] (sp_sound_marks K cl) := by
  refine D.fn sc_sound_marks (fun vs H Q E h => ?_) (fun f cdv A outer s H vs Q E hr h => ?_)
  · obtain ⟨a, ns, rfl, _⟩ := h
    rfl
  · obtain ⟨a, ns, rfl, hS, ⟨oa, ha⟩, h⟩ := h
    refine' ⟨_, (pss_cons (ps_expr (pe_fn G_check_marks hr (by decide) rfl passX (pa_cons (pv 0) pa_nil)))
      (pss_cons (ps_try rfl rfl rfl rfl T.c_Crooked.m ?tb ?th)
      (pss_one (ps_ret (pe_cmpR op_le (pv 1) (pe_callB (call_lenK (K := K)) (by rfl) T.z_len PySem.boot_len (pa_cons (pv 0) pa_nil)) (nomark _)))))), ?rd⟩
    case tb => exact fun _ _ _ hx => (pss_one (ps_set (i := 1) sc_sound_marks.nd rfl (by first | exact Or.inl rfl | exact Or.inr rfl) (pe_fnJ G_distance hr (by decide) rfl hx (pa_cons (pe_callB (call_lenK (K := K)) (by rfl) T.z_len PySem.boot_len (pa_cons (pv 0) pa_nil)) (pa_cons (pe_fnJ G_taker_turn hr (by decide) rfl hx (pa_cons (pv 0) pa_nil)) (pa_cons (pe_fnJ G_giver_turn hr (by decide) rfl hx (pa_cons (pv 0) pa_nil)) pa_nil))))))
    case th => exact fun _ _ => (pss_one (ps_ret pe_bl))
    refine ⟨_, rfl, a, ns, rfl, hS, marksG_imp h fun h2 h8 hm q => ?_⟩
    have ll : (toB (ns.map lapI)).length = ns.length := by rw [toB_len, List.length_map]
    have lt : (toB (ns.map tbI)).length = ns.length := by rw [toB_len, List.length_map]
    unfold soundI at q
    refine ⟨_, rfl, a, _, rfl, .inl hS, ?_⟩
    rw [List.length_map]
    refine ⟨_, rfl, a, ns, rfl, hS, ⟨_, ha⟩, marksG_ok h2 h8 hm ⟨fun t H1 s1 et => ?_, fun H1 s1 et => ?_⟩⟩
    · rw [et] at q
      have t1 := front_lt (by omega) et
      refine ⟨_, rfl, a, ns, rfl, s1.seq hS, ⟨_, s1 _ _ ha⟩, marksG_ok h2 h8 hm ⟨fun g H2 s2 eg => ?_, fun H2 s2 eg => ?_⟩⟩
      · rw [eg] at q
        have g1 := front_lt (by omega) eg
        refine ⟨_, _, _, rfl, guardT_ok (by omega) (by omega) (by omega) (by omega) (guardT_ok (by omega) (by omega) (by omega) (by omega) ?_)⟩
        refine ⟨_, rfl, _, rfl, a, _, rfl, .inl ((s1.trans s2).seq hS), ?_⟩
        rw [List.length_map]
        exact ⟨_, _, rfl, rfl, q H2 (s1.trans s2)⟩
      · rw [eg] at q
        exact ⟨cx, q H2 (s1.trans s2)⟩
    · rw [et] at q
      exact ⟨cx, q H1 s1⟩
theorem But.nw {w : Addr} {H0 H : Hp} {p : Addr} {o : HO} (s : But w H0 H) (n : H p = none) : But w H0 (L2.upd H p o) := s.trans (But.of (same_new n))
theorem But.free {w p : Addr} {H0 H : Hp} (s : But w H0 H) (hw : Well H w) (n : H p = none) : H0 p = none := by
  cases e : H0 p with
  | none => rfl
  | some o =>
    have := s p o e (hw.ne n)
    rw [n] at this
    cases this
theorem _root_.L2.Same.set {H H' : Hp} {p : Addr} {o : HO} (s : Same H H') (n : H p = none) : Same H (upd H' p o) := fun b u e => by rw [upd_ne (ne_of_none e n)]; exact s b u e
theorem eqd_same {H : Hp} {p q : Addr} {ns : List Int} (ne : p ≠ q) (hp : H p = some (.lst (ns.map V.int))) (hq : H q = some (.lst (ns.map V.int))) : EqD K H 1 (.ref p) (.ref q) true := by
  have h := eqd_flat (K := K) ne (SqL.of hp) (SqL.of hq) (flat_ints _) (flat_ints _)
  rw [eqL_ints] at h
  simpa using h
theorem eqd_sameB {H : Hp} {p q : Addr} {ns : List Bool} (ne : p ≠ q) (hp : H p = some (.lst (ns.map V.bl))) (hq : H q = some (.lst (ns.map V.bl))) : EqD K H 1 (.ref p) (.ref q) true := by
  have h := eqd_flat (K := K) ne (SqL.of hp) (SqL.of hq) (flat_bls _) (flat_bls _)
  rw [eqL_bls] at h
  simpa using h
theorem ne_same {x y : Int} (h : x = y) : (!decide (V.int x = V.int y)) = false := by subst h; simp
theorem ix_nat {l j : Nat} (h : j < l) : ixN l (j : Int) = some j := by
  unfold ixN
  rw [if_pos (by omega), if_pos (by omega)]
  exact congrArg some (by omega)
theorem blrow (b : Nat → Bool) (i : Nat) (y : Bool) (h : y = b i) : ((List.range i).map b).map V.bl ++ [V.bl y] = ((List.range (i + 1)).map b).map V.bl := by
  subst h
  rw [List.range_succ, List.map_append, List.map_append]
  rfl
theorem blrow_len (b : Nat → Bool) (i : Nat) : (((List.range i).map b).map V.bl).length = i := by rw [List.length_map, List.length_map, List.length_range]
theorem inrow (b : Nat → Int) (i : Nat) (y : Int) (h : y = b i) : ((List.range i).map b).map V.int ++ [V.int y] = ((List.range (i + 1)).map b).map V.int := by
  subst h
  rw [List.range_succ, List.map_append, List.map_append]
  rfl
theorem inrow_len (b : Nat → Int) (i : Nat) : (((List.range i).map b).map V.int).length = i := by rw [List.length_map, List.length_map, List.length_range]
/-! ### the marks by counting -/
def manyI (n g p : Int) : Int := (g - p + n - 1) / n
def lmI (n f g p : Int) : Int := if manyI n g p = 0 then 2 else 2 * ((manyI n g p - 1) % 2) + (if f ≤ p + n * (manyI n g p - 1) then 1 else 0)
def lmRow (n : Nat) (f g : Int) : List Int := (List.range n).map fun (p : Nat) => lmI n f g (0 + (p : Int))
theorem lmRow_len (n : Nat) (f g : Int) : (lmRow n f g).length = n := by unfold lmRow; rw [List.length_map, List.length_range]
def sp_law_marks : Sp := fun vs H Q _ => ∃ (n : Nat) (f g : Int), vs = [.int (n : Int), .int f, .int g] ∧ 2 ≤ n ∧ n ≤ 8 ∧ ∀ l H', H l = none → Same H H' → H' l = some (.lst ((lmRow n f g).map V.int)) → Q (.ref l) H'
abbrev s_law_marks : Stmt := top 71
theorem sc_law_marks : FnScope ["size", "freed", "given", "marks", "place", "many", "last"] ["size", "freed", "given"] (defScope s_law_marks) := ⟨rfl, rfl, rfl, by decide +kernel, rfl, by decide +kernel, by decide +kernel⟩
theorem ok_law_marks (D : DefT K mg "_law_marks" s_law_marks ["size", "freed", "given"]) (T : Txt K mg cl) : FnT P w K mg base "_law_marks" 1 ["size", "freed", "given"] sp_law_marks := by
  refine D.fn sc_law_marks (fun vs H Q E h => ?_) (fun f cdv A outer s H vs Q E hr h => ?_)
  · obtain ⟨n, f, g, rfl, _⟩ := h
    rfl
  · obtain ⟨n, f, g, rfl, h2, h8, k⟩ := h
    refine ⟨_, (pss_cons (ps_set (i := 3) sc_law_marks.nd rfl (by first | exact Or.inl rfl | exact Or.inr rfl) (pe_lst pa_nil))
      (pss_cons (ps_for passOwnX rfl (pi_range1 rfl T.z_range (pa_cons (pv 0) pa_nil)) (pg_name (i := 4) sc_law_marks.nd rfl (by first | exact Or.inl rfl | exact Or.inr rfl))
         (pss_cons (ps_set (i := 5) sc_law_marks.nd rfl (by first | exact Or.inl rfl | exact Or.inr rfl) (pe_op op_fdivB (pe_op op_sub (pe_op op_add (pe_op op_sub (pv 2) (pv 4)) (pv 0)) pe_int) (pv 0)))
          (pss_cons (ps_set (i := 6) sc_law_marks.nd rfl (by first | exact Or.inl rfl | exact Or.inr rfl) (pe_op op_add (pv 4) (pe_op op_mul (pv 0) (pe_op op_sub (pv 5) pe_int))))
          (pss_one (ps_if (pt_cmpR op_eq (pv 5) pe_int (nomark _))
            (pss_one (ps_expr (pe_appendK (K := K) (pv 3) (pa_cons pe_int pa_nil))))
            (pss_one (ps_expr (pe_appendK (K := K) (pv 3) (pa_cons (pe_op op_add (pe_op op_mul pe_int (pe_op op_mod (pe_op op_sub (pv 5) pe_int) pe_int)) (pe_callTy call_int1 (by rfl) T.z_int PyProof.Rows.boot_int (pa_cons (pe_cmpR op_ge (pv 6) (pv 1) (nomark _)) pa_nil))) pa_nil)))))))))
      (pss_one (ps_ret (pv 3))))), ?_⟩
    have h8l := eight_line
    refine ⟨Nat.zero_le _, fun p3 h3 => ?_⟩
    refine ⟨_, rfl, (n : Int), rfl, by omega, by omega, ?_⟩
    rw [show ((n : Int)).toNat = n by omega]
    refine for_range (n := n) (fun i σ H' => ∃ x4 x5 x6, σ = [some (.int (n : Int)), some (.int f), some (.int g), some (.ref p3), x4, x5, x6] ∧ Same H H' ∧ H' p3 = some (.lst (((List.range i).map fun (p : Nat) => lmI n f g (0 + (p : Int))).map V.int))) ⟨_, _, _, rfl, same_new h3, upd_same⟩ ?_ ?_
    · rintro i σ H1 hi ⟨x4, x5, x6, rfl, s1, e3⟩
      refine ⟨_, rfl, _, rfl, _, _, rfl, rfl, _, rfl, _, _, rfl, rfl, _, _, rfl, rfl, _, rfl, _, _, rfl, rfl, ⟨by omega, nlog _ (by omega) (by omega)⟩, ?_⟩
      refine ⟨_, rfl, _, rfl, _, rfl, _, _, rfl, rfl, _, _, rfl, rfl, .inl ⟨by omega, by omega⟩, _, _, rfl, rfl, ?_⟩
      refine ⟨_, rfl, rfl, _, rfl, ite2 (fun c => ?_) (fun c => ?_)⟩
      · have c : manyI n g (0 + (i : Int)) = 0 := by have := of_decide_eq_true c; exact (V.int.inj this)
        refine ⟨_, rfl, .inl ⟨rfl, _, SqL.of e3⟩, p3, _, _, rfl, rfl, e3, by rw [inrow_len]; omega, ?_⟩
        rw [inrow _ _ _ (by unfold lmI; rw [if_pos c])]
        exact ⟨_, _, _, rfl, s1.set h3, upd_same⟩
      · have c : ¬ manyI n g (0 + (i : Int)) = 0 := fun z => c (decide_eq_true (congrArg V.int z))
        refine ⟨_, rfl, .inl ⟨rfl, _, SqL.of e3⟩, _, rfl, _, _, rfl, rfl, _, _, rfl, rfl, (by show (0 : Int) < 2; decide), _, _, rfl, rfl, .inl ⟨by decide, by decide⟩, _, rfl, _, rfl, _, _, rfl, rfl, .inr ⟨_, rfl, _, _, rfl, rfl, p3, _, _, rfl, rfl, e3, by rw [inrow_len]; omega, ?_⟩⟩
        rw [inrow _ _ _ (by
          unfold lmI
          rw [if_neg c]
          show 2 * ((manyI n g (0 + (i : Int)) - 1) % 2) + (if decide (0 + (i : Int) + n * (manyI n g (0 + (i : Int)) - 1) ≥ f) = true then (1 : Int) else 0) = _
          simp only [decide_eq_true_eq, ge_iff_le])]
        exact ⟨_, _, _, rfl, s1.set h3, upd_same⟩
    · rintro σ H1 ⟨x4, x5, x6, rfl, s1, e3⟩
      exact ⟨_, rfl, k p3 H1 h3 s1 e3⟩
/-! ### what marks are at which turns -/
def row (n f g : Nat) : List Int := marksI n (f % (2 * n)) (g % (2 * n))
def fullV (n u : Nat) : Int := 2 * ((u : Int) / (n : Int)) + 1
def freeV (n u : Nat) : Int := 2 * ((u : Int) / (n : Int)) + 0
def giveV (n u : Nat) : Int := 2 * (1 - (u : Int) / (n : Int)) + 0
def factB (n t d : Nat) : Bool :=
  let g := (t + d) % (2 * n)
  let M := marksI n t g
  M.length == n && marksOk M && frontB (toB (M.map lapI)) == some g && frontB (toB (M.map tbI)) == some t && soundI M &&
    (d == n || M.set (g % n) (fullV n g) == marksI n t ((t + d + 1) % (2 * n))) && (d == 0 || M.set (t % n) (freeV n t) == marksI n ((t + 1) % (2 * n)) g)
def letB (n t d i : Nat) : Bool :=
  let M := marksI n t ((t + d) % (2 * n))
  let u := (t + d + i) % (2 * n)
  let v := (t + i) % (2 * n)
  (decide (M.getD (u % n) 9 = giveV n u) == decide (i < n - d)) && (decide (M.getD (v % n) 9 = fullV n v) == decide (i < d))
def sizes : List Nat := [2, 3, 4, 5, 6, 7, 8]
theorem fact_all : sizes.all (fun n => (List.range (2 * n)).all fun t => (List.range (n + 1)).all fun d => factB n t d && (List.range n).all fun i => letB n t d i) = true := by decide +kernel
theorem size_mem {n : Nat} (h2 : 2 ≤ n) (h8 : n ≤ 8) : n ∈ sizes := by
  have : n = 2 ∨ n = 3 ∨ n = 4 ∨ n = 5 ∨ n = 6 ∨ n = 7 ∨ n = 8 := by omega
  rcases this with rfl | rfl | rfl | rfl | rfl | rfl | rfl <;> decide
theorem fact_at {n t d : Nat} (h2 : 2 ≤ n) (h8 : n ≤ 8) (ht : t < 2 * n) (hd : d ≤ n) : factB n t d = true ∧ ∀ i, i < n → letB n t d i = true := by
  have h := List.all_eq_true.mp fact_all n (size_mem h2 h8)
  have h := List.all_eq_true.mp h t (List.mem_range.mpr ht)
  have h := List.all_eq_true.mp h d (List.mem_range.mpr (by omega))
  rw [Bool.and_eq_true] at h
  exact ⟨h.1, fun i hi => List.all_eq_true.mp h.2 i (List.mem_range.mpr hi)⟩
structure Facts (n f g : Nat) : Prop where
  len : (row n f g).length = n
  ok : marksOk (row n f g) = true
  laps : frontB (toB ((row n f g).map lapI)) = some (g % (2 * n))
  bits : frontB (toB ((row n f g).map tbI)) = some (f % (2 * n))
  sound : soundI (row n f g) = true
  give : g < f + n → (row n f g).set (g % (2 * n) % n) (fullV n (g % (2 * n))) = row n f (g + 1)
  take : f < g → (row n f g).set (f % (2 * n) % n) (freeV n (f % (2 * n))) = row n (f + 1) g
  lg : ∀ i, i < n → decide ((row n f g).getD ((g + i) % (2 * n) % n) 9 = giveV n ((g + i) % (2 * n))) = decide (i < n - (g - f))
  lt : ∀ i, i < n → decide ((row n f g).getD ((f + i) % (2 * n) % n) 9 = fullV n ((f + i) % (2 * n))) = decide (i < g - f)
theorem facts {n f g : Nat} (h2 : 2 ≤ n) (h8 : n ≤ 8) (hf : f ≤ g) (hg : g ≤ f + n) : Facts n f g := by
  obtain ⟨d, rfl⟩ : ∃ d, g = f + d := ⟨g - f, by omega⟩
  obtain ⟨a, b⟩ := fact_at (t := f % (2 * n)) (d := d) h2 h8 (Nat.mod_lt _ (by omega)) (by omega)
  unfold factB at a
  have e1 : (f % (2 * n) + d) % (2 * n) = (f + d) % (2 * n) := Nat.mod_add_mod _ _ _
  have e2 : (f % (2 * n) + d + 1) % (2 * n) = (f + d + 1) % (2 * n) := by rw [Nat.add_assoc, Nat.add_assoc]; exact Nat.mod_add_mod _ _ _
  have e3 : (f % (2 * n) + 1) % (2 * n) = (f + 1) % (2 * n) := Nat.mod_add_mod _ _ _
  simp only [e1, e2, e3, Bool.and_eq_true, beq_iff_eq, Bool.or_eq_true] at a
  obtain ⟨⟨⟨⟨⟨⟨a1, a2⟩, a3⟩, a4⟩, a5⟩, a6⟩, a7⟩ := a
  have bb : ∀ i, i < n → _ ∧ _ := fun i hi => by
    have z := b i hi
    unfold letB at z
    have e4 : (f % (2 * n) + d + i) % (2 * n) = (f + d + i) % (2 * n) := by rw [Nat.add_assoc, Nat.add_assoc]; exact Nat.mod_add_mod _ _ _
    have e5 : (f % (2 * n) + i) % (2 * n) = (f + i) % (2 * n) := Nat.mod_add_mod _ _ _
    simp only [e1, e4, e5, Bool.and_eq_true, beq_iff_eq] at z
    exact z
  refine ⟨a1, a2, a3, a4, a5, fun h => ?_, fun h => ?_, fun i hi => ?_, fun i hi => ?_⟩
  · exact a6.resolve_left (by omega)
  · exact a7.resolve_left (by omega)
  · have z := (bb i hi).1
    rw [show f + d - f = d by omega]
    exact z
  · have z := (bb i hi).2
    rw [show f + d - f = d by omega]
    exact z
theorem castM (g n : Nat) : ((g : Int) % (2 * (n : Int))) = ((g % (2 * n) : Nat) : Int) := by push_cast; rfl
theorem row_get {n f g j : Nat} (F : Facts n f g) (hj : j < n) : atI ((row n f g).map V.int) (j : Int) = some (.int ((row n f g).getD j 9)) ∧ 0 ≤ (row n f g).getD j 9 ∧ (row n f g).getD j 9 ≤ 3 := by
  have hl : j < (row n f g).length := by rw [F.len]; exact hj
  have e : (row n f g).getD j 9 = (row n f g)[j] := by rw [List.getD_eq_getElem?_getD, List.getElem?_eq_getElem hl]; rfl
  rw [e]
  exact ⟨atI_map hl, marks_mem F.ok (List.getElem_mem hl)⟩
theorem marks_in {n f g : Nat} {H : Hp} {E : XK} {a b : Prop} (h2 : 2 ≤ n) (h8 : n ≤ 8) (hf : f ≤ g) (hg : g ≤ f + n) (h : b) : guardT cl (n : Int) ((f : Int) % (2 * (n : Int))) H E (guardT cl (n : Int) ((g : Int) % (2 * (n : Int))) H E (if (n : Int) < ((g : Int) % (2 * (n : Int)) - (f : Int) % (2 * (n : Int))) % (2 * (n : Int)) then a else b)) := by
  have f0 := Int.emod_nonneg (f : Int) (show (2 * (n : Int)) ≠ 0 by omega)
  have f1 := Int.emod_lt_of_pos (f : Int) (show 0 < (2 * (n : Int)) by omega)
  have g0 := Int.emod_nonneg (g : Int) (show (2 * (n : Int)) ≠ 0 by omega)
  have g1 := Int.emod_lt_of_pos (g : Int) (show 0 < (2 * (n : Int)) by omega)
  refine guardT_ok (by omega) (by omega) f0 f1 (guardT_ok (by omega) (by omega) g0 g1 ?_)
  rw [← Int.sub_emod, Int.emod_eq_of_lt (by omega) (by omega), if_neg (by omega)]
  exact h
theorem row_cast (n f g : Nat) : marksI ((n : Int)).toNat ((f : Int) % (2 * (n : Int))).toNat ((g : Int) % (2 * (n : Int))).toNat = row n f g := by
  rw [castM, castM, Int.toNat_natCast, Int.toNat_natCast, Int.toNat_natCast]
  rfl
theorem lm_all : sizes.all (fun n => (List.range (2 * n)).all fun t => (List.range (n + 1)).all fun d => lmRow n (t : Nat) ((t + d : Nat) : Int) == marksI n t ((t + d) % (2 * n)) && ((marksI n t ((t + d) % (2 * n))).filter fun m => m % 2 == 1).length == d) = true := by decide +kernel
theorem lm_period {n f g p : Nat} (h2 : 2 ≤ n) (h8 : n ≤ 8) (hf : f ≤ g) (hg : g ≤ f + n) (hp : p < n) : lmI n f g (0 + (p : Int)) = lmI n ((f % (2 * n) : Nat) : Int) ((f % (2 * n) + (g - f) : Nat) : Int) (0 + (p : Int)) := by
  have : n = 2 ∨ n = 3 ∨ n = 4 ∨ n = 5 ∨ n = 6 ∨ n = 7 ∨ n = 8 := by omega
  unfold lmI manyI
  rcases this with rfl | rfl | rfl | rfl | rfl | rfl | rfl <;> (repeat' split) <;> omega
theorem lm_row {n f g : Nat} (h2 : 2 ≤ n) (h8 : n ≤ 8) (hf : f ≤ g) (hg : g ≤ f + n) : lmRow n f g = row n f g ∧ ((row n f g).filter fun m => m % 2 == 1).length = g - f := by
  have ht : f % (2 * n) < 2 * n := Nat.mod_lt _ (by omega)
  have h := List.all_eq_true.mp lm_all n (size_mem h2 h8)
  have h := List.all_eq_true.mp h (f % (2 * n)) (List.mem_range.mpr ht)
  have h := List.all_eq_true.mp h (g - f) (List.mem_range.mpr (by omega))
  simp only [Bool.and_eq_true, beq_iff_eq] at h
  have e1 : (f % (2 * n) + (g - f)) % (2 * n) = g % (2 * n) := by rw [Nat.mod_add_mod, show f + (g - f) = g by omega]
  rw [e1] at h
  refine ⟨Eq.trans ?_ h.1, h.2⟩
  unfold lmRow
  refine List.map_congr_left fun p hp => ?_
  exact lm_period h2 h8 hf hg (List.mem_range.mp hp)
theorem front_rows : upTo8.all (fun bs => match frontB bs with | some t => rowB bs.length t == bs | none => true) = true := by decide +kernel
theorem front_row_eq {bs : List Bool} (h2 : 2 ≤ bs.length) (h8 : bs.length ≤ 8) {t : Nat} (h : frontB bs = some t) : rowB bs.length t = bs := by
  have z := List.all_eq_true.mp front_rows bs (mem_upTo8 h2 h8)
  rw [h] at z
  simpa using z
theorem mw_back {m : Int} (h : 0 ≤ m ∧ m ≤ 3) : mwI (lapI m) (tbI m) = m := by
  have : m = 0 ∨ m = 1 ∨ m = 2 ∨ m = 3 := by omega
  rcases this with rfl | rfl | rfl | rfl <;> decide
theorem zip_back : ∀ ns : List Int, (∀ x ∈ ns, 0 ≤ x ∧ x ≤ 3) → List.zipWith mwI (ns.map lapI) (ns.map tbI) = ns
  | [], _ => rfl
  | x :: xs, h => by
    show mwI (lapI x) (tbI x) :: List.zipWith mwI (xs.map lapI) (xs.map tbI) = x :: xs
    rw [mw_back (h x (List.mem_cons_self ..)), zip_back xs fun y hy => h y (List.mem_cons_of_mem _ hy)]
theorem bits_row {ns : List Int} {t : Nat} (h2 : 2 ≤ ns.length) (h8 : ns.length ≤ 8) (hb : bitsOk ns = true) (h : frontB (toB ns) = some t) : rowI ns.length t = ns ∧ t < 2 * ns.length := by
  have l := toB_len ns
  have e := front_row_eq (by omega) (by omega) h
  rw [l] at e
  have z := front_lt (by omega) h
  rw [l] at z
  refine ⟨?_, z⟩
  unfold rowI
  rw [e, bitsOk_eq hb]
theorem row_2n (n t d : Nat) (h : 2 ≤ n) : row n (t + 2 * n) (t + 2 * n + d) = row n t (t + d) := by
  unfold row
  rw [Nat.add_mod_right, show t + 2 * n + d = t + d + 2 * n by omega, Nat.add_mod_right]
theorem turn_back {n t g : Nat} (h2 : 2 ≤ n) (h8 : n ≤ 8) (ht : t < 2 * n) (hg : g < 2 * n) (h : ((g : Int) - (t : Int)) % (2 * (n : Int)) ≤ (n : Int)) : ∃ d, d ≤ n ∧ (t + d) % (2 * n) = g := by
  refine ⟨(((g : Int) - (t : Int)) % (2 * (n : Int))).toNat, by omega, ?_⟩
  have : n = 2 ∨ n = 3 ∨ n = 4 ∨ n = 5 ∨ n = 6 ∨ n = 7 ∨ n = 8 := by omega
  rcases this with rfl | rfl | rfl | rfl | rfl | rfl | rfl <;> omega
theorem sound_row {ns : List Int} (h2 : 2 ≤ ns.length) (h8 : ns.length ≤ 8) (hm : marksOk ns = true) (h : soundI ns = true) : ∃ t d, t < 2 * ns.length ∧ d ≤ ns.length ∧ row ns.length t (t + d) = ns := by
  unfold soundI at h
  cases et : frontB (toB (ns.map tbI)) with
  | none => rw [et] at h; cases h
  | some t =>
    cases eg : frontB (toB (ns.map lapI)) with
    | none => rw [et, eg] at h; cases h
    | some g =>
      rw [et, eg] at h
      have h : ((g : Int) - (t : Int)) % (2 * (ns.length : Int)) ≤ (ns.length : Int) := of_decide_eq_true h
      have lt : (ns.map tbI).length = ns.length := List.length_map _
      have lg : (ns.map lapI).length = ns.length := List.length_map _
      obtain ⟨r1, t1⟩ := bits_row (by omega) (by omega) (tbits_ok ns) et
      obtain ⟨r2, g1⟩ := bits_row (by omega) (by omega) (laps_ok hm) eg
      rw [lt] at r1 t1
      rw [lg] at r2 g1
      obtain ⟨d, hd, e⟩ := turn_back h2 h8 t1 g1 h
      refine ⟨t, d, t1, hd, ?_⟩
      unfold row marksI
      rw [e, Nat.mod_eq_of_lt t1, r1, r2]
      exact zip_back ns fun x hx => marks_mem hm hx
theorem sound_iff {ns : List Int} (h2 : 2 ≤ ns.length) (h8 : ns.length ≤ 8) (hm : marksOk ns = true) : soundI ns = true ↔ ∃ t d : Nat, t < 2 * ns.length ∧ d < ns.length + 1 ∧ lmRow ns.length ((t + 2 * ns.length : Nat) : Int) ((t + 2 * ns.length + d : Nat) : Int) = ns := by
  constructor
  · intro h
    obtain ⟨t, d, t1, hd, e⟩ := sound_row h2 h8 hm h
    refine ⟨t, d, t1, by omega, ?_⟩
    rw [(lm_row h2 h8 (by omega) (by omega)).1, row_2n _ _ _ h2, e]
  · rintro ⟨t, d, t1, hd, e⟩
    rw [(lm_row h2 h8 (by omega) (by omega)).1] at e
    have F := facts (n := ns.length) (f := t + 2 * ns.length) (g := t + 2 * ns.length + d) h2 h8 (by omega) (by omega)
    have z := F.sound
    rw [e] at z
    exact z
theorem tb_eq {m : Int} (h : 0 ≤ m ∧ m ≤ 3) : tbI m = (m / 2 + m) % 2 := by
  have : m = 0 ∨ m = 1 ∨ m = 2 ∨ m = 3 := by omega
  rcases this with rfl | rfl | rfl | rfl <;> decide
theorem atI_in {row : List Int} {c : Int} (h0 : 0 ≤ c) (h1 : c < row.length) : atI (row.map V.int) c = some (.int (row.getD c.toNat 0)) := by
  have hn : c.toNat < row.length := by omega
  have e := atI_map hn
  rw [show ((c.toNat : Nat) : Int) = c by omega] at e
  rw [e, List.getD_eq_getElem?_getD, List.getElem?_eq_getElem hn]
  rfl
theorem ixN_in {l : Nat} {c : Int} (h0 : 0 ≤ c) (h1 : c < l) : ixN l c = some c.toNat := by
  unfold ixN
  rw [if_pos h0, if_pos h1]
end
end S

set_option Elab.async false
set_option linter.all false
set_option maxRecDepth 100000
set_option maxHeartbeats 4000000
namespace S
open PySem L2
local macro_rules | `(tactic| walk_at "at") => `(tactic| first | assumption | exact upd_same | (refine (upd_ne ?_).trans ?_; (walk_at "ne"); (walk_at "at")) | (refine Same.at ?_ ?_; assumption; (walk_at "at")))
local macro_rules | `(tactic| walk_at "ne") => `(tactic| first | assumption | exact Ne.symm (by assumption) | ((refine' ne_of_none ?h ?n); (case n => assumption); (case h => walk_at "at")) | ((refine Ne.symm ?_); (refine' ne_of_none ?h ?n); (case n => assumption); (case h => walk_at "at")))
local macro_rules | `(tactic| walk_at "cond") => `(tactic| first | trivial | exact Or.inl ⟨by decide, by decide⟩ | exact Or.inr ⟨by decide, by decide⟩ | exact Or.inl ⟨by omega, by omega⟩ | exact Or.inr ⟨by omega, by omega⟩ | (show (0 : Int) < _; omega) | (show (0 : Int) < _; decide))
local macro_rules | `(tactic| walk_at "go1") => `(tactic| first
  | ((with_reducible refine' g_var ?h ?_); (case h => exact rfl))
  | with_reducible refine g_c ?_ | with_reducible refine g_op ?_ | with_reducible refine g_un ?_ | with_reducible refine g_I0 ?_ | with_reducible refine g_U ?_
  | ((with_reducible refine' g_I ?h ?_); (case h => walk_at "cond"))
  | ((with_reducible refine' g_eq ?h ?_); (case h => exact rfl)) | ((with_reducible refine' g_ne ?h ?_); (case h => exact rfl))
  | with_reducible refine g_cb ?_ | with_reducible refine g_nil ?_ | with_reducible refine g_cons ?_
  | (with_reducible refine g_tup ?_) | (with_reducible refine g_lst ?_) | with_reducible refine g_fn ?_ | with_reducible refine g_fnJ ?_
  | with_reducible refine g_fld ?_ | with_reducible refine g_mt ?_ | with_reducible refine g_mtJ ?_ | with_reducible refine g_mk ?_ | with_reducible refine g_mkJ ?_
  | with_reducible refine g_test ?_ | with_reducible refine g_tB ?_ | with_reducible refine g_and ?_ | with_reducible refine g_or ?_ | with_reducible refine g_not ?_ | with_reducible refine g_andV ?_ | with_reducible refine g_orV ?_ | with_reducible refine g_notV ?_ | with_reducible refine g_ifE ?_
  | with_reducible refine g_bl ?_ | with_reducible refine iteT ?_ | with_reducible refine iteF ?_ | with_reducible refine iteNT ?_ | with_reducible refine iteNF ?_
  | with_reducible refine g_seq ?_ | with_reducible refine g_next ?_ | with_reducible refine g_drop ?_ | with_reducible refine g_ret ?_ | with_reducible refine g_retN ?_ | with_reducible refine g_if ?_ | with_reducible refine g_asg ?_ | with_reducible refine g_name ?_ | with_reducible refine g_sub ?_ | with_reducible refine g_sfld ?_ | with_reducible refine g_raise ?_ | with_reducible refine g_tryAs ?_
  | ((with_reducible refine' g_fld1 ?h ?c ?n ?l ?_); (case h => walk_at "at"); (case c => walk_at "cls"); (case n => walk_at "nat"); (case l => exact rfl))
  | ((with_reducible refine' g_sfld1 ?h ?c ?n ?l ?_); (case h => walk_at "at"); (case c => walk_at "cls"); (case n => walk_at "nat"); (case l => exact Nat.le_of_ble_eq_true rfl))
  | with_reducible refine g_aug ?_ | with_reducible refine g_rAdd ?_
  | ((with_reducible refine' g_aug1 ?h ?c ?n ?l ?_); (case h => walk_at "at"); (case c => walk_at "cls"); (case n => walk_at "nat"); (case l => exact rfl))
  | ((with_reducible refine' g_aug2 ?h ?l ?_); (case h => walk_at "at"); (case l => exact Nat.le_of_ble_eq_true rfl))
  | ((with_reducible refine' g_mt1 ?h ?l ?_); (case h => walk_at "at"); (case l => exact rfl))
  | ((with_reducible refine' g_ixL ?h ?e ?_); (case h => walk_at "at"); (case e => exact rfl))
  | ((with_reducible refine' g_ixT ?h ?e ?_); (case h => walk_at "at"); (case e => exact rfl))
  | ((with_reducible refine' g_len ?h ?_); (case h => walk_at "at")) | ((with_reducible refine' g_list ?h ?_); (case h => walk_at "at"))
  | with_reducible refine g_for ?_ | with_reducible refine g_rng1 ?_ | with_reducible refine g_rng2 ?_ | with_reducible refine g_lsti ?_ | with_reducible refine g_comp ?_
  | ((with_reducible refine' g_rngW ?h1 ?h2 ?_); (case h1 => omega); (case h2 => omega)) | ((with_reducible refine' g_rngW ?h1 ?h2 ?_); (case h1 => decide); (case h2 => decide))
  | ((with_reducible refine' g_lstW ?h ?_); (case h => exact SqL.of (by walk_at "at")))
  | with_reducible refine g_bm0 ?_ | ((with_reducible refine' g_clear ?h ?_); (case h => walk_at "at"))
  | with_reducible refine g_bm ?_ | ((with_reducible refine' g_tyL ?h ?_); (case h => walk_at "at")) | ((with_reducible refine' g_app ?h ?l ?_); (case h => walk_at "at"); (case l => first | exact Nat.le_of_ble_eq_true rfl | omega)))
local macro_rules | `(tactic| walk_at "go") => `(tactic| repeat (walk_at "go1"))
set_option hygiene false in
local macro_rules | `(tactic| walk_at "cls") => `(tactic| first | assumption)
set_option hygiene false in
local macro_rules | `(tactic| walk_at "nat") => `(tactic| first | assumption)
section
variable {P : Program} {w : World} {K : PySem.W.Frag} {mg : Str → Option Value} {base : Heap} {cl : Cl}
/-! ### cells -/
/-- all but the things at ps is as it was -/
def Kp (ps : List Addr) (H H' : Hp) : Prop := ∀ c o, H c = some o → c ∉ ps → H' c = some o
theorem Kp.refl (ps : List Addr) (H : Hp) : Kp ps H H := fun _ _ e _ => e
theorem Kp.trans {ps : List Addr} {H H1 H2 : Hp} (a : Kp ps H H1) (b : Kp ps H1 H2) : Kp ps H H2 := fun c o e n => b c o (a c o e n) n
theorem Kp.mono {ps qs : List Addr} {H H1 : Hp} (a : Kp ps H H1) (h : ∀ c ∈ ps, c ∈ qs) : Kp qs H H1 := fun c o e n => a c o e fun z => n (h c z)
theorem Kp.of {ps : List Addr} {H H1 : Hp} (a : Same H H1) : Kp ps H H1 := fun c o e _ => a c o e
theorem Kp.but {w : Addr} {H H1 : Hp} (a : But w H H1) : Kp [w] H H1 := fun c o e n => a c o e fun z => n (by simp [z])
theorem Kp.upd {ps : List Addr} {H : Hp} {p : Addr} {o : HO} (h : p ∈ ps) : Kp ps H (L2.upd H p o) := fun c u e n => by rw [upd_ne fun z : c = p => n (by rw [z]; exact h)]; exact e
theorem Kp.nw {ps : List Addr} {H H1 : Hp} {p : Addr} {o : HO} (a : Kp ps H H1) (n : H1 p = none) : Kp ps H (L2.upd H1 p o) := a.trans (Kp.of (same_new n))
theorem Kp.free {ps : List Addr} {H H1 : Hp} {p : Addr} (a : Kp ps H H1) (m : ∀ c ∈ ps, ∃ o, H1 c = some o) (n : H1 p = none) : H p = none := by
  cases e : H p with
  | none => rfl
  | some o =>
    have := a p o e fun z => by obtain ⟨u, q⟩ := m p z; rw [n] at q; cases q
    rw [n] at this; cases this
def newRow (n : Nat) : List Int := (List.replicate n [2, -1, 0, 0]).flatten ++ [-1, -1, 0, 0]
theorem newRow_len (n : Nat) : (newRow n).length = 4 * n + 4 := by
  unfold newRow
  rw [List.length_append, len_rep]
  show n * 4 + 4 = _
  omega
theorem rep_map (n : Nat) (ns : List Int) : (List.replicate n (ns.map V.int)).flatten = ((List.replicate n ns).flatten).map V.int := by
  induction n with
  | zero => rfl
  | succ n ih => rw [List.replicate_succ, List.replicate_succ, List.flatten_cons, List.flatten_cons, List.map_append, ih]
def lastV (H : Hp) (v : V) : Option (Str × Int × Int) → Prop
  | none => v = .non
  | some (d, c, x) => ∃ t, v = .ref t ∧ H t = some (.tup [.str d, .int c, .int x])
/-- a board at b, its cells at l -/
def sp_check_hand (cl : Cl) : Sp := fun vs H Q E => ∃ h : Str, vs = [.str h] ∧ (if h = "giver" ∨ h = "taker" then Q .non H else E (.ref cl.NoHand) none H)
def sp_cellOf (d : Int) : Sp := fun vs H Q _ => ∃ p, vs = [.int p] ∧ Q (.int (4 * p + d)) H
def cardG (cl : Cl) (n : Int) (h : Str) (H : Hp) (E : XK) (k : Prop) : Prop := if 2 ≤ n ∧ n ≤ 8 then (if h = "giver" ∨ h = "taker" then k else E (.ref cl.NoHand) none H) else E (.ref cl.BadSize) none H
def handI (h : Str) : Int := if h = "giver" then 0 else 1
def sp_card_cell (cl : Cl) : Sp := fun vs H Q E => ∃ (n : Int) (h : Str), vs = [.int n, .str h] ∧ cardG cl n h H E (Q (.int (4 * n + handI h)) H)
def sp_bell_cell (cl : Cl) : Sp := fun vs H Q E => ∃ (n : Int) (h : Str), vs = [.int n, .str h] ∧ cardG cl n h H E (Q (.int (4 * n + handI h + 2)) H)
def sp_new_cells : Sp := fun vs H Q _ => ∃ n : Nat, vs = [.int n] ∧ n ≤ 8 ∧ ∀ l H', H l = none → Same H H' → H' l = some (.lst ((newRow n).map V.int)) → Q (.ref l) H'
theorem eqV_str (x y : Str) : eqV (.str x) (.str y) = decide (x = y) := by
  first
    | rfl
    | (unfold eqV; simp)
abbrev s_check_hand : Stmt := top 39
theorem sc_check_hand : FnScope ["hand"] ["hand"] (defScope s_check_hand) := ⟨rfl, rfl, rfl, by decide +kernel, rfl, by decide +kernel, by decide +kernel⟩
theorem ok_check_hand (D : DefT K mg "check_hand" s_check_hand ["hand"]) (T : Txt K mg cl) : FnT P w K mg base "check_hand" 1 ["hand"] (sp_check_hand cl) := by
  refine D.fn sc_check_hand (fun vs H Q E h => ?_) (fun f cdv A outer s H vs Q E hr h => ?_)
  · obtain ⟨n, rfl, _⟩ := h
    rfl
  · obtain ⟨n, rfl, h⟩ := h
    refine ⟨_, (pss_one (ps_if (pt_cmpR (op_notInK (K := K)) (pv 0) (pe_gref T.r_HANDS rfl) (by with_unfolding_all rfl))
        (pss_one (ps_raiseT T.c_NoHand rfl rfl raiseX (pa_cons pe_str pa_nil)))
        pss_nil)), ?_⟩
    walk_at "go"
    refine ⟨_, _, rfl, .inr T.kt_HANDS.sq, rfl, rfl, ?_⟩
    walk_at "go"
    have e : inV (.str n) [.str "giver", .str "taker"] = decide (n = "giver" ∨ n = "taker") := by
      unfold inV
      simp only [List.any_cons, List.any_nil, eqV_str, Bool.or_false]
      rw [Bool.eq_iff_iff]
      simp only [Bool.or_eq_true, decide_eq_true_eq]
      exact or_congr eq_comm eq_comm
    simp only [if_true, e]
    refine g_iteN (fun c => ?_) (fun c => ?_)
    · rw [if_neg c] at h
      walk_at "go"
      exact ⟨one_le_line, h⟩
    · rw [if_pos c] at h
      walk_at "go"
      exact h
abbrev s_mark_cell : Stmt := top 40
theorem sc_mark_cell : FnScope ["place"] ["place"] (defScope s_mark_cell) := ⟨rfl, rfl, rfl, by decide +kernel, rfl, by decide +kernel, by decide +kernel⟩
theorem ok_mark_cell (D : DefT K mg "mark_cell" s_mark_cell ["place"]) (T : Txt K mg cl) : FnT P w K mg base "mark_cell" 1 ["place"] (sp_cellOf 0) := by
  refine D.fn sc_mark_cell (fun vs H Q E h => ?_) (fun f cdv A outer s H vs Q E hr h => ?_)
  · obtain ⟨n, rfl, _⟩ := h
    rfl
  · obtain ⟨n, rfl, h⟩ := h
    refine ⟨_, (pss_one (ps_ret (pe_op op_mul (pe_gint T.m_CELLS_OF_A_PLACE rfl) (pv 0)))), ?_⟩
    walk_at "go"
    rw [Int.add_zero] at h
    exact h
abbrev s_number_cell : Stmt := top 41
theorem sc_number_cell : FnScope ["place"] ["place"] (defScope s_number_cell) := ⟨rfl, rfl, rfl, by decide +kernel, rfl, by decide +kernel, by decide +kernel⟩
theorem ok_number_cell (D : DefT K mg "number_cell" s_number_cell ["place"]) (T : Txt K mg cl) : FnT P w K mg base "number_cell" 1 ["place"] (sp_cellOf 1) := by
  refine D.fn sc_number_cell (fun vs H Q E h => ?_) (fun f cdv A outer s H vs Q E hr h => ?_)
  · obtain ⟨n, rfl, _⟩ := h
    rfl
  · obtain ⟨n, rfl, h⟩ := h
    refine ⟨_, (pss_one (ps_ret (pe_op op_add (pe_op op_mul (pe_gint T.m_CELLS_OF_A_PLACE rfl) (pv 0)) pe_int))), ?_⟩
    walk_at "go"
    exact h
abbrev s_left_cell : Stmt := top 42
theorem sc_left_cell : FnScope ["place"] ["place"] (defScope s_left_cell) := ⟨rfl, rfl, rfl, by decide +kernel, rfl, by decide +kernel, by decide +kernel⟩
theorem ok_left_cell (D : DefT K mg "left_cell" s_left_cell ["place"]) (T : Txt K mg cl) : FnT P w K mg base "left_cell" 1 ["place"] (sp_cellOf 2) := by
  refine D.fn sc_left_cell (fun vs H Q E h => ?_) (fun f cdv A outer s H vs Q E hr h => ?_)
  · obtain ⟨n, rfl, _⟩ := h
    rfl
  · obtain ⟨n, rfl, h⟩ := h
    refine ⟨_, (pss_one (ps_ret (pe_op op_add (pe_op op_mul (pe_gint T.m_CELLS_OF_A_PLACE rfl) (pv 0)) pe_int))), ?_⟩
    walk_at "go"
    exact h
abbrev s_thing_cell : Stmt := top 43
theorem sc_thing_cell : FnScope ["place"] ["place"] (defScope s_thing_cell) := ⟨rfl, rfl, rfl, by decide +kernel, rfl, by decide +kernel, by decide +kernel⟩
theorem ok_thing_cell (D : DefT K mg "thing_cell" s_thing_cell ["place"]) (T : Txt K mg cl) : FnT P w K mg base "thing_cell" 1 ["place"] (sp_cellOf 3) := by
  refine D.fn sc_thing_cell (fun vs H Q E h => ?_) (fun f cdv A outer s H vs Q E hr h => ?_)
  · obtain ⟨n, rfl, _⟩ := h
    rfl
  · obtain ⟨n, rfl, h⟩ := h
    refine ⟨_, (pss_one (ps_ret (pe_op op_add (pe_op op_mul (pe_gint T.m_CELLS_OF_A_PLACE rfl) (pv 0)) pe_int))), ?_⟩
    walk_at "go"
    exact h
abbrev s_card_cell : Stmt := top 44
theorem sc_card_cell : FnScope ["size", "hand"] ["size", "hand"] (defScope s_card_cell) := ⟨rfl, rfl, rfl, by decide +kernel, rfl, by decide +kernel, by decide +kernel⟩
theorem ok_card_cell (D : DefT K mg "card_cell" s_card_cell ["size", "hand"]) (T : Txt K mg cl) (G_check_size : FnT P w K mg base "check_size" 1 ["size"] (sp_check_size cl)) (G_check_hand : FnT P w K mg base "check_hand" 1 ["hand"] (sp_check_hand cl)) : FnT P w K mg base "card_cell" 2 ["size", "hand"] (sp_card_cell cl) := by
  refine D.fn sc_card_cell (fun vs H Q E h => ?_) (fun f cdv A outer s H vs Q E hr h => ?_)
  · obtain ⟨n, x, rfl, _⟩ := h
    rfl
  · obtain ⟨n, x, rfl, h⟩ := h
    refine ⟨_, (pss_cons (ps_expr (pe_fn G_check_size hr (by decide) rfl passX (pa_cons (pv 0) pa_nil)))
      (pss_cons (ps_expr (pe_fn G_check_hand hr (by decide) rfl passX (pa_cons (pv 1) pa_nil)))
      (pss_one (ps_ret (pe_op op_add (pe_op op_mul (pe_gint T.m_CELLS_OF_A_PLACE rfl) (pv 0)) (pe_indexTK (K := K) (pe_gref T.r_HANDS rfl) (pa_cons (pv 1) pa_nil))))))), ?_⟩
    unfold cardG at h
    walk_at "go"
    refine ⟨n, rfl, ite2 (fun a => ?_) (fun a => ?_)⟩
    · rw [if_pos a] at h
      walk_at "go"
      refine ⟨x, rfl, ite2 (fun b => ?_) (fun b => ?_)⟩
      · rw [if_pos b] at h
        walk_at "go"
        refine ⟨T.kt_HANDS.ty, ?_⟩
        walk_at "go"
        refine ⟨_, _, _, _, rfl, rfl, T.kt_HANDS, rfl, rfl, rfl, ?_, ?_⟩
        · rw [eqV_str, eqV_str, decide_eq_true_eq, decide_eq_true_eq]
          exact b.imp Eq.symm Eq.symm
        · walk_at "go"
          have e : (if eqV (.str "giver") (.str x) = true then (0 : Int) else 1) = handI x := by
            unfold handI
            rw [eqV_str]
            simp only [decide_eq_true_eq]
            by_cases c : x = "giver"
            · rw [if_pos c, if_pos c.symm]
            · rw [if_neg c, if_neg fun z => c z.symm]
          rw [e]
          exact h
      · rw [if_neg b] at h
        exact h
    · rw [if_neg a] at h
      exact h
abbrev s_bell_cell : Stmt := top 45
theorem sc_bell_cell : FnScope ["size", "hand"] ["size", "hand"] (defScope s_bell_cell) := ⟨rfl, rfl, rfl, by decide +kernel, rfl, by decide +kernel, by decide +kernel⟩
theorem ok_bell_cell (D : DefT K mg "bell_cell" s_bell_cell ["size", "hand"]) (T : Txt K mg cl) (G_card_cell : FnT P w K mg base "card_cell" 2 ["size", "hand"] (sp_card_cell cl)) : FnT P w K mg base "bell_cell" 3 ["size", "hand"] (sp_bell_cell cl) := by
  refine D.fn sc_bell_cell (fun vs H Q E h => ?_) (fun f cdv A outer s H vs Q E hr h => ?_)
  · obtain ⟨n, x, rfl, _⟩ := h
    rfl
  · obtain ⟨n, x, rfl, h⟩ := h
    refine ⟨_, (pss_one (ps_ret (pe_op op_add (pe_fn G_card_cell hr (by decide) rfl passX (pa_cons (pv 0) (pa_cons (pv 1) pa_nil))) (pe_callB (call_lenK (K := K)) (by rfl) T.z_len PySem.boot_len (pa_cons (pe_gref T.r_HANDS rfl) pa_nil))))), ?_⟩
    unfold cardG at h
    walk_at "go"
    refine ⟨n, x, rfl, ?_⟩
    unfold cardG
    refine ite2 (fun a => ite2 (fun b => ?_) (fun b => ?_)) (fun a => ?_)
    · rw [if_pos a, if_pos b] at h
      walk_at "go"
      refine ⟨_, _, rfl, .inr T.kt_HANDS.sq, ?_⟩
      walk_at "go"
      exact h
    · rw [if_pos a, if_neg b] at h
      exact h
    · rw [if_neg a] at h
      exact h
abbrev s_new_cells : Stmt := top 46
theorem sc_new_cells : FnScope ["size"] ["size"] (defScope s_new_cells) := ⟨rfl, rfl, rfl, by decide +kernel, rfl, by decide +kernel, by decide +kernel⟩
theorem ok_new_cells (D : DefT K mg "new_cells" s_new_cells ["size"]) (T : Txt K mg cl) : FnT P w K mg base "new_cells" 1 ["size"] sp_new_cells := by
  refine D.fn sc_new_cells (fun vs H Q E h => ?_) (fun f cdv A outer s H vs Q E hr h => ?_)
  · obtain ⟨n, rfl, _⟩ := h
    rfl
  · obtain ⟨n, rfl, h8, k⟩ := h
    refine ⟨_, (pss_one (ps_ret (pe_op op_cat (pe_op op_rep (pe_lst (pa_cons (pe_gint T.m_NEW_MARK rfl) (pa_cons (pe_gint T.m_NO_ORDER rfl) (pa_cons pe_int (pa_cons pe_int pa_nil))))) (pv 0)) (pe_lst (pa_cons (pe_gint T.m_NO_TURN rfl) (pa_cons (pe_gint T.m_NO_TURN rfl) (pa_cons (pe_gint T.m_STILL rfl) (pa_cons (pe_gint T.m_STILL rfl) pa_nil)))))))), ?_⟩
    have h20 : 2000 ≤ sizeLine := by decide
    walk_at "go"
    refine ⟨by show 4 ≤ sizeLine; omega, fun p1 h1 => ?_⟩
    walk_at "go"
    refine ⟨p1, n, _, rfl, rfl, upd_same, by omega, by omega, by show 4 * (n : Int).toNat ≤ sizeLine; omega, fun p2 h2 => ?_⟩
    walk_at "go"
    refine ⟨by show 4 ≤ sizeLine; omega, fun p3 h3 => ?_⟩
    refine g_cat (same_new h3 _ _ upd_same) upd_same ?_ (fun p4 h4 => ?_)
    · rw [len_rep]
      show (n : Int).toNat * 4 + 4 ≤ sizeLine
      omega
    refine k p4 _ ((((same_new h1).trans (same_new h2)).trans (same_new h3)).free h4) ((((same_new h1).trans (same_new h2)).trans (same_new h3)).trans (same_new h4)) ?_
    rw [upd_same]
    unfold newRow
    rw [List.map_append, show ((n : Int)).toNat = n by omega]
    rw [← rep_map n [2, -1, 0, 0]]
    rfl
/-! ### rows that are a board's -/
def markRow (n : Nat) (row : List Int) : List Int := (List.range n).map fun (q : Nat) => row.getD (4 * q) 0
theorem markRow_len (n : Nat) (row : List Int) : (markRow n row).length = n := by unfold markRow; rw [List.length_map, List.length_range]
theorem markRow_at {n : Nat} {row : List Int} {q : Nat} (h : q < n) : (markRow n row)[q]? = some (row.getD (4 * q) 0) := by
  unfold markRow
  rw [List.getElem?_map, List.getElem?_range h]
  rfl
structure NumOk (n : Nat) (row : List Int) : Prop where
  mks : ∀ q, q < n → 0 ≤ row.getD (4 * q) 0 ∧ row.getD (4 * q) 0 ≤ 3
  cd : ∀ k, k < 2 → -1 ≤ row.getD (4 * n + k) 0 ∧ row.getD (4 * n + k) 0 < 2 * (n : Int)
  bl : ∀ k, k < 2 → row.getD (4 * n + 2 + k) 0 = 0 ∨ row.getD (4 * n + 2 + k) 0 = 1
structure GoodRow (n : Nat) (row : List Int) : Prop where
  n2 : 2 ≤ n
  n8 : n ≤ 8
  len : row.length = 4 * n + 4
  ok : NumOk n row
theorem GoodRow.one {n m : Nat} {row : List Int} (h : row.length = 4 * n + 4) (g : GoodRow m row) : m = n := by
  have := g.len
  omega
def sp_marks_among : Sp := fun vs H Q _ => ∃ (a : Addr) (row : List Int) (n : Nat), vs = [.ref a] ∧ H a = some (.lst (row.map V.int)) ∧ row.length = 4 * n + 4 ∧ n ≤ 8 ∧ ∀ l H', H l = none → Same H H' → H' l = some (.lst ((markRow n row).map V.int)) → Q (.ref l) H'
def sp_check_numbers (cl : Cl) : Sp := fun vs H Q E => ∃ (a : Addr) (row : List Int) (n : Nat), vs = [.int n, .ref a] ∧ H a = some (.lst (row.map V.int)) ∧ row.length = 4 * n + 4 ∧ 2 ≤ n ∧ n ≤ 8 ∧
  ((NumOk n row ∧ ∀ H', Same H H' → Q .non H') ∨ (¬ NumOk n row ∧ ∀ H', Same H H' → E (.ref cl.BadCells) none H'))
def sp_size_of_cells (cl : Cl) : Sp := fun vs H Q E => ∃ (a : Addr) (row : List Int), vs = [.ref a] ∧ H a = some (.lst (row.map V.int)) ∧
  ((∃ n : Nat, GoodRow n row ∧ ∀ H', Same H H' → Q (.int n) H') ∨ ((¬ ∃ n, GoodRow n row) ∧ ∀ H', Same H H' → E (.ref cl.BadCells) none H'))
abbrev s_marks_among : Stmt := top 47
theorem sc_marks_among : FnScope ["cells", "places"] ["cells"] (defScope s_marks_among) := ⟨rfl, rfl, rfl, by decide +kernel, rfl, by decide +kernel, by decide +kernel⟩
theorem ok_marks_among (D : DefT K mg "marks_among" s_marks_among ["cells"]) (T : Txt K mg cl) (G_mark_cell : FnT P w K mg base "mark_cell" 1 ["place"] (sp_cellOf 0)) : FnT P w K mg base "marks_among" 2 ["cells"] sp_marks_among := by
  refine D.fn sc_marks_among (fun vs H Q E h => ?_) (fun f cdv A outer s H vs Q E hr h => ?_)
  · obtain ⟨a, row, n, rfl, _⟩ := h
    rfl
  · obtain ⟨a, row, n, rfl, ea, hl, n8, k⟩ := h
    refine ⟨_, (pss_cons (ps_set (i := 1) sc_marks_among.nd rfl (by first | exact Or.inl rfl | exact Or.inr rfl) (pe_op op_sub (pe_op op_fdivB (pe_callB (call_lenK (K := K)) (by rfl) T.z_len PySem.boot_len (pa_cons (pv 0) pa_nil)) (pe_gint T.m_CELLS_OF_A_PLACE rfl)) pe_int))
      (pss_one (ps_ret (pe_comp (N := ["place", "cells"]) (nt := 1) (fr := [0]) rfl (comp_ok1 (i := 0) rfl rfl (by decide +kernel) (by decide +kernel) rfl rfl rfl rfl rfl rfl rfl) (pi_range1 rfl T.z_range (pa_cons (pv 1) pa_nil)) (gk_name (by decide)) (fun _ _ _ _ _ => pg_name (i := 0) (show (["place", "cells"] : List Str).Nodup by decide +kernel) rfl (Or.inl rfl) (Or.inr rfl)) (fun _ _ _ _ _ => (pe_ix (ix_listK (K := K)) (pv 1) (pe_fn G_mark_cell hr (by decide) rfl passC (pa_cons (pv 0) pa_nil)) (fun _ _ => rfl))))))), ?_⟩
    have h20 : 2000 ≤ sizeLine := by decide
    walk_at "go"
    rw [List.length_map, hl]
    have en : (((4 * n + 4 : Nat) : Int) / 4 - 1) = (n : Int) := by omega
    rw [en]
    walk_at "go"
    refine comp_rangeF (n := (n : Int).toNat) (by omega) (f := fun q => V.int (row.getD (4 * q) 0)) (fun j H' kk hj sm q => ?_) (fun p hp => ?_)
    · have hj : j < n := by omega
      have e1 := sm _ _ ea
      walk_at "go"
      refine ⟨_, rfl, ?_⟩
      refine g_ixL e1 (atI_in (by omega) (by omega)) ?_
      rw [show (4 * (0 + (j : Int)) + 0).toNat = 4 * j by omega]
      exact q
    · refine k p _ hp (same_new hp) ?_
      rw [upd_same]
      unfold markRow
      rw [List.map_map, show ((n : Int)).toNat = n by omega]
      rfl
abbrev s_check_numbers : Stmt := top 49
theorem sc_check_numbers : FnScope ["size", "cells", "mark", "hand", "card", "bell"] ["size", "cells"] (defScope s_check_numbers) := ⟨rfl, rfl, rfl, by decide +kernel, rfl, by decide +kernel, by decide +kernel⟩
theorem ok_check_numbers (D : DefT K mg "check_numbers" s_check_numbers ["size", "cells"]) (T : Txt K mg cl) (G_marks_among : FnT P w K mg base "marks_among" 2 ["cells"] sp_marks_among) (G_card_cell : FnT P w K mg base "card_cell" 2 ["size", "hand"] (sp_card_cell cl)) (G_bell_cell : FnT P w K mg base "bell_cell" 3 ["size", "hand"] (sp_bell_cell cl)) : FnT P w K mg base "check_numbers" 4 ["size", "cells"] (sp_check_numbers cl) := by
  refine D.fn sc_check_numbers (fun vs H Q E h => ?_) (fun f cdv A outer s H vs Q E hr h => ?_)
  · obtain ⟨a, row, n, rfl, _⟩ := h
    rfl
  · obtain ⟨a, row, n, rfl, ea, hl, n2, n8, k⟩ := h
    refine ⟨_, (pss_cons (ps_for passOwnX rfl (pi_listK (K := K) (pe_fn G_marks_among hr (by decide) rfl passX (pa_cons (pv 1) pa_nil))) (pg_name (i := 2) sc_check_numbers.nd rfl (by first | exact Or.inl rfl | exact Or.inr rfl))
         (pss_one (ps_if (PW.pt (pw_or (pt_cmpR op_lt (pv 2) pe_int (nomark _)) (pw_or1 (pt_cmpR op_gt (pv 2) (pe_gint T.m_MOST_MARK rfl) (nomark _)))))
            (pss_one (ps_raiseT T.c_BadCells rfl rfl raiseX (pa_cons pe_str pa_nil)))
            pss_nil)))
      (pss_one (ps_for passOwnX rfl (pi_tupK (K := K) (pe_gref T.r_HANDS rfl)) (pg_name (i := 3) sc_check_numbers.nd rfl (by first | exact Or.inl rfl | exact Or.inr rfl))
        (pss_cons (ps_set (i := 4) sc_check_numbers.nd rfl (by first | exact Or.inl rfl | exact Or.inr rfl) (pe_ix (ix_listK (K := K)) (pv 1) (pe_fn G_card_cell hr (by decide) rfl passX (pa_cons (pv 0) (pa_cons (pv 3) pa_nil))) (fun _ _ => rfl)))
         (pss_cons (ps_if (PW.pt (pw_or (pt_cmpR op_lt (pv 4) (pe_gint T.m_NO_TURN rfl) (nomark _)) (pw_or1 (pt_cmpR op_ge (pv 4) (pe_op op_mul pe_int (pv 0)) (nomark _)))))
            (pss_one (ps_raiseT T.c_BadCells rfl rfl raiseX (pa_cons pe_str pa_nil)))
            pss_nil)
         (pss_cons (ps_set (i := 5) sc_check_numbers.nd rfl (by first | exact Or.inl rfl | exact Or.inr rfl) (pe_ix (ix_listK (K := K)) (pv 1) (pe_fn G_bell_cell hr (by decide) rfl passX (pa_cons (pv 0) (pa_cons (pv 3) pa_nil))) (fun _ _ => rfl)))
         (pss_one (ps_if (PW.pt (pw_and (pt_cmpR op_ne (pv 5) (pe_gint T.m_STILL rfl) (nomark _)) (pw_and1 (pt_cmpR op_ne (pv 5) (pe_gint T.m_RUNG rfl) (nomark _)))))
           (pss_one (ps_raiseT T.c_BadCells rfl rfl raiseX (pa_cons pe_str pa_nil)))
           pss_nil)))))))), ?_⟩
    have bad : ∀ H', Same H H' → ¬ NumOk n row → E (.ref cl.BadCells) none H' := fun H' s' nn => by
      rcases k with ⟨g, _⟩ | ⟨_, z⟩
      · exact absurd g nn
      · exact z H' s'
    walk_at "go"
    refine ⟨a, row, n, rfl, ea, hl, n8, fun l H1 hl1 s1 e1 => ?_⟩
    walk_at "go"
    refine for_list (xs := (markRow n row).map V.int) (fun i σ H' => ∃ x2, σ = [some (.int n), some (.ref a), x2, none, none, none] ∧ Same H H' ∧ H' l = some (.lst ((markRow n row).map V.int)) ∧ ∀ q, q < i → 0 ≤ row.getD (4 * q) 0 ∧ row.getD (4 * q) 0 ≤ 3) ⟨_, rfl, s1, e1, fun q hq => absurd hq (by omega)⟩ ?_ ?_ ?_
    · rintro i σ H2 hi ⟨x2, rfl, s2, e2, _⟩
      exact SqL.of e2
    · rintro i x σ H2 hx ⟨x2, rfl, s2, e2, g⟩
      have hi : i < n := by
        have := (List.getElem?_eq_some_iff.mp hx).1
        rw [List.length_map, markRow_len] at this
        exact this
      rw [List.getElem?_map, markRow_at hi] at hx
      cases hx
      walk_at "go"
      refine g_ite (fun c => ?_) (fun c => ?_)
      · walk_at "go"
        exact ⟨one_le_line, bad _ s2 fun z => by have := z.mks i hi; omega⟩
      · walk_at "go"
        refine g_ite (fun d => ?_) (fun d => ?_)
        · walk_at "go"
          exact ⟨one_le_line, bad _ s2 fun z => by have := z.mks i hi; omega⟩
        · walk_at "go"
          refine ⟨_, rfl, s2, e2, fun q hq => ?_⟩
          by_cases hqi : q = i
          · subst hqi; omega
          · exact g q (by omega)
    · rintro σ H2 ⟨x2, rfl, s2, e2, g1⟩
      rw [List.length_map, markRow_len] at g1
      walk_at "go"
      refine g_tupi ?_
      walk_at "go"
      refine g_tupW T.kt_HANDS.sq ?_
      refine for_tup (xs := [.str "giver", .str "taker"]) (fun i σ H' => ∃ x3 x4 x5, σ = [some (.int n), some (.ref a), x2, x3, x4, x5] ∧ Same H H' ∧ ∀ q, q < i → (-1 ≤ row.getD (4 * n + q) 0 ∧ row.getD (4 * n + q) 0 < 2 * (n : Int)) ∧ (row.getD (4 * n + 2 + q) 0 = 0 ∨ row.getD (4 * n + 2 + q) 0 = 1)) ⟨_, _, _, rfl, s2, fun q hq => absurd hq (by omega)⟩ ?_ ?_ ?_
      · intro i σ H3 _ _
        exact T.kt_HANDS.sq
      · rintro i x σ H3 hx ⟨x3, x4, x5, rfl, s3, g⟩
        have hi : i < 2 := (List.getElem?_eq_some_iff.mp hx).1
        obtain ⟨nm, rfl, hnm, enm⟩ : ∃ nm : Str, x = .str nm ∧ (nm = "giver" ∨ nm = "taker") ∧ handI nm = (i : Int) := by
          have : i = 0 ∨ i = 1 := by omega
          rcases this with rfl | rfl <;> cases hx
          · exact ⟨_, rfl, .inl rfl, by decide⟩
          · exact ⟨_, rfl, .inr rfl, by decide⟩
        have e3 := s3 _ _ ea
        have card : ∀ (H' : Hp) (k : Prop), k → cardG cl n nm H' E k := fun H' k hk => by
          unfold cardG
          rw [if_pos (by omega), if_pos hnm]
          exact hk
        walk_at "go"
        refine ⟨n, nm, rfl, card _ _ ?_⟩
        refine g_ixL e3 (atI_in (by omega) (by omega)) ?_
        rw [enm, show (4 * (n : Int) + (i : Int)).toNat = 4 * n + i by omega]
        walk_at "go"
        refine g_ite (fun c => ?_) (fun c => ?_)
        · walk_at "go"
          exact ⟨one_le_line, bad _ s3 fun z => by have := z.cd i hi; omega⟩
        · walk_at "go"
          refine g_ite (fun d => ?_) (fun d => ?_)
          · walk_at "go"
            exact ⟨one_le_line, bad _ s3 fun z => by have := z.cd i hi; omega⟩
          · walk_at "go"
            refine ⟨n, nm, rfl, card _ _ ?_⟩
            refine g_ixL e3 (atI_in (by omega) (by omega)) ?_
            rw [enm, show (4 * (n : Int) + (i : Int) + 2).toNat = 4 * n + 2 + i by omega]
            walk_at "go"
            refine g_iteN (fun p => ?_) (fun p => ?_)
            · walk_at "go"
              refine g_iteN (fun q => ?_) (fun q => ?_)
              · walk_at "go"
                refine ⟨one_le_line, bad _ s3 fun z => ?_⟩
                rcases z.bl i hi with z | z
                · exact p (by rw [z])
                · exact q (by rw [z])
              · walk_at "go"
                refine ⟨_, _, _, rfl, s3, fun y hy => ?_⟩
                by_cases hyi : y = i
                · subst hyi
                  exact ⟨⟨by omega, by omega⟩, .inr (V.int.inj q)⟩
                · exact g y (by omega)
            · walk_at "go"
              refine ⟨_, _, _, rfl, s3, fun y hy => ?_⟩
              by_cases hyi : y = i
              · subst hyi
                exact ⟨⟨by omega, by omega⟩, .inl (V.int.inj p)⟩
              · exact g y (by omega)
      · rintro σ H3 ⟨x3, x4, x5, rfl, s3, g⟩
        have nk : NumOk n row := ⟨g1, fun k hk => (g k hk).1, fun k hk => (g k hk).2⟩
        walk_at "go"
        rcases k with ⟨_, z⟩ | ⟨z, _⟩
        · exact z H3 s3
        · exact absurd nk z
abbrev s_size_of_cells : Stmt := top 48
theorem sc_size_of_cells : FnScope ["cells", "size"] ["cells"] (defScope s_size_of_cells) := ⟨rfl, rfl, rfl, by decide +kernel, rfl, by decide +kernel, by decide +kernel⟩
theorem ok_size_of_cells (D : DefT K mg "size_of_cells" s_size_of_cells ["cells"]) (T : Txt K mg cl) (G_new_cells : FnT P w K mg base "new_cells" 1 ["size"] sp_new_cells) (G_check_numbers : FnT P w K mg base "check_numbers" 4 ["size", "cells"] (sp_check_numbers cl)) : FnT P w K mg base "size_of_cells" 5 ["cells"] (sp_size_of_cells cl) := by
  refine D.fn sc_size_of_cells (fun vs H Q E h => ?_) (fun f cdv A outer s H vs Q E hr h => ?_)
  · obtain ⟨a, row, rfl, _⟩ := h
    rfl
  · obtain ⟨a, row, rfl, ea, k⟩ := h
    refine ⟨_, (pss_cons (ps_for passOwnX rfl (pi_range2 rfl T.z_range (pa_cons (pe_gint T.m_LEAST_SIZE rfl) (pa_cons (pe_op op_add (pe_gint T.m_MOST_SIZE rfl) pe_int) pa_nil))) (pg_name (i := 1) sc_size_of_cells.nd rfl (by first | exact Or.inl rfl | exact Or.inr rfl))
         (pss_one (ps_if (pt_cmpR op_eq (pe_callB (call_lenK (K := K)) (by rfl) T.z_len PySem.boot_len (pa_cons (pv 0) pa_nil)) (pe_callB (call_lenK (K := K)) (by rfl) T.z_len PySem.boot_len (pa_cons (pe_fn G_new_cells hr (by decide) rfl passX (pa_cons (pv 1) pa_nil)) pa_nil)) (nomark _))
            (pss_cons (ps_expr (pe_fn G_check_numbers hr (by decide) rfl passX (pa_cons (pv 1) (pa_cons (pv 0) pa_nil))))
             (pss_one (ps_ret (pv 1))))
            pss_nil)))
      (pss_one (ps_raiseT T.c_BadCells rfl rfl raiseX (pa_cons pe_str pa_nil)))), ?_⟩
    have bad : ∀ H', Same H H' → (¬ ∃ n, GoodRow n row) → E (.ref cl.BadCells) none H' := fun H' s' nn => by
      rcases k with ⟨m, g, _⟩ | ⟨_, z⟩
      · exact absurd ⟨m, g⟩ nn
      · exact z H' s'
    walk_at "go"
    refine ⟨2, 9, rfl, ⟨by decide, by decide, by decide, by decide⟩, ?_⟩
    refine for_range (lo := 2) (n := 7) (fun i σ H' => ∃ x1, σ = [some (.ref a), x1] ∧ Same H H' ∧ ∀ q, q < i → row.length ≠ 4 * (2 + q) + 4) ⟨_, rfl, Same.refl H, fun q hq => absurd hq (by omega)⟩ ?_ ?_
    · rintro i σ H1 hi ⟨x1, rfl, s1, g⟩
      have e1 := s1 _ _ ea
      walk_at "go"
      rw [List.length_map]
      refine ⟨2 + i, by rw [show ((2 + i : Nat) : Int) = 2 + (i : Int) by omega], by omega, fun l H2 hl2 s2 e2 => ?_⟩
      have e3 := s2 _ _ e1
      walk_at "go"
      rw [List.length_map, newRow_len]
      refine g_ite (fun c => ?_) (fun c => ?_)
      · have c : row.length = 4 * (2 + i) + 4 := by have := V.int.inj c; omega
        walk_at "go"
        refine ⟨a, row, 2 + i, by rw [show ((2 + i : Nat) : Int) = 2 + (i : Int) by omega], e3, c, by omega, by omega, ?_⟩
        by_cases nk : NumOk (2 + i) row
        · refine .inl ⟨nk, fun H' s' => ?_⟩
          walk_at "go"
          rcases k with ⟨m, g, z⟩ | ⟨z, _⟩
          · have := g.one c
            subst this
            have := z H' ((s1.trans s2).trans s')
            rwa [show (((2 + i : Nat) : Int)) = 2 + (i : Int) by omega] at this
          · exact absurd ⟨_, (⟨by omega, by omega, c, nk⟩ : GoodRow (2 + i) row)⟩ z
        · refine .inr ⟨nk, fun H' s' => bad _ ((s1.trans s2).trans s') ?_⟩
          rintro ⟨m, g⟩
          have := g.one c
          subst this
          exact nk g.ok
      · walk_at "go"
        refine ⟨_, rfl, s1.trans s2, fun q hq => ?_⟩
        by_cases hqi : q = i
        · subst hqi
          intro z
          exact c (by rw [z])
        · exact g q (by omega)
    · rintro σ H1 ⟨x1, rfl, s1, g⟩
      walk_at "go"
      refine ⟨one_le_line, bad _ s1 ?_⟩
      rintro ⟨m, z⟩
      have z1 := z.n2
      have z2 := z.n8
      exact g (m - 2) (by omega) (by rw [z.len]; omega)
def ownS (x : Int) : Str := if x % 2 = 0 then "giver" else "taker"
def sp_owner (cl : Cl) : Sp := fun vs H Q E => ∃ (a : Addr) (row : List Int) (p : Int), vs = [.ref a, .int p] ∧ H a = some (.lst (row.map V.int)) ∧
  ((∃ n : Nat, GoodRow n row ∧ ∀ H', Same H H' → if 0 ≤ p ∧ p < n then Q (.str (ownS (row.getD (4 * p.toNat) 0))) H' else E (.ref cl.NoCell) none H') ∨ ((¬ ∃ n, GoodRow n row) ∧ ∀ H', Same H H' → E (.ref cl.BadCells) none H'))
abbrev s_owner : Stmt := top 60
theorem sc_owner : FnScope ["cells", "place"] ["cells", "place"] (defScope s_owner) := ⟨rfl, rfl, rfl, by decide +kernel, rfl, by decide +kernel, by decide +kernel⟩
theorem ok_owner (D : DefT K mg "owner" s_owner ["cells", "place"]) (T : Txt K mg cl) (G_size_of_cells : FnT P w K mg base "size_of_cells" 5 ["cells"] (sp_size_of_cells cl)) (G_mark_cell : FnT P w K mg base "mark_cell" 1 ["place"] (sp_cellOf 0)) (G_mark_side : FnT P w K mg base "mark_side" 1 ["mark"] sp_mark_side) : FnT P w K mg base "owner" 6 ["cells", "place"] (sp_owner cl) := by
  refine D.fn sc_owner (fun vs H Q E h => ?_) (fun f cdv A outer s H vs Q E hr h => ?_)
  · obtain ⟨a, row, p, rfl, _⟩ := h
    rfl
  · obtain ⟨a, row, p, rfl, ea, k⟩ := h
    refine ⟨_, (pss_cons (ps_if (pt_notInRng rfl T.z_range (pv 1) (pa_cons (pe_fn G_size_of_cells hr (by decide) rfl passX (pa_cons (pv 0) pa_nil)) pa_nil))
         (pss_one (ps_raiseT T.c_NoCell rfl rfl raiseX (pa_cons pe_str pa_nil)))
         pss_nil)
      (pss_one (ps_ret (pe_ifExp (pt_cmpR op_eq (pe_fn G_mark_side hr (by decide) rfl passX (pa_cons (pe_ix (ix_listK (K := K)) (pv 0) (pe_fn G_mark_cell hr (by decide) rfl passX (pa_cons (pv 1) pa_nil)) (fun _ _ => rfl)) pa_nil)) (pe_gint T.m_FREE rfl) (nomark _)) pe_str pe_str)))), ?_⟩
    walk_at "go"
    refine g_notInRng ?_
    walk_at "go"
    refine ⟨a, row, rfl, ea, ?_⟩
    rcases k with ⟨n, g, k⟩ | ⟨ng, k⟩
    · refine .inl ⟨n, g, fun H1 s1 => ?_⟩
      have e1 := s1 _ _ ea
      have k1 := k H1 s1
      walk_at "go"
      refine g_inRngW ?_
      walk_at "go"
      refine g_iteN (fun c => ?_) (fun c => ?_)
      · rw [if_neg c] at k1
        walk_at "go"
        exact ⟨one_le_line, k1⟩
      · rw [if_pos c] at k1
        walk_at "go"
        refine ⟨p, rfl, ?_⟩
        refine g_ixL e1 (atI_in (by omega) (by have := g.len; omega)) ?_
        rw [show (4 * p + 0).toNat = 4 * p.toNat by omega]
        walk_at "go"
        refine ⟨_, rfl, ?_⟩
        walk_at "go"
        unfold ownS at k1
        refine g_ite (fun d => ?_) (fun d => ?_)
        · rw [if_pos (V.int.inj d)] at k1
          walk_at "go"
          exact k1
        · rw [if_neg fun z => d (by rw [z])] at k1
          walk_at "go"
          exact k1
    · exact .inr ⟨ng, fun H1 s1 => k H1 s1⟩
/-! ### an order drawn -/
theorem ten59 : (0 : Int) < 10 ^ 59 ∧ (10 : Int) ^ 59 < 2 ^ 200 - 1 ∧ (5 : Int) * 10 ^ 58 + 5 * 10 ^ 58 = 10 ^ 59 ∧ (8 : Int) < 5 * 10 ^ 58 := by decide
def Small (x : Int) : Prop := -(5 * 10 ^ 58) ≤ x ∧ x ≤ 5 * 10 ^ 58
def sp_law_order : Sp := fun vs H Q _ => ∃ (w : Addr) (n : Int), vs = [.ref w, .int n] ∧ Well H w ∧ 1 ≤ n ∧ n ≤ 8 ∧ ∀ (p : Addr) (H' : Hp) (row : List Int), H p = none → H' p = some (.lst (row.map V.int)) → 1 ≤ row.length → (row.length : Int) ≤ n → (∀ x ∈ row, Small x) → Well H' w → But w H H' → Q (.ref p) H'
abbrev s_law_order : Stmt := top 72
theorem sc_law_order : FnScope ["well", "size", "way", "order", "k", "far"] ["well", "size"] (defScope s_law_order) := ⟨rfl, rfl, rfl, by decide +kernel, rfl, by decide +kernel, by decide +kernel⟩
theorem ok_law_order (D : DefT K mg "_law_order" s_law_order ["well", "size"]) (T : Txt K mg cl) (G_law_take : FnT P w K mg base "_law_take" 1 ["well", "many"] sp_law_take) : FnT P w K mg base "_law_order" 2 ["well", "size"] sp_law_order := by
  refine D.fn sc_law_order (fun vs H Q E h => ?_) (fun f cdv A outer s H vs Q E hr h => ?_)
  · obtain ⟨w, n, rfl, _⟩ := h
    rfl
  · obtain ⟨w, n, rfl, hw, n1, n8, k⟩ := h
    refine ⟨_, (pss_cons (ps_set (i := 2) sc_law_order.nd rfl (by first | exact Or.inl rfl | exact Or.inr rfl) (pe_fn G_law_take hr (by decide) rfl passX (pa_cons (pv 0) (pa_cons pe_int pa_nil))))
      (pss_cons (ps_set (i := 3) sc_law_order.nd rfl (by first | exact Or.inl rfl | exact Or.inr rfl) (pe_lst pa_nil))
      (pss_cons (ps_for passOwnX rfl (pi_range1 rfl T.z_range (pa_cons (pe_ix (ix_listK (K := K)) (pe_lst (pa_cons pe_int (pa_cons (pv 1) (pa_cons (pe_op op_add pe_int (pe_fn G_law_take hr (by decide) rfl passX (pa_cons (pv 0) (pa_cons (pv 1) pa_nil)))) pa_nil)))) (pv 2) (fun _ _ => rfl)) pa_nil)) (pg_name (i := 4) sc_law_order.nd rfl (by first | exact Or.inl rfl | exact Or.inr rfl))
         (pss_cons (ps_set (i := 5) sc_law_order.nd rfl (by first | exact Or.inl rfl | exact Or.inr rfl) (pe_op op_sub (pe_fn G_law_take hr (by decide) rfl passX (pa_cons (pv 0) (pa_cons (pe_op op_pow pe_int pe_int) pa_nil))) (pe_op op_mul pe_int (pe_op op_pow pe_int pe_int))))
          (pss_one (ps_expr (pe_appendK (K := K) (pv 3) (pa_cons (pe_ix (ix_listK (K := K)) (pe_lst (pa_cons (pe_op op_sub (pe_fn G_law_take hr (by decide) rfl passX (pa_cons (pv 0) (pa_cons pe_int pa_nil))) pe_int) (pa_cons (pv 5) pa_nil))) (pe_op op_fdivB (pe_fn G_law_take hr (by decide) rfl passX (pa_cons (pv 0) (pa_cons pe_int pa_nil))) pe_int) (fun _ _ => rfl)) pa_nil))))))
      (pss_one (ps_ret (pv 3)))))), ?_⟩
    have h20 : 2000 ≤ sizeLine := by decide
    walk_at "go"
    refine ⟨w, 3, rfl, hw, by decide, by decide, fun way H1 a1 c1 w1 b1 => ?_⟩
    walk_at "go"
    refine ⟨Nat.zero_le _, fun p hp => ?_⟩
    have hp0 : H p = none := b1.free w1 hp
    have np : p ≠ w := w1.ne hp
    walk_at "go"
    refine ⟨w, n, rfl, w1.same (same_new hp), by omega, by omega, fun r H2 a2 c2 w2 b2 => ?_⟩
    have e2 : H2 p = some (.lst (([] : List Int).map V.int)) := b2 p _ upd_same np
    have bb2 : But w H H2 := b1.trans ((But.of (same_new hp)).trans b2)
    walk_at "go"
    refine ⟨by show 3 ≤ sizeLine; omega, fun q hq => ?_⟩
    obtain ⟨N, hN, g1, g8⟩ := pickL (ns := [1, n, 1 + r]) (Pr := fun v => 1 ≤ v ∧ v ≤ n) (by intro v hv; simp only [List.mem_cons, List.not_mem_nil, or_false] at hv; omega) a1 c1
    walk_at "go"
    refine g_ixL upd_same hN ?_
    walk_at "go"
    refine for_range (n := N.toNat) (fun i σ H' => ∃ x4 x5 row, σ = [some (.ref w), some (.int n), some (.int way), some (.ref p), x4, x5] ∧ H' p = some (.lst ((row : List Int).map V.int)) ∧ row.length = i ∧ (∀ x ∈ row, Small x) ∧ Well H' w ∧ But w H H') ⟨_, _, [], rfl, same_new hq _ _ e2, rfl, by simp, w2.same (same_new hq), bb2.nw hq⟩ ?_ ?_
    · rintro i σ H3 hi ⟨x4, x5, row, rfl, e3, hl, hs, w3, b3⟩
      walk_at "go"
      refine ⟨w, _, rfl, w3, ten59.1, Int.lt_trans ten59.2.1 (by decide), fun r4 H4 a4 c4 w4 b4 => ?_⟩
      have c4 : r4 < 10 ^ 59 := c4
      have e4 : H4 p = _ := b4 p _ e3 np
      walk_at "go"
      refine ⟨w, 9, rfl, w4, by decide, by decide, fun r5 H5 a5 c5 w5 b5 => ?_⟩
      have e5 : H5 p = _ := b5 p _ e4 np
      walk_at "go"
      refine ⟨by show 2 ≤ sizeLine; omega, fun q hq => ?_⟩
      have nq : q ≠ w := w5.ne hq
      have e5' : upd H5 q (.lst [.int (r5 - 4), .int (r4 - 5 * 10 ^ 58)]) p = _ := same_new hq _ _ e5
      walk_at "go"
      refine ⟨w, 5, rfl, w5.same (same_new hq), by decide, by decide, fun r6 H6 a6 c6 w6 b6 => ?_⟩
      have e6 : H6 p = _ := b6 p _ e5' np
      have e6q : H6 q = _ := b6 q _ upd_same nq
      walk_at "go"
      obtain ⟨y, hy, sy⟩ := pickL (ns := [r5 - 4, r4 - 5 * 10 ^ 58]) (Pr := Small) (by
        have z1 := ten59.2.2.1
        have z2 := ten59.2.2.2
        intro v hv; simp only [List.mem_cons, List.not_mem_nil, or_false] at hv; unfold Small; rcases hv with rfl | rfl <;> constructor <;> omega) (r := r6 / 4) (by omega) (by show r6 / 4 < 2; omega)
      refine g_ixL e6q hy ?_
      walk_at "go"
      refine g_app e6 (by rw [List.length_map]; omega) ?_
      refine ⟨_, _, row ++ [y], rfl, by rw [upd_same, List.map_append]; rfl, by rw [List.length_append]; show row.length + 1 = _; omega, ?_, ?_, ?_⟩
      · intro x hx
        rcases List.mem_append.mp hx with h | h
        · exact hs x h
        · rw [List.mem_singleton.mp h]; exact sy
      · obtain ⟨a, b, pr, z, zz⟩ := w6
        exact ⟨a, b, pr, (upd_ne np.symm).trans z, zz⟩
      · have : But w H H6 := b3.trans (b4.trans (b5.trans ((But.of (same_new hq)).trans b6)))
        intro c o e ne
        rw [upd_ne (ne_of_none e hp0)]
        exact this c o e ne
    · rintro σ H3 ⟨x4, x5, row, rfl, e3, hl, hs, w3, b3⟩
      walk_at "go"
      exact k p H3 row hp0 e3 (by omega) (by omega) hs w3 b3
/-! ### lists of lists, lists of triples -/
def Rws (H : Hp) (a : Addr) (os : List (List Int)) : Prop := ∃ ps : List Addr, H a = some (.lst (ps.map V.ref)) ∧ ps.length = os.length ∧ ∀ (i : Nat) (p : Addr) (o : List Int), ps[i]? = some p → os[i]? = some o → H p = some (.lst (o.map V.int))
def Tps (H : Hp) (a : Addr) (ts : List (Int × Int × Int)) : Prop := ∃ ps : List Addr, H a = some (.lst (ps.map V.ref)) ∧ ps.length = ts.length ∧ ∀ (i : Nat) (p : Addr) (t : Int × Int × Int), ps[i]? = some p → ts[i]? = some t → H p = some (.tup [.int t.1, .int t.2.1, .int t.2.2])
theorem Rws.same {H H' : Hp} {a : Addr} {os : List (List Int)} (h : Rws H a os) (s : Same H H') : Rws H' a os := by
  obtain ⟨ps, e, l, r⟩ := h
  exact ⟨ps, s _ _ e, l, fun i p o hp ho => s _ _ (r i p o hp ho)⟩
theorem Tps.same {H H' : Hp} {a : Addr} {ts : List (Int × Int × Int)} (h : Tps H a ts) (s : Same H H') : Tps H' a ts := by
  obtain ⟨ps, e, l, r⟩ := h
  exact ⟨ps, s _ _ e, l, fun i p o hp ho => s _ _ (r i p o hp ho)⟩
theorem Rws.pick {H : Hp} {a : Addr} {os : List (List Int)} (h : Rws H a os) {i : Nat} (hi : i < os.length) : ∃ xs p, H a = some (.lst xs) ∧ atI xs (i : Int) = some (.ref p) ∧ H p = some (.lst ((os[i]).map V.int)) := by
  obtain ⟨ps, e, l, r⟩ := h
  have hp : i < ps.length := by omega
  refine ⟨_, ps[i], e, ?_, r i _ _ (List.getElem?_eq_getElem hp) (List.getElem?_eq_getElem hi)⟩
  unfold atI
  rw [List.length_map, ix_nat hp]
  show (ps.map V.ref)[i]? = _
  rw [List.getElem?_map, List.getElem?_eq_getElem hp]
  rfl
theorem Rws.len {H : Hp} {a : Addr} {os : List (List Int)} (h : Rws H a os) : ∃ xs, H a = some (.lst xs) ∧ xs.length = os.length := by
  obtain ⟨ps, e, l, _⟩ := h
  exact ⟨_, e, by rw [List.length_map]; exact l⟩
theorem Tps.pick {H : Hp} {a : Addr} {ts : List (Int × Int × Int)} (h : Tps H a ts) {i : Nat} (hi : i < ts.length) : ∃ xs p, H a = some (.lst xs) ∧ atI xs (i : Int) = some (.ref p) ∧ H p = some (.tup [.int ts[i].1, .int ts[i].2.1, .int ts[i].2.2]) := by
  obtain ⟨ps, e, l, r⟩ := h
  have hp : i < ps.length := by omega
  refine ⟨_, ps[i], e, ?_, r i _ _ (List.getElem?_eq_getElem hp) (List.getElem?_eq_getElem hi)⟩
  unfold atI
  rw [List.length_map, ix_nat hp]
  show (ps.map V.ref)[i]? = _
  rw [List.getElem?_map, List.getElem?_eq_getElem hp]
  rfl
theorem Tps.len {H : Hp} {a : Addr} {ts : List (Int × Int × Int)} (h : Tps H a ts) : ∃ xs, H a = some (.lst xs) ∧ xs.length = ts.length := by
  obtain ⟨ps, e, l, _⟩ := h
  exact ⟨_, e, by rw [List.length_map]; exact l⟩
/-- one triple more, made new, is put behind -/
theorem Tps.push {H : Hp} {a q : Addr} {ts : List (Int × Int × Int)} {t : Int × Int × Int} (h : Tps H a ts) (n : H q = none) : ∃ xs, H a = some (.lst xs) ∧ xs.length = ts.length ∧ Tps (upd (upd H q (.tup [.int t.1, .int t.2.1, .int t.2.2])) a (.lst (xs ++ [.ref q]))) a (ts ++ [t]) := by
  obtain ⟨ps, e, l, r⟩ := h
  refine ⟨_, e, by rw [List.length_map]; exact l, ps ++ [q], by rw [upd_same, List.map_append]; rfl, by rw [List.length_append, List.length_append]; show ps.length + 1 = ts.length + 1; omega, ?_⟩
  intro i p u hp hu
  by_cases hi : i < ps.length
  · rw [List.getElem?_append_left hi] at hp
    rw [List.getElem?_append_left (by omega)] at hu
    have z := r i p u hp hu
    rw [upd_ne (fun w => by subst w; rw [e] at z; cases z), upd_ne (ne_of_none z n)]
    exact z
  · have e1 : i = ps.length := by
      have := List.getElem?_eq_some_iff.mp hp
      obtain ⟨hh, _⟩ := this
      rw [List.length_append] at hh
      have : i < ps.length + 1 := hh
      omega
    subst e1
    rw [List.getElem?_append_right (Nat.le_refl _)] at hp
    rw [List.getElem?_append_right (by omega)] at hu
    simp at hp
    rw [l] at hu
    simp at hu
    subst hp hu
    have nq : q ≠ a := (ne_of_none e n).symm
    rw [upd_ne nq, upd_same]
/-! ### the parts of orders -/
def partRow (j : Nat) (o : List Int) (k : Nat) : List (Int × Int × Int) := (List.range k).map fun (i : Nat) => ((j : Int), ((o.length : Int) - 1 - (i : Int)), o.getD i 0)
def partsTo (os : List (List Int)) : Nat → List (Int × Int × Int)
  | 0 => []
  | j + 1 => partsTo os j ++ partRow j (os.getD j []) (os.getD j []).length
def partsI (os : List (List Int)) : List (Int × Int × Int) := partsTo os os.length
theorem partRow_len (j : Nat) (o : List Int) (k : Nat) : (partRow j o k).length = k := by unfold partRow; rw [List.length_map, List.length_range]
theorem partRow_succ (j : Nat) (o : List Int) (k : Nat) : partRow j o (k + 1) = partRow j o k ++ [((j : Int), ((o.length : Int) - 1 - (k : Int)), o.getD k 0)] := by
  unfold partRow
  rw [List.range_succ, List.map_append]
  rfl
theorem partsTo_le (os : List (List Int)) (n : Nat) (h : ∀ o ∈ os, o.length ≤ n) (j : Nat) : (partsTo os j).length ≤ n * j := by
  induction j with
  | zero => exact Nat.zero_le _
  | succ j ih =>
    show (partsTo os j ++ _).length ≤ _
    rw [List.length_append, partRow_len, Nat.mul_succ]
    have : (os.getD j []).length ≤ n := by
      by_cases hj : j < os.length
      · have e : os.getD j [] = os[j] := by rw [List.getD_eq_getElem?_getD, List.getElem?_eq_getElem hj]; rfl
        rw [e]
        exact h _ (List.getElem_mem hj)
      · rw [List.getD_eq_getElem?_getD, List.getElem?_eq_none (by omega)]
        exact Nat.zero_le _
    omega
def sp_law_parts : Sp := fun vs H Q _ => ∃ (a : Addr) (os : List (List Int)), vs = [.ref a] ∧ Rws H a os ∧ os.length ≤ 400 ∧ (∀ o ∈ os, o.length ≤ 8) ∧ ∀ p H', H p = none → Same H H' → Tps H' p (partsI os) → Q (.ref p) H'
abbrev s_law_parts : Stmt := top 73
theorem sc_law_parts : FnScope ["orders", "told", "number", "order", "k"] ["orders"] (defScope s_law_parts) := ⟨rfl, rfl, rfl, by decide +kernel, rfl, by decide +kernel, by decide +kernel⟩
theorem ok_law_parts (D : DefT K mg "_law_parts" s_law_parts ["orders"]) (T : Txt K mg cl) : FnT P w K mg base "_law_parts" 1 ["orders"] sp_law_parts := by
  refine D.fn sc_law_parts (fun vs H Q E h => ?_) (fun f cdv A outer s H vs Q E hr h => ?_)
  · obtain ⟨a, os, rfl, _⟩ := h
    rfl
  · obtain ⟨a, os, rfl, hR, h400, h8, k⟩ := h
    refine ⟨_, (pss_cons (ps_set (i := 1) sc_law_parts.nd rfl (by first | exact Or.inl rfl | exact Or.inr rfl) (pe_lst pa_nil))
      (pss_cons (ps_for passOwnX rfl (pi_range1 rfl T.z_range (pa_cons (pe_callB (call_lenK (K := K)) (by rfl) T.z_len PySem.boot_len (pa_cons (pv 0) pa_nil)) pa_nil)) (pg_name (i := 2) sc_law_parts.nd rfl (by first | exact Or.inl rfl | exact Or.inr rfl))
         (pss_cons (ps_set (i := 3) sc_law_parts.nd rfl (by first | exact Or.inl rfl | exact Or.inr rfl) (pe_ix (ix_listK (K := K)) (pv 0) (pv 2) (fun _ _ => rfl)))
          (pss_one (ps_for passOwnX rfl (pi_range1 rfl T.z_range (pa_cons (pe_callB (call_lenK (K := K)) (by rfl) T.z_len PySem.boot_len (pa_cons (pv 3) pa_nil)) pa_nil)) (pg_name (i := 4) sc_law_parts.nd rfl (by first | exact Or.inl rfl | exact Or.inr rfl))
            (pss_one (ps_expr (pe_appendK (K := K) (pv 1) (pa_cons (pe_tup (pa_cons (pv 2) (pa_cons (pe_op op_sub (pe_op op_sub (pe_callB (call_lenK (K := K)) (by rfl) T.z_len PySem.boot_len (pa_cons (pv 3) pa_nil)) pe_int) (pv 4)) (pa_cons (pe_ix (ix_listK (K := K)) (pv 3) (pv 4) (fun _ _ => rfl)) pa_nil)))) pa_nil))))))))
      (pss_one (ps_ret (pv 1))))), ?_⟩
    have h20 : 8000 ≤ sizeLine := by decide
    walk_at "go"
    refine ⟨Nat.zero_le _, fun p hp => ?_⟩
    have R1 := hR.same (same_new (o := .lst []) hp)
    have s1 : Same H (upd H p (.lst [])) := same_new hp
    have t1 : Tps (upd H p (.lst [])) p [] := ⟨[], upd_same, rfl, by simp⟩
    revert R1 s1 t1
    generalize upd H p (.lst []) = H1
    intro R1 s1 t1
    obtain ⟨xs, ex, lx⟩ := R1.len
    walk_at "go"
    rw [lx]
    refine for_range (n := (os.length : Int).toNat) (fun j σ H' => ∃ x2 x3 x4, σ = [some (.ref a), some (.ref p), x2, x3, x4] ∧ Same H H' ∧ Tps H' p (partsTo os j)) ⟨_, _, _, rfl, s1, t1⟩ ?_ ?_
    · rintro j σ H2 hj ⟨x2, x3, x4, rfl, s2, t2⟩
      have hj : j < os.length := by omega
      obtain ⟨ys, q, ey, hq, eq⟩ := hR.pick hj
      have eo : os.getD j [] = os[j] := by rw [List.getD_eq_getElem?_getD, List.getElem?_eq_getElem hj]; rfl
      have l8 : os[j].length ≤ 8 := h8 _ (List.getElem_mem hj)
      have lt : (partsTo os j).length ≤ 8 * j := partsTo_le os 8 h8 j
      walk_at "go"
      rw [show (0 + (j : Int)) = (j : Int) by omega]
      refine g_ixL (s2 _ _ ey) hq ?_
      walk_at "go"
      refine g_len (s2 _ _ eq) ?_
      walk_at "go"
      rw [List.length_map]
      refine ⟨_, rfl, by omega, by omega, ?_⟩
      refine for_range (n := (os[j].length : Int).toNat) (fun i σ H' => ∃ x4, σ = [some (.ref a), some (.ref p), some (.int (j : Int)), some (.ref q), x4] ∧ Same H H' ∧ Tps H' p (partsTo os j ++ partRow j os[j] i)) ⟨_, rfl, s2, by simpa [partRow] using t2⟩ ?_ ?_
      · rintro i σ H3 hi ⟨x4, rfl, s3, t3⟩
        have hi : i < os[j].length := by omega
        have e3 : H3 q = _ := s3 _ _ eq
        obtain ⟨zs, ez, lz⟩ := t3.len
        walk_at "go"
        rw [show (0 + (i : Int)) = (i : Int) by omega, List.length_map]
        refine g_ixL e3 (atI_map hi) ?_
        walk_at "go"
        refine ⟨by show 3 ≤ sizeLine; omega, fun r hr => ?_⟩
        obtain ⟨zs', ez', _, t4⟩ := t3.push (t := ((j : Int), ((os[j].length : Int) - 1 - (i : Int)), os[j][i])) hr
        cases (HO.lst.inj (Option.some.inj (ez.symm.trans ez')))
        walk_at "go"
        refine g_app ((upd_ne (ne_of_none ez hr)).trans ez) (by rw [lz, List.length_append, partRow_len]; omega) ?_
        refine ⟨_, rfl, (s3.trans (same_new hr)).set hp, ?_⟩
        rw [partRow_succ, ← List.append_assoc, show os[j].getD i 0 = os[j][i] by rw [List.getD_eq_getElem?_getD, List.getElem?_eq_getElem hi]; rfl]
        exact t4
      · rintro σ H3 ⟨x4, rfl, s3, t3⟩
        refine ⟨_, _, _, rfl, s3, ?_⟩
        show Tps H3 p (partsTo os j ++ partRow j (os.getD j []) (os.getD j []).length)
        rw [eo]
        rwa [show ((os[j].length : Int)).toNat = os[j].length by omega] at t3
    · rintro σ H2 ⟨x2, x3, x4, rfl, s2, t2⟩
      walk_at "go"
      refine k p H2 hp s2 ?_
      rwa [show ((os.length : Int)).toNat = os.length by omega] at t2
/-! ### cells by counting -/
theorem fixH {H H' : Hp} {p : Addr} (h : H' p = none) (s : Same H H') : Same H H' := s
def slipI (ts : List (Int × Int × Int)) (n g q : Int) : Int × Int × Int := if 0 ≤ q + n * (manyI n g q - 1) then ts.getD (q + n * (manyI n g q - 1)).toNat (-1, 0, 0) else (-1, 0, 0)
def cellsTo (n : Nat) (ts : List (Int × Int × Int)) (f g : Int) : Nat → List Int
  | 0 => []
  | i + 1 => cellsTo n ts f g i ++ [lmI n f g (0 + (i : Int)), (slipI ts n g (0 + (i : Int))).1, (slipI ts n g (0 + (i : Int))).2.1, (slipI ts n g (0 + (i : Int))).2.2]
def cellRow (n : Nat) (ts : List (Int × Int × Int)) (f g : Int) : List Int := cellsTo n ts f g n ++ [-1, -1, 0, 0]
theorem cellsTo_len (n : Nat) (ts : List (Int × Int × Int)) (f g : Int) (i : Nat) : (cellsTo n ts f g i).length = 4 * i := by
  induction i with
  | zero => rfl
  | succ i ih =>
    show (cellsTo n ts f g i ++ _).length = _
    rw [List.length_append, ih]
    show 4 * i + 4 = _
    omega
theorem cellRow_len (n : Nat) (ts : List (Int × Int × Int)) (f g : Int) : (cellRow n ts f g).length = 4 * n + 4 := by
  unfold cellRow
  rw [List.length_append, cellsTo_len]
  rfl
theorem getD_left {xs ys : List Int} {i : Nat} (h : i < xs.length) : (xs ++ ys).getD i 0 = xs.getD i 0 := by
  rw [List.getD_eq_getElem?_getD, List.getD_eq_getElem?_getD, List.getElem?_append_left h]
theorem getD_right {xs ys : List Int} {i : Nat} (h : xs.length ≤ i) : (xs ++ ys).getD i 0 = ys.getD (i - xs.length) 0 := by
  rw [List.getD_eq_getElem?_getD, List.getD_eq_getElem?_getD, List.getElem?_append_right h]
theorem cellsTo_mark (n : Nat) (ts : List (Int × Int × Int)) (f g : Int) (i q : Nat) (h : q < i) : (cellsTo n ts f g i).getD (4 * q) 0 = lmI n f g (0 + (q : Int)) := by
  induction i with
  | zero => exact absurd h (by omega)
  | succ i ih =>
    show (cellsTo n ts f g i ++ _).getD _ _ = _
    by_cases hq : q < i
    · rw [getD_left (by rw [cellsTo_len]; omega)]
      exact ih hq
    · have : q = i := by omega
      subst this
      rw [getD_right (by rw [cellsTo_len]; omega), cellsTo_len, Nat.sub_self]
      rfl
theorem cellRow_mark (n : Nat) (ts : List (Int × Int × Int)) (f g : Int) (q : Nat) (h : q < n) : (cellRow n ts f g).getD (4 * q) 0 = lmI n f g (0 + (q : Int)) := by
  unfold cellRow
  rw [getD_left (by rw [cellsTo_len]; omega), cellsTo_mark n ts f g n q h]
theorem cellRow_end (n : Nat) (ts : List (Int × Int × Int)) (f g : Int) (k : Nat) : (cellRow n ts f g).getD (4 * n + k) 0 = ([-1, -1, 0, 0] : List Int).getD k 0 := by
  unfold cellRow
  rw [getD_right (by rw [cellsTo_len]; omega), cellsTo_len, Nat.add_sub_cancel_left]
theorem lmI_in (n f g p : Int) : 0 ≤ lmI n f g p ∧ lmI n f g p ≤ 3 := by
  unfold lmI
  split
  · omega
  · split <;> omega
theorem cellRow_good {n : Nat} (ts : List (Int × Int × Int)) (f g : Int) (n2 : 2 ≤ n) (n8 : n ≤ 8) : GoodRow n (cellRow n ts f g) := by
  refine ⟨n2, n8, cellRow_len n ts f g, fun q hq => ?_, fun k hk => ?_, fun k hk => ?_⟩
  · rw [cellRow_mark n ts f g q hq]
    exact lmI_in _ _ _ _
  · rw [cellRow_end]
    have : k = 0 ∨ k = 1 := by omega
    rcases this with rfl | rfl
    · show (-1 : Int) ≤ -1 ∧ (-1 : Int) < _
      omega
    · show (-1 : Int) ≤ -1 ∧ (-1 : Int) < _
      omega
  · rw [Nat.add_assoc, cellRow_end]
    have : k = 0 ∨ k = 1 := by omega
    rcases this with rfl | rfl
    · exact .inl rfl
    · exact .inl rfl
theorem last_lt {n : Nat} {g : Int} {q : Nat} (n2 : 2 ≤ n) : 0 + (q : Int) + (n : Int) * (manyI n g (0 + (q : Int)) - 1) < g := by
  unfold manyI
  have h1 := Int.mul_ediv_add_emod (g - (0 + (q : Int)) + n - 1) n
  have h2 := Int.emod_nonneg (g - (0 + (q : Int)) + n - 1) (show (n : Int) ≠ 0 by omega)
  rw [Int.mul_sub, Int.mul_one]
  omega
def sp_law_cells : Sp := fun vs H Q _ => ∃ (n : Nat) (a : Addr) (os : List (List Int)) (f g : Int), vs = [.int n, .ref a, .int f, .int g] ∧ 2 ≤ n ∧ n ≤ 8 ∧ Rws H a os ∧ os.length ≤ 400 ∧ (∀ o ∈ os, o.length ≤ 8) ∧ 0 ≤ g ∧ g ≤ (partsI os).length ∧
  ∀ l H', H l = none → Same H H' → H' l = some (.lst ((cellRow n (partsI os) f g).map V.int)) → Q (.ref l) H'
abbrev s_law_cells : Stmt := top 74
theorem sc_law_cells : FnScope ["size", "orders", "freed", "given", "told", "cells", "marks", "place", "last", "slip"] ["size", "orders", "freed", "given"] (defScope s_law_cells) := ⟨rfl, rfl, rfl, by decide +kernel, rfl, by decide +kernel, by decide +kernel⟩
theorem ok_law_cells (D : DefT K mg "_law_cells" s_law_cells ["size", "orders", "freed", "given"]) (T : Txt K mg cl) (G_law_parts : FnT P w K mg base "_law_parts" 1 ["orders"] sp_law_parts) (G_law_marks : FnT P w K mg base "_law_marks" 1 ["size", "freed", "given"] sp_law_marks) : FnT P w K mg base "_law_cells" 2 ["size", "orders", "freed", "given"] sp_law_cells := by
  refine D.fn sc_law_cells (fun vs H Q E h => ?_) (fun f cdv A outer s H vs Q E hr h => ?_)
  · obtain ⟨n, a, os, f, g, rfl, _⟩ := h
    rfl
  · obtain ⟨n, a, os, f, g, rfl, n2, n8, hR, h400, h8, g0, g1, k⟩ := h
    refine ⟨_, (pss_cons (ps_set (i := 4) sc_law_cells.nd rfl (by first | exact Or.inl rfl | exact Or.inr rfl) (pe_fn G_law_parts hr (by decide) rfl passX (pa_cons (pv 1) pa_nil)))
      (pss_cons (ps_set (i := 5) sc_law_cells.nd rfl (by first | exact Or.inl rfl | exact Or.inr rfl) (pe_lst pa_nil))
      (pss_cons (ps_set (i := 6) sc_law_cells.nd rfl (by first | exact Or.inl rfl | exact Or.inr rfl) (pe_fn G_law_marks hr (by decide) rfl passX (pa_cons (pv 0) (pa_cons (pv 2) (pa_cons (pv 3) pa_nil)))))
      (pss_cons (ps_for passOwnX rfl (pi_range1 rfl T.z_range (pa_cons (pv 0) pa_nil)) (pg_name (i := 7) sc_law_cells.nd rfl (by first | exact Or.inl rfl | exact Or.inr rfl))
         (pss_cons (ps_set (i := 8) sc_law_cells.nd rfl (by first | exact Or.inl rfl | exact Or.inr rfl) (pe_op op_add (pv 7) (pe_op op_mul (pv 0) (pe_op op_sub (pe_op op_fdivB (pe_op op_sub (pe_op op_add (pe_op op_sub (pv 3) (pv 7)) (pv 0)) pe_int) (pv 0)) pe_int))))
          (pss_cons (ps_set (i := 9) sc_law_cells.nd rfl (by first | exact Or.inl rfl | exact Or.inr rfl) (pe_tup (pa_cons (pe_un un_neg pe_int) (pa_cons pe_int (pa_cons pe_int pa_nil)))))
          (pss_cons (ps_if (pt_cmpR op_ge (pv 8) pe_int (nomark _))
             (pss_one (ps_set (i := 9) sc_law_cells.nd rfl (by first | exact Or.inl rfl | exact Or.inr rfl) (pe_ix (ix_listK (K := K)) (pv 4) (pv 8) (fun _ _ => rfl))))
             pss_nil)
          (pss_one (ps_set (i := 5) sc_law_cells.nd rfl (by first | exact Or.inl rfl | exact Or.inr rfl) (pe_op op_cat (pe_op op_cat (pv 5) (pe_lst (pa_cons (pe_ix (ix_listK (K := K)) (pv 6) (pv 7) (fun _ _ => rfl)) pa_nil))) (pe_callTy (call_listK (K := K)) (by rfl) T.z_list PyProof.Rows.boot_list (pa_cons (pv 9) pa_nil)))))))))
      (pss_one (ps_ret (pe_op op_cat (pv 5) (pe_lst (pa_cons (pe_un un_neg pe_int) (pa_cons (pe_un un_neg pe_int) (pa_cons pe_int (pa_cons pe_int pa_nil)))))))))))), ?_⟩
    have h20 : 8000 ≤ sizeLine := by decide
    walk_at "go"
    refine ⟨a, os, rfl, hR, h400, h8, fun td H1 htd s1 t1 => ?_⟩
    walk_at "go"
    refine ⟨Nat.zero_le _, fun c0 hc0 => ?_⟩
    walk_at "go"
    refine ⟨n, f, g, rfl, n2, n8, fun ml H2 hml s2 e2 => ?_⟩
    have s02 : Same H H2 := (s1.trans (same_new hc0)).trans s2
    have t2 : Tps H2 td (partsI os) := (t1.same (same_new hc0)).same s2
    have ec0 : H2 c0 = some (.lst ((cellsTo n (partsI os) f g 0).map V.int)) := s2 _ _ upd_same
    have hc00 : H c0 = none := s1.free hc0
    walk_at "go"
    refine for_range (n := (n : Int).toNat) (fun i σ H' => ∃ cs x7 x8 x9, σ = [some (.int n), some (.ref a), some (.int f), some (.int g), some (.ref td), some (.ref cs), some (.ref ml), x7, x8, x9] ∧ H cs = none ∧ Same H H' ∧ Tps H' td (partsI os) ∧ H' ml = some (.lst ((lmRow n f g).map V.int)) ∧ H' cs = some (.lst ((cellsTo n (partsI os) f g i).map V.int))) ⟨_, _, _, _, rfl, hc00, s02, t2, e2, ec0⟩ ?_ ?_
    · rintro i σ H3 hi ⟨cs, x7, x8, x9, rfl, hcs, s3, t3, e3, ec⟩
      have hi : i < n := by omega
      have lcl := cellsTo_len n (partsI os) f g i
      walk_at "go"
      refine' g_I ?hc ?_
      case hc => exact ⟨by omega, nlog _ (by omega) (by omega)⟩
      walk_at "go"
      refine ⟨by show 3 ≤ sizeLine; omega, fun sp0 hsp0 => ?_⟩
      refine g_name ?_
      refine seq_cutC (M := fun σ' H' => ∃ sl, σ' = [some (.int n), some (.ref a), some (.int f), some (.int g), some (.ref td), some (.ref cs), some (.ref ml), some (.int (0 + (i : Int))), some (.int (0 + (i : Int) + n * (manyI n g (0 + (i : Int)) - 1))), some (.ref sl)] ∧ Same H3 H' ∧ H' sl = some (.tup [.int (slipI (partsI os) n g (0 + (i : Int))).1, .int (slipI (partsI os) n g (0 + (i : Int))).2.1, .int (slipI (partsI os) n g (0 + (i : Int))).2.2])) ?_ ?_
      rotate_left
      · intro R hR
        walk_at "go"
        refine g_ite (fun c => ?_) (fun c => ?_)
        · have lt := last_lt (n := n) (g := g) (q := i) n2
          have c' : 0 ≤ 0 + (i : Int) + n * (manyI n g (0 + (i : Int)) - 1) := c
          have hlt : (0 + (i : Int) + n * (manyI n g (0 + (i : Int)) - 1)).toNat < (partsI os).length := by omega
          obtain ⟨xs, sl, ex, hx, es⟩ := t3.pick hlt
          rw [show (((0 + (i : Int) + n * (manyI n g (0 + (i : Int)) - 1)).toNat : Nat) : Int) = 0 + (i : Int) + n * (manyI n g (0 + (i : Int)) - 1) by omega] at hx
          walk_at "go"
          refine g_ixL (same_new hsp0 _ _ ex) hx ?_
          walk_at "go"
          refine hR _ _ ⟨sl, rfl, same_new hsp0, ?_⟩
          have e : slipI (partsI os) n g (0 + (i : Int)) = (partsI os)[(0 + (i : Int) + n * (manyI n g (0 + (i : Int)) - 1)).toNat] := by
            unfold slipI
            rw [if_pos c', List.getD_eq_getElem?_getD, List.getElem?_eq_getElem hlt]
            rfl
          rw [e]
          exact same_new hsp0 _ _ es
        · walk_at "go"
          refine hR _ _ ⟨sp0, rfl, same_new hsp0, ?_⟩
          have e : slipI (partsI os) n g (0 + (i : Int)) = (-1, 0, 0) := by
            unfold slipI
            rw [if_neg]
            exact c
          rw [e]
          exact upd_same
      rintro σ' H4 ⟨sl, rfl, s4, esl⟩
      walk_at "go"
      refine g_ixL (s4 _ _ e3) (atI_in (row := lmRow n f g) (by omega) (by rw [lmRow_len]; omega)) ?_
      walk_at "go"
      refine ⟨one_le_line, fun p1 hp1 => ?_⟩
      refine g_cat (same_new hp1 _ _ (s4 _ _ ec)) upd_same (by rw [List.length_map, lcl]; show 4 * i + 1 ≤ sizeLine; omega) (fun p2 hp2 => ?_)
      walk_at "go"
      refine ⟨sl, _, rfl, .inr (SqT.of (((same_new hp1).trans (same_new hp2)) _ _ esl)), fun p3 hp3 => ?_⟩
      refine g_cat (same_new hp3 _ _ upd_same) upd_same (by rw [List.length_append, List.length_map, lcl]; show 4 * i + 1 + 3 ≤ sizeLine; omega) (fun p4 hp4 => ?_)
      walk_at "go"
      have s5 := fixH hp4 (((s4.trans (same_new hp1)).trans (same_new hp2)).trans (same_new hp3))
      refine ⟨p4, _, _, _, rfl, ?_, s3.trans (s5.trans (same_new hp4)), t3.same (s5.trans (same_new hp4)), (s5.trans (same_new hp4)) _ _ e3, ?_⟩
      · exact s3.free (s5.free hp4)
      · rw [upd_same]
        have e : (lmRow n f g).getD (0 + (i : Int)).toNat 0 = lmI n f g (0 + (i : Int)) := by
          unfold lmRow
          rw [show (0 + (i : Int)).toNat = i by omega, List.getD_eq_getElem?_getD, List.getElem?_map, List.getElem?_range hi]
          rfl
        rw [e]
        show _ = some (HO.lst ((cellsTo n (partsI os) f g i ++ _).map V.int))
        rw [List.map_append, List.append_assoc]
        rfl
    · rintro σ H3 ⟨cs, x7, x8, x9, rfl, hcs, s3, t3, e3, ec⟩
      have lcl := cellsTo_len n (partsI os) f g (n : Int).toNat
      walk_at "go"
      refine ⟨by show 4 ≤ sizeLine; omega, fun p hp => ?_⟩
      refine g_cat (same_new hp _ _ ec) upd_same (by rw [List.length_map, lcl]; show 4 * (n : Int).toNat + 4 ≤ sizeLine; omega) (fun q hq => ?_)
      refine k q _ (s3.free ((same_new hp).free hq)) ((s3.trans (same_new hp)).trans (same_new hq)) ?_
      rw [upd_same]
      unfold cellRow
      rw [List.map_append, show ((n : Int)).toNat = n by omega]
      rfl
/-! ### orders drawn, one behind the other -/
def OrdP (w : Addr) (n : Int) (H : Hp) (D : Addr) (i : Nat) (acc : List V) (H' : Hp) : Prop := ∃ (ps : List Addr) (os : List (List Int)), acc = ps.map V.ref ∧ ps.length = i ∧ os.length = i ∧ H' D = some (.lst acc) ∧ Well H' w ∧ But w H H' ∧ (∀ o ∈ os, 1 ≤ o.length ∧ (o.length : Int) ≤ n ∧ ∀ x ∈ o, Small x) ∧
  ∀ (j : Nat) (p : Addr) (o : List Int), ps[j]? = some p → os[j]? = some o → p ≠ D ∧ p ≠ w ∧ H' p = some (.lst (o.map V.int))
theorem OrdP.zero {w D : Addr} {n : Int} {H : Hp} (hw : Well H w) (hD : H D = none) : OrdP w n H D 0 [] (upd H D (.lst [])) :=
  ⟨[], [], rfl, rfl, rfl, upd_same, hw.same (same_new hD), But.of (same_new hD), by simp, by simp⟩
theorem OrdP.has {w D : Addr} {n : Int} {H H' : Hp} {i : Nat} {acc : List V} (h : OrdP w n H D i acc H') : H' D = some (.lst acc) ∧ acc.length = i := by
  obtain ⟨ps, os, rfl, l1, l2, e, _⟩ := h
  exact ⟨e, by rw [List.length_map]; exact l1⟩
theorem OrdP.well {w D : Addr} {n : Int} {H H' : Hp} {i : Nat} {acc : List V} (h : OrdP w n H D i acc H') : Well H' w := by
  obtain ⟨ps, os, rfl, l1, l2, e, z, _⟩ := h
  exact z
theorem OrdP.step {w D p : Addr} {n : Int} {H H' H3 : Hp} {i : Nat} {acc : List V} {row : List Int} (hw0 : Well H w) (hD : H D = none) (h : OrdP w n H D i acc H') (hp : H' p = none) (ep : H3 p = some (.lst (row.map V.int))) (l1 : 1 ≤ row.length) (l2 : (row.length : Int) ≤ n) (sm : ∀ x ∈ row, Small x) (w3 : Well H3 w) (b3 : But w H' H3) :
    H3 D = some (.lst acc) ∧ OrdP w n H D (i + 1) (acc ++ [.ref p]) (upd H3 D (.lst (acc ++ [.ref p]))) := by
  obtain ⟨ps, os, rfl, lp, lo, e, w1, b1, g, r⟩ := h
  have nD : D ≠ w := hw0.ne hD
  have e3 := b3 _ _ e nD
  have npD : p ≠ D := (ne_of_none e hp).symm
  have npw : p ≠ w := w1.ne hp
  refine ⟨e3, ps ++ [p], os ++ [row], by rw [List.map_append]; rfl, by rw [List.length_append, lp]; rfl, by rw [List.length_append, lo]; rfl, upd_same, ?_, ?_, ?_, ?_⟩
  · obtain ⟨a, b, c, z, zz⟩ := w3
    exact ⟨a, b, c, (upd_ne nD.symm).trans z, zz⟩
  · intro c o ec nc
    rw [upd_ne (ne_of_none ec hD)]
    exact b3 _ _ (b1 _ _ ec nc) nc
  · intro o ho
    rcases List.mem_append.mp ho with ho | ho
    · exact g o ho
    · rw [List.mem_singleton.mp ho]
      exact ⟨l1, l2, sm⟩
  · intro j q o hq ho
    by_cases hj : j < i
    · rw [List.getElem?_append_left (by omega)] at hq ho
      obtain ⟨n1, n2, z⟩ := r j q o hq ho
      exact ⟨n1, n2, by rw [upd_ne n1]; exact b3 _ _ z n2⟩
    · have hj' : j = i := by
        have := (List.getElem?_eq_some_iff.mp hq).1
        rw [List.length_append, lp] at this
        have : j < i + 1 := this
        omega
      subst hj'
      rw [List.getElem?_append_right (by omega), lp, Nat.sub_self] at hq
      rw [List.getElem?_append_right (by omega), lo, Nat.sub_self] at ho
      cases hq
      cases ho
      exact ⟨npD, npw, by rw [upd_ne npD]; exact ep⟩
/-- a list of lists, all of them away from w -/
def RwsO (w : Addr) (H : Hp) (a : Addr) (os : List (List Int)) : Prop := ∃ ps : List Addr, H a = some (.lst (ps.map V.ref)) ∧ a ≠ w ∧ ps.length = os.length ∧ ∀ (i : Nat) (p : Addr) (o : List Int), ps[i]? = some p → os[i]? = some o → p ≠ w ∧ H p = some (.lst (o.map V.int))
theorem RwsO.rws {w a : Addr} {H : Hp} {os : List (List Int)} (h : RwsO w H a os) : Rws H a os := by
  obtain ⟨ps, e, _, l, r⟩ := h
  exact ⟨ps, e, l, fun i p o hp ho => (r i p o hp ho).2⟩
theorem RwsO.but {w a : Addr} {H H' : Hp} {os : List (List Int)} (h : RwsO w H a os) (b : But w H H') : RwsO w H' a os := by
  obtain ⟨ps, e, n, l, r⟩ := h
  exact ⟨ps, b _ _ e n, n, l, fun i p o hp ho => ⟨(r i p o hp ho).1, b _ _ (r i p o hp ho).2 (r i p o hp ho).1⟩⟩
theorem OrdP.rws {w D : Addr} {n : Int} {H H' : Hp} {i : Nat} {acc : List V} (hw0 : Well H w) (hD : H D = none) (h : OrdP w n H D i acc H') : ∃ os : List (List Int), RwsO w H' D os ∧ os.length = i ∧ (∀ o ∈ os, 1 ≤ o.length ∧ (o.length : Int) ≤ n ∧ ∀ x ∈ o, Small x) ∧ Well H' w ∧ But w H H' := by
  obtain ⟨ps, os, rfl, lp, lo, e, w1, b1, g, r⟩ := h
  exact ⟨os, ⟨ps, e, hw0.ne hD, by omega, fun j p o hp ho => (r j p o hp ho).2⟩, lo, g, w1, b1⟩
/-! ### a cell changed -/
theorem getD_set_ne {row : List Int} {i j : Nat} {v : Int} (h : i ≠ j) : (row.set i v).getD j 0 = row.getD j 0 := by
  rw [List.getD_eq_getElem?_getD, List.getD_eq_getElem?_getD, List.getElem?_set_ne h]
theorem getD_set_self {row : List Int} {i : Nat} {v : Int} (h : i < row.length) : (row.set i v).getD i 0 = v := by
  rw [List.getD_eq_getElem?_getD, List.getElem?_set_self h]
  rfl
theorem GoodRow.setCard {n : Nat} {row : List Int} (g : GoodRow n row) {k : Nat} (hk : k < 2) {v : Int} (v0 : -1 ≤ v) (v1 : v < 2 * (n : Int)) : GoodRow n (row.set (4 * n + k) v) := by
  have hl := g.len
  refine ⟨g.n2, g.n8, by rw [List.length_set]; exact hl, fun q hq => ?_, fun j hj => ?_, fun j hj => ?_⟩
  · rw [getD_set_ne (by omega)]; exact g.ok.mks q hq
  · by_cases e : j = k
    · subst e
      rw [getD_set_self (by omega)]
      exact ⟨v0, v1⟩
    · rw [getD_set_ne (by omega)]; exact g.ok.cd j hj
  · rw [getD_set_ne (by omega)]; exact g.ok.bl j hj
theorem GoodRow.setBell {n : Nat} {row : List Int} (g : GoodRow n row) {k : Nat} (hk : k < 2) {v : Int} (v0 : v = 0 ∨ v = 1) : GoodRow n (row.set (4 * n + 2 + k) v) := by
  have hl := g.len
  refine ⟨g.n2, g.n8, by rw [List.length_set]; exact hl, fun q hq => ?_, fun j hj => ?_, fun j hj => ?_⟩
  · rw [getD_set_ne (by omega)]; exact g.ok.mks q hq
  · rw [getD_set_ne (by omega)]; exact g.ok.cd j hj
  · by_cases e : j = k
    · subst e
      rw [getD_set_self (by omega)]
      exact v0
    · rw [getD_set_ne (by omega)]; exact g.ok.bl j hj
theorem GoodRow.setOdd {n : Nat} {row : List Int} (g : GoodRow n row) {q r : Nat} (hq : q < n) (r1 : 1 ≤ r) (r3 : r ≤ 3) {v : Int} : GoodRow n (row.set (4 * q + r) v) := by
  have hl := g.len
  refine ⟨g.n2, g.n8, by rw [List.length_set]; exact hl, fun p hp => ?_, fun j hj => ?_, fun j hj => ?_⟩
  · rw [getD_set_ne (by omega)]; exact g.ok.mks p hp
  · rw [getD_set_ne (by omega)]; exact g.ok.cd j hj
  · rw [getD_set_ne (by omega)]; exact g.ok.bl j hj
theorem map_set_int {row : List Int} {i : Nat} {v : Int} : (row.map V.int).set i (.int v) = (row.set i v).map V.int := by rw [List.map_set]
theorem Well.off {H : Hp} {w c : Addr} {row : List Int} (h : Well H w) (e : H c = some (.lst (row.map V.int))) (l : row.length ≠ 3) : c ≠ w := by
  rintro rfl
  obtain ⟨a, b, p, z, _⟩ := h
  rw [z] at e
  have e := congrArg List.length (HO.lst.inj (Option.some.inj e))
  rw [List.length_map] at e
  exact l e.symm
theorem Well.set {H : Hp} {w c : Addr} {o : HO} (h : Well H w) (n : c ≠ w) : Well (upd H c o) w := by
  obtain ⟨a, b, p, z, q⟩ := h
  exact ⟨a, b, p, by rw [upd_ne n.symm]; exact z, q⟩
theorem But.set {w c : Addr} {H H' : Hp} {o : HO} (b : But w H H') (n : H c = none) : But w H (L2.upd H' c o) := fun x u e nx => by
  rw [upd_ne (ne_of_none e n)]
  exact b x u e nx
theorem g_unp2 {σ : St} {H : Hp} {k : St → Hp → Prop} {p : Addr} {x y : V} {i j n : Nat} (h : H p = some (.tup [x, y])) (hn : 2 = n) (q : k ((σ.set i (some x)).set j (some y)) H) : gTup K n (gCons (gName i) (gCons (gName j) gNil)) (.ref p) σ H k :=
  ⟨p, [x, y], rfl, SqT.of h, hn, x, [y], rfl, y, [], rfl, rfl, q⟩
theorem g_unp3 {σ : St} {H : Hp} {k : St → Hp → Prop} {p : Addr} {x y z : V} {i j m n : Nat} (h : H p = some (.tup [x, y, z])) (hn : 3 = n) (q : k (((σ.set i (some x)).set j (some y)).set m (some z)) H) : gTup K n (gCons (gName i) (gCons (gName j) (gCons (gName m) gNil))) (.ref p) σ H k :=
  ⟨p, [x, y, z], rfl, SqT.of h, hn, x, [y, z], rfl, y, [z], rfl, z, [], rfl, rfl, q⟩
theorem nsame (x : Int) : (!decide (V.int x = V.int x)) = false := by simp
theorem ysame (x : Int) : decide (V.int x = V.int x) = true := by simp
def sp_law (K : PySem.W.Frag) : Sp := fun vs H Q _ => ∃ (a : Addr) (ns : List Int), vs = [.ref a] ∧ SqL K H a (ns.map V.int) ∧ ns.length ≤ 63 ∧ ∀ H', Q (.bl true) H'
theorem eqd_pair {H : Hp} {p q k k' : Addr} {x : V} (ne : p ≠ q) (hp : H p = some (.tup [.ref k, x])) (hq : H q = some (.tup [.ref k', x])) (hk : EqD K H 1 (.ref k) (.ref k') true) (fx : flatV x = true) (ex : eqV x x = true) : EqD K H 2 (.ref p) (.ref q) true := by
  have h := EqD.tup (K := K) (n := 1) (e := fun _ => true) ne (SqT.of hp) (SqT.of hq) (fun j y z hy hz => ?_)
  · exact h
  · match j, hy, hz with
    | 0, hy, hz => cases hy; cases hz; exact hk
    | 1, hy, hz =>
      cases hy; cases hz
      have := EqD.flat (K := K) (H := H) (n := 1) fx fx
      rw [ex] at this
      exact this
end
end S

set_option Elab.async false
set_option linter.all false
set_option maxRecDepth 100000
set_option maxHeartbeats 4000000
namespace S
open PySem L2
local macro_rules | `(tactic| walk_at "at") => `(tactic| first | assumption | exact upd_same | (refine (upd_ne ?_).trans ?_; (walk_at "ne"); (walk_at "at")) | (refine Same.at ?_ ?_; assumption; (walk_at "at")))
local macro_rules | `(tactic| walk_at "ne") => `(tactic| first | assumption | exact Ne.symm (by assumption) | ((refine' ne_of_none ?h ?n); (case n => assumption); (case h => walk_at "at")) | ((refine Ne.symm ?_); (refine' ne_of_none ?h ?n); (case n => assumption); (case h => walk_at "at")))
local macro_rules | `(tactic| walk_at "cond") => `(tactic| first | trivial | exact Or.inl ⟨by decide, by decide⟩ | exact Or.inr ⟨by decide, by decide⟩ | exact Or.inl ⟨by omega, by omega⟩ | exact Or.inr ⟨by omega, by omega⟩ | (show (0 : Int) < _; omega) | (show (0 : Int) < _; decide))
local macro_rules | `(tactic| walk_at "go1") => `(tactic| first
  | ((with_reducible refine' g_var ?h ?_); (case h => exact rfl))
  | with_reducible refine g_c ?_ | with_reducible refine g_op ?_ | with_reducible refine g_un ?_ | with_reducible refine g_I0 ?_ | with_reducible refine g_U ?_
  | ((with_reducible refine' g_I ?h ?_); (case h => walk_at "cond"))
  | ((with_reducible refine' g_eq ?h ?_); (case h => exact rfl)) | ((with_reducible refine' g_ne ?h ?_); (case h => exact rfl))
  | with_reducible refine g_cb ?_ | with_reducible refine g_nil ?_ | with_reducible refine g_cons ?_
  | (with_reducible refine g_tup ?_) | (with_reducible refine g_lst ?_) | with_reducible refine g_fn ?_ | with_reducible refine g_fnJ ?_
  | with_reducible refine g_fld ?_ | with_reducible refine g_mt ?_ | with_reducible refine g_mtJ ?_ | with_reducible refine g_mk ?_ | with_reducible refine g_mkJ ?_
  | with_reducible refine g_test ?_ | with_reducible refine g_tB ?_ | with_reducible refine g_and ?_ | with_reducible refine g_or ?_ | with_reducible refine g_not ?_ | with_reducible refine g_andV ?_ | with_reducible refine g_orV ?_ | with_reducible refine g_notV ?_ | with_reducible refine g_ifE ?_
  | with_reducible refine g_bl ?_ | with_reducible refine iteT ?_ | with_reducible refine iteF ?_ | with_reducible refine iteNT ?_ | with_reducible refine iteNF ?_
  | with_reducible refine g_seq ?_ | with_reducible refine g_next ?_ | with_reducible refine g_drop ?_ | with_reducible refine g_ret ?_ | with_reducible refine g_retN ?_ | with_reducible refine g_if ?_ | with_reducible refine g_asg ?_ | with_reducible refine g_name ?_ | with_reducible refine g_sub ?_ | with_reducible refine g_sfld ?_ | with_reducible refine g_raise ?_ | with_reducible refine g_tryAs ?_
  | ((with_reducible refine' g_fld1 ?h ?c ?n ?l ?_); (case h => walk_at "at"); (case c => walk_at "cls"); (case n => walk_at "nat"); (case l => exact rfl))
  | ((with_reducible refine' g_sfld1 ?h ?c ?n ?l ?_); (case h => walk_at "at"); (case c => walk_at "cls"); (case n => walk_at "nat"); (case l => exact Nat.le_of_ble_eq_true rfl))
  | with_reducible refine g_aug ?_ | with_reducible refine g_rAdd ?_
  | ((with_reducible refine' g_aug1 ?h ?c ?n ?l ?_); (case h => walk_at "at"); (case c => walk_at "cls"); (case n => walk_at "nat"); (case l => exact rfl))
  | ((with_reducible refine' g_aug2 ?h ?l ?_); (case h => walk_at "at"); (case l => exact Nat.le_of_ble_eq_true rfl))
  | ((with_reducible refine' g_mt1 ?h ?l ?_); (case h => walk_at "at"); (case l => exact rfl))
  | ((with_reducible refine' g_ixL ?h ?e ?_); (case h => walk_at "at"); (case e => exact rfl))
  | ((with_reducible refine' g_ixT ?h ?e ?_); (case h => walk_at "at"); (case e => exact rfl))
  | ((with_reducible refine' g_len ?h ?_); (case h => walk_at "at")) | ((with_reducible refine' g_list ?h ?_); (case h => walk_at "at"))
  | with_reducible refine g_for ?_ | with_reducible refine g_rng1 ?_ | with_reducible refine g_rng2 ?_ | with_reducible refine g_lsti ?_ | with_reducible refine g_comp ?_
  | ((with_reducible refine' g_rngW ?h1 ?h2 ?_); (case h1 => omega); (case h2 => omega)) | ((with_reducible refine' g_rngW ?h1 ?h2 ?_); (case h1 => decide); (case h2 => decide))
  | ((with_reducible refine' g_lstW ?h ?_); (case h => exact SqL.of (by walk_at "at")))
  | with_reducible refine g_bm0 ?_ | ((with_reducible refine' g_clear ?h ?_); (case h => walk_at "at"))
  | with_reducible refine g_bm ?_ | ((with_reducible refine' g_tyL ?h ?_); (case h => walk_at "at")) | ((with_reducible refine' g_app ?h ?l ?_); (case h => walk_at "at"); (case l => first | exact Nat.le_of_ble_eq_true rfl | omega)))
local macro_rules | `(tactic| walk_at "go") => `(tactic| repeat (walk_at "go1"))
set_option hygiene false in
local macro_rules | `(tactic| walk_at "cls") => `(tactic| first | assumption)
set_option hygiene false in
local macro_rules | `(tactic| walk_at "nat") => `(tactic| first | assumption)
section
variable {P : Program} {w : World} {K : PySem.W.Frag} {mg : Str → Option Value} {base : Heap} {cl : Cl}
/-! ### slips -/
def slipOf (row : List Int) (q : Nat) : Int × Int × Int := (row.getD (4 * q + 1) 0, row.getD (4 * q + 2) 0, row.getD (4 * q + 3) 0)
def tup3 (t : Int × Int × Int) : HO := .tup [.int t.1, .int t.2.1, .int t.2.2]
def sp_slip_at : Sp := fun vs H Q _ => ∃ (a : Addr) (row : List Int) (p : Int), vs = [.ref a, .int p] ∧ H a = some (.lst (row.map V.int)) ∧ 0 ≤ p ∧ 4 * p + 3 < row.length ∧ ∀ t, H t = none → Q (.ref t) (upd H t (tup3 (slipOf row p.toNat)))
abbrev s_slip_at : Stmt := top 61
theorem sc_slip_at : FnScope ["cells", "place"] ["cells", "place"] (defScope s_slip_at) := ⟨rfl, rfl, rfl, by decide +kernel, rfl, by decide +kernel, by decide +kernel⟩
theorem ok_slip_at (D : DefT K mg "slip_at" s_slip_at ["cells", "place"]) (T : Txt K mg cl) (G_number_cell : FnT P w K mg base "number_cell" 1 ["place"] (sp_cellOf 1)) (G_left_cell : FnT P w K mg base "left_cell" 1 ["place"] (sp_cellOf 2)) (G_thing_cell : FnT P w K mg base "thing_cell" 1 ["place"] (sp_cellOf 3)) : FnT P w K mg base "slip_at" 2 ["cells", "place"] sp_slip_at := by
  refine D.fn sc_slip_at (fun vs H Q E h => ?_) (fun f cdv A outer s H vs Q E hr h => ?_)
  · obtain ⟨a, row, p, rfl, _⟩ := h
    rfl
  · obtain ⟨a, row, p, rfl, ea, p0, p1, k⟩ := h
    refine ⟨_, (pss_one (ps_ret (pe_tup (pa_cons (pe_ix (ix_listK (K := K)) (pv 0) (pe_fn G_number_cell hr (by decide) rfl passX (pa_cons (pv 1) pa_nil)) (fun _ _ => rfl)) (pa_cons (pe_ix (ix_listK (K := K)) (pv 0) (pe_fn G_left_cell hr (by decide) rfl passX (pa_cons (pv 1) pa_nil)) (fun _ _ => rfl)) (pa_cons (pe_ix (ix_listK (K := K)) (pv 0) (pe_fn G_thing_cell hr (by decide) rfl passX (pa_cons (pv 1) pa_nil)) (fun _ _ => rfl)) pa_nil)))))), ?_⟩
    walk_at "go"
    refine ⟨p, rfl, ?_⟩
    refine g_ixL ea (atI_in (by omega) (by omega)) ?_
    walk_at "go"
    refine ⟨p, rfl, ?_⟩
    refine g_ixL ea (atI_in (by omega) (by omega)) ?_
    walk_at "go"
    refine ⟨p, rfl, ?_⟩
    refine g_ixL ea (atI_in (by omega) (by omega)) ?_
    walk_at "go"
    refine ⟨by show 3 ≤ sizeLine; decide, fun t ht => ?_⟩
    rw [show (4 * p + 1).toNat = 4 * p.toNat + 1 by omega, show (4 * p + 2).toNat = 4 * p.toNat + 2 by omega, show (4 * p + 3).toNat = 4 * p.toNat + 3 by omega]
    exact k t ht
def slipRow (n : Nat) (row : List Int) (t d : Nat) : List (Int × Int × Int) := (List.range d).map fun k => slipOf row ((t + k) % n)
theorem slipRow_len (n : Nat) (row : List Int) (t d : Nat) : (slipRow n row t d).length = d := by unfold slipRow; rw [List.length_map, List.length_range]
/-- the turns of sound marks -/
structure Turns (n : Nat) (row : List Int) (t g d : Nat) : Prop where
  ft : frontB (toB ((markRow n row).map tbI)) = some t
  fg : frontB (toB ((markRow n row).map lapI)) = some g
  t1 : t < 2 * n
  g1 : g < 2 * n
  di : ((g : Int) - (t : Int)) % (2 * (n : Int)) = (d : Int)
  dn : d ≤ n
theorem marks_ok_of {n : Nat} {row : List Int} (h : NumOk n row) : marksOk (markRow n row) = true := by
  refine List.all_eq_true.mpr fun x hx => ?_
  obtain ⟨q, hq, rfl⟩ := List.mem_map.mp hx
  have := h.mks q (List.mem_range.mp hq)
  simpa using this
theorem turns_of {n : Nat} {row : List Int} (n2 : 2 ≤ n) (h : soundI (markRow n row) = true) : ∃ t g d, Turns n row t g d := by
  unfold soundI at h
  rw [markRow_len] at h
  cases et : frontB (toB ((markRow n row).map tbI)) with
  | none => rw [et] at h; cases h
  | some t =>
    cases eg : frontB (toB ((markRow n row).map lapI)) with
    | none => rw [et, eg] at h; cases h
    | some g =>
      rw [et, eg] at h
      have h : ((g : Int) - (t : Int)) % (2 * (n : Int)) ≤ (n : Int) := of_decide_eq_true h
      have l1 : (toB ((markRow n row).map tbI)).length = n := by rw [toB_len, List.length_map, markRow_len]
      have l2 : (toB ((markRow n row).map lapI)).length = n := by rw [toB_len, List.length_map, markRow_len]
      have t1 := front_lt (by omega) et
      have g1 := front_lt (by omega) eg
      have z := Int.emod_nonneg ((g : Int) - (t : Int)) (show (2 * (n : Int)) ≠ 0 by omega)
      exact ⟨t, g, (((g : Int) - (t : Int)) % (2 * (n : Int))).toNat, et, eg, by omega, by omega, by omega, by omega⟩
/-- triples at addresses that were free in H0 -/
def TpsN (H0 H : Hp) (a : Addr) (ts : List (Int × Int × Int)) : Prop := ∃ ps : List Addr, H a = some (.lst (ps.map V.ref)) ∧ ps.length = ts.length ∧ ∀ (i : Nat) (p : Addr) (t : Int × Int × Int), ps[i]? = some p → ts[i]? = some t → H0 p = none ∧ H p = some (tup3 t)
theorem TpsN.tps {H0 H : Hp} {a : Addr} {ts : List (Int × Int × Int)} (h : TpsN H0 H a ts) : Tps H a ts := by
  obtain ⟨ps, e, l, r⟩ := h
  exact ⟨ps, e, l, fun i p t hp ht => (r i p t hp ht).2⟩
theorem TpsN.back {H00 H0 H : Hp} {a : Addr} {ts : List (Int × Int × Int)} (h : TpsN H0 H a ts) (s : Same H00 H0) : TpsN H00 H a ts := by
  obtain ⟨ps, e, l, r⟩ := h
  exact ⟨ps, e, l, fun i p t hp ht => ⟨s.free (r i p t hp ht).1, (r i p t hp ht).2⟩⟩
theorem TpsN.same {H0 H H' : Hp} {a : Addr} {ts : List (Int × Int × Int)} (h : TpsN H0 H a ts) (s : Same H H') : TpsN H0 H' a ts := by
  obtain ⟨ps, e, l, r⟩ := h
  exact ⟨ps, s _ _ e, l, fun i p t hp ht => ⟨(r i p t hp ht).1, s _ _ (r i p t hp ht).2⟩⟩
theorem eqd_tup3 {H : Hp} {p q : Addr} {t : Int × Int × Int} (ne : p ≠ q) (hp : H p = some (tup3 t)) (hq : H q = some (tup3 t)) : EqD K H 1 (.ref p) (.ref q) true := by
  have h := EqD.tup (K := K) (n := 0) (e := fun _ => true) ne (SqT.of hp) (SqT.of hq) (fun j x y hx hy => ?_)
  · exact h
  · rw [hx] at hy
    cases hy
    have hf : flatV x = true := by
      match j, hx with
      | 0, hx => cases hx; rfl
      | 1, hx => cases hx; rfl
      | 2, hx => cases hx; rfl
    have he : eqV x x = true := by
      match j, hx with
      | 0, hx => cases hx; simp [eqV]
      | 1, hx => cases hx; simp [eqV]
      | 2, hx => cases hx; simp [eqV]
    have := EqD.flat (K := K) (H := H) (n := 0) hf hf
    rw [he] at this
    exact this
theorem eqd_tps {H0 H : Hp} {p q : Addr} {ts : List (Int × Int × Int)} (np : p ≠ q) (a : TpsN H0 H p ts) (b : Tps H0 q ts) (s : Same H0 H) : EqD K H 2 (.ref p) (.ref q) true := by
  obtain ⟨ps, e1, l1, r1⟩ := a
  obtain ⟨qs, e2, l2, r2⟩ := b
  have h := EqD.lst (K := K) (n := 1) (e := fun _ => true) np (SqL.of e1) (SqL.of (s _ _ e2)) (by rw [List.length_map, List.length_map]; omega) (fun j x y hx hy => ?_)
  · rw [show ((List.range (ps.map V.ref).length).all fun _ => true) = true from List.all_eq_true.mpr fun _ _ => rfl] at h
    exact h
  · rw [List.getElem?_map] at hx hy
    cases ep : ps[j]? with
    | none => rw [ep] at hx; cases hx
    | some pj =>
      cases eq : qs[j]? with
      | none => rw [eq] at hy; cases hy
      | some qj =>
        rw [ep] at hx
        rw [eq] at hy
        cases hx
        cases hy
        have hj : j < ts.length := by rw [← l1]; exact (List.getElem?_eq_some_iff.mp ep).1
        have a := r1 j pj _ ep (List.getElem?_eq_getElem hj)
        have b := r2 j qj _ eq (List.getElem?_eq_getElem hj)
        exact eqd_tup3 (ne_of_none b a.1).symm a.2 (s _ _ b)
def sp_slips (cl : Cl) : Sp := fun vs H Q E => ∃ (a : Addr) (row : List Int), vs = [.ref a] ∧ H a = some (.lst (row.map V.int)) ∧
  ((∃ (n t g d : Nat), GoodRow n row ∧ soundI (markRow n row) = true ∧ Turns n row t g d ∧ ∀ l H', H l = none → Same H H' → TpsN H H' l (slipRow n row t d) → Q (.ref l) H') ∨
   (∃ n : Nat, GoodRow n row ∧ soundI (markRow n row) = false ∧ ∀ H', Same H H' → E (.ref cl.NotSound) none H') ∨ ((¬ ∃ n, GoodRow n row) ∧ ∀ H', Same H H' → E (.ref cl.BadCells) none H'))
theorem turnP_at {row : List Int} {H : Hp} {E : XK} {k : Nat → Hp → Prop} {f : Nat} (h : frontB (toB row) = some f) (q : ∀ H', Same H H' → k f H') : turnP cl row H E k := by
  refine ⟨fun f' H' s e => ?_, fun H' s e => ?_⟩
  · rw [h] at e; cases e; exact q H' s
  · rw [h] at e; cases e
/-- triples made one behind the other -/
def TpP (H : Hp) (ts : Nat → Int × Int × Int) (D : Addr) (i : Nat) (acc : List V) (H' : Hp) : Prop := ∃ ps : List Addr, acc = ps.map V.ref ∧ ps.length = i ∧ H' D = some (.lst acc) ∧ Same H H' ∧ ∀ (j : Nat) (p : Addr), ps[j]? = some p → p ≠ D ∧ H p = none ∧ H' p = some (tup3 (ts j))
theorem TpP.step {H H' : Hp} {ts : Nat → Int × Int × Int} {D p : Addr} {i : Nat} {acc : List V} (hD : H D = none) (h : TpP H ts D i acc H') (hp : H' p = none) :
    upd H' p (tup3 (ts i)) D = some (.lst acc) ∧ TpP H ts D (i + 1) (acc ++ [.ref p]) (upd (upd H' p (tup3 (ts i))) D (.lst (acc ++ [.ref p]))) := by
  obtain ⟨ps, rfl, l, e, s, r⟩ := h
  have npD : p ≠ D := (ne_of_none e hp).symm
  refine ⟨same_new hp _ _ e, ps ++ [p], by rw [List.map_append]; rfl, by rw [List.length_append, l]; rfl, upd_same, (s.trans (same_new hp)).set hD, fun j q hq => ?_⟩
  by_cases hj : j < i
  · rw [List.getElem?_append_left (by omega)] at hq
    obtain ⟨n1, n2, z⟩ := r j q hq
    exact ⟨n1, n2, by rw [upd_ne n1]; exact same_new hp _ _ z⟩
  · have hj' : j = i := by
      have := (List.getElem?_eq_some_iff.mp hq).1
      rw [List.length_append, l] at this
      have : j < i + 1 := this
      omega
    subst hj'
    rw [List.getElem?_append_right (by omega), l, Nat.sub_self] at hq
    cases hq
    exact ⟨npD, s.free hp, by rw [upd_ne npD, upd_same]⟩
theorem TpP.tps {H H' : Hp} {ts : Nat → Int × Int × Int} {D : Addr} {i : Nat} {acc : List V} (h : TpP H ts D i acc H') : TpsN H H' D ((List.range i).map ts) ∧ Same H H' := by
  obtain ⟨ps, rfl, l, e, s, r⟩ := h
  refine ⟨⟨ps, e, by rw [List.length_map, List.length_range]; exact l, fun j p u hp hu => ?_⟩, s⟩
  have hj : j < i := by rw [← l]; exact (List.getElem?_eq_some_iff.mp hp).1
  rw [List.getElem?_map, List.getElem?_range hj] at hu
  cases hu
  exact (r j p hp).2
abbrev s_slips : Stmt := top 62
theorem sc_slips : FnScope ["cells", "size", "marks", "first", "many"] ["cells"] (defScope s_slips) := ⟨rfl, rfl, rfl, by decide +kernel, rfl, by decide +kernel, by decide +kernel⟩
theorem ok_slips (D : DefT K mg "slips" s_slips ["cells"]) (T : Txt K mg cl) (G_size_of_cells : FnT P w K mg base "size_of_cells" 5 ["cells"] (sp_size_of_cells cl)) (G_marks_among : FnT P w K mg base "marks_among" 2 ["cells"] sp_marks_among) (G_sound_marks : FnT P w K mg base "sound_marks" 6 ["marks"] (sp_sound_marks K cl)) (G_taker_turn : FnT P w K mg base "taker_turn" 5 ["marks"] (sp_taker_turn K cl)) (G_giver_turn : FnT P w K mg base "giver_turn" 5 ["marks"] (sp_giver_turn K cl)) (G_distance : FnT P w K mg base "distance" 3 ["size", "one", "other"] (sp_distance cl)) (G_onward : FnT P w K mg base "onward" 3 ["size", "turn", "many"] (sp_onward cl)) (G_place_of : FnT P w K mg base "place_of" 3 ["size", "turn"] (sp_place_of cl)) (G_slip_at : FnT P w K mg base "slip_at" 2 ["cells", "place"] sp_slip_at) : FnT P w K mg base "slips" 7 ["cells"] (sp_slips cl) := by
  refine D.fn sc_slips (fun vs H Q E h => ?_) (fun f cdv A outer s H vs Q E hr h => ?_)
  · obtain ⟨a, row, rfl, _⟩ := h
    rfl
  · obtain ⟨a, row, rfl, ea, h⟩ := h
    refine ⟨_, (pss_cons (ps_set (i := 1) sc_slips.nd rfl (by first | exact Or.inl rfl | exact Or.inr rfl) (pe_fn G_size_of_cells hr (by decide) rfl passX (pa_cons (pv 0) pa_nil)))
      (pss_cons (ps_set (i := 2) sc_slips.nd rfl (by first | exact Or.inl rfl | exact Or.inr rfl) (pe_fn G_marks_among hr (by decide) rfl passX (pa_cons (pv 0) pa_nil)))
      (pss_cons (ps_if (pt_not (pt_val (pe_fn G_sound_marks hr (by decide) rfl passX (pa_cons (pv 2) pa_nil))))
         (pss_one (ps_raiseT T.c_NotSound rfl rfl raiseX (pa_cons pe_str pa_nil)))
         pss_nil)
      (pss_cons (ps_set (i := 3) sc_slips.nd rfl (by first | exact Or.inl rfl | exact Or.inr rfl) (pe_fn G_taker_turn hr (by decide) rfl passX (pa_cons (pv 2) pa_nil)))
      (pss_cons (ps_set (i := 4) sc_slips.nd rfl (by first | exact Or.inl rfl | exact Or.inr rfl) (pe_fn G_distance hr (by decide) rfl passX (pa_cons (pv 1) (pa_cons (pv 3) (pa_cons (pe_fn G_giver_turn hr (by decide) rfl passX (pa_cons (pv 2) pa_nil)) pa_nil)))))
      (pss_one (ps_ret (pe_comp (N := ["ahead", "size", "first", "cells"]) (nt := 1) (fr := [1, 3, 0]) rfl (comp_ok3 (i := 1) (j := 3) (k := 0) rfl rfl (by decide +kernel) (by decide +kernel) rfl rfl rfl rfl rfl rfl rfl rfl rfl rfl rfl rfl rfl rfl rfl rfl rfl) (pi_range1 rfl T.z_range (pa_cons (pv 4) pa_nil)) (gk_name (by decide)) (fun _ _ _ _ _ => pg_name (i := 0) (show (["ahead", "size", "first", "cells"] : List Str).Nodup by decide +kernel) rfl (Or.inl rfl) (Or.inr rfl)) (fun _ _ _ _ _ => (pe_fn G_slip_at hr (by decide) rfl passC (pa_cons (pv 3) (pa_cons (pe_fn G_place_of hr (by decide) rfl passC (pa_cons (pv 1) (pa_cons (pe_fn G_onward hr (by decide) rfl passC (pa_cons (pv 1) (pa_cons (pv 2) (pa_cons (pv 0) pa_nil)))) pa_nil))) pa_nil)))))))))))), ?_⟩
    have h20 : 2000 ≤ sizeLine := by decide
    walk_at "go"
    rcases h with h | h | ⟨ng, k⟩
    rotate_right 1
    · exact ⟨a, row, rfl, ea, .inr ⟨ng, fun H1 s1 => k H1 s1⟩⟩
    all_goals
      first
      | obtain ⟨n, t, g, d, gr, so, tu, k⟩ := h
      | obtain ⟨n, gr, so, k⟩ := h
      have g2 := gr.n2
      have g8 := gr.n8
      have gl := gr.len
      refine ⟨a, row, rfl, ea, .inl ⟨n, gr, fun H1 s1 => ?_⟩⟩
      walk_at "go"
      refine ⟨a, row, n, rfl, s1 _ _ ea, gl, g8, fun ml H2 hml s2 e2 => ?_⟩
      have mok := marks_ok_of gr.ok
      have lm := markRow_len n row
      walk_at "go"
      refine ⟨ml, markRow n row, rfl, SqL.of e2, ⟨_, e2⟩, marksG_ok (by omega) (by omega) mok fun H3 s3 => ?_⟩
      rw [so]
      walk_at "go"
    rotate_left 1
    · exact ⟨one_le_line, k _ ((s1.trans s2).trans s3)⟩
    have e3 := s3 _ _ e2
    have t1 := tu.t1
    have g1 := tu.g1
    refine ⟨ml, markRow n row, rfl, SqL.of e3, ⟨_, e3⟩, marksG_ok (by omega) (by omega) mok (turnP_at tu.ft fun H4 s4 => ?_)⟩
    have e4 := s4 _ _ e3
    walk_at "go"
    refine ⟨ml, markRow n row, rfl, SqL.of e4, ⟨_, e4⟩, marksG_ok (by omega) (by omega) mok (turnP_at tu.fg fun H5 s5 => ?_)⟩
    walk_at "go"
    refine ⟨_, _, _, rfl, guardT_ok (by omega) (by omega) (by omega) (by omega) (guardT_ok (by omega) (by omega) (by omega) (by omega) ?_)⟩
    rw [tu.di]
    have s05 : Same H H5 := (((s1.trans s2).trans s3).trans s4).trans s5
    have ea5 := s05 _ _ ea
    have dn := tu.dn
    walk_at "go"
    refine comp_range (n := (d : Int).toNat) (by omega) (TpP H5 fun k => slipOf row ((t + k) % n)) (fun D hD => ⟨[], rfl, rfl, upd_same, same_new hD, by simp⟩) ?_ ?_ ?_
    · rintro D i acc H' ⟨ps, rfl, l, e, _⟩
      exact ⟨e, by rw [List.length_map]; exact l⟩
    · intro D i acc H6 hD hi z
      have ea6 : H6 a = some (.lst (row.map V.int)) := by
        obtain ⟨_, _, _, _, s6, _⟩ := z
        exact s6 _ _ ea5
      have o0 := Int.emod_nonneg ((t : Int) + (0 + (i : Int))) (show (2 * (n : Int)) ≠ 0 by omega)
      have o1 := Int.emod_lt_of_pos ((t : Int) + (0 + (i : Int))) (show 0 < (2 * (n : Int)) by omega)
      have p0 := Int.emod_nonneg (((t : Int) + (0 + (i : Int))) % (2 * (n : Int))) (show (n : Int) ≠ 0 by omega)
      have p1 := Int.emod_lt_of_pos (((t : Int) + (0 + (i : Int))) % (2 * (n : Int))) (show 0 < (n : Int) by omega)
      walk_at "go"
      refine ⟨_, _, _, rfl, guardT_ok (by omega) (by omega) (by omega) (by omega) ?_⟩
      walk_at "go"
      refine ⟨_, _, rfl, guardT_ok (by omega) (by omega) o0 o1 ?_⟩
      walk_at "go"
      refine ⟨a, row, _, rfl, ea6, p0, by omega, fun p hp => ?_⟩
      have ee : ((((t : Int) + (0 + (i : Int))) % (2 * (n : Int))) % (n : Int)).toNat = (t + i) % n := by
        have e1 : ((t : Int) + (0 + (i : Int))) % (2 * (n : Int)) = (((t + i) % (2 * n) : Nat) : Int) := by rw [Int.zero_add]; push_cast; rfl
        rw [e1, ← Int.natCast_emod, Int.toNat_natCast]
        exact Nat.mod_mod_of_dvd _ (Nat.dvd_mul_left n 2)
      rw [ee]
      exact z.step hD hp
    · intro D acc H6 hD z
      obtain ⟨tp, s6⟩ := z.tps
      exact k D H6 (s05.free hD) (s05.trans s6) (tp.back s05)
end
end S

set_option Elab.async false
set_option linter.all false
set_option maxRecDepth 100000
set_option maxHeartbeats 4000000
namespace S
open PySem L2
local macro_rules | `(tactic| walk_at "at") => `(tactic| first | assumption | exact upd_same | (refine (upd_ne ?_).trans ?_; (walk_at "ne"); (walk_at "at")) | (refine Same.at ?_ ?_; assumption; (walk_at "at")))
local macro_rules | `(tactic| walk_at "ne") => `(tactic| first | assumption | exact Ne.symm (by assumption) | ((refine' ne_of_none ?h ?n); (case n => assumption); (case h => walk_at "at")) | ((refine Ne.symm ?_); (refine' ne_of_none ?h ?n); (case n => assumption); (case h => walk_at "at")))
local macro_rules | `(tactic| walk_at "cond") => `(tactic| first | trivial | exact Or.inl ⟨by decide, by decide⟩ | exact Or.inr ⟨by decide, by decide⟩ | exact Or.inl ⟨by omega, by omega⟩ | exact Or.inr ⟨by omega, by omega⟩ | (show (0 : Int) < _; omega) | (show (0 : Int) < _; decide))
local macro_rules | `(tactic| walk_at "go1") => `(tactic| first
  | ((with_reducible refine' g_var ?h ?_); (case h => exact rfl))
  | with_reducible refine g_c ?_ | with_reducible refine g_op ?_ | with_reducible refine g_un ?_ | with_reducible refine g_I0 ?_ | with_reducible refine g_U ?_
  | ((with_reducible refine' g_I ?h ?_); (case h => walk_at "cond"))
  | ((with_reducible refine' g_eq ?h ?_); (case h => exact rfl)) | ((with_reducible refine' g_ne ?h ?_); (case h => exact rfl))
  | with_reducible refine g_cb ?_ | with_reducible refine g_nil ?_ | with_reducible refine g_cons ?_
  | (with_reducible refine g_tup ?_) | (with_reducible refine g_lst ?_) | with_reducible refine g_fn ?_ | with_reducible refine g_fnJ ?_
  | with_reducible refine g_fld ?_ | with_reducible refine g_mt ?_ | with_reducible refine g_mtJ ?_ | with_reducible refine g_mk ?_ | with_reducible refine g_mkJ ?_
  | with_reducible refine g_test ?_ | with_reducible refine g_tB ?_ | with_reducible refine g_and ?_ | with_reducible refine g_or ?_ | with_reducible refine g_not ?_ | with_reducible refine g_andV ?_ | with_reducible refine g_orV ?_ | with_reducible refine g_notV ?_ | with_reducible refine g_ifE ?_
  | with_reducible refine g_bl ?_ | with_reducible refine iteT ?_ | with_reducible refine iteF ?_ | with_reducible refine iteNT ?_ | with_reducible refine iteNF ?_
  | with_reducible refine g_seq ?_ | with_reducible refine g_next ?_ | with_reducible refine g_drop ?_ | with_reducible refine g_ret ?_ | with_reducible refine g_retN ?_ | with_reducible refine g_if ?_ | with_reducible refine g_asg ?_ | with_reducible refine g_name ?_ | with_reducible refine g_sub ?_ | with_reducible refine g_sfld ?_ | with_reducible refine g_raise ?_ | with_reducible refine g_tryAs ?_
  | ((with_reducible refine' g_fld1 ?h ?c ?n ?l ?_); (case h => walk_at "at"); (case c => walk_at "cls"); (case n => walk_at "nat"); (case l => exact rfl))
  | ((with_reducible refine' g_sfld1 ?h ?c ?n ?l ?_); (case h => walk_at "at"); (case c => walk_at "cls"); (case n => walk_at "nat"); (case l => exact Nat.le_of_ble_eq_true rfl))
  | with_reducible refine g_aug ?_ | with_reducible refine g_rAdd ?_
  | ((with_reducible refine' g_aug1 ?h ?c ?n ?l ?_); (case h => walk_at "at"); (case c => walk_at "cls"); (case n => walk_at "nat"); (case l => exact rfl))
  | ((with_reducible refine' g_aug2 ?h ?l ?_); (case h => walk_at "at"); (case l => exact Nat.le_of_ble_eq_true rfl))
  | ((with_reducible refine' g_mt1 ?h ?l ?_); (case h => walk_at "at"); (case l => exact rfl))
  | ((with_reducible refine' g_ixL ?h ?e ?_); (case h => walk_at "at"); (case e => exact rfl))
  | ((with_reducible refine' g_ixT ?h ?e ?_); (case h => walk_at "at"); (case e => exact rfl))
  | ((with_reducible refine' g_len ?h ?_); (case h => walk_at "at")) | ((with_reducible refine' g_list ?h ?_); (case h => walk_at "at"))
  | with_reducible refine g_for ?_ | with_reducible refine g_rng1 ?_ | with_reducible refine g_rng2 ?_ | with_reducible refine g_lsti ?_ | with_reducible refine g_comp ?_
  | ((with_reducible refine' g_rngW ?h1 ?h2 ?_); (case h1 => omega); (case h2 => omega)) | ((with_reducible refine' g_rngW ?h1 ?h2 ?_); (case h1 => decide); (case h2 => decide))
  | ((with_reducible refine' g_lstW ?h ?_); (case h => exact SqL.of (by walk_at "at")))
  | with_reducible refine g_bm0 ?_ | ((with_reducible refine' g_clear ?h ?_); (case h => walk_at "at"))
  | with_reducible refine g_bm ?_ | ((with_reducible refine' g_tyL ?h ?_); (case h => walk_at "at")) | ((with_reducible refine' g_app ?h ?l ?_); (case h => walk_at "at"); (case l => first | exact Nat.le_of_ble_eq_true rfl | omega)))
local macro_rules | `(tactic| walk_at "go") => `(tactic| repeat (walk_at "go1"))
set_option hygiene false in
local macro_rules | `(tactic| walk_at "cls") => `(tactic| first | assumption)
set_option hygiene false in
local macro_rules | `(tactic| walk_at "nat") => `(tactic| first | assumption)
section
variable {P : Program} {w : World} {K : PySem.W.Frag} {mg : Str → Option Value} {base : Heap} {cl : Cl}
/-! ### slips that follow one another -/
def okT (n : Nat) (s : Int × Int × Int) : Bool := decide (0 ≤ s.1) && decide (0 ≤ s.2.1) && decide (s.2.1 < (n : Int))
def followB (s a : Int × Int × Int) : Bool := if a.2.1 = 0 then decide (s.1 = a.1 + 1) else (decide (s.1 = a.1) && decide (s.2.1 = a.2.1 - 1))
def sp_follows_slip : Sp := fun vs H Q _ => ∃ (p q : Addr) (s a : Int × Int × Int), vs = [.ref p, .ref q] ∧ H p = some (tup3 s) ∧ H q = some (tup3 a) ∧ Q (.bl (followB s a)) H
abbrev s_follows_slip : Stmt := top 63
theorem sc_follows_slip : FnScope ["slip", "ahead", "number", "left", "thing", "number_ahead", "left_ahead", "thing_ahead"] ["slip", "ahead"] (defScope s_follows_slip) := ⟨rfl, rfl, rfl, by decide +kernel, rfl, by decide +kernel, by decide +kernel⟩
theorem ok_follows_slip (D : DefT K mg "follows_slip" s_follows_slip ["slip", "ahead"]) (T : Txt K mg cl) : FnT P w K mg base "follows_slip" 1 ["slip", "ahead"] sp_follows_slip := by
  refine D.fn sc_follows_slip (fun vs H Q E h => ?_) (fun f cdv A outer s H vs Q E hr h => ?_)
  · obtain ⟨p, q, s, a, rfl, _⟩ := h
    rfl
  · obtain ⟨p, q, s, a, rfl, ep, eq, k⟩ := h
    refine ⟨_, (pss_cons (ps_asg (pv 0) (pg_tupK (K := K) rfl (pgs_cons (pg_name (i := 2) sc_follows_slip.nd rfl (by first | exact Or.inl rfl | exact Or.inr rfl)) (pgs_cons (pg_name (i := 3) sc_follows_slip.nd rfl (by first | exact Or.inl rfl | exact Or.inr rfl)) (pgs_cons (pg_name (i := 4) sc_follows_slip.nd rfl (by first | exact Or.inl rfl | exact Or.inr rfl)) pgs_nil)))))
      (pss_cons (ps_asg (pv 1) (pg_tupK (K := K) rfl (pgs_cons (pg_name (i := 5) sc_follows_slip.nd rfl (by first | exact Or.inl rfl | exact Or.inr rfl)) (pgs_cons (pg_name (i := 6) sc_follows_slip.nd rfl (by first | exact Or.inl rfl | exact Or.inr rfl)) (pgs_cons (pg_name (i := 7) sc_follows_slip.nd rfl (by first | exact Or.inl rfl | exact Or.inr rfl)) pgs_nil)))))
      (pss_cons (ps_if (pt_cmpR op_eq (pv 6) pe_int (nomark _))
         (pss_one (ps_ret (pe_cmpR op_eq (pv 2) (pe_op op_add (pv 5) pe_int) (nomark _))))
         pss_nil)
      (pss_one (ps_ret (pe_and (pe_cmpR op_eq (pv 2) (pv 5) (nomark _)) (pe_one (pe_cmpR op_eq (pv 3) (pe_op op_sub (pv 6) pe_int) (nomark _))))))))), ?_⟩
    unfold followB at k
    walk_at "go"
    refine g_unp3 ep rfl ?_
    walk_at "go"
    refine g_unp3 eq rfl ?_
    walk_at "go"
    refine g_ite (fun c => ?_) (fun c => ?_)
    · rw [if_pos (V.int.inj c)] at k
      walk_at "go"
      rw [show decide (V.int s.1 = V.int (a.1 + 1)) = decide (s.1 = a.1 + 1) by simp]
      exact k
    · rw [if_neg fun z => c (by rw [z])] at k
      walk_at "go"
      rw [show decide (V.int s.1 = V.int a.1) = decide (s.1 = a.1) by simp]
      refine g_ite (fun d => ?_) (fun d => ?_)
      · rw [show decide (s.1 = a.1) = true from decide_eq_true d, Bool.true_and] at k
        walk_at "go"
        rw [show decide (V.int s.2.1 = V.int (a.2.1 - 1)) = decide (s.2.1 = a.2.1 - 1) by simp]
        exact k
      · rw [show decide (s.1 = a.1) = false from decide_eq_false d, Bool.false_and] at k
        exact k
def soundT (n : Nat) (ts : List (Int × Int × Int)) : Bool := (List.range ts.length).all fun k => okT n (ts.getD k (0, 0, 0)) && (decide (k = 0) || followB (ts.getD k (0, 0, 0)) (ts.getD (k - 1) (0, 0, 0)))
theorem getD_at {ts : List (Int × Int × Int)} {i : Nat} {u : Int × Int × Int} (h : ts[i]? = some u) : ts.getD i (0, 0, 0) = u := by
  rw [List.getD_eq_getElem?_getD, h]
  rfl
theorem soundT_bad {n : Nat} {ts : List (Int × Int × Int)} {k : Nat} (hk : k < ts.length) (h : (okT n (ts.getD k (0, 0, 0)) && (decide (k = 0) || followB (ts.getD k (0, 0, 0)) (ts.getD (k - 1) (0, 0, 0)))) = false) : soundT n ts = false := by
  cases e : soundT n ts with
  | false => rfl
  | true =>
    have := List.all_eq_true.mp e k (List.mem_range.mpr hk)
    rw [h] at this
    cases this
theorem soundT_good {n : Nat} {ts : List (Int × Int × Int)} (h : ∀ k, k < ts.length → (okT n (ts.getD k (0, 0, 0)) && (decide (k = 0) || followB (ts.getD k (0, 0, 0)) (ts.getD (k - 1) (0, 0, 0)))) = true) : soundT n ts = true :=
  List.all_eq_true.mpr fun k hk => h k (List.mem_range.mp hk)
theorem soundT_all {n : Nat} {ts : List (Int × Int × Int)} (h1 : ∀ k, k < ts.length → okT n (ts.getD k (0, 0, 0)) = true) : ((List.range (ts.length - 1)).map fun i => followB (ts.getD (i + 1) (0, 0, 0)) (ts.getD i (0, 0, 0))).all id = soundT n ts := by
  rw [Bool.eq_iff_iff]
  constructor
  · intro h
    refine soundT_good fun k hk => ?_
    rw [h1 k hk, Bool.true_and]
    by_cases k0 : k = 0
    · rw [decide_eq_true k0]; rfl
    · rw [List.all_map] at h
      have z := List.all_eq_true.mp h (k - 1) (List.mem_range.mpr (by omega))
      have z : followB (ts.getD (k - 1 + 1) (0, 0, 0)) (ts.getD (k - 1) (0, 0, 0)) = true := z
      rw [show k - 1 + 1 = k by omega] at z
      rw [z, Bool.or_true]
  · intro h
    rw [List.all_map]
    refine List.all_eq_true.mpr fun i hi => ?_
    have hi := List.mem_range.mp hi
    have z := List.all_eq_true.mp h (i + 1) (List.mem_range.mpr (by omega))
    rw [h1 (i + 1) (by omega), Bool.true_and, show decide (i + 1 = 0) = false from decide_eq_false (by omega), Bool.false_or, Nat.add_sub_cancel] at z
    exact z
def sp_sound_slips : Sp := fun vs H Q _ => ∃ (l : Addr) (n : Nat) (ts : List (Int × Int × Int)), vs = [.int n, .ref l] ∧ n ≤ 8 ∧ Tps H l ts ∧ ts.length ≤ 8 ∧ ∀ H', Same H H' → Q (.bl (soundT n ts)) H'
abbrev s_sound_slips : Stmt := top 64
theorem sc_sound_slips : FnScope ["size", "row", "number", "left", "thing"] ["size", "row"] (defScope s_sound_slips) := ⟨rfl, rfl, rfl, by decide +kernel, rfl, by decide +kernel, by decide +kernel⟩
theorem ok_sound_slips (D : DefT K mg "sound_slips" s_sound_slips ["size", "row"]) (T : Txt K mg cl) (G_follows_slip : FnT P w K mg base "follows_slip" 1 ["slip", "ahead"] sp_follows_slip) : FnT P w K mg base "sound_slips" 2 ["size", "row"] sp_sound_slips := by
  refine D.fn sc_sound_slips (fun vs H Q E h => ?_) (fun f cdv A outer s H vs Q E hr h => ?_)
  · obtain ⟨l, n, ts, rfl, _⟩ := h
    rfl
  · obtain ⟨l, n, ts, rfl, n8, hT, l8, k⟩ := h
    refine ⟨_, (pss_cons (ps_for passOwnX rfl (pi_listK (K := K) (pv 1)) (pg_tupK (K := K) rfl (pgs_cons (pg_name (i := 2) sc_sound_slips.nd rfl (by first | exact Or.inl rfl | exact Or.inr rfl)) (pgs_cons (pg_name (i := 3) sc_sound_slips.nd rfl (by first | exact Or.inl rfl | exact Or.inr rfl)) (pgs_cons (pg_name (i := 4) sc_sound_slips.nd rfl (by first | exact Or.inl rfl | exact Or.inr rfl)) pgs_nil))))
         (pss_one (ps_if (PW.pt (pw_or (pt_cmpR op_lt (pv 2) pe_int (nomark _)) (pw_or1 (pt_notInRng rfl T.z_range (pv 3) (pa_cons (pv 0) pa_nil)))))
            (pss_one (ps_ret pe_bl))
            pss_nil)))
      (pss_one (ps_ret (pe_callB (call_allK (K := K) rfl) (by rfl) T.z_all PyProof.Rows.boot_all (pa_cons (pe_comp (N := ["slip", "ahead"]) (nt := 2) (fr := []) rfl (comp_ok0 rfl rfl (by decide +kernel) (by decide +kernel) rfl rfl) (pi_zipK (K := K) rfl T.z_zip (pa_cons (pe_slice (sl_listK (K := K)) (pv 1) (po_some pe_int) po_none) (pa_cons (pv 1) pa_nil))) (gk_tup2 (K := K)) (fun _ _ _ _ _ => pg_tupK (K := K) rfl (pgs_cons (pg_name (i := 0) (show (["slip", "ahead"] : List Str).Nodup by decide +kernel) rfl (Or.inl rfl) (Or.inr rfl)) (pgs_cons (pg_name (i := 1) (show (["slip", "ahead"] : List Str).Nodup by decide +kernel) rfl (Or.inl rfl) (Or.inr rfl)) pgs_nil))) (fun _ _ _ _ _ => (pe_fn G_follows_slip hr (by decide) rfl passC (pa_cons (pv 0) (pa_cons (pv 1) pa_nil))))) pa_nil))))), ?_⟩
    have h20 : 2000 ≤ sizeLine := by decide
    obtain ⟨ps, el, lp, r⟩ := hT
    have at_ : ∀ i (hi : i < ts.length), ∃ p, (ps.map V.ref)[i]? = some (.ref p) ∧ H p = some (tup3 (ts.getD i (0, 0, 0))) := fun i hi => by
      have hp : i < ps.length := by omega
      refine ⟨ps[i], by rw [List.getElem?_map, List.getElem?_eq_getElem hp]; rfl, ?_⟩
      rw [getD_at (List.getElem?_eq_getElem hi)]
      exact r i _ _ (List.getElem?_eq_getElem hp) (List.getElem?_eq_getElem hi)
    walk_at "go"
    refine for_list (xs := ps.map V.ref) (fun i σ H' => ∃ x2 x3 x4, σ = [some (.int n), some (.ref l), x2, x3, x4] ∧ H' = H ∧ ∀ j, j < i → okT n (ts.getD j (0, 0, 0)) = true) ⟨_, _, _, rfl, rfl, fun j hj => absurd hj (by omega)⟩ ?_ ?_ ?_
    · rintro i σ H' _ ⟨x2, x3, x4, rfl, rfl, _⟩
      exact SqL.of el
    · rintro i x σ H' hx ⟨x2, x3, x4, rfl, rfl, g⟩
      have hi : i < ts.length := by
        have := (List.getElem?_eq_some_iff.mp hx).1
        rw [List.length_map] at this
        omega
      obtain ⟨p, hp, ep⟩ := at_ i hi
      rw [hx] at hp
      cases hp
      refine g_unp3 ep rfl ?_
      have bad : okT n (ts.getD i (0, 0, 0)) = false → Q (.bl false) H' := fun z => by
        have q := k H' (Same.refl H')
        rw [soundT_bad hi (by rw [z]; rfl)] at q
        exact q
      walk_at "go"
      refine g_ite (fun c => ?_) (fun c => ?_)
      · walk_at "go"
        refine bad ?_
        unfold okT
        rw [decide_eq_false (by omega)]
        rfl
      · walk_at "go"
        refine g_notInRng ?_
        walk_at "go"
        refine g_inRngW ?_
        walk_at "go"
        refine g_iteN (fun d => ?_) (fun d => ?_)
        · walk_at "go"
          refine bad ?_
          unfold okT
          by_cases e : 0 ≤ (ts.getD i (0, 0, 0)).2.1
          · rw [decide_eq_false (p := (ts.getD i (0, 0, 0)).2.1 < (n : Int)) (fun z => d ⟨e, z⟩), Bool.and_false]
          · rw [decide_eq_false e, Bool.and_false, Bool.false_and]
        · walk_at "go"
          refine ⟨_, _, _, rfl, rfl, fun j hj => ?_⟩
          by_cases e : j = i
          · subst e
            unfold okT
            rw [decide_eq_true (by omega), decide_eq_true d.1, decide_eq_true d.2]
            rfl
          · exact g j (by omega)
    · rintro σ H' ⟨x2, x3, x4, rfl, rfl, g⟩
      rw [List.length_map, lp] at g
      walk_at "go"
      refine g_sl ?_
      walk_at "go"
      refine g_part ?_
      walk_at "go"
      refine ⟨1, rfl, ?_⟩
      refine g_noPart ?_
      refine ⟨l, _, rfl, SqL.of el, fun c hc => ?_⟩
      have ecut : cutV (ps.map V.ref) (some 1) none = (ps.map V.ref).drop 1 := by
        unfold cutV
        rw [show (1 : Int) = ((1 : Nat) : Int) from rfl, HT.sIx_nat, HT.sIx_none]
        by_cases z : 1 ≤ (ps.map V.ref).length
        · rw [Nat.min_eq_left z]
          exact List.take_of_length_le (by rw [List.length_drop]; omega)
        · have z : (ps.map V.ref).length = 0 := by omega
          rw [List.length_eq_zero_iff.mp z]
          rfl
      rw [ecut]
      walk_at "go"
      refine ⟨c, l, rfl, ⟨_, SqL.of upd_same⟩, ⟨_, SqL.of (same_new hc _ _ el)⟩, ?_⟩
      refine comp_zipS (xs := (ps.map V.ref).drop 1) (ys := ps.map V.ref) (f := fun i => .bl (followB (ts.getD (i + 1) (0, 0, 0)) (ts.getD i (0, 0, 0)))) (SqL.of upd_same) (SqL.of (same_new hc _ _ el)) (by rw [List.length_drop]; omega) (by rw [List.length_drop, List.length_map]; omega) ⟨_, upd_same⟩ ⟨_, same_new hc _ _ el⟩ ?_ ?_
      · intro i x y Tt H2 kk hx hy s2 eT q
        have hi : i + 1 < ts.length := by
          have := (List.getElem?_eq_some_iff.mp hx).1
          rw [List.length_drop, List.length_map] at this
          omega
        obtain ⟨p1, hp1, e1⟩ := at_ (i + 1) hi
        obtain ⟨p2, hp2, e2⟩ := at_ i (by omega)
        rw [List.getElem?_drop, Nat.add_comm, hp1] at hx
        rw [hp2] at hy
        cases hx
        cases hy
        refine g_unp2 eT rfl ?_
        walk_at "go"
        exact ⟨p1, p2, _, _, rfl, s2 _ _ (same_new hc _ _ e1), s2 _ _ (same_new hc _ _ e2), q⟩
      · intro Dd H2 hDd s2 e2
        rw [List.length_drop, List.length_map, lp] at e2
        walk_at "go"
        refine ⟨Dd, (List.range (ts.length - 1)).map fun i => followB (ts.getD (i + 1) (0, 0, 0)) (ts.getD i (0, 0, 0)), rfl, SqL.of (by rw [e2, List.map_map]; rfl), ?_⟩
        rw [soundT_all g]
        exact k H2 ((same_new hc).trans s2)
def endOk (row : List Int) (q : Nat) : Bool := decide (-1 ≤ (slipOf row q).1) && decide ((slipOf row q).2.1 = 0)
def sp_sound_end : Sp := fun vs H Q _ => ∃ (a : Addr) (row : List Int) (n g : Nat), vs = [.ref a] ∧ H a = some (.lst (row.map V.int)) ∧ GoodRow n row ∧ frontB (toB ((markRow n row).map lapI)) = some g ∧ g < 2 * n ∧ ∀ H', Same H H' → Q (.bl (endOk row ((g + 2 * n - 1) % n))) H'
abbrev s_sound_end : Stmt := top 65
theorem sc_sound_end : FnScope ["cells", "marks", "size", "number", "left", "thing"] ["cells"] (defScope s_sound_end) := ⟨rfl, rfl, rfl, by decide +kernel, rfl, by decide +kernel, by decide +kernel⟩
theorem ok_sound_end (D : DefT K mg "sound_end" s_sound_end ["cells"]) (T : Txt K mg cl) (G_marks_among : FnT P w K mg base "marks_among" 2 ["cells"] sp_marks_among) (G_giver_turn : FnT P w K mg base "giver_turn" 5 ["marks"] (sp_giver_turn K cl)) (G_onward : FnT P w K mg base "onward" 3 ["size", "turn", "many"] (sp_onward cl)) (G_place_of : FnT P w K mg base "place_of" 3 ["size", "turn"] (sp_place_of cl)) (G_slip_at : FnT P w K mg base "slip_at" 2 ["cells", "place"] sp_slip_at) : FnT P w K mg base "sound_end" 6 ["cells"] sp_sound_end := by
  refine D.fn sc_sound_end (fun vs H Q E h => ?_) (fun f cdv A outer s H vs Q E hr h => ?_)
  · obtain ⟨a, row, n, g, rfl, _⟩ := h
    rfl
  · obtain ⟨a, row, n, g, rfl, ea, gr, fg, g1, k⟩ := h
    refine ⟨_, (pss_cons (ps_set (i := 1) sc_sound_end.nd rfl (by first | exact Or.inl rfl | exact Or.inr rfl) (pe_fn G_marks_among hr (by decide) rfl passX (pa_cons (pv 0) pa_nil)))
      (pss_cons (ps_set (i := 2) sc_sound_end.nd rfl (by first | exact Or.inl rfl | exact Or.inr rfl) (pe_callB (call_lenK (K := K)) (by rfl) T.z_len PySem.boot_len (pa_cons (pv 1) pa_nil)))
      (pss_cons (ps_asg (pe_fn G_slip_at hr (by decide) rfl passX (pa_cons (pv 0) (pa_cons (pe_fn G_place_of hr (by decide) rfl passX (pa_cons (pv 2) (pa_cons (pe_fn G_onward hr (by decide) rfl passX (pa_cons (pv 2) (pa_cons (pe_fn G_giver_turn hr (by decide) rfl passX (pa_cons (pv 1) pa_nil)) (pa_cons (pe_un un_neg pe_int) pa_nil)))) pa_nil))) pa_nil))) (pg_tupK (K := K) rfl (pgs_cons (pg_name (i := 3) sc_sound_end.nd rfl (by first | exact Or.inl rfl | exact Or.inr rfl)) (pgs_cons (pg_name (i := 4) sc_sound_end.nd rfl (by first | exact Or.inl rfl | exact Or.inr rfl)) (pgs_cons (pg_name (i := 5) sc_sound_end.nd rfl (by first | exact Or.inl rfl | exact Or.inr rfl)) pgs_nil)))))
      (pss_one (ps_ret (pe_and (pe_cmpR op_ge (pv 3) (pe_gint T.m_NO_ORDER rfl) (nomark _)) (pe_one (pe_cmpR op_eq (pv 4) pe_int (nomark _))))))))), ?_⟩
    have g2 := gr.n2
    have g8 := gr.n8
    have gl := gr.len
    walk_at "go"
    refine ⟨a, row, n, rfl, ea, gl, g8, fun ml H1 hml s1 e1 => ?_⟩
    have mok := marks_ok_of gr.ok
    have lm := markRow_len n row
    walk_at "go"
    rw [List.length_map, lm]
    refine ⟨ml, markRow n row, rfl, SqL.of e1, ⟨_, e1⟩, marksG_ok (by omega) (by omega) mok (turnP_at fg fun H2 s2 => ?_)⟩
    have s02 := s1.trans s2
    have o0 := Int.emod_nonneg ((g : Int) + -1) (show (2 * (n : Int)) ≠ 0 by omega)
    have o1 := Int.emod_lt_of_pos ((g : Int) + -1) (show 0 < (2 * (n : Int)) by omega)
    have p0 := Int.emod_nonneg (((g : Int) + -1) % (2 * (n : Int))) (show (n : Int) ≠ 0 by omega)
    have p1 := Int.emod_lt_of_pos (((g : Int) + -1) % (2 * (n : Int))) (show 0 < (n : Int) by omega)
    walk_at "go"
    refine ⟨_, _, _, rfl, guardT_ok (by omega) (by omega) (by omega) (by omega) ?_⟩
    walk_at "go"
    refine ⟨_, _, rfl, guardT_ok (by omega) (by omega) o0 o1 ?_⟩
    walk_at "go"
    refine ⟨a, row, _, rfl, s02 _ _ ea, p0, by omega, fun t ht => ?_⟩
    have ee : ((((g : Int) + -1) % (2 * (n : Int))) % (n : Int)).toNat = (g + 2 * n - 1) % n := by
      have e1 : ((g : Int) + -1) % (2 * (n : Int)) = (((g + 2 * n - 1) % (2 * n) : Nat) : Int) := by
        rw [show (g : Int) + -1 = ((g + 2 * n - 1 : Nat) : Int) - 2 * (n : Int) by omega]
        rw [Int.sub_emod_right]
        push_cast
        rfl
      rw [e1, ← Int.natCast_emod, Int.toNat_natCast]
      exact Nat.mod_mod_of_dvd _ (Nat.dvd_mul_left n 2)
    rw [ee]
    have q := k _ (s02.trans (same_new (o := tup3 (slipOf row ((g + 2 * n - 1) % n))) ht))
    unfold endOk at q
    walk_at "go"
    refine g_unp3 upd_same rfl ?_
    walk_at "go"
    refine g_ite (fun c => ?_) (fun c => ?_)
    · rw [show decide (-1 ≤ (slipOf row ((g + 2 * n - 1) % n)).1) = true from decide_eq_true c, Bool.true_and] at q
      walk_at "go"
      rw [show decide (V.int (slipOf row ((g + 2 * n - 1) % n)).2.1 = V.int 0) = decide ((slipOf row ((g + 2 * n - 1) % n)).2.1 = 0) by simp]
      exact q
    · rw [show decide (-1 ≤ (slipOf row ((g + 2 * n - 1) % n)).1) = false from decide_eq_false c, Bool.false_and] at q
      exact q
def soundBrd (n : Nat) (row : List Int) (t g d : Nat) : Bool := if d = 0 then endOk row ((g + 2 * n - 1) % n) else soundT n (slipRow n row t d)
def sp_sound_board : Sp := fun vs H Q _ => ∃ (a : Addr) (row : List Int), vs = [.ref a] ∧ H a = some (.lst (row.map V.int)) ∧
  ((∃ (n t g d : Nat), GoodRow n row ∧ soundI (markRow n row) = true ∧ Turns n row t g d ∧ ∀ H', Same H H' → Q (.bl (soundBrd n row t g d)) H') ∨
   (∃ n : Nat, GoodRow n row ∧ soundI (markRow n row) = false ∧ ∀ H', Same H H' → Q (.bl false) H') ∨ ((¬ ∃ n, GoodRow n row) ∧ ∀ H', Same H H' → Q (.bl false) H'))
abbrev s_sound_board : Stmt := top 66
theorem sc_sound_board : FnScope ["cells", "row"] ["cells"] (defScope s_sound_board) := ⟨rfl, rfl, rfl, by decide +kernel, rfl, by decide +kernel, by decide +kernel⟩
theorem ok_sound_board (D : DefT K mg "sound_board" s_sound_board ["cells"]) (T : Txt K mg cl) (ka : PySem.W.exmAny K (.ref cl.BadCells) [.ref cl.BadCells, .ref cl.NotSound] = some true) (kn : PySem.W.exmAny K (.ref cl.NotSound) [.ref cl.BadCells, .ref cl.NotSound] = some true) (G_slips : FnT P w K mg base "slips" 7 ["cells"] (sp_slips cl)) (G_sound_end : FnT P w K mg base "sound_end" 6 ["cells"] sp_sound_end) (G_sound_slips : FnT P w K mg base "sound_slips" 2 ["size", "row"] sp_sound_slips) (G_size_of_cells : FnT P w K mg base "size_of_cells" 5 ["cells"] (sp_size_of_cells cl)) : FnT P w K mg base "sound_board" 8 ["cells"] sp_sound_board := by
  refine D.fn sc_sound_board (fun vs H Q E h => ?_) (fun f cdv A outer s H vs Q E hr h => ?_)
  · obtain ⟨a, row, rfl, _⟩ := h
    rfl
  · obtain ⟨a, row, rfl, ea, h⟩ := h
    refine' ⟨_, (pss_cons (ps_tryT rfl rfl rfl rfl rfl T.c_BadCells.m T.c_NotSound.m ?tb ?th)
      (pss_cons (ps_if (pt_cmpR op_eq (pe_callB (call_lenK (K := K)) (by rfl) T.z_len PySem.boot_len (pa_cons (pv 1) pa_nil)) pe_int (nomark _))
         (pss_one (ps_ret (pe_fn G_sound_end hr (by decide) rfl passX (pa_cons (pv 0) pa_nil))))
         pss_nil)
      (pss_one (ps_ret (pe_fn G_sound_slips hr (by decide) rfl passX (pa_cons (pe_fn G_size_of_cells hr (by decide) rfl passX (pa_cons (pv 0) pa_nil)) (pa_cons (pv 1) pa_nil))))))), ?rd⟩
    case tb => exact fun _ _ _ hx => (pss_one (ps_set (i := 1) sc_sound_board.nd rfl (by first | exact Or.inl rfl | exact Or.inr rfl) (pe_fnJ G_slips hr (by decide) rfl hx (pa_cons (pv 0) pa_nil))))
    case th => exact fun _ _ => (pss_one (ps_ret pe_bl))
    walk_at "go"
    refine g_tryT ?_
    walk_at "go"
    refine ⟨a, row, rfl, ea, ?_⟩
    rcases h with ⟨n, t, g, d, gr, so, tu, k⟩ | ⟨n, gr, so, k⟩ | ⟨ng, k⟩
    · refine .inl ⟨n, t, g, d, gr, so, tu, fun l H1 hl s1 t1 => ?_⟩
      obtain ⟨xs, ex, lx⟩ := t1.tps.len
      rw [slipRow_len] at lx
      have dn := tu.dn
      have g8 := gr.n8
      unfold soundBrd at k
      walk_at "go"
      rw [lx]
      refine g_ite (fun c => ?_) (fun c => ?_)
      · rw [if_pos (by have := V.int.inj c; omega)] at k
        walk_at "go"
        exact ⟨a, row, n, g, rfl, s1 _ _ ea, gr, tu.fg, tu.g1, fun H2 s2 => k H2 (s1.trans s2)⟩
      · rw [if_neg fun z => c (by rw [z]; rfl)] at k
        walk_at "go"
        refine ⟨a, row, rfl, s1 _ _ ea, .inl ⟨n, gr, fun H2 s2 => ?_⟩⟩
        walk_at "go"
        exact ⟨l, n, _, rfl, g8, t1.tps.same s2, by rw [slipRow_len]; omega, fun H3 s3 => k H3 ((s1.trans s2).trans s3)⟩
    · refine .inr (.inl ⟨n, gr, so, fun H1 s1 => ⟨kn, ?_⟩⟩)
      walk_at "go"
      exact k H1 s1
    · refine .inr (.inr ⟨ng, fun H1 s1 => ⟨ka, ?_⟩⟩)
      walk_at "go"
      exact k H1 s1
end
end S

set_option Elab.async false
set_option linter.all false
set_option maxRecDepth 100000
set_option maxHeartbeats 4000000
namespace S
open PySem L2
local macro_rules | `(tactic| walk_at "at") => `(tactic| first | assumption | exact upd_same | (refine (upd_ne ?_).trans ?_; (walk_at "ne"); (walk_at "at")) | (refine Same.at ?_ ?_; assumption; (walk_at "at")))
local macro_rules | `(tactic| walk_at "ne") => `(tactic| first | assumption | exact Ne.symm (by assumption) | ((refine' ne_of_none ?h ?n); (case n => assumption); (case h => walk_at "at")) | ((refine Ne.symm ?_); (refine' ne_of_none ?h ?n); (case n => assumption); (case h => walk_at "at")))
local macro_rules | `(tactic| walk_at "cond") => `(tactic| first | trivial | exact Or.inl ⟨by decide, by decide⟩ | exact Or.inr ⟨by decide, by decide⟩ | exact Or.inl ⟨by omega, by omega⟩ | exact Or.inr ⟨by omega, by omega⟩ | (show (0 : Int) < _; omega) | (show (0 : Int) < _; decide))
local macro_rules | `(tactic| walk_at "go1") => `(tactic| first
  | ((with_reducible refine' g_var ?h ?_); (case h => exact rfl))
  | with_reducible refine g_c ?_ | with_reducible refine g_op ?_ | with_reducible refine g_un ?_ | with_reducible refine g_I0 ?_ | with_reducible refine g_U ?_
  | ((with_reducible refine' g_I ?h ?_); (case h => walk_at "cond"))
  | ((with_reducible refine' g_eq ?h ?_); (case h => exact rfl)) | ((with_reducible refine' g_ne ?h ?_); (case h => exact rfl))
  | with_reducible refine g_cb ?_ | with_reducible refine g_nil ?_ | with_reducible refine g_cons ?_
  | (with_reducible refine g_tup ?_) | (with_reducible refine g_lst ?_) | with_reducible refine g_fn ?_ | with_reducible refine g_fnJ ?_
  | with_reducible refine g_fld ?_ | with_reducible refine g_mt ?_ | with_reducible refine g_mtJ ?_ | with_reducible refine g_mk ?_ | with_reducible refine g_mkJ ?_
  | with_reducible refine g_test ?_ | with_reducible refine g_tB ?_ | with_reducible refine g_and ?_ | with_reducible refine g_or ?_ | with_reducible refine g_not ?_ | with_reducible refine g_andV ?_ | with_reducible refine g_orV ?_ | with_reducible refine g_notV ?_ | with_reducible refine g_ifE ?_
  | with_reducible refine g_bl ?_ | with_reducible refine iteT ?_ | with_reducible refine iteF ?_ | with_reducible refine iteNT ?_ | with_reducible refine iteNF ?_
  | with_reducible refine g_seq ?_ | with_reducible refine g_next ?_ | with_reducible refine g_drop ?_ | with_reducible refine g_ret ?_ | with_reducible refine g_retN ?_ | with_reducible refine g_if ?_ | with_reducible refine g_asg ?_ | with_reducible refine g_name ?_ | with_reducible refine g_sub ?_ | with_reducible refine g_sfld ?_ | with_reducible refine g_raise ?_ | with_reducible refine g_tryAs ?_
  | ((with_reducible refine' g_fld1 ?h ?c ?n ?l ?_); (case h => walk_at "at"); (case c => walk_at "cls"); (case n => walk_at "nat"); (case l => exact rfl))
  | ((with_reducible refine' g_sfld1 ?h ?c ?n ?l ?_); (case h => walk_at "at"); (case c => walk_at "cls"); (case n => walk_at "nat"); (case l => exact Nat.le_of_ble_eq_true rfl))
  | with_reducible refine g_aug ?_ | with_reducible refine g_rAdd ?_
  | ((with_reducible refine' g_aug1 ?h ?c ?n ?l ?_); (case h => walk_at "at"); (case c => walk_at "cls"); (case n => walk_at "nat"); (case l => exact rfl))
  | ((with_reducible refine' g_aug2 ?h ?l ?_); (case h => walk_at "at"); (case l => exact Nat.le_of_ble_eq_true rfl))
  | ((with_reducible refine' g_mt1 ?h ?l ?_); (case h => walk_at "at"); (case l => exact rfl))
  | ((with_reducible refine' g_ixL ?h ?e ?_); (case h => walk_at "at"); (case e => exact rfl))
  | ((with_reducible refine' g_ixT ?h ?e ?_); (case h => walk_at "at"); (case e => exact rfl))
  | ((with_reducible refine' g_len ?h ?_); (case h => walk_at "at")) | ((with_reducible refine' g_list ?h ?_); (case h => walk_at "at"))
  | with_reducible refine g_for ?_ | with_reducible refine g_rng1 ?_ | with_reducible refine g_rng2 ?_ | with_reducible refine g_lsti ?_ | with_reducible refine g_comp ?_
  | ((with_reducible refine' g_rngW ?h1 ?h2 ?_); (case h1 => omega); (case h2 => omega)) | ((with_reducible refine' g_rngW ?h1 ?h2 ?_); (case h1 => decide); (case h2 => decide))
  | ((with_reducible refine' g_lstW ?h ?_); (case h => exact SqL.of (by walk_at "at")))
  | with_reducible refine g_bm0 ?_ | ((with_reducible refine' g_clear ?h ?_); (case h => walk_at "at"))
  | with_reducible refine g_bm ?_ | ((with_reducible refine' g_tyL ?h ?_); (case h => walk_at "at")) | ((with_reducible refine' g_app ?h ?l ?_); (case h => walk_at "at"); (case l => first | exact Nat.le_of_ble_eq_true rfl | omega)))
local macro_rules | `(tactic| walk_at "go") => `(tactic| repeat (walk_at "go1"))
set_option hygiene false in
local macro_rules | `(tactic| walk_at "cls") => `(tactic| first | assumption)
set_option hygiene false in
local macro_rules | `(tactic| walk_at "nat") => `(tactic| first | assumption)
section
variable {P : Program} {w : World} {K : PySem.W.Frag} {mg : Str → Option Value} {base : Heap} {cl : Cl}
structure KF (K : PySem.W.Frag) (cl : Cl) (C : Addr) (b1 b2 : Bool) : Prop where
  k : ExK K C
  x : PySem.W.exmOne K (.ref C) (.ref cl.RingError) = some true
  N : PySem.W.kitOne K (.ref C) (.ref cl.NotSound) = some b1
  S : PySem.W.kitOne K (.ref C) (.ref cl.NoCell) = some b2
  V : PySem.W.kitOne K (.ref C) (.type "ValueError") = some true
  s8 : PySem.W.kitAny K (.ref C) [.ref cl.BadCells, .ref cl.BadMark, .ref cl.BadOrder, .ref cl.BadSize, .ref cl.Crooked, .ref cl.NoHand, .ref cl.NoRow, .ref cl.NoText] = some false
  t5 : PySem.W.kitAny K (.ref C) [.ref cl.BadStand, .ref cl.NoName, .ref cl.NoTurn, .ref cl.NoWaiting, .ref cl.TooMany] = some false
structure Kd (K : PySem.W.Frag) (cl : Cl) : Prop where
  N : KF K cl cl.NotSound true false
  S : KF K cl cl.NoCell false true
def sp_law_asked (cl : Cl) : Sp := fun vs H Q _ => ∃ (a : Addr) (row : List Int) (y p : Int) (n : Nat), vs = [.int y, .ref a, .int p] ∧ H a = some (.lst (row.map V.int)) ∧ GoodRow n row ∧
  ((y = 0 ∧ soundI (markRow n row) = true ∧ ∃ u g d : Nat, Turns n row u g d ∧ ∀ t k l H', H t = none → H k = none → H l = none → Same H H' → H' t = some (.tup [.ref k, .ref l]) → H' k = some (.lst []) → TpsN H H' l (slipRow n row u d) → Q (.ref t) H') ∨
   (y = 0 ∧ soundI (markRow n row) = false ∧ ∀ t k H', H t = none → H k = none → Same H H' → H' t = some (.tup [.ref k, .non]) → H' k = some (.lst ([true, false, true, false, false].map V.bl)) → Q (.ref t) H') ∨
   (y = 1 ∧ 0 ≤ p ∧ p < n ∧ ∀ t k H', H t = none → H k = none → Same H H' → H' t = some (.tup [.ref k, .str (ownS (row.getD (4 * p.toNat) 0))]) → H' k = some (.lst []) → Q (.ref t) H') ∨
   (y = 1 ∧ ¬ (0 ≤ p ∧ p < n) ∧ ∀ t k H', H t = none → H k = none → Same H H' → H' t = some (.tup [.ref k, .non]) → H' k = some (.lst ([false, true, true, false, false].map V.bl)) → Q (.ref t) H'))
abbrev s_law_asked : Stmt := top 75
theorem sc_law_asked : FnScope ["way", "cells", "place", "kinds", "told", "e"] ["way", "cells", "place"] (defScope s_law_asked) := ⟨rfl, rfl, rfl, by decide +kernel, rfl, by decide +kernel, by decide +kernel⟩
theorem ok_law_asked (D : DefT K mg "_law_asked" s_law_asked ["way", "cells", "place"]) (T : Txt K mg cl) (kd : Kd K cl) (G_slips : FnT P w K mg base "slips" 7 ["cells"] (sp_slips cl)) (G_owner : FnT P w K mg base "owner" 6 ["cells", "place"] (sp_owner cl)) : FnT P w K mg base "_law_asked" 8 ["way", "cells", "place"] (sp_law_asked cl) := by
  refine D.fn sc_law_asked (fun vs H Q E h => ?_) (fun f cdv A outer s H vs Q E hr h => ?_)
  · obtain ⟨a, row, y, p, n, rfl, _⟩ := h
    rfl
  · obtain ⟨a, row, y, p, n, rfl, ea, gr, h⟩ := h
    refine' ⟨_, (pss_cons (ps_set (i := 3) sc_law_asked.nd rfl (by first | exact Or.inl rfl | exact Or.inr rfl) (pe_lst pa_nil))
      (pss_cons (ps_set (i := 4) sc_law_asked.nd rfl (by first | exact Or.inl rfl | exact Or.inr rfl) pe_non)
      (pss_cons (ps_tryAs (i := 5) rfl rfl rfl rfl T.c_RingError.m sc_law_asked.nd rfl rfl ?tb ?th)
      (pss_one (ps_ret (pe_tup (pa_cons (pv 3) (pa_cons (pv 4) pa_nil)))))))), ?rd⟩
    case tb => exact fun _ _ _ hx => (pss_one (ps_if (pt_cmpR op_eq (pv 0) pe_int (nomark _))
            (pss_one (ps_set (i := 4) sc_law_asked.nd rfl (by first | exact Or.inl rfl | exact Or.inr rfl) (pe_fnJ G_slips hr (by decide) rfl hx (pa_cons (pv 1) pa_nil))))
            (pss_one (ps_set (i := 4) sc_law_asked.nd rfl (by first | exact Or.inl rfl | exact Or.inr rfl) (pe_fnJ G_owner hr (by decide) rfl hx (pa_cons (pv 1) (pa_cons (pv 2) pa_nil)))))))
    case th => exact fun _ _ => (pss_cons (ps_set (i := 3) sc_law_asked.nd rfl (by first | exact Or.inl rfl | exact Or.inr rfl) (pe_lst (pa_cons (pe_callB (call_isiK (K := K)) (by rfl) T.z_isinstance PyProof.Rows.boot_isinstance (pa_cons (pv 5) (pa_cons (pe_gcls T.c_NotSound rfl) pa_nil))) (pa_cons (pe_callB (call_isiK (K := K)) (by rfl) T.z_isinstance PyProof.Rows.boot_isinstance (pa_cons (pv 5) (pa_cons (pe_gcls T.c_NoCell rfl) pa_nil))) (pa_cons (pe_callB (call_isiK (K := K)) (by rfl) T.z_isinstance PyProof.Rows.boot_isinstance (pa_cons (pv 5) (pa_cons (pe_gty T.z_ValueError boot_VE rfl) pa_nil))) pa_nil)))))
          (pss_cons (ps_expr (pe_appendK (K := K) (pv 3) (pa_cons (pe_callB (call_isiTK (K := K)) (by rfl) T.z_isinstance PyProof.Rows.boot_isinstance (pa_cons (pv 5) (pa_cons (pe_tup (pa_cons (pe_gcls T.c_BadCells rfl) (pa_cons (pe_gcls T.c_BadMark rfl) (pa_cons (pe_gclm T.c_BadOrder rfl) (pa_cons (pe_gcls T.c_BadSize rfl) (pa_cons (pe_gcls T.c_Crooked rfl) (pa_cons (pe_gcls T.c_NoHand rfl) (pa_cons (pe_gclm T.c_NoRow rfl) (pa_cons (pe_gclm T.c_NoText rfl) pa_nil))))))))) pa_nil))) pa_nil)))
          (pss_one (ps_expr (pe_appendK (K := K) (pv 3) (pa_cons (pe_callB (call_isiTK (K := K)) (by rfl) T.z_isinstance PyProof.Rows.boot_isinstance (pa_cons (pv 5) (pa_cons (pe_tup (pa_cons (pe_gclm T.c_BadStand rfl) (pa_cons (pe_gclm T.c_NoName rfl) (pa_cons (pe_gcls T.c_NoTurn rfl) (pa_cons (pe_gclm T.c_NoWaiting rfl) (pa_cons (pe_gclm T.c_TooMany rfl) pa_nil)))))) pa_nil))) pa_nil))))))
    walk_at "go"
    refine ⟨Nat.zero_le _, fun k0 hk0 => ?_⟩
    have na : a ≠ k0 := ne_of_none ea hk0
    have e1 : upd H k0 (.lst []) a = _ := same_new hk0 _ _ ea
    rcases h with ⟨rfl, so, u, g, d, tu, k⟩ | ⟨rfl, so, k⟩ | ⟨rfl, p0, p1, k⟩ | ⟨rfl, pn, k⟩
    · walk_at "go"
      rw [ysame]
      walk_at "go"
      refine ⟨a, row, rfl, e1, .inl ⟨n, u, g, d, gr, so, tu, fun l H2 hl s2 t2 => ?_⟩⟩
      walk_at "go"
      refine ⟨by show 2 ≤ sizeLine; decide, fun t ht => ?_⟩
      have s0 : Same H H2 := (same_new hk0).trans s2
      exact k t k0 l _ (s0.free ht) hk0 ((same_new hk0).free hl) (s0.trans (same_new ht)) upd_same (same_new ht _ _ (s2 _ _ upd_same)) ((t2.back (same_new hk0)).same (same_new ht))
    · walk_at "go"
      rw [ysame]
      walk_at "go"
      refine ⟨a, row, rfl, e1, .inr (.inl ⟨n, gr, so, fun H2 s2 => ⟨kd.N.x, fun e he => ?_⟩⟩)⟩
      walk_at "go"
      refine g_isi (.exc upd_same kd.N.k) rfl kd.N.N ?_
      walk_at "go"
      refine g_isi (.exc upd_same kd.N.k) rfl kd.N.S ?_
      walk_at "go"
      refine g_isi (.exc upd_same kd.N.k) rfl kd.N.V ?_
      walk_at "go"
      refine ⟨by show 3 ≤ sizeLine; decide, fun q hq => ?_⟩
      have ne : e ≠ q := ne_of_none upd_same hq
      walk_at "go"
      refine ⟨by show 8 ≤ sizeLine; decide, fun t8 ht8 => ?_⟩
      have ne8 : e ≠ t8 := ne_of_none (same_new hq _ _ upd_same) ht8
      walk_at "go"
      refine g_isiT ((upd_ne ne8).trans ((upd_ne ne).trans upd_same)) kd.N.k upd_same rfl kd.N.s8 ?_
      have nq8 : q ≠ t8 := ne_of_none upd_same ht8
      walk_at "go"
      refine ⟨by show 5 ≤ sizeLine; decide, fun t6 ht6 => ?_⟩
      have ne6 : e ≠ t6 := ne_of_none ((upd_ne ne).trans ((upd_ne ne8).trans ((upd_ne ne).trans upd_same))) ht6
      walk_at "go"
      refine g_isiT ((upd_ne ne6).trans ((upd_ne ne).trans ((upd_ne ne8).trans ((upd_ne ne).trans upd_same)))) kd.N.k upd_same rfl kd.N.t5 ?_
      have nq6 : q ≠ t6 := ne_of_none upd_same ht6
      walk_at "go"
      refine ⟨by show 2 ≤ sizeLine; decide, fun t ht => ?_⟩
      have s0 : Same H H2 := (same_new hk0).trans s2
      have s1 := fixH hq (s0.trans (same_new he))
      have hq0 : H q = none := s1.free hq
      have s3 := fixH ht6 ((s1.trans ((same_new hq).trans (same_new ht8))).set hq0)
      have s4 := fixH ht ((s3.trans (same_new ht6)).set hq0)
      refine k t q _ (s4.free ht) hq0 (s4.trans (same_new ht)) upd_same ?_
      rw [upd_ne (ne_of_none upd_same ht), upd_same]
      rfl
    · walk_at "go"
      rw [show decide (V.int 1 = V.int 0) = false by simp]
      walk_at "go"
      refine ⟨a, row, p, rfl, e1, .inl ⟨n, gr, fun H2 s2 => ?_⟩⟩
      rw [if_pos ⟨p0, p1⟩]
      walk_at "go"
      refine ⟨by show 2 ≤ sizeLine; decide, fun t ht => ?_⟩
      have s0 : Same H H2 := (same_new hk0).trans s2
      exact k t k0 _ (s0.free ht) hk0 (s0.trans (same_new ht)) upd_same (same_new ht _ _ (s2 _ _ upd_same))
    · walk_at "go"
      rw [show decide (V.int 1 = V.int 0) = false by simp]
      walk_at "go"
      refine ⟨a, row, p, rfl, e1, .inl ⟨n, gr, fun H2 s2 => ?_⟩⟩
      rw [if_neg pn]
      refine ⟨kd.S.x, fun e he => ?_⟩
      walk_at "go"
      refine g_isi (.exc upd_same kd.S.k) rfl kd.S.N ?_
      walk_at "go"
      refine g_isi (.exc upd_same kd.S.k) rfl kd.S.S ?_
      walk_at "go"
      refine g_isi (.exc upd_same kd.S.k) rfl kd.S.V ?_
      walk_at "go"
      refine ⟨by show 3 ≤ sizeLine; decide, fun q hq => ?_⟩
      have ne : e ≠ q := ne_of_none upd_same hq
      walk_at "go"
      refine ⟨by show 8 ≤ sizeLine; decide, fun t8 ht8 => ?_⟩
      have ne8 : e ≠ t8 := ne_of_none (same_new hq _ _ upd_same) ht8
      walk_at "go"
      refine g_isiT ((upd_ne ne8).trans ((upd_ne ne).trans upd_same)) kd.S.k upd_same rfl kd.S.s8 ?_
      have nq8 : q ≠ t8 := ne_of_none upd_same ht8
      walk_at "go"
      refine ⟨by show 5 ≤ sizeLine; decide, fun t6 ht6 => ?_⟩
      have ne6 : e ≠ t6 := ne_of_none ((upd_ne ne).trans ((upd_ne ne8).trans ((upd_ne ne).trans upd_same))) ht6
      walk_at "go"
      refine g_isiT ((upd_ne ne6).trans ((upd_ne ne).trans ((upd_ne ne8).trans ((upd_ne ne).trans upd_same)))) kd.S.k upd_same rfl kd.S.t5 ?_
      have nq6 : q ≠ t6 := ne_of_none upd_same ht6
      walk_at "go"
      refine ⟨by show 2 ≤ sizeLine; decide, fun t ht => ?_⟩
      have s0 : Same H H2 := (same_new hk0).trans s2
      have s1 := fixH hq (s0.trans (same_new he))
      have hq0 : H q = none := s1.free hq
      have s3 := fixH ht6 ((s1.trans ((same_new hq).trans (same_new ht8))).set hq0)
      have s4 := fixH ht ((s3.trans (same_new ht6)).set hq0)
      refine k t q _ (s4.free ht) hq0 (s4.trans (same_new ht)) upd_same ?_
      rw [upd_ne (ne_of_none upd_same ht), upd_same]
      rfl
def sp_law_slip : Sp := fun vs H Q _ => ∃ (a : Addr) (row : List Int) (p : Int), vs = [.ref a, .int p] ∧ H a = some (.lst (row.map V.int)) ∧ 0 ≤ p ∧ 4 * p + 3 < row.length ∧ ∀ t, H t = none → Q (.ref t) (upd H t (tup3 (slipOf row p.toNat)))
abbrev s_law_slip : Stmt := top 77
theorem sc_law_slip : FnScope ["cells", "place"] ["cells", "place"] (defScope s_law_slip) := ⟨rfl, rfl, rfl, by decide +kernel, rfl, by decide +kernel, by decide +kernel⟩
theorem ok_law_slip (D : DefT K mg "_law_slip" s_law_slip ["cells", "place"]) (T : Txt K mg cl) : FnT P w K mg base "_law_slip" 1 ["cells", "place"] sp_law_slip := by
  refine D.fn sc_law_slip (fun vs H Q E h => ?_) (fun f cdv A outer s H vs Q E hr h => ?_)
  · obtain ⟨a, row, p, rfl, _⟩ := h
    rfl
  · obtain ⟨a, row, p, rfl, ea, p0, p1, k⟩ := h
    refine ⟨_, (pss_one (ps_ret (pe_tup (pa_cons (pe_ix (ix_listK (K := K)) (pv 0) (pe_op op_add (pe_op op_mul pe_int (pv 1)) pe_int) (fun _ _ => rfl)) (pa_cons (pe_ix (ix_listK (K := K)) (pv 0) (pe_op op_add (pe_op op_mul pe_int (pv 1)) pe_int) (fun _ _ => rfl)) (pa_cons (pe_ix (ix_listK (K := K)) (pv 0) (pe_op op_add (pe_op op_mul pe_int (pv 1)) pe_int) (fun _ _ => rfl)) pa_nil)))))), ?_⟩
    walk_at "go"
    refine g_ixL ea (atI_in (by omega) (by omega)) ?_
    walk_at "go"
    refine g_ixL ea (atI_in (by omega) (by omega)) ?_
    walk_at "go"
    refine g_ixL ea (atI_in (by omega) (by omega)) ?_
    walk_at "go"
    refine ⟨by show 3 ≤ sizeLine; decide, fun t ht => ?_⟩
    rw [show (4 * p + 1).toNat = 4 * p.toNat + 1 by omega, show (4 * p + 2).toNat = 4 * p.toNat + 2 by omega, show (4 * p + 3).toNat = 4 * p.toNat + 3 by omega]
    exact k t ht
def sp_law_counts : Sp := fun vs H Q _ => ∃ (a : Addr) (ms : List Int) (n : Nat), vs = [.int n, .ref a] ∧ H a = some (.lst (ms.map V.int)) ∧ ms.length = n ∧ 2 ≤ n ∧ n ≤ 8 ∧ marksOk ms = true ∧
  (∀ (f g : Nat) (t : Addr) (H' : Hp), soundI ms = true → lmRow n f g = ms → 2 * n ≤ f → f < 4 * n → f ≤ g → g ≤ f + n → H t = none → Same H H' → H' t = some (.tup [.int f, .int g]) → Q (.ref t) H') ∧ (soundI ms = false → ∀ H', Same H H' → Q .non H')
abbrev s_law_counts : Stmt := top 76
theorem sc_law_counts : FnScope ["size", "marks", "freed", "given"] ["size", "marks"] (defScope s_law_counts) := ⟨rfl, rfl, rfl, by decide +kernel, rfl, by decide +kernel, by decide +kernel⟩
theorem ok_law_counts (D : DefT K mg "_law_counts" s_law_counts ["size", "marks"]) (T : Txt K mg cl) (G_law_marks : FnT P w K mg base "_law_marks" 1 ["size", "freed", "given"] sp_law_marks) : FnT P w K mg base "_law_counts" 2 ["size", "marks"] sp_law_counts := by
  refine D.fn sc_law_counts (fun vs H Q E h => ?_) (fun f cdv A outer s H vs Q E hr h => ?_)
  · obtain ⟨a, ms, n, rfl, _⟩ := h
    rfl
  · obtain ⟨a, ms, n, rfl, ea, hl, n2, n8, mo, k1, k2⟩ := h
    refine ⟨_, (pss_cons (ps_for passOwnX rfl (pi_range2 rfl T.z_range (pa_cons (pe_op op_mul pe_int (pv 0)) (pa_cons (pe_op op_mul pe_int (pv 0)) pa_nil))) (pg_name (i := 2) sc_law_counts.nd rfl (by first | exact Or.inl rfl | exact Or.inr rfl))
         (pss_one (ps_for passOwnX rfl (pi_range2 rfl T.z_range (pa_cons (pv 2) (pa_cons (pe_op op_add (pe_op op_add (pv 2) (pv 0)) pe_int) pa_nil))) (pg_name (i := 3) sc_law_counts.nd rfl (by first | exact Or.inl rfl | exact Or.inr rfl))
            (pss_one (ps_if (pt_cmpR (op_eqK (K := K) (n := 0) (huN hr 1)) (pe_fn G_law_marks hr (by decide) rfl passX (pa_cons (pv 0) (pa_cons (pv 2) (pa_cons (pv 3) pa_nil)))) (pv 1) (nomark _))
               (pss_one (ps_ret (pe_tup (pa_cons (pv 2) (pa_cons (pv 3) pa_nil)))))
               pss_nil)))))
      (pss_one (ps_ret pe_non))), ?_⟩
    have si := sound_iff (ns := ms) (by omega) (by omega) mo
    rw [hl] at si
    walk_at "go"
    refine ⟨_, _, rfl, ⟨by omega, by omega, by omega, by omega⟩, ?_⟩
    rw [show (4 * (n : Int) - 2 * (n : Int)).toNat = 2 * n by omega]
    refine for_range (lo := 2 * (n : Int)) (n := 2 * n) (fun i σ H' => ∃ x2 x3, σ = [some (.int n), some (.ref a), x2, x3] ∧ Same H H' ∧ ∀ (t d : Nat), t < i → d < n + 1 → lmRow n ((t + 2 * n : Nat) : Int) ((t + 2 * n + d : Nat) : Int) ≠ ms) ⟨_, _, rfl, Same.refl H, fun t d ht => absurd ht (by omega)⟩ ?_ ?_
    · rintro i σ H1 hi ⟨x2, x3, rfl, s1, g1⟩
      walk_at "go"
      refine ⟨_, _, rfl, ⟨by omega, by omega, by omega, by omega⟩, ?_⟩
      rw [show (2 * (n : Int) + (i : Int) + (n : Int) + 1 - (2 * (n : Int) + (i : Int))).toNat = n + 1 by omega]
      refine for_range (lo := 2 * (n : Int) + (i : Int)) (n := n + 1) (fun j σ H' => ∃ x3, σ = [some (.int n), some (.ref a), some (.int (2 * (n : Int) + (i : Int))), x3] ∧ Same H H' ∧ ∀ (d : Nat), d < j → lmRow n ((i + 2 * n : Nat) : Int) ((i + 2 * n + d : Nat) : Int) ≠ ms) ⟨_, rfl, s1, fun d hd => absurd hd (by omega)⟩ ?_ ?_
      · rintro j σ H2 hj ⟨x3, rfl, s2, g2⟩
        walk_at "go"
        refine ⟨n, _, _, rfl, n2, n8, fun l H3 hl3 s3 e3 => ?_⟩
        have e1 : 2 * (n : Int) + (i : Int) = ((i + 2 * n : Nat) : Int) := by omega
        have e2 : ((i + 2 * n : Nat) : Int) + (j : Int) = ((i + 2 * n + j : Nat) : Int) := by omega
        rw [e1] at e3 ⊢
        rw [e2] at e3 ⊢
        walk_at "go"
        have ea3 := (s2.trans s3) _ _ ea
        have ne : l ≠ a := (ne_of_none (s2 _ _ ea) hl3).symm
        have eq := eqd_flat (K := K) ne (SqL.of e3) (SqL.of ea3) (flat_ints _) (flat_ints _)
        rw [eqL_ints] at eq
        refine g_eqD eq ?_
        walk_at "go"
        refine g_ite (fun c => ?_) (fun c => ?_)
        · walk_at "go"
          refine ⟨by show 2 ≤ sizeLine; decide, fun t ht => ?_⟩
          exact k1 _ _ t _ (si.mpr ⟨i, j, hi, hj, c⟩) c (by omega) (by omega) (by omega) (by omega) ((s2.trans s3).free ht) ((s2.trans s3).trans (same_new ht)) upd_same
        · walk_at "go"
          refine ⟨_, rfl, s2.trans s3, fun d hd => ?_⟩
          by_cases e : d = j
          · subst e; exact c
          · exact g2 d (by omega)
      · rintro σ H2 ⟨x3, rfl, s2, g2⟩
        refine ⟨_, _, rfl, s2, fun t d ht hd => ?_⟩
        by_cases e : t = i
        · subst e; exact g2 d hd
        · exact g1 t d (by omega) hd
    · rintro σ H1 ⟨x2, x3, rfl, s1, g1⟩
      walk_at "go"
      refine k2 ?_ H1 s1
      cases e : soundI ms with
      | false => rfl
      | true =>
        obtain ⟨t, d, ht, hd, z⟩ := si.mp e
        exact absurd z (g1 t d ht hd)
end
end S

set_option Elab.async false
set_option linter.all false
set_option maxRecDepth 100000
set_option maxHeartbeats 4000000
namespace S
open PySem L2
local macro_rules | `(tactic| walk_at "at") => `(tactic| first | assumption | exact upd_same | (refine (upd_ne ?_).trans ?_; (walk_at "ne"); (walk_at "at")) | (refine Same.at ?_ ?_; assumption; (walk_at "at")))
local macro_rules | `(tactic| walk_at "ne") => `(tactic| first | assumption | exact Ne.symm (by assumption) | ((refine' ne_of_none ?h ?n); (case n => assumption); (case h => walk_at "at")) | ((refine Ne.symm ?_); (refine' ne_of_none ?h ?n); (case n => assumption); (case h => walk_at "at")))
local macro_rules | `(tactic| walk_at "cond") => `(tactic| first | trivial | exact Or.inl ⟨by decide, by decide⟩ | exact Or.inr ⟨by decide, by decide⟩ | exact Or.inl ⟨by omega, by omega⟩ | exact Or.inr ⟨by omega, by omega⟩ | (show (0 : Int) < _; omega) | (show (0 : Int) < _; decide))
local macro_rules | `(tactic| walk_at "go1") => `(tactic| first
  | ((with_reducible refine' g_var ?h ?_); (case h => exact rfl))
  | with_reducible refine g_c ?_ | with_reducible refine g_op ?_ | with_reducible refine g_un ?_ | with_reducible refine g_I0 ?_ | with_reducible refine g_U ?_
  | ((with_reducible refine' g_I ?h ?_); (case h => walk_at "cond"))
  | ((with_reducible refine' g_eq ?h ?_); (case h => exact rfl)) | ((with_reducible refine' g_ne ?h ?_); (case h => exact rfl))
  | with_reducible refine g_cb ?_ | with_reducible refine g_nil ?_ | with_reducible refine g_cons ?_
  | (with_reducible refine g_tup ?_) | (with_reducible refine g_lst ?_) | with_reducible refine g_fn ?_ | with_reducible refine g_fnJ ?_
  | with_reducible refine g_fld ?_ | with_reducible refine g_mt ?_ | with_reducible refine g_mtJ ?_ | with_reducible refine g_mk ?_ | with_reducible refine g_mkJ ?_
  | with_reducible refine g_test ?_ | with_reducible refine g_tB ?_ | with_reducible refine g_and ?_ | with_reducible refine g_or ?_ | with_reducible refine g_not ?_ | with_reducible refine g_andV ?_ | with_reducible refine g_orV ?_ | with_reducible refine g_notV ?_ | with_reducible refine g_ifE ?_
  | with_reducible refine g_bl ?_ | with_reducible refine iteT ?_ | with_reducible refine iteF ?_ | with_reducible refine iteNT ?_ | with_reducible refine iteNF ?_
  | with_reducible refine g_seq ?_ | with_reducible refine g_next ?_ | with_reducible refine g_drop ?_ | with_reducible refine g_ret ?_ | with_reducible refine g_retN ?_ | with_reducible refine g_if ?_ | with_reducible refine g_asg ?_ | with_reducible refine g_name ?_ | with_reducible refine g_sub ?_ | with_reducible refine g_sfld ?_ | with_reducible refine g_raise ?_ | with_reducible refine g_tryAs ?_
  | ((with_reducible refine' g_fld1 ?h ?c ?n ?l ?_); (case h => walk_at "at"); (case c => walk_at "cls"); (case n => walk_at "nat"); (case l => exact rfl))
  | ((with_reducible refine' g_sfld1 ?h ?c ?n ?l ?_); (case h => walk_at "at"); (case c => walk_at "cls"); (case n => walk_at "nat"); (case l => exact Nat.le_of_ble_eq_true rfl))
  | with_reducible refine g_aug ?_ | with_reducible refine g_rAdd ?_
  | ((with_reducible refine' g_aug1 ?h ?c ?n ?l ?_); (case h => walk_at "at"); (case c => walk_at "cls"); (case n => walk_at "nat"); (case l => exact rfl))
  | ((with_reducible refine' g_aug2 ?h ?l ?_); (case h => walk_at "at"); (case l => exact Nat.le_of_ble_eq_true rfl))
  | ((with_reducible refine' g_mt1 ?h ?l ?_); (case h => walk_at "at"); (case l => exact rfl))
  | ((with_reducible refine' g_ixL ?h ?e ?_); (case h => walk_at "at"); (case e => exact rfl))
  | ((with_reducible refine' g_ixT ?h ?e ?_); (case h => walk_at "at"); (case e => exact rfl))
  | ((with_reducible refine' g_len ?h ?_); (case h => walk_at "at")) | ((with_reducible refine' g_list ?h ?_); (case h => walk_at "at"))
  | with_reducible refine g_for ?_ | with_reducible refine g_rng1 ?_ | with_reducible refine g_rng2 ?_ | with_reducible refine g_lsti ?_ | with_reducible refine g_comp ?_
  | ((with_reducible refine' g_rngW ?h1 ?h2 ?_); (case h1 => omega); (case h2 => omega)) | ((with_reducible refine' g_rngW ?h1 ?h2 ?_); (case h1 => decide); (case h2 => decide))
  | ((with_reducible refine' g_lstW ?h ?_); (case h => exact SqL.of (by walk_at "at")))
  | with_reducible refine g_bm0 ?_ | ((with_reducible refine' g_clear ?h ?_); (case h => walk_at "at"))
  | with_reducible refine g_bm ?_ | ((with_reducible refine' g_tyL ?h ?_); (case h => walk_at "at")) | ((with_reducible refine' g_app ?h ?l ?_); (case h => walk_at "at"); (case l => first | exact Nat.le_of_ble_eq_true rfl | omega)))
local macro_rules | `(tactic| walk_at "go") => `(tactic| repeat (walk_at "go1"))
set_option hygiene false in
local macro_rules | `(tactic| walk_at "cls") => `(tactic| first | assumption)
set_option hygiene false in
local macro_rules | `(tactic| walk_at "nat") => `(tactic| first | assumption)
section
variable {P : Program} {w : World} {K : PySem.W.Frag} {mg : Str → Option Value} {base : Heap} {cl : Cl}
def sp_law_sound : Sp := fun vs H Q _ => ∃ (l : Addr) (n : Nat) (ts : List (Int × Int × Int)), vs = [.int n, .ref l] ∧ n ≤ 8 ∧ Tps H l ts ∧ ts.length ≤ 8 ∧ ∀ H', Same H H' → Q (.bl (soundT n ts)) H'
theorem eqd_two {H : Hp} {p q : Addr} {a b c d : Int} (ne : p ≠ q) (hp : H p = some (.tup [.int a, .int b])) (hq : H q = some (.tup [.int c, .int d])) : EqD K H 2 (.ref p) (.ref q) (decide (a = c) && decide (b = d)) := by
  have h := EqD.tup (K := K) (n := 1) (e := fun j => if j = 0 then decide (a = c) else decide (b = d)) ne (SqT.of hp) (SqT.of hq) (fun j x y hx hy => ?_)
  · have e : ((List.range (min [V.int a, V.int b].length [V.int c, V.int d].length)).all (fun j => if j = 0 then decide (a = c) else decide (b = d)) && [V.int a, V.int b].length == [V.int c, V.int d].length) = (decide (a = c) && decide (b = d)) := by
      show ((List.range 2).all (fun j => if j = 0 then decide (a = c) else decide (b = d)) && true) = _
      simp [List.range_succ]
    rw [e] at h
    exact h
  · match j, hx, hy with
    | 0, hx, hy =>
      cases hx; cases hy
      have := EqD.flat (K := K) (H := H) (n := 1) (x := .int a) (y := .int c) rfl rfl
      rw [show eqV (.int a) (.int c) = decide (a = c) from Bool.eq_iff_iff.mpr (by simp [eqV])] at this
      exact this
    | 1, hx, hy =>
      cases hx; cases hy
      have := EqD.flat (K := K) (H := H) (n := 1) (x := .int b) (y := .int d) rfl rfl
      rw [show eqV (.int b) (.int d) = decide (b = d) from Bool.eq_iff_iff.mpr (by simp [eqV])] at this
      exact this
abbrev s_law_sound : Stmt := top 78
theorem sc_law_sound : FnScope ["size", "told", "k", "number", "left", "thing"] ["size", "told"] (defScope s_law_sound) := ⟨rfl, rfl, rfl, by decide +kernel, rfl, by decide +kernel, by decide +kernel⟩
theorem ok_law_sound (D : DefT K mg "_law_sound" s_law_sound ["size", "told"]) (T : Txt K mg cl) : FnT P w K mg base "_law_sound" 1 ["size", "told"] sp_law_sound := by
  refine D.fn sc_law_sound (fun vs H Q E h => ?_) (fun f cdv A outer s H vs Q E hr h => ?_)
  · obtain ⟨l, n, ts, rfl, _⟩ := h
    rfl
  · obtain ⟨l, n, ts, rfl, n8, hT, l8, k⟩ := h
    refine ⟨_, (pss_cons (ps_for passOwnX rfl (pi_range1 rfl T.z_range (pa_cons (pe_callB (call_lenK (K := K)) (by rfl) T.z_len PySem.boot_len (pa_cons (pv 1) pa_nil)) pa_nil)) (pg_name (i := 2) sc_law_sound.nd rfl (by first | exact Or.inl rfl | exact Or.inr rfl))
         (pss_cons (ps_asg (pe_ix (ix_listK (K := K)) (pv 1) (pv 2) (fun _ _ => rfl)) (pg_tupK (K := K) rfl (pgs_cons (pg_name (i := 3) sc_law_sound.nd rfl (by first | exact Or.inl rfl | exact Or.inr rfl)) (pgs_cons (pg_name (i := 4) sc_law_sound.nd rfl (by first | exact Or.inl rfl | exact Or.inr rfl)) (pgs_cons (pg_name (i := 5) sc_law_sound.nd rfl (by first | exact Or.inl rfl | exact Or.inr rfl)) pgs_nil)))))
          (pss_cons (ps_if (PW.pt (pw_or (pt_cmpR op_lt (pv 3) pe_int (nomark _)) (pw_or (pt_cmpR op_lt (pv 4) pe_int (nomark _)) (pw_or1 (pt_cmpR op_gt (pv 4) (pe_op op_sub (pv 0) pe_int) (nomark _))))))
             (pss_one (ps_ret pe_bl))
             pss_nil)
          (pss_cons (ps_if (PW.pt (pw_and (pt_cmpR op_gt (pv 2) pe_int (nomark _)) (pw_and (pt_cmpR op_gt (pe_ix (ix_tupK (K := K)) (pe_ix (ix_listK (K := K)) (pv 1) (pe_op op_sub (pv 2) pe_int) (fun _ _ => rfl)) pe_int (fun _ _ => rfl)) pe_int (nomark _)) (pw_and1 (pt_cmpR (op_neK (K := K) (n := 1) (huN hr 2)) (pe_tup (pa_cons (pv 3) (pa_cons (pv 4) pa_nil))) (pe_tup (pa_cons (pe_ix (ix_tupK (K := K)) (pe_ix (ix_listK (K := K)) (pv 1) (pe_op op_sub (pv 2) pe_int) (fun _ _ => rfl)) pe_int (fun _ _ => rfl)) (pa_cons (pe_op op_sub (pe_ix (ix_tupK (K := K)) (pe_ix (ix_listK (K := K)) (pv 1) (pe_op op_sub (pv 2) pe_int) (fun _ _ => rfl)) pe_int (fun _ _ => rfl)) pe_int) pa_nil))) (nomark _))))))
             (pss_one (ps_ret pe_bl))
             pss_nil)
          (pss_one (ps_if (PW.pt (pw_and (pt_cmpR op_gt (pv 2) pe_int (nomark _)) (pw_and (pt_cmpR op_eq (pe_ix (ix_tupK (K := K)) (pe_ix (ix_listK (K := K)) (pv 1) (pe_op op_sub (pv 2) pe_int) (fun _ _ => rfl)) pe_int (fun _ _ => rfl)) pe_int (nomark _)) (pw_and1 (pt_cmpR op_ne (pv 3) (pe_op op_add (pe_ix (ix_tupK (K := K)) (pe_ix (ix_listK (K := K)) (pv 1) (pe_op op_sub (pv 2) pe_int) (fun _ _ => rfl)) pe_int (fun _ _ => rfl)) pe_int) (nomark _))))))
            (pss_one (ps_ret pe_bl))
            pss_nil))))))
      (pss_one (ps_ret pe_bl))), ?_⟩
    have h20 : 2000 ≤ sizeLine := by decide
    obtain ⟨xs, ex, lx⟩ := hT.len
    have at_ : ∀ i (hi : i < ts.length), ∃ p, atI xs (i : Int) = some (.ref p) ∧ H p = some (tup3 (ts.getD i (0, 0, 0))) := fun i hi => by
      obtain ⟨ys, p, ey, hp, ep⟩ := hT.pick hi
      rw [ex] at ey
      cases ey
      rw [getD_at (List.getElem?_eq_getElem hi)]
      exact ⟨p, hp, ep⟩
    walk_at "go"
    rw [lx]
    refine for_range (n := (ts.length : Int).toNat) (fun i σ H' => ∃ x2 x3 x4 x5, σ = [some (.int n), some (.ref l), x2, x3, x4, x5] ∧ Same H H' ∧ ∀ j, j < i → (okT n (ts.getD j (0, 0, 0)) && (decide (j = 0) || followB (ts.getD j (0, 0, 0)) (ts.getD (j - 1) (0, 0, 0)))) = true) ⟨_, _, _, _, rfl, Same.refl H, fun j hj => absurd hj (by omega)⟩ ?_ ?_
    · rintro i σ H1 hi ⟨x2, x3, x4, x5, rfl, s1, g⟩
      have hi : i < ts.length := by omega
      obtain ⟨p, hp, ep⟩ := at_ i hi
      have ex1 := s1 _ _ ex
      walk_at "go"
      rw [show (0 + (i : Int)) = (i : Int) by omega]
      refine g_ixL ex1 hp ?_
      refine g_unp3 (s1 _ _ ep) rfl ?_
      generalize hs : ts.getD i (0, 0, 0) = sl at *
      have bad : ∀ H', Same H H' → (okT n sl && (decide (i = 0) || followB sl (ts.getD (i - 1) (0, 0, 0)))) = false → Q (.bl false) H' := fun H' s' z => by
        have q := k H' s'
        rw [soundT_bad hi (by rw [hs]; exact z)] at q
        exact q
      have good : ∀ H', Same H H' → (okT n sl && (decide (i = 0) || followB sl (ts.getD (i - 1) (0, 0, 0)))) = true → ∀ (x2 x3 x4 x5 : Option V) (σ' : St), σ' = [some (.int n), some (.ref l), x2, x3, x4, x5] → ∃ x2 x3 x4 x5, σ' = [some (.int n), some (.ref l), x2, x3, x4, x5] ∧ Same H H' ∧ ∀ j, j < i + 1 → (okT n (ts.getD j (0, 0, 0)) && (decide (j = 0) || followB (ts.getD j (0, 0, 0)) (ts.getD (j - 1) (0, 0, 0)))) = true := fun H' s' z x2 x3 x4 x5 σ' e => by
        refine ⟨x2, x3, x4, x5, e, s', fun j hj => ?_⟩
        by_cases e : j = i
        · subst e; rw [hs]; exact z
        · exact g j (by omega)
      walk_at "go"
      refine g_ite (fun c => ?_) (fun c => ?_)
      · walk_at "go"
        refine bad _ s1 ?_
        unfold okT
        rw [decide_eq_false (by omega)]
        rfl
      walk_at "go"
      refine g_ite (fun c2 => ?_) (fun c2 => ?_)
      · walk_at "go"
        refine bad _ s1 ?_
        unfold okT
        rw [decide_eq_false (p := 0 ≤ sl.2.1) (by omega), Bool.and_false]
        rfl
      walk_at "go"
      refine g_ite (fun c3 => ?_) (fun c3 => ?_)
      · walk_at "go"
        refine bad _ s1 ?_
        unfold okT
        rw [decide_eq_false (p := sl.2.1 < (n : Int)) (by omega), Bool.and_false]
        rfl
      have ok : okT n sl = true := by
        unfold okT
        rw [decide_eq_true (by omega), decide_eq_true (by omega), decide_eq_true (by omega)]
        rfl
      rw [ok] at bad good
      rw [Bool.true_and] at bad good
      walk_at "go"
      by_cases i0 : i = 0
      · subst i0
        rw [show decide (((0 : Nat) : Int) > 0) = false by simp]
        walk_at "go"
        exact good _ s1 (by simp) _ _ _ _ _ rfl
      rw [decide_eq_false i0, Bool.false_or] at bad good
      rw [show decide ((i : Int) > 0) = true from decide_eq_true (by omega)]
      walk_at "go"
      obtain ⟨p', hp', ep'⟩ := at_ (i - 1) (by omega)
      have hi1 : ((i - 1 : Nat) : Int) = (i : Int) - 1 := by omega
      rw [hi1] at hp'
      have gp := g (i - 1) (by omega)
      generalize hs' : ts.getD (i - 1) (0, 0, 0) = sp at *
      have okp : 0 ≤ sp.2.1 := by
        unfold okT at gp
        simp only [Bool.and_eq_true, decide_eq_true_eq] at gp
        exact gp.1.1.2
      refine g_ixL ex1 hp' ?_
      refine g_c (g_ixT (s1 _ _ ep') (v := .int sp.2.1) rfl ?_)
      walk_at "go"
      unfold followB at bad good
      refine g_ite (fun c4 => ?_) (fun c4 => ?_)
      · rw [if_neg (by omega)] at bad good
        walk_at "go"
        refine ⟨by show 2 ≤ sizeLine; omega, fun q1 hq1 => ?_⟩
        have s2 : Same H (upd H1 q1 (.tup [.int sl.1, .int sl.2.1])) := s1.trans (same_new hq1)
        walk_at "go"
        refine g_ixL (s2 _ _ ex) hp' ?_
        refine g_c (g_ixT (s2 _ _ ep') (v := .int sp.1) rfl ?_)
        walk_at "go"
        refine g_ixL (s2 _ _ ex) hp' ?_
        refine g_c (g_ixT (s2 _ _ ep') (v := .int sp.2.1) rfl ?_)
        walk_at "go"
        refine ⟨by show 2 ≤ sizeLine; omega, fun q2 hq2 => ?_⟩
        refine g_neD (eqd_two (ne_of_none upd_same hq2) (same_new hq2 _ _ upd_same) upd_same) ?_
        have s3 := s2.trans (same_new (o := .tup [.int sp.1, .int (sp.2.1 - 1)]) hq2)
        walk_at "go"
        refine g_iteB (fun z => ?_) (fun z => ?_)
        · walk_at "go"
          exact bad _ s3 (by simpa only [Bool.not_eq_true'] using z)
        · have z : (decide (sl.1 = sp.1) && decide (sl.2.1 = sp.2.1 - 1)) = true := by simpa using z
          walk_at "go"
          rw [show decide ((i : Int) > 0) = true from decide_eq_true (by omega)]
          walk_at "go"
          refine g_ixL (s3 _ _ ex) hp' ?_
          refine g_c (g_ixT (s3 _ _ ep') (v := .int sp.2.1) rfl ?_)
          walk_at "go"
          rw [show decide (V.int sp.2.1 = V.int 0) = false from decide_eq_false fun y => by have := V.int.inj y; omega]
          walk_at "go"
          exact good _ s3 z _ _ _ _ _ rfl
      · rw [if_pos (by omega)] at bad good
        walk_at "go"
        rw [show decide ((i : Int) > 0) = true from decide_eq_true (by omega)]
        walk_at "go"
        refine g_ixL ex1 hp' ?_
        refine g_c (g_ixT (s1 _ _ ep') (v := .int sp.2.1) rfl ?_)
        walk_at "go"
        rw [show decide (V.int sp.2.1 = V.int 0) = true from decide_eq_true (by rw [show sp.2.1 = 0 by omega])]
        walk_at "go"
        refine g_ixL ex1 hp' ?_
        refine g_c (g_ixT (s1 _ _ ep') (v := .int sp.1) rfl ?_)
        walk_at "go"
        refine g_iteN (fun z => ?_) (fun z => ?_)
        · walk_at "go"
          exact bad _ s1 (decide_eq_false fun y => z (by rw [y]))
        · walk_at "go"
          exact good _ s1 (decide_eq_true (V.int.inj z)) _ _ _ _ _ rfl
    · rintro σ H1 ⟨x2, x3, x4, x5, rfl, s1, g⟩
      walk_at "go"
      have q := k H1 s1
      rw [soundT_good fun j hj => g j (by omega)] at q
      exact q
end
end S

set_option Elab.async false
set_option linter.all false
set_option maxRecDepth 100000
set_option maxHeartbeats 4000000
namespace S
open PySem L2
local macro_rules | `(tactic| walk_at "at") => `(tactic| first | assumption | exact upd_same | (refine (upd_ne ?_).trans ?_; (walk_at "ne"); (walk_at "at")) | (refine Same.at ?_ ?_; assumption; (walk_at "at")))
local macro_rules | `(tactic| walk_at "ne") => `(tactic| first | assumption | exact Ne.symm (by assumption) | ((refine' ne_of_none ?h ?n); (case n => assumption); (case h => walk_at "at")) | ((refine Ne.symm ?_); (refine' ne_of_none ?h ?n); (case n => assumption); (case h => walk_at "at")))
local macro_rules | `(tactic| walk_at "cond") => `(tactic| first | trivial | exact Or.inl ⟨by decide, by decide⟩ | exact Or.inr ⟨by decide, by decide⟩ | exact Or.inl ⟨by omega, by omega⟩ | exact Or.inr ⟨by omega, by omega⟩ | (show (0 : Int) < _; omega) | (show (0 : Int) < _; decide))
local macro_rules | `(tactic| walk_at "go1") => `(tactic| first
  | ((with_reducible refine' g_var ?h ?_); (case h => exact rfl))
  | with_reducible refine g_c ?_ | with_reducible refine g_op ?_ | with_reducible refine g_un ?_ | with_reducible refine g_I0 ?_ | with_reducible refine g_U ?_
  | ((with_reducible refine' g_I ?h ?_); (case h => walk_at "cond"))
  | ((with_reducible refine' g_eq ?h ?_); (case h => exact rfl)) | ((with_reducible refine' g_ne ?h ?_); (case h => exact rfl))
  | with_reducible refine g_cb ?_ | with_reducible refine g_nil ?_ | with_reducible refine g_cons ?_
  | (with_reducible refine g_tup ?_) | (with_reducible refine g_lst ?_) | with_reducible refine g_fn ?_ | with_reducible refine g_fnJ ?_
  | with_reducible refine g_fld ?_ | with_reducible refine g_mt ?_ | with_reducible refine g_mtJ ?_ | with_reducible refine g_mk ?_ | with_reducible refine g_mkJ ?_
  | with_reducible refine g_test ?_ | with_reducible refine g_tB ?_ | with_reducible refine g_and ?_ | with_reducible refine g_or ?_ | with_reducible refine g_not ?_ | with_reducible refine g_andV ?_ | with_reducible refine g_orV ?_ | with_reducible refine g_notV ?_ | with_reducible refine g_ifE ?_
  | with_reducible refine g_bl ?_ | with_reducible refine iteT ?_ | with_reducible refine iteF ?_ | with_reducible refine iteNT ?_ | with_reducible refine iteNF ?_
  | with_reducible refine g_seq ?_ | with_reducible refine g_next ?_ | with_reducible refine g_drop ?_ | with_reducible refine g_ret ?_ | with_reducible refine g_retN ?_ | with_reducible refine g_if ?_ | with_reducible refine g_asg ?_ | with_reducible refine g_name ?_ | with_reducible refine g_sub ?_ | with_reducible refine g_sfld ?_ | with_reducible refine g_raise ?_ | with_reducible refine g_tryAs ?_
  | ((with_reducible refine' g_fld1 ?h ?c ?n ?l ?_); (case h => walk_at "at"); (case c => walk_at "cls"); (case n => walk_at "nat"); (case l => exact rfl))
  | ((with_reducible refine' g_sfld1 ?h ?c ?n ?l ?_); (case h => walk_at "at"); (case c => walk_at "cls"); (case n => walk_at "nat"); (case l => exact Nat.le_of_ble_eq_true rfl))
  | with_reducible refine g_aug ?_ | with_reducible refine g_rAdd ?_
  | ((with_reducible refine' g_aug1 ?h ?c ?n ?l ?_); (case h => walk_at "at"); (case c => walk_at "cls"); (case n => walk_at "nat"); (case l => exact rfl))
  | ((with_reducible refine' g_aug2 ?h ?l ?_); (case h => walk_at "at"); (case l => exact Nat.le_of_ble_eq_true rfl))
  | ((with_reducible refine' g_mt1 ?h ?l ?_); (case h => walk_at "at"); (case l => exact rfl))
  | ((with_reducible refine' g_ixL ?h ?e ?_); (case h => walk_at "at"); (case e => exact rfl))
  | ((with_reducible refine' g_ixT ?h ?e ?_); (case h => walk_at "at"); (case e => exact rfl))
  | ((with_reducible refine' g_len ?h ?_); (case h => walk_at "at")) | ((with_reducible refine' g_list ?h ?_); (case h => walk_at "at"))
  | with_reducible refine g_for ?_ | with_reducible refine g_rng1 ?_ | with_reducible refine g_rng2 ?_ | with_reducible refine g_lsti ?_ | with_reducible refine g_comp ?_
  | ((with_reducible refine' g_rngW ?h1 ?h2 ?_); (case h1 => omega); (case h2 => omega)) | ((with_reducible refine' g_rngW ?h1 ?h2 ?_); (case h1 => decide); (case h2 => decide))
  | ((with_reducible refine' g_lstW ?h ?_); (case h => exact SqL.of (by walk_at "at")))
  | with_reducible refine g_bm0 ?_ | ((with_reducible refine' g_clear ?h ?_); (case h => walk_at "at"))
  | with_reducible refine g_bm ?_ | ((with_reducible refine' g_tyL ?h ?_); (case h => walk_at "at")) | ((with_reducible refine' g_app ?h ?l ?_); (case h => walk_at "at"); (case l => first | exact Nat.le_of_ble_eq_true rfl | omega)))
local macro_rules | `(tactic| walk_at "go") => `(tactic| repeat (walk_at "go1"))
set_option hygiene false in
local macro_rules | `(tactic| walk_at "cls") => `(tactic| first | assumption)
set_option hygiene false in
local macro_rules | `(tactic| walk_at "nat") => `(tactic| first | assumption)
section
variable {P : Program} {w : World} {K : PySem.W.Frag} {mg : Str → Option Value} {base : Heap} {cl : Cl}
theorem step_ix : (List.range 9).all (fun n => decide (n < 2) || (stepIx (4 * n + 4) none (some (4 * (n : Int))) (some 4) == (List.range n).map fun q => 4 * q)) = true := by decide +kernel
theorem step_marks {n : Nat} {row : List Int} (n2 : 2 ≤ n) (n8 : n ≤ 8) (hl : row.length = 4 * n + 4) : stepV (row.map V.int) none (some (4 * (n : Int))) (some 4) = (markRow n row).map V.int := by
  have h := List.all_eq_true.mp step_ix n (List.mem_range.mpr (by omega))
  rw [show decide (n < 2) = false from decide_eq_false (by omega), Bool.false_or, beq_iff_eq] at h
  unfold stepV
  rw [List.length_map, hl, h, List.filterMap_map]
  unfold markRow
  rw [List.map_map]
  have : ∀ L : List Nat, (∀ q ∈ L, q < n) → L.filterMap ((fun x => (row.map V.int)[x]?) ∘ fun q => 4 * q) = L.map (V.int ∘ fun q => row.getD (4 * q) 0) := by
    intro L
    induction L with
    | nil => intro _; rfl
    | cons q L ih =>
      intro hq
      have h1 : 4 * q < row.length := by have := hq q (List.mem_cons_self ..); omega
      have e : ((fun x => (row.map V.int)[x]?) ∘ fun q => 4 * q) q = some (.int (row.getD (4 * q) 0)) := by
        show (row.map V.int)[4 * q]? = _
        rw [List.getElem?_map, List.getD_eq_getElem?_getD, List.getElem?_eq_getElem h1]
        rfl
      rw [List.filterMap_cons, e, ih fun z hz => hq z (List.mem_cons_of_mem _ hz)]
      rfl
  exact this _ fun q hq => List.mem_range.mp hq
theorem counts_turns {n f g : Nat} {rw_ : List Int} (n2 : 2 ≤ n) (n8 : n ≤ 8) (hf : f ≤ g) (hg : g ≤ f + n) (h : lmRow n f g = markRow n rw_) : Turns n rw_ (f % (2 * n)) (g % (2 * n)) (g - f) := by
  have F := facts n2 n8 hf hg
  rw [(lm_row n2 n8 hf hg).1] at h
  refine ⟨by rw [← h]; exact F.bits, by rw [← h]; exact F.laps, Nat.mod_lt _ (by omega), Nat.mod_lt _ (by omega), ?_, by omega⟩
  have e1 : ((g % (2 * n) : Nat) : Int) = (g : Int) % (2 * (n : Int)) := by push_cast; rfl
  have e2 : ((f % (2 * n) : Nat) : Int) = (f : Int) % (2 * (n : Int)) := by push_cast; rfl
  rw [e1, e2, ← Int.sub_emod, Int.emod_eq_of_lt (by omega) (by omega)]
  omega
theorem slipRow_mod {n f d : Nat} {rw_ : List Int} : slipRow n rw_ (f % (2 * n)) d = (List.range d).map fun k => slipOf rw_ ((f + k) % n) := by
  unfold slipRow
  refine List.map_congr_left fun k _ => ?_
  have e : (f % (2 * n) + k) % n = (f + k) % n := by
    rw [Nat.add_mod, Nat.mod_mod_of_dvd _ (Nat.dvd_mul_left n 2), ← Nat.add_mod]
  rw [e]
theorem last_mod {n g : Nat} (n2 : 2 ≤ n) (n8 : n ≤ 8) (hg : 1 ≤ g) : (g % (2 * n) + 2 * n - 1) % n = (g - 1) % n := by
  have : n = 2 ∨ n = 3 ∨ n = 4 ∨ n = 5 ∨ n = 6 ∨ n = 7 ∨ n = 8 := by omega
  rcases this with rfl | rfl | rfl | rfl | rfl | rfl | rfl <;> omega
def sp_law_right : Sp := fun vs H Q _ => ∃ (n : Nat) (c w : Addr) (rw_ : List Int), vs = [.int n, .ref c, .ref w] ∧ Well H w ∧ H c = some (.lst (rw_.map V.int)) ∧ GoodRow n rw_ ∧ ∀ H', Well H' w → But w H H' → Q (.bl true) H'
theorem own_at (x : Int) : atI [V.str "giver", V.str "taker"] (x % 2) = some (.str (ownS x)) := by
  have : x % 2 = 0 ∨ x % 2 = 1 := by omega
  unfold ownS
  rcases this with e | e
  · rw [e]; rfl
  · rw [e]; rfl
theorem own_eq (x : Str) : eqV (.str x) (.str x) = true := by rw [eqV_str]; simp
abbrev s_law_right : Stmt := top 79
theorem sc_law_right : FnScope ["size", "cells", "well", "handed", "counts", "place", "beyond", "wrong", "freed", "given", "due", "kinds", "told", "number", "left", "thing", "sound", "found"] ["size", "cells", "well"] (defScope s_law_right) := ⟨rfl, rfl, rfl, by decide +kernel, rfl, by decide +kernel, by decide +kernel⟩
set_option maxHeartbeats 16000000 in
theorem ok_law_right (D : DefT K mg "_law_right" s_law_right ["size", "cells", "well"]) (T : Txt K mg cl) (kb : PySem.W.kitOne K (.type "bool") (.type "bool") = some true) (G_law_counts : FnT P w K mg base "_law_counts" 2 ["size", "marks"] sp_law_counts) (G_law_asked : FnT P w K mg base "_law_asked" 8 ["way", "cells", "place"] (sp_law_asked cl)) (G_law_far : FnT P w K mg base "_law_far" 2 ["well"] sp_law_far) (G_law_take : FnT P w K mg base "_law_take" 1 ["well", "many"] sp_law_take) (G_sound_board : FnT P w K mg base "sound_board" 8 ["cells"] sp_sound_board) (G_law_slip : FnT P w K mg base "_law_slip" 1 ["cells", "place"] sp_law_slip) (G_law_sound : FnT P w K mg base "_law_sound" 1 ["size", "told"] sp_law_sound) (G_slips : FnT P w K mg base "slips" 7 ["cells"] (sp_slips cl)) : FnT P w K mg base "_law_right" 9 ["size", "cells", "well"] sp_law_right := by
  refine D.fn sc_law_right (fun vs H Q E h => ?_) (fun f cdv A outer s H vs Q E hr h => ?_)
  · obtain ⟨n, c, w, row, rfl, _⟩ := h
    rfl
  · obtain ⟨n, c, w, row, rfl, hw, ec, gr, k⟩ := h
    refine ⟨_, (pss_cons (ps_set (i := 3) sc_law_right.nd rfl (by first | exact Or.inl rfl | exact Or.inr rfl) (pe_callTy (call_listK (K := K)) (by rfl) T.z_list PyProof.Rows.boot_list (pa_cons (pv 1) pa_nil)))
      (pss_cons (ps_set (i := 4) sc_law_right.nd rfl (by first | exact Or.inl rfl | exact Or.inr rfl) (pe_fn G_law_counts hr (by decide) rfl passX (pa_cons (pv 0) (pa_cons (pe_sliceS (K := K) (pv 1) po_none (po_some (pe_op op_mul pe_int (pv 0))) (po_some pe_int)) pa_nil))))
      (pss_cons (ps_for passOwnX rfl (pi_range1 rfl T.z_range (pa_cons (pv 0) pa_nil)) (pg_name (i := 5) sc_law_right.nd rfl (by first | exact Or.inl rfl | exact Or.inr rfl))
         (pss_one (ps_if (pt_cmpR (op_neK (K := K) (n := 1) (huN hr 2)) (pe_fn G_law_asked hr (by decide) rfl passX (pa_cons pe_int (pa_cons (pv 3) (pa_cons (pv 5) pa_nil)))) (pe_tup (pa_cons (pe_lst pa_nil) (pa_cons (pe_ix (ix_listK (K := K)) (pe_lst (pa_cons pe_str (pa_cons pe_str pa_nil))) (pe_op op_mod (pe_ix (ix_listK (K := K)) (pv 1) (pe_op op_mul pe_int (pv 5)) (fun _ _ => rfl)) pe_int) (fun _ _ => rfl)) pa_nil))) (nomark _))
            (pss_one (ps_ret pe_bl))
            pss_nil)))
      (pss_cons (ps_set (i := 6) sc_law_right.nd rfl (by first | exact Or.inl rfl | exact Or.inr rfl) (pe_ix (ix_listK (K := K)) (pe_lst (pa_cons (pe_un un_neg pe_int) (pa_cons (pv 0) (pa_cons (pe_op op_add (pv 0) (pe_fn G_law_far hr (by decide) rfl passX (pa_cons (pv 2) pa_nil))) (pa_cons (pe_op op_sub pe_int (pe_fn G_law_far hr (by decide) rfl passX (pa_cons (pv 2) pa_nil))) pa_nil))))) (pe_fn G_law_take hr (by decide) rfl passX (pa_cons (pv 2) (pa_cons pe_int pa_nil))) (fun _ _ => rfl)))
      (pss_cons (ps_if (pt_cmpR (op_neK (K := K) (n := 1) (huN hr 2)) (pe_fn G_law_asked hr (by decide) rfl passX (pa_cons pe_int (pa_cons (pv 3) (pa_cons (pv 6) pa_nil)))) (pe_tup (pa_cons (pe_lst (pa_cons pe_bl (pa_cons pe_bl (pa_cons pe_bl (pa_cons pe_bl (pa_cons pe_bl pa_nil)))))) (pa_cons pe_non pa_nil))) (nomark _))
         (pss_one (ps_ret pe_bl))
         pss_nil)
      (pss_cons (ps_if (pt_cmpR op_isN (pv 4) pe_non (nomark _))
         (pss_cons (ps_set (i := 7) sc_law_right.nd rfl (by first | exact Or.inl rfl | exact Or.inr rfl) (pe_tup (pa_cons (pe_lst (pa_cons pe_bl (pa_cons pe_bl (pa_cons pe_bl (pa_cons pe_bl (pa_cons pe_bl pa_nil)))))) (pa_cons pe_non pa_nil))))
          (pss_one (ps_ret (pe_and (pe_cmpR (op_eqK (K := K) (n := 1) (huN hr 2)) (pe_fn G_law_asked hr (by decide) rfl passX (pa_cons pe_int (pa_cons (pv 3) (pa_cons pe_int pa_nil)))) (pv 7) (nomark _)) (pe_and (pe_cmpR op_isB (pe_fn G_sound_board hr (by decide) rfl passX (pa_cons (pv 3) pa_nil)) pe_bl (nomark _)) (pe_one (pe_cmpR (op_eqK (K := K) (n := 0) (huN hr 1)) (pv 3) (pv 1) (nomark _))))))))
         pss_nil)
      (pss_cons (ps_asg (pv 4) (pg_tupK (K := K) rfl (pgs_cons (pg_name (i := 8) sc_law_right.nd rfl (by first | exact Or.inl rfl | exact Or.inr rfl)) (pgs_cons (pg_name (i := 9) sc_law_right.nd rfl (by first | exact Or.inl rfl | exact Or.inr rfl)) pgs_nil))))
      (pss_cons (ps_setComp (ix := 10) (N := ["k", "size", "cells"]) (nt := 1) (fr := [0, 1]) rfl (comp_ok2 (i := 0) (j := 1) rfl rfl (by decide +kernel) (by decide +kernel) rfl rfl rfl rfl rfl rfl rfl rfl rfl rfl rfl rfl) (pi_range2 rfl T.z_range (pa_cons (pv 8) (pa_cons (pv 9) pa_nil))) (gk_name (by decide)) (fun _ _ _ _ _ => pg_name (i := 0) (show (["k", "size", "cells"] : List Str).Nodup by decide +kernel) rfl (Or.inl rfl) (Or.inr rfl)) (fun _ _ _ _ _ => (pe_fn G_law_slip hr (by decide) rfl passC (pa_cons (pv 2) (pa_cons (pe_op op_mod (pv 0) (pv 1)) pa_nil)))) sc_law_right.nd rfl rfl)
      (pss_cons (ps_asg (pe_fn G_law_asked hr (by decide) rfl passX (pa_cons pe_int (pa_cons (pv 3) (pa_cons pe_int pa_nil)))) (pg_tupK (K := K) rfl (pgs_cons (pg_name (i := 11) sc_law_right.nd rfl (by first | exact Or.inl rfl | exact Or.inr rfl)) (pgs_cons (pg_name (i := 12) sc_law_right.nd rfl (by first | exact Or.inl rfl | exact Or.inr rfl)) pgs_nil))))
      (pss_cons (ps_if (PW.pt (pw_or (pt_cmpR (op_neK (K := K) (n := 0) (huN hr 1)) (pv 11) (pe_lst pa_nil) (nomark _)) (pw_or1 (pt_cmpR (op_neK (K := K) (n := 1) (huN hr 2)) (pv 12) (pv 10) (nomark _)))))
         (pss_one (ps_ret pe_bl))
         pss_nil)
      (pss_cons (ps_expr (pe_clearK (K := K) (pv 12)))
      (pss_cons (ps_asg (pe_fn G_law_slip hr (by decide) rfl passX (pa_cons (pv 1) (pa_cons (pe_op op_mod (pe_op op_sub (pv 9) pe_int) (pv 0)) pa_nil))) (pg_tupK (K := K) rfl (pgs_cons (pg_name (i := 13) sc_law_right.nd rfl (by first | exact Or.inl rfl | exact Or.inr rfl)) (pgs_cons (pg_name (i := 14) sc_law_right.nd rfl (by first | exact Or.inl rfl | exact Or.inr rfl)) (pgs_cons (pg_name (i := 15) sc_law_right.nd rfl (by first | exact Or.inl rfl | exact Or.inr rfl)) pgs_nil)))))
      (pss_cons (ps_set (i := 16) sc_law_right.nd rfl (by first | exact Or.inl rfl | exact Or.inr rfl) (pe_and (pe_cmpR op_ge (pv 13) (pe_un un_neg pe_int) (nomark _)) (pe_one (pe_cmpR op_eq (pv 14) pe_int (nomark _)))))
      (pss_cons (ps_if (pt_cmpR (op_neK (K := K) (n := 1) (huN hr 2)) (pv 10) (pe_lst pa_nil) (nomark _))
         (pss_one (ps_set (i := 16) sc_law_right.nd rfl (by first | exact Or.inl rfl | exact Or.inr rfl) (pe_fn G_law_sound hr (by decide) rfl passX (pa_cons (pv 0) (pa_cons (pv 10) pa_nil)))))
         pss_nil)
      (pss_cons (ps_set (i := 17) sc_law_right.nd rfl (by first | exact Or.inl rfl | exact Or.inr rfl) (pe_fn G_sound_board hr (by decide) rfl passX (pa_cons (pv 3) pa_nil)))
      (pss_cons (ps_if (PW.pt (pw_or (pt_not (pt_val (pe_callB (call_isiK (K := K)) (by rfl) T.z_isinstance PyProof.Rows.boot_isinstance (pa_cons (pv 17) (pa_cons (pe_gty T.z_bool PyProof.Rows.boot_bool rfl) pa_nil))))) (pw_or (pt_cmpR op_ne (pv 17) (pv 16) (nomark _)) (pw_or1 (pt_cmpR (op_neK (K := K) (n := 0) (huN hr 1)) (pv 3) (pv 1) (nomark _))))))
         (pss_one (ps_ret pe_bl))
         pss_nil)
      (pss_one (ps_ret (pe_cmpR (op_eqK (K := K) (n := 1) (huN hr 2)) (pe_fn G_slips hr (by decide) rfl passX (pa_cons (pv 3) pa_nil)) (pv 10) (nomark _)))))))))))))))))))), ?_⟩
    have h20 : 2000 ≤ sizeLine := by decide
    have g2 := gr.n2
    have g8 := gr.n8
    have gl := gr.len
    have ncw : c ≠ w := hw.off ec (by omega)
    walk_at "go"
    intro hd hhd
    have nhc : hd ≠ c := (ne_of_none ec hhd).symm
    have nhw : hd ≠ w := hw.ne hhd
    have ec1 : upd H hd (.lst (row.map V.int)) c = some (.lst (row.map V.int)) := same_new hhd _ _ ec
    refine g_name ?_
    refine seq_cutC (M := fun σ' H' => ∃ cv, σ' = [some (.int n), some (.ref c), some (.ref w), some (.ref hd), some cv, none, none, none, none, none, none, none, none, none, none, none, none, none] ∧ Same H H' ∧ H' hd = some (.lst (row.map V.int)) ∧ ((soundI (markRow n row) = true ∧ ∃ (f g : Nat) (t : Addr), cv = .ref t ∧ t ≠ w ∧ H' t = some (.tup [.int f, .int g]) ∧ lmRow n f g = markRow n row ∧ 2 * n ≤ f ∧ f < 4 * n ∧ f ≤ g ∧ g ≤ f + n) ∨ (soundI (markRow n row) = false ∧ cv = .non))) ?_ ?_
    rotate_left
    · intro R hR
      walk_at "go"
      refine g_slS ?_
      walk_at "go"
      refine g_noPart ?_
      refine g_part ?_
      walk_at "go"
      refine ⟨_, rfl, ?_⟩
      refine g_part ?_
      walk_at "go"
      refine ⟨4, rfl, c, _, rfl, SqL.of ec1, by decide, ?_, fun p hp => ?_⟩
      · rw [step_marks g2 g8 gl, List.length_map, markRow_len]; omega
      rw [step_marks g2 g8 gl]
      walk_at "go"
      have w1 := (hw.same (same_new (o := .lst (row.map V.int)) hhd)).same (same_new (o := .lst ((markRow n row).map V.int)) hp)
      refine ⟨p, markRow n row, n, rfl, upd_same, markRow_len n row, g2, g8, marks_ok_of gr.ok, fun f g t H2 so lm f0 f1 fg gf ht s2 et => ?_, fun so H2 s2 => ?_⟩
      · walk_at "go"
        exact hR _ _ ⟨_, rfl, ((same_new hhd).trans (same_new hp)).trans s2, s2 _ _ (same_new hp _ _ upd_same), .inl ⟨so, f, g, t, rfl, w1.ne ht, et, lm, f0, f1, fg, gf⟩⟩
      · walk_at "go"
        exact hR _ _ ⟨_, rfl, ((same_new hhd).trans (same_new hp)).trans s2, s2 _ _ (same_new hp _ _ upd_same), .inr ⟨so, rfl⟩⟩
    rintro σ' H1 ⟨cv, rfl, s1, eh1, hcv⟩
    have w1 := hw.same s1
    clear ec1
    have ec1 := s1 _ _ ec
    walk_at "go"
    refine for_range (n := (n : Int).toNat) (fun i σ H' => ∃ x5, σ = [some (.int n), some (.ref c), some (.ref w), some (.ref hd), some cv, x5, none, none, none, none, none, none, none, none, none, none, none, none] ∧ Same H1 H') ⟨_, rfl, Same.refl H1⟩ ?_ ?_
    · rintro i σ H2 hi ⟨x5, rfl, s2⟩
      have hi : i < n := by omega
      have eh2 := s2 _ _ eh1
      have ec2 := s2 _ _ ec1
      walk_at "go"
      refine ⟨hd, row, 1, _, n, rfl, eh2, gr, .inr (.inr (.inl ⟨rfl, by omega, by omega, fun t kk H3 ht hkk s3 et ek => ?_⟩))⟩
      have ec3 := s3 _ _ ec2
      walk_at "go"
      refine ⟨Nat.zero_le _, fun q1 hq1 => ?_⟩
      walk_at "go"
      refine ⟨by show 2 ≤ sizeLine; omega, fun q2 hq2 => ?_⟩
      have ec4 := ((same_new (o := .lst []) hq1).trans (same_new (o := .lst [.str "giver", .str "taker"]) hq2)) _ _ ec3
      walk_at "go"
      refine g_ixL ec4 (atI_in (by omega) (by omega)) ?_
      walk_at "go"
      rw [show (4 * (0 + (i : Int))).toNat = 4 * (0 + (i : Int)).toNat by omega]
      refine g_ixL upd_same (own_at _) ?_
      walk_at "go"
      refine ⟨by show 2 ≤ sizeLine; omega, fun q3 hq3 => ?_⟩
      have s5 := fixH hq3 ((same_new hq1).trans (same_new hq2))
      refine g_neD (eqd_pair (ne_of_none (s5 _ _ et) hq3) (same_new hq3 _ _ (s5 _ _ et)) upd_same (eqd_sameB (ns := []) (ne_of_none ek hq1) ((s5.trans (same_new hq3)) _ _ ek) (same_new hq3 _ _ (same_new hq2 _ _ upd_same))) rfl (own_eq _)) ?_
      walk_at "go"
      exact ⟨_, rfl, ((s2.trans s3).trans s5).trans (same_new hq3)⟩
    rintro σ H2 ⟨x5, rfl, s2⟩
    have w2 := w1.same s2
    walk_at "go"
    refine ⟨w, rfl, w2, fun r3 H3 a3 c3 w3 b3 => ?_⟩
    walk_at "go"
    refine ⟨w, rfl, w3, fun r4 H4 a4 c4 w4 b4 => ?_⟩
    walk_at "go"
    refine ⟨by show 4 ≤ sizeLine; omega, fun p5 hp5 => ?_⟩
    have np5 : p5 ≠ w := w4.ne hp5
    walk_at "go"
    refine ⟨w, 4, rfl, w4.same (same_new hp5), by decide, by decide, fun r6 H6 a6 c6 w6 b6 => ?_⟩
    have e6 := b6 _ _ upd_same np5
    obtain ⟨be, hbe, nbe⟩ := pickL (ns := [-1, (n : Int), (n : Int) + r3, 0 - r4]) (Pr := fun v => ¬ (0 ≤ v ∧ v < (n : Int))) (by intro v hv; simp only [List.mem_cons, List.not_mem_nil, or_false] at hv; omega) a6 c6
    refine g_ixL e6 hbe ?_
    have b16 : But w H1 H6 := (((But.of s2).trans b3).trans b4).trans ((But.of (same_new hp5)).trans b6)
    have b06 : But w H H6 := (But.of s1).trans b16
    have eh6 := b16 _ _ eh1 nhw
    have ec6 := b16 _ _ ec1 ncw
    walk_at "go"
    refine ⟨hd, row, 1, _, n, rfl, eh6, gr, .inr (.inr (.inr ⟨rfl, nbe, fun t kk H7 ht hkk s7 et ek => ?_⟩))⟩
    walk_at "go"
    refine ⟨by show 5 ≤ sizeLine; omega, fun q1 hq1 => ?_⟩
    walk_at "go"
    refine ⟨by show 2 ≤ sizeLine; omega, fun q2 hq2 => ?_⟩
    refine g_neD (eqd_pair (ne_of_none (same_new hq1 _ _ et) hq2) (((same_new hq1).trans (same_new hq2)) _ _ et) upd_same (eqd_sameB (ns := [false, true, true, false, false]) (ne_of_none ek hq1) (((same_new hq1).trans (same_new hq2)) _ _ ek) (same_new hq2 _ _ upd_same)) rfl rfl) ?_
    have s68 : Same H6 _ := (s7.trans (same_new (o := .lst [.bl false, .bl true, .bl true, .bl false, .bl false]) hq1)).trans (same_new (o := .tup [.ref q1, .non]) hq2)
    have w8 := w6.same s68
    have b08 := b06.trans (But.of s68)
    have eh8 := s68 _ _ eh6
    have ec8 := s68 _ _ ec6
    have b18 := b16.trans (But.of s68)
    have hcv8 : (soundI (markRow n row) = true ∧ ∃ (f g : Nat) (t : Addr), cv = .ref t ∧ upd (upd H7 q1 (.lst [.bl false, .bl true, .bl true, .bl false, .bl false])) q2 (.tup [.ref q1, .non]) t = some (.tup [.int f, .int g]) ∧ lmRow n f g = markRow n row ∧ 2 * n ≤ f ∧ f < 4 * n ∧ f ≤ g ∧ g ≤ f + n) ∨ (soundI (markRow n row) = false ∧ cv = .non) := by
      rcases hcv with ⟨so, f, g, t, e, nt, et, z⟩ | z
      · exact .inl ⟨so, f, g, t, e, b18 _ _ et nt, z⟩
      · exact .inr z
    clear et ek hq1 hq2 s7 s68 hcv b18
    revert w8 b08 eh8 ec8 hcv8
    generalize upd (upd H7 q1 (.lst [.bl false, .bl true, .bl true, .bl false, .bl false])) q2 (.tup [.ref q1, .non]) = H8
    intro w8 b08 eh8 ec8 hcv8
    walk_at "go"
    refine ⟨rfl, ?_⟩
    rcases hcv8 with ⟨so, f, g, t, rfl, et, lm, f0, f1, fg, gf⟩ | ⟨so, rfl⟩
    rotate_left
    · rw [show decide (V.non = V.non) = true by simp]
      walk_at "go"
      refine ⟨by show 5 ≤ sizeLine; omega, fun q1 hq1 => ?_⟩
      walk_at "go"
      refine ⟨by show 2 ≤ sizeLine; omega, fun q2 hq2 => ?_⟩
      have eq2 : upd (upd H8 q1 (.lst [.bl true, .bl false, .bl true, .bl false, .bl false])) q2 (.tup [.ref q1, .non]) q2 = some (.tup [.ref q1, .non]) := upd_same
      have eq1 : upd (upd H8 q1 (.lst [.bl true, .bl false, .bl true, .bl false, .bl false])) q2 (.tup [.ref q1, .non]) q1 = some (.lst ([true, false, true, false, false].map V.bl)) := same_new hq2 _ _ upd_same
      have s9 : Same H8 (upd (upd H8 q1 (.lst [.bl true, .bl false, .bl true, .bl false, .bl false])) q2 (.tup [.ref q1, .non])) := (same_new hq1).trans (same_new hq2)
      clear hq1 hq2
      revert eq2 eq1 s9
      generalize upd (upd H8 q1 (.lst [.bl true, .bl false, .bl true, .bl false, .bl false])) q2 (.tup [.ref q1, .non]) = H9
      intro eq2 eq1 s9
      have eh9 := s9 _ _ eh8
      walk_at "go"
      refine ⟨hd, row, 0, _, n, rfl, eh9, gr, .inr (.inl ⟨rfl, so, fun t kk H10 ht hkk s10 et ek => ?_⟩)⟩
      have eh10 := s10 _ _ eh9
      walk_at "go"
      refine g_eqD (eqd_pair (ne_of_none eq2 ht).symm et (s10 _ _ eq2) (eqd_sameB (ns := [true, false, true, false, false]) (ne_of_none eq1 hkk).symm ek (s10 _ _ eq1)) rfl rfl) ?_
      walk_at "go"
      refine ⟨hd, row, rfl, eh10, .inr (.inl ⟨n, gr, so, fun H11 s11 => ?_⟩)⟩
      walk_at "go"
      refine ⟨false, false, rfl, rfl, ?_⟩
      rw [show (false == false) = true from rfl]
      have s811 := (s9.trans s10).trans s11
      walk_at "go"
      exact g_eqD (eqd_same nhc (s811 _ _ eh8) (s811 _ _ ec8)) (k _ (w8.same s811) (b08.trans (But.of s811)))
    rw [show decide (V.ref t = V.non) = false by simp]
    have tu := counts_turns g2 g8 fg gf lm
    walk_at "go"
    refine g_unp2 et rfl ?_
    refine seq_cutC (M := fun σ' H' => ∃ du, σ' = [some (.int n), some (.ref c), some (.ref w), some (.ref hd), some (.ref t), x5, some (.int be), none, some (.int f), some (.int g), some (.ref du), none, none, none, none, none, none, none] ∧ Same H8 H' ∧ H8 du = none ∧ TpsN H8 H' du (slipRow n row (f % (2 * n)) (g - f))) ?_ ?_
    rotate_left
    · intro R hR
      walk_at "go"
      refine ⟨_, _, rfl, ⟨by omega, by omega, by omega, by omega⟩, ?_⟩
      rw [show ((g : Int) - (f : Int)).toNat = g - f by omega]
      refine comp_rangeL (n := g - f) (by omega) (TpP H8 fun k => slipOf row ((f + k) % n)) (fun D hD => ⟨[], rfl, rfl, upd_same, same_new hD, by simp⟩) ?_ ?_ ?_
      · rintro D i acc H' ⟨ps, rfl, l, e, _⟩
        exact ⟨e, by rw [List.length_map]; exact l⟩
      · intro D i acc H9 hD hi z
        have ec9 : H9 c = some (.lst (row.map V.int)) := by
          obtain ⟨_, _, _, _, s9, _⟩ := z
          exact s9 _ _ ec8
        have p0 := Int.emod_nonneg ((f : Int) + (i : Int)) (show (n : Int) ≠ 0 by omega)
        have p1 := Int.emod_lt_of_pos ((f : Int) + (i : Int)) (show 0 < (n : Int) by omega)
        walk_at "go"
        refine ⟨c, row, _, rfl, ec9, p0, by omega, fun p hp => ?_⟩
        rw [show (((f : Int) + (i : Int)) % (n : Int)).toNat = (f + i) % n by rw [show (f : Int) + (i : Int) = ((f + i : Nat) : Int) by omega, ← Int.natCast_emod, Int.toNat_natCast]]
        exact z.step hD hp
      · intro D acc H9 hD z
        obtain ⟨tp, s9⟩ := z.tps
        walk_at "go"
        refine hR _ _ ⟨D, rfl, s9, hD, ?_⟩
        rw [slipRow_mod]
        exact tp
    rintro σ' H9 ⟨du, rfl, s9, hdu, td⟩
    have eh9 := s9 _ _ eh8
    have ec9 := s9 _ _ ec8
    have w9 := w8.same s9
    have b09 := b08.trans (But.of s9)
    have tdl := td.tps
    have ldu := slipRow_len n row (f % (2 * n)) (g - f)
    walk_at "go"
    refine ⟨hd, row, 0, _, n, rfl, eh9, gr, .inl ⟨rfl, so, _, _, _, tu, fun tt kk l H10 htt hkk hl s10 ett ek tl => ?_⟩⟩
    walk_at "go"
    refine g_unp2 ett rfl ?_
    walk_at "go"
    refine ⟨Nat.zero_le _, fun q1 hq1 => ?_⟩
    have ndl : l ≠ du := by
      obtain ⟨xs, ex, _⟩ := tdl.len
      exact (ne_of_none ex hl).symm
    refine g_neD (eqd_sameB (ns := []) (ne_of_none ek hq1) (same_new hq1 _ _ ek) upd_same) ?_
    have s11 : Same H9 (upd H10 q1 (.lst [])) := s10.trans (same_new hq1)
    have tl11 := tl.same (same_new (o := .lst []) hq1)
    walk_at "go"
    refine g_neD (eqd_tps ndl tl11 tdl s11) ?_
    obtain ⟨lx, elx, _⟩ := tl11.tps.len
    walk_at "go"
    have s12 : Same H9 (upd (upd H10 q1 (.lst [])) l (.lst [])) := s11.set hl
    clear elx tl11 tl hq1 ek ett s11
    revert s12
    generalize upd (upd H10 q1 (.lst [])) l (.lst []) = H12
    intro s12
    have ec12 := s12 _ _ ec9
    have p0 := Int.emod_nonneg ((g : Int) - 1) (show (n : Int) ≠ 0 by omega)
    have p1 := Int.emod_lt_of_pos ((g : Int) - 1) (show 0 < (n : Int) by omega)
    walk_at "go"
    refine ⟨c, row, _, rfl, ec12, p0, by omega, fun t13 ht13 => ?_⟩
    have eix : (((g : Int) - 1) % (n : Int)).toNat = (g % (2 * n) + 2 * n - 1) % n := by
      rw [last_mod g2 g8 (by omega), show (g : Int) - 1 = ((g - 1 : Nat) : Int) by omega, ← Int.natCast_emod, Int.toNat_natCast]
    rw [eix]
    generalize hpl : (g % (2 * n) + 2 * n - 1) % n = pl
    refine g_unp3 upd_same rfl ?_
    have s13 : Same H9 (upd H12 t13 (tup3 (slipOf row pl))) := s12.trans (same_new ht13)
    clear ht13 ec12
    revert s13
    generalize upd H12 t13 (tup3 (slipOf row pl)) = H13
    intro s13
    refine seq_cutC (M := fun σ' H' => σ' = [some (.int n), some (.ref c), some (.ref w), some (.ref hd), some (.ref t), x5, some (.int be), none, some (.int f), some (.int g), some (.ref du), some (.ref kk), some (.ref l), some (.int (slipOf row pl).1), some (.int (slipOf row pl).2.1), some (.int (slipOf row pl).2.2), some (.bl (endOk row pl)), none] ∧ H' = H13) ?_ ?_
    rotate_left
    · intro R hR
      walk_at "go"
      unfold endOk at hR
      refine g_ite (fun z => ?_) (fun z => ?_)
      · rw [show decide (-1 ≤ (slipOf row pl).1) = true from decide_eq_true z, Bool.true_and] at hR
        walk_at "go"
        rw [show decide (V.int (slipOf row pl).2.1 = V.int 0) = decide ((slipOf row pl).2.1 = 0) by simp]
        exact hR _ _ ⟨rfl, rfl⟩
      · rw [show decide (-1 ≤ (slipOf row pl).1) = false from decide_eq_false z, Bool.false_and] at hR
        walk_at "go"
        exact hR _ _ ⟨rfl, rfl⟩
    rintro σ' H' ⟨rfl, rfl⟩
    refine seq_cutC (M := fun σ' H' => σ' = [some (.int n), some (.ref c), some (.ref w), some (.ref hd), some (.ref t), x5, some (.int be), none, some (.int f), some (.int g), some (.ref du), some (.ref kk), some (.ref l), some (.int (slipOf row pl).1), some (.int (slipOf row pl).2.1), some (.int (slipOf row pl).2.2), some (.bl (soundBrd n row (f % (2 * n)) (g % (2 * n)) (g - f))), none] ∧ Same H9 H') ?_ ?_
    rotate_left
    · intro R hR
      obtain ⟨xs, ex, lxs⟩ := tdl.len
      rw [ldu] at lxs
      walk_at "go"
      refine ⟨Nat.zero_le _, fun q1 hq1 => ?_⟩
      have ex14 : upd H' q1 (.lst []) du = some (.lst xs) := (s13.trans (same_new hq1)) _ _ ex
      unfold soundBrd at hR
      rw [hpl] at hR
      by_cases d0 : g - f = 0
      · rw [if_pos d0] at hR
        have x0 : xs = [] := List.length_eq_zero_iff.mp (by omega)
        subst x0
        refine g_neD (EqD.lst (e := fun _ => true) (ne_of_none (s13 _ _ ex) hq1) (SqL.of ex14) (SqL.of upd_same) rfl (fun j x y hx _ => by cases hx)) ?_
        rw [show (!((List.range ([] : List V).length).all fun _ => true)) = false from rfl]
        walk_at "go"
        exact hR _ _ ⟨rfl, s13.trans (same_new hq1)⟩
      · rw [if_neg d0] at hR
        refine g_neD (EqD.lstN (ne_of_none (s13 _ _ ex) hq1) (SqL.of ex14) (SqL.of upd_same) (by show xs.length ≠ 0; omega)) ?_
        rw [show (!false) = true from rfl]
        walk_at "go"
        refine ⟨du, n, _, rfl, g8, tdl.same (s13.trans (same_new hq1)), by rw [ldu]; omega, fun H15 s15 => ?_⟩
        walk_at "go"
        exact hR _ _ ⟨rfl, (s13.trans (same_new hq1)).trans s15⟩
    rintro σ' H14 ⟨rfl, s14⟩
    walk_at "go"
    refine ⟨hd, row, rfl, s14 _ _ eh9, .inl ⟨n, _, _, _, gr, so, tu, fun H15 s15 => ?_⟩⟩
    have s915 := s14.trans s15
    walk_at "go"
    refine g_isi (.ty (.bl _)) rfl kb ?_
    walk_at "go"
    rw [show (!decide (V.bl (soundBrd n row (f % (2 * n)) (g % (2 * n)) (g - f)) = V.bl (soundBrd n row (f % (2 * n)) (g % (2 * n)) (g - f)))) = false by simp]
    walk_at "go"
    refine g_neD (eqd_same nhc (s915 _ _ eh9) (s915 _ _ ec9)) ?_
    walk_at "go"
    refine ⟨hd, row, rfl, s915 _ _ eh9, .inl ⟨n, _, _, _, gr, so, tu, fun l2 H16 hl2 s16 t16 => ?_⟩⟩
    walk_at "go"
    have ndl2 : l2 ≠ du := by
      obtain ⟨xs, ex, _⟩ := (tdl.same s915).len
      exact (ne_of_none ex hl2).symm
    exact g_eqD (eqd_tps ndl2 t16 (tdl.same s915) s16) (k _ (w9.same (s915.trans s16)) (b09.trans (But.of (s915.trans s16))))
end
end S

set_option Elab.async false
set_option linter.all false
set_option maxRecDepth 100000
set_option maxHeartbeats 4000000
namespace S
open PySem L2
local macro_rules | `(tactic| walk_at "at") => `(tactic| first | assumption | exact upd_same | (refine (upd_ne ?_).trans ?_; (walk_at "ne"); (walk_at "at")) | (refine Same.at ?_ ?_; assumption; (walk_at "at")))
local macro_rules | `(tactic| walk_at "ne") => `(tactic| first | assumption | exact Ne.symm (by assumption) | ((refine' ne_of_none ?h ?n); (case n => assumption); (case h => walk_at "at")) | ((refine Ne.symm ?_); (refine' ne_of_none ?h ?n); (case n => assumption); (case h => walk_at "at")))
local macro_rules | `(tactic| walk_at "cond") => `(tactic| first | trivial | exact Or.inl ⟨by decide, by decide⟩ | exact Or.inr ⟨by decide, by decide⟩ | exact Or.inl ⟨by omega, by omega⟩ | exact Or.inr ⟨by omega, by omega⟩ | (show (0 : Int) < _; omega) | (show (0 : Int) < _; decide))
local macro_rules | `(tactic| walk_at "go1") => `(tactic| first
  | ((with_reducible refine' g_var ?h ?_); (case h => exact rfl))
  | with_reducible refine g_c ?_ | with_reducible refine g_op ?_ | with_reducible refine g_un ?_ | with_reducible refine g_I0 ?_ | with_reducible refine g_U ?_
  | ((with_reducible refine' g_I ?h ?_); (case h => walk_at "cond"))
  | ((with_reducible refine' g_eq ?h ?_); (case h => exact rfl)) | ((with_reducible refine' g_ne ?h ?_); (case h => exact rfl))
  | with_reducible refine g_cb ?_ | with_reducible refine g_nil ?_ | with_reducible refine g_cons ?_
  | (with_reducible refine g_tup ?_) | (with_reducible refine g_lst ?_) | with_reducible refine g_fn ?_ | with_reducible refine g_fnJ ?_
  | with_reducible refine g_fld ?_ | with_reducible refine g_mt ?_ | with_reducible refine g_mtJ ?_ | with_reducible refine g_mk ?_ | with_reducible refine g_mkJ ?_
  | with_reducible refine g_test ?_ | with_reducible refine g_tB ?_ | with_reducible refine g_and ?_ | with_reducible refine g_or ?_ | with_reducible refine g_not ?_ | with_reducible refine g_andV ?_ | with_reducible refine g_orV ?_ | with_reducible refine g_notV ?_ | with_reducible refine g_ifE ?_
  | with_reducible refine g_bl ?_ | with_reducible refine iteT ?_ | with_reducible refine iteF ?_ | with_reducible refine iteNT ?_ | with_reducible refine iteNF ?_
  | with_reducible refine g_seq ?_ | with_reducible refine g_next ?_ | with_reducible refine g_drop ?_ | with_reducible refine g_ret ?_ | with_reducible refine g_retN ?_ | with_reducible refine g_if ?_ | with_reducible refine g_asg ?_ | with_reducible refine g_name ?_ | with_reducible refine g_sub ?_ | with_reducible refine g_sfld ?_ | with_reducible refine g_raise ?_ | with_reducible refine g_tryAs ?_
  | ((with_reducible refine' g_fld1 ?h ?c ?n ?l ?_); (case h => walk_at "at"); (case c => walk_at "cls"); (case n => walk_at "nat"); (case l => exact rfl))
  | ((with_reducible refine' g_sfld1 ?h ?c ?n ?l ?_); (case h => walk_at "at"); (case c => walk_at "cls"); (case n => walk_at "nat"); (case l => exact Nat.le_of_ble_eq_true rfl))
  | with_reducible refine g_aug ?_ | with_reducible refine g_rAdd ?_
  | ((with_reducible refine' g_aug1 ?h ?c ?n ?l ?_); (case h => walk_at "at"); (case c => walk_at "cls"); (case n => walk_at "nat"); (case l => exact rfl))
  | ((with_reducible refine' g_aug2 ?h ?l ?_); (case h => walk_at "at"); (case l => exact Nat.le_of_ble_eq_true rfl))
  | ((with_reducible refine' g_mt1 ?h ?l ?_); (case h => walk_at "at"); (case l => exact rfl))
  | ((with_reducible refine' g_ixL ?h ?e ?_); (case h => walk_at "at"); (case e => exact rfl))
  | ((with_reducible refine' g_ixT ?h ?e ?_); (case h => walk_at "at"); (case e => exact rfl))
  | ((with_reducible refine' g_len ?h ?_); (case h => walk_at "at")) | ((with_reducible refine' g_list ?h ?_); (case h => walk_at "at"))
  | with_reducible refine g_for ?_ | with_reducible refine g_rng1 ?_ | with_reducible refine g_rng2 ?_ | with_reducible refine g_lsti ?_ | with_reducible refine g_comp ?_
  | ((with_reducible refine' g_rngW ?h1 ?h2 ?_); (case h1 => omega); (case h2 => omega)) | ((with_reducible refine' g_rngW ?h1 ?h2 ?_); (case h1 => decide); (case h2 => decide))
  | ((with_reducible refine' g_lstW ?h ?_); (case h => exact SqL.of (by walk_at "at")))
  | with_reducible refine g_bm0 ?_ | ((with_reducible refine' g_clear ?h ?_); (case h => walk_at "at"))
  | with_reducible refine g_bm ?_ | ((with_reducible refine' g_tyL ?h ?_); (case h => walk_at "at")) | ((with_reducible refine' g_app ?h ?l ?_); (case h => walk_at "at"); (case l => first | exact Nat.le_of_ble_eq_true rfl | omega)))
local macro_rules | `(tactic| walk_at "go") => `(tactic| repeat (walk_at "go1"))
set_option hygiene false in
local macro_rules | `(tactic| walk_at "cls") => `(tactic| first | assumption)
set_option hygiene false in
local macro_rules | `(tactic| walk_at "nat") => `(tactic| first | assumption)
section
variable {P : Program} {w : World} {K : PySem.W.Frag} {mg : Str → Option Value} {base : Heap} {cl : Cl}
theorem pickS {α : Type} {ns : List α} {Pr : α → Prop} (h : ∀ v ∈ ns, Pr v) {r : Int} (h0 : 0 ≤ r) (h1 : r < ns.length) : ∃ v, atI ns r = some v ∧ Pr v := by
  have hr : r.toNat < ns.length := by omega
  refine ⟨ns[r.toNat], ?_, h _ (List.getElem_mem hr)⟩
  unfold atI
  rw [ixN_in h0 h1]
  exact List.getElem?_eq_getElem hr
theorem getD_splice {row ys : List Int} {a j : Nat} (h : a + ys.length ≤ row.length) : (row.take a ++ ys ++ row.drop (a + ys.length)).getD j 0 = if a ≤ j ∧ j < a + ys.length then ys.getD (j - a) 0 else row.getD j 0 := by
  have l1 : (row.take a).length = a := by rw [List.length_take]; omega
  have l2 : (row.take a ++ ys).length = a + ys.length := by rw [List.length_append, l1]
  by_cases h1 : j < a
  · rw [if_neg (by omega), getD_left (by omega), getD_left (by omega), List.getD_eq_getElem?_getD, List.getD_eq_getElem?_getD, List.getElem?_take_of_lt h1]
  · by_cases h2 : j < a + ys.length
    · rw [if_pos ⟨by omega, h2⟩, getD_left (by omega), getD_right (by omega), l1]
    · rw [if_neg (by omega), getD_right (by omega), l2, List.getD_eq_getElem?_getD, List.getD_eq_getElem?_getD, List.getElem?_drop]
      rw [show a + ys.length + (j - (a + ys.length)) = j by omega]
theorem GoodRow.splice {n : Nat} {row ys : List Int} (g : GoodRow n row) {q r : Nat} (hq : q < n) (hr : r + ys.length ≤ 4) (h0 : r = 0 → 0 < ys.length → 0 ≤ ys.getD 0 0 ∧ ys.getD 0 0 ≤ 3) : GoodRow n (row.take (4 * q + r) ++ ys ++ row.drop (4 * q + r + ys.length)) := by
  have hl := g.len
  have hb : 4 * q + r + ys.length ≤ row.length := by omega
  refine ⟨g.n2, g.n8, ?_, fun p hp => ?_, fun k hk => ?_, fun k hk => ?_⟩
  · rw [List.length_append, List.length_append, List.length_take, List.length_drop]; omega
  · rw [getD_splice hb]
    by_cases c : 4 * q + r ≤ 4 * p ∧ 4 * p < 4 * q + r + ys.length
    · rw [if_pos c]
      have e1 : p = q := by omega
      have e2 : r = 0 := by omega
      subst e1 e2
      rw [show 4 * p - (4 * p + 0) = 0 by omega]
      exact h0 rfl (by omega)
    · rw [if_neg c]; exact g.ok.mks p hp
  · rw [getD_splice hb, if_neg (by omega)]; exact g.ok.cd k hk
  · rw [getD_splice hb, if_neg (by omega)]; exact g.ok.bl k hk
theorem GoodRow.setMark {n : Nat} {row : List Int} (g : GoodRow n row) {q : Nat} (hq : q < n) {v : Int} (v0 : 0 ≤ v) (v3 : v ≤ 3) : GoodRow n (row.set (4 * q) v) := by
  have hl := g.len
  refine ⟨g.n2, g.n8, by rw [List.length_set]; exact hl, fun p hp => ?_, fun j hj => ?_, fun j hj => ?_⟩
  · by_cases e : p = q
    · subst e; rw [getD_set_self (by omega)]; exact ⟨v0, v3⟩
    · rw [getD_set_ne (by omega)]; exact g.ok.mks p hp
  · rw [getD_set_ne (by omega)]; exact g.ok.cd j hj
  · rw [getD_set_ne (by omega)]; exact g.ok.bl j hj
theorem cut_ab {row : List Int} {a b : Nat} (ha : a ≤ b) (hb : b ≤ row.length) : cutV (row.map V.int) (some (a : Int)) (some (b : Int)) = ((row.drop a).take (b - a)).map V.int := by
  unfold cutV
  rw [HT.sIx_nat, HT.sIx_nat, List.length_map, Nat.min_eq_left hb, Nat.min_eq_left (Nat.le_trans ha hb), List.map_take, List.map_drop]
theorem part_len {row : List Int} {a m : Nat} (h : a + m ≤ row.length) : ((row.drop a).take (a + m - a)).length = m := by
  rw [List.length_take, List.length_drop]; omega
theorem part_0 {row : List Int} {a m : Nat} (h : 0 < m) : ((row.drop a).take (a + m - a)).getD 0 0 = row.getD a 0 := by
  rw [List.getD_eq_getElem?_getD, List.getD_eq_getElem?_getD, List.getElem?_take_of_lt (by omega), List.getElem?_drop]
  rfl
theorem splice_map {row ys : List Int} {a c : Nat} : (row.map V.int).take a ++ ys.map V.int ++ (row.map V.int).drop c = (row.take a ++ ys ++ row.drop c).map V.int := by
  rw [List.map_append, List.map_append, List.map_take, List.map_drop]
def sp_law_spoilt : Sp := fun vs H Q _ => ∃ (w c : Addr) (n : Nat) (row : List Int), vs = [.ref w, .int n, .ref c] ∧ Well H w ∧ H c = some (.lst (row.map V.int)) ∧ GoodRow n row ∧ ∀ (r : Addr) (row2 : List Int) (H' : Hp), H r = none → H' r = some (.lst (row2.map V.int)) → GoodRow n row2 → Well H' w → But w H H' → Q (.ref r) H'
abbrev s_law_spoilt : Stmt := top 80
theorem sc_law_spoilt : FnScope ["well", "size", "cells", "row", "at", "other", "way", "step", "place"] ["well", "size", "cells"] (defScope s_law_spoilt) := ⟨rfl, rfl, rfl, by decide +kernel, rfl, by decide +kernel, by decide +kernel⟩
set_option maxHeartbeats 16000000 in
theorem ok_law_spoilt (D : DefT K mg "_law_spoilt" s_law_spoilt ["well", "size", "cells"]) (T : Txt K mg cl) (G_law_take : FnT P w K mg base "_law_take" 1 ["well", "many"] sp_law_take) (G_law_far : FnT P w K mg base "_law_far" 2 ["well"] sp_law_far) : FnT P w K mg base "_law_spoilt" 3 ["well", "size", "cells"] sp_law_spoilt := by
  refine D.fn sc_law_spoilt (fun vs H Q E h => ?_) (fun f cdv A outer s H vs Q E hr h => ?_)
  · obtain ⟨w, c, n, row, rfl, _⟩ := h
    rfl
  · obtain ⟨w, c, n, row, rfl, hw, ec, g, k⟩ := h
    refine ⟨_, (pss_cons (ps_set (i := 3) sc_law_spoilt.nd rfl (by first | exact Or.inl rfl | exact Or.inr rfl) (pe_callTy (call_listK (K := K)) (by rfl) T.z_list PyProof.Rows.boot_list (pa_cons (pv 2) pa_nil)))
      (pss_cons (ps_set (i := 4) sc_law_spoilt.nd rfl (by first | exact Or.inl rfl | exact Or.inr rfl) (pe_fn G_law_take hr (by decide) rfl passX (pa_cons (pv 0) (pa_cons (pv 1) pa_nil))))
      (pss_cons (ps_set (i := 5) sc_law_spoilt.nd rfl (by first | exact Or.inl rfl | exact Or.inr rfl) (pe_fn G_law_take hr (by decide) rfl passX (pa_cons (pv 0) (pa_cons (pv 1) pa_nil))))
      (pss_cons (ps_set (i := 6) sc_law_spoilt.nd rfl (by first | exact Or.inl rfl | exact Or.inr rfl) (pe_fn G_law_take hr (by decide) rfl passX (pa_cons (pv 0) (pa_cons pe_int pa_nil))))
      (pss_cons (ps_if (pt_cmpR op_eq (pv 6) pe_int (nomark _))
         (pss_one (ps_asg (pe_fn G_law_take hr (by decide) rfl passX (pa_cons (pv 0) (pa_cons pe_int pa_nil))) (pg_sub (pv 3) (pe_op op_mul pe_int (pv 4)) set_list)))
         (pss_one (ps_if (pt_cmpR op_lt (pv 6) pe_int (nomark _))
            (pss_cons (ps_set (i := 7) sc_law_spoilt.nd rfl (by first | exact Or.inl rfl | exact Or.inr rfl) (pe_ix (ix_listK (K := K)) (pe_lst (pa_cons pe_int (pa_cons (pe_un un_neg pe_int) (pa_cons (pe_fn G_law_far hr (by decide) rfl passX (pa_cons (pv 0) pa_nil)) (pa_cons (pe_op op_sub pe_int (pe_fn G_law_far hr (by decide) rfl passX (pa_cons (pv 0) pa_nil))) (pa_cons (pv 1) pa_nil)))))) (pe_fn G_law_take hr (by decide) rfl passX (pa_cons (pv 0) (pa_cons pe_int pa_nil))) (fun _ _ => rfl)))
             (pss_one (ps_asg (pe_op op_add (pe_ix (ix_listK (K := K)) (pv 3) (pe_op op_add (pe_op op_mul pe_int (pv 4)) (pv 6)) (fun _ _ => rfl)) (pv 7)) (pg_sub (pv 3) (pe_op op_add (pe_op op_mul pe_int (pv 4)) (pv 6)) set_list))))
            (pss_one (ps_if (pt_cmpR op_eq (pv 6) pe_int (nomark _))
               (pss_one (ps_asg (pe_slice (sl_listK (K := K)) (pv 2) (po_some (pe_op op_add (pe_op op_mul pe_int (pv 5)) pe_int)) (po_some (pe_op op_add (pe_op op_mul pe_int (pv 5)) pe_int))) (pg_slice (pv 3) (po_some (pe_op op_add (pe_op op_mul pe_int (pv 4)) pe_int)) (po_some (pe_op op_add (pe_op op_mul pe_int (pv 4)) pe_int)))))
               (pss_one (ps_if (pt_cmpR op_eq (pv 6) pe_int (nomark _))
                  (pss_cons (ps_asg (pe_slice (sl_listK (K := K)) (pv 2) (po_some (pe_op op_mul pe_int (pv 5))) (po_some (pe_op op_add (pe_op op_mul pe_int (pv 5)) pe_int))) (pg_slice (pv 3) (po_some (pe_op op_mul pe_int (pv 4))) (po_some (pe_op op_add (pe_op op_mul pe_int (pv 4)) pe_int))))
                   (pss_one (ps_asg (pe_slice (sl_listK (K := K)) (pv 2) (po_some (pe_op op_mul pe_int (pv 4))) (po_some (pe_op op_add (pe_op op_mul pe_int (pv 4)) pe_int))) (pg_slice (pv 3) (po_some (pe_op op_mul pe_int (pv 5))) (po_some (pe_op op_add (pe_op op_mul pe_int (pv 5)) pe_int))))))
                  (pss_one (ps_for passOwnX rfl (pi_range1 rfl T.z_range (pa_cons (pv 1) pa_nil)) (pg_name (i := 8) sc_law_spoilt.nd rfl (by first | exact Or.inl rfl | exact Or.inr rfl))
                     (pss_one (ps_asg (pe_lst (pa_cons (pe_fn G_law_take hr (by decide) rfl passX (pa_cons (pv 0) (pa_cons pe_int pa_nil))) (pa_cons (pe_op op_sub (pe_fn G_law_take hr (by decide) rfl passX (pa_cons (pv 0) (pa_cons pe_int pa_nil))) pe_int) (pa_cons (pe_fn G_law_take hr (by decide) rfl passX (pa_cons (pv 0) (pa_cons pe_int pa_nil))) pa_nil)))) (pg_slice (pv 3) (po_some (pe_op op_mul pe_int (pv 8))) (po_some (pe_op op_add (pe_op op_mul pe_int (pv 8)) pe_int))))))))))))))
      (pss_one (ps_ret (pv 3)))))))), ?_⟩
    have h20 : 2000 ≤ sizeLine := by decide
    have g2 := g.n2
    have g8 := g.n8
    have gl := g.len
    have ncw : c ≠ w := hw.off ec (by omega)
    walk_at "go"
    intro r hr0
    have nrw : r ≠ w := hw.ne hr0
    have nrc : r ≠ c := (ne_of_none ec hr0).symm
    walk_at "go"
    refine ⟨w, n, rfl, hw.same (same_new hr0), by omega, by omega, fun at_ H1 a1 c1 w1 b1 => ?_⟩
    walk_at "go"
    refine ⟨w, n, rfl, w1, by omega, by omega, fun ot H2 a2 c2 w2 b2 => ?_⟩
    walk_at "go"
    refine ⟨w, 7, rfl, w2, by decide, by decide, fun way H3 a3 c3 w3 b3 => ?_⟩
    have b03 : But w H H3 := (((But.of (same_new hr0)).trans b1).trans b2).trans b3
    have er3 : H3 r = some (.lst (row.map V.int)) := b3 _ _ (b2 _ _ (b1 _ _ upd_same nrw) nrw) nrw
    have ec3 : H3 c = some (.lst (row.map V.int)) := b03 _ _ ec ncw
    obtain ⟨p, rfl⟩ : ∃ p : Nat, at_ = (p : Int) := ⟨at_.toNat, by omega⟩
    obtain ⟨q, rfl⟩ : ∃ q : Nat, ot = (q : Int) := ⟨ot.toNat, by omega⟩
    refine g_name ?_
    refine seq_cutC (M := fun σ' H' => ∃ (row2 : List Int) (x7 x8 : Option V), σ' = [some (.ref w), some (.int n), some (.ref c), some (.ref r), some (.int p), some (.int q), some (.int way), x7, x8] ∧ H' r = some (.lst (row2.map V.int)) ∧ GoodRow n row2 ∧ Well H' w ∧ But w H H') ?_ ?_
    · rintro σ' H' ⟨row2, x7, x8, rfl, q2, q3, q5, q6⟩
      walk_at "go"
      exact k r row2 H' hr0 q2 q3 q5 q6
    intro R hR
    walk_at "go"
    refine g_ite (fun c0 => ?_) (fun c0 => ?_)
    · walk_at "go"
      refine ⟨w, 4, rfl, w3, by decide, by decide, fun v H4 a4 c4 w4 b4 => ?_⟩
      have er4 := b4 _ _ er3 nrw
      walk_at "go"
      refine g_setL er4 (by rw [List.length_map]; exact ixN_in (by omega) (by omega)) ?_
      rw [map_set_int, show (4 * (p : Int)).toNat = 4 * p by omega]
      exact hR _ _ ⟨_, _, _, rfl, upd_same, g.setMark (by omega) a4 (by omega), w4.set nrw, (b03.trans b4).set hr0⟩
    walk_at "go"
    refine g_ite (fun c1' => ?_) (fun c1' => ?_)
    · have w0 : 0 < way := by
        have : way ≠ 0 := fun z => c0 (by rw [z])
        omega
      walk_at "go"
      refine ⟨w, rfl, w3, fun f4 H4 a4 c4 w4 b4 => ?_⟩
      walk_at "go"
      refine ⟨w, rfl, w4, fun f5 H5 a5 c5 w5 b5 => ?_⟩
      walk_at "go"
      refine ⟨by show 5 ≤ sizeLine; omega, fun p6 hp6 => ?_⟩
      have np6 : p6 ≠ w := w5.ne hp6
      walk_at "go"
      refine ⟨w, 5, rfl, w5.same (same_new hp6), by decide, by decide, fun r7 H7 a7 c7 w7 b7 => ?_⟩
      have e7 := b7 _ _ upd_same np6
      obtain ⟨v, hv, _⟩ := pickL (ns := [1, -1, f4, 0 - f5, (n : Int)]) (Pr := fun _ => True) (fun _ _ => trivial) a7 c7
      refine g_ixL e7 hv ?_
      have er7 : H7 r = some (.lst (row.map V.int)) := b7 _ _ (same_new hp6 _ _ (b5 _ _ (b4 _ _ er3 nrw) nrw)) nrw
      have b07 : But w H H7 := (((b03.trans b4).trans b5).trans (But.of (same_new hp6))).trans b7
      walk_at "go"
      refine g_ixL er7 (atI_in (by omega) (by omega)) ?_
      walk_at "go"
      refine g_setL er7 (by rw [List.length_map]; exact ixN_in (by omega) (by omega)) ?_
      rw [map_set_int, show (4 * (p : Int) + way).toNat = 4 * p + way.toNat by omega]
      exact hR _ _ ⟨_, _, _, rfl, upd_same, g.setOdd (by omega) (by omega) (by omega), w7.set nrw, b07.set hr0⟩
    walk_at "go"
    refine g_ite (fun c2' => ?_) (fun c2' => ?_)
    · walk_at "go"
      refine g_sl ?_
      walk_at "go"
      refine g_part ?_
      walk_at "go"
      refine ⟨_, rfl, ?_⟩
      refine g_part ?_
      walk_at "go"
      refine ⟨_, rfl, c, _, rfl, SqL.of ec3, fun p4 hp4 => ?_⟩
      rw [show 4 * (q : Int) + 1 = ((4 * q + 1 : Nat) : Int) by omega, show 4 * (q : Int) + 4 = ((4 * q + 1 + 3 : Nat) : Int) by omega, cut_ab (by omega) (by omega)]
      walk_at "go"
      refine g_slc ?_
      walk_at "go"
      refine g_part ?_
      walk_at "go"
      refine ⟨_, rfl, ?_⟩
      refine g_part ?_
      walk_at "go"
      have pl := part_len (row := row) (a := 4 * q + 1) (m := 3) (by omega)
      refine ⟨_, rfl, r, p4, _, _, _, _, rfl, rfl, rfl, rfl, same_new hp4 _ _ er3, upd_same, ne_of_none er3 hp4, by omega, by omega, by rw [List.length_map]; omega, by rw [List.length_map, List.length_map, pl]; omega, ?_⟩
      rw [splice_map, show (4 * (p : Int) + 1).toNat = 4 * p + 1 by omega, show (4 * (p : Int) + 4).toNat = 4 * p + 1 + ((row.drop (4 * q + 1)).take (4 * q + 1 + 3 - (4 * q + 1))).length by rw [pl]; omega]
      exact hR _ _ ⟨_, _, _, rfl, upd_same, g.splice (by omega) (by rw [pl]; omega) (fun z => by omega), (w3.same (same_new hp4)).set nrw, (b03.nw hp4).set hr0⟩
    walk_at "go"
    refine g_ite (fun c3' => ?_) (fun c3' => ?_)
    · have m1 := g.ok.mks q (by omega)
      have m2 := g.ok.mks p (by omega)
      walk_at "go"
      refine g_sl ?_
      walk_at "go"
      refine g_part ?_
      walk_at "go"
      refine ⟨_, rfl, ?_⟩
      refine g_part ?_
      walk_at "go"
      refine ⟨_, rfl, c, _, rfl, SqL.of ec3, fun p4 hp4 => ?_⟩
      rw [show 4 * (q : Int) = ((4 * q : Nat) : Int) by omega, show ((4 * q : Nat) : Int) + 4 = ((4 * q + 4 : Nat) : Int) by omega, cut_ab (by omega) (by omega)]
      walk_at "go"
      refine g_slc ?_
      walk_at "go"
      refine g_part ?_
      walk_at "go"
      refine ⟨_, rfl, ?_⟩
      refine g_part ?_
      walk_at "go"
      have pl := part_len (row := row) (a := 4 * q) (m := 4) (by omega)
      refine ⟨_, rfl, r, p4, _, _, _, _, rfl, rfl, rfl, rfl, same_new hp4 _ _ er3, upd_same, ne_of_none er3 hp4, by omega, by omega, by rw [List.length_map]; omega, by rw [List.length_map, List.length_map, pl]; omega, ?_⟩
      rw [splice_map, show (4 * (p : Int)).toNat = 4 * p + 0 by omega, show (4 * (p : Int) + 4).toNat = 4 * p + 0 + ((row.drop (4 * q)).take (4 * q + 4 - 4 * q)).length by rw [pl]; omega]
      have gA := g.splice (ys := (row.drop (4 * q)).take (4 * q + 4 - 4 * q)) (q := p) (r := 0) (by omega) (by rw [pl]; omega) (fun _ _ => by rw [part_0 (by omega)]; exact m1)
      have lA := gA.len
      have ec5 : upd (upd H3 p4 (.lst (((row.drop (4 * q)).take (4 * q + 4 - 4 * q)).map V.int))) r (.lst ((row.take (4 * p + 0) ++ (row.drop (4 * q)).take (4 * q + 4 - 4 * q) ++ row.drop (4 * p + 0 + ((row.drop (4 * q)).take (4 * q + 4 - 4 * q)).length)).map V.int)) c = some (.lst (row.map V.int)) := by
        rw [upd_ne nrc.symm]
        exact same_new hp4 _ _ ec3
      have w5 := (w3.same (same_new (o := .lst (((row.drop (4 * q)).take (4 * q + 4 - 4 * q)).map V.int)) hp4)).set (o := .lst ((row.take (4 * p + 0) ++ (row.drop (4 * q)).take (4 * q + 4 - 4 * q) ++ row.drop (4 * p + 0 + ((row.drop (4 * q)).take (4 * q + 4 - 4 * q)).length)).map V.int)) nrw
      have b05 := (b03.nw (o := .lst (((row.drop (4 * q)).take (4 * q + 4 - 4 * q)).map V.int)) hp4).set (o := .lst ((row.take (4 * p + 0) ++ (row.drop (4 * q)).take (4 * q + 4 - 4 * q) ++ row.drop (4 * p + 0 + ((row.drop (4 * q)).take (4 * q + 4 - 4 * q)).length)).map V.int)) hr0
      have er5 : upd (upd H3 p4 (.lst (((row.drop (4 * q)).take (4 * q + 4 - 4 * q)).map V.int))) r (.lst ((row.take (4 * p + 0) ++ (row.drop (4 * q)).take (4 * q + 4 - 4 * q) ++ row.drop (4 * p + 0 + ((row.drop (4 * q)).take (4 * q + 4 - 4 * q)).length)).map V.int)) r = _ := upd_same
      generalize row.take (4 * p + 0) ++ (row.drop (4 * q)).take (4 * q + 4 - 4 * q) ++ row.drop (4 * p + 0 + ((row.drop (4 * q)).take (4 * q + 4 - 4 * q)).length) = rowA at *
      generalize upd (upd H3 p4 (.lst (((row.drop (4 * q)).take (4 * q + 4 - 4 * q)).map V.int))) r (.lst (rowA.map V.int)) = H5 at *
      walk_at "go"
      refine g_sl ?_
      walk_at "go"
      refine g_part ?_
      walk_at "go"
      refine ⟨_, rfl, ?_⟩
      refine g_part ?_
      walk_at "go"
      refine ⟨_, rfl, c, _, rfl, SqL.of ec5, fun p6 hp6 => ?_⟩
      rw [show 4 * (p : Int) = ((4 * p : Nat) : Int) by omega, show ((4 * p : Nat) : Int) + 4 = ((4 * p + 4 : Nat) : Int) by omega, cut_ab (by omega) (by omega)]
      walk_at "go"
      refine g_slc ?_
      walk_at "go"
      refine g_part ?_
      walk_at "go"
      refine ⟨_, rfl, ?_⟩
      refine g_part ?_
      walk_at "go"
      have pl2 := part_len (row := row) (a := 4 * p) (m := 4) (by omega)
      refine ⟨_, rfl, r, p6, _, _, _, _, rfl, rfl, rfl, rfl, same_new hp6 _ _ er5, upd_same, ne_of_none er5 hp6, by omega, by omega, by rw [List.length_map]; omega, by rw [List.length_map, List.length_map, pl2]; omega, ?_⟩
      rw [splice_map, show (4 * (q : Int)).toNat = 4 * q + 0 by omega, show (4 * (q : Int) + 4).toNat = 4 * q + 0 + ((row.drop (4 * p)).take (4 * p + 4 - 4 * p)).length by rw [pl2]; omega]
      exact hR _ _ ⟨_, _, _, rfl, upd_same, gA.splice (by omega) (by rw [pl2]; omega) (fun _ _ => by rw [part_0 (by omega)]; exact m2), (w5.same (same_new hp6)).set nrw, (b05.nw hp6).set hr0⟩
    walk_at "go"
    refine for_range (n := (n : Int).toNat) (fun i σ H' => ∃ (row2 : List Int) (x8 : Option V), σ = [some (.ref w), some (.int n), some (.ref c), some (.ref r), some (.int p), some (.int q), some (.int way), none, x8] ∧ H' r = some (.lst (row2.map V.int)) ∧ GoodRow n row2 ∧ Well H' w ∧ But w H H') ⟨row, _, rfl, er3, g, w3, b03⟩ ?_ ?_
    · rintro i σ H4 hi ⟨row2, x8, rfl, er4, gA, w4, b04⟩
      have hi : i < n := by omega
      have lA := gA.len
      walk_at "go"
      refine ⟨w, 4, rfl, w4, by decide, by decide, fun v1 H5 a5 c5 w5 b5 => ?_⟩
      walk_at "go"
      refine ⟨w, 4, rfl, w5, by decide, by decide, fun v2 H6 a6 c6 w6 b6 => ?_⟩
      walk_at "go"
      refine ⟨w, 3, rfl, w6, by decide, by decide, fun v3 H7 a7 c7 w7 b7 => ?_⟩
      walk_at "go"
      refine ⟨by show 3 ≤ sizeLine; omega, fun p8 hp8 => ?_⟩
      have er7 : H7 r = some (.lst (row2.map V.int)) := b7 _ _ (b6 _ _ (b5 _ _ er4 nrw) nrw) nrw
      have b07 := ((b04.trans b5).trans b6).trans b7
      walk_at "go"
      refine g_slc ?_
      walk_at "go"
      refine g_part ?_
      walk_at "go"
      refine ⟨_, rfl, ?_⟩
      refine g_part ?_
      walk_at "go"
      refine ⟨_, rfl, r, p8, _, ([v1, v2 - 1, v3] : List Int).map V.int, _, _, rfl, rfl, rfl, rfl, same_new hp8 _ _ er7, upd_same, ne_of_none er7 hp8, by omega, by omega, by rw [List.length_map]; omega, by rw [List.length_map]; show row2.length + 3 ≤ sizeLine; omega, ?_⟩
      rw [splice_map, show (4 * (0 + (i : Int))).toNat = 4 * i + 0 by omega, show (4 * (0 + (i : Int)) + 3).toNat = 4 * i + 0 + ([v1, v2 - 1, v3] : List Int).length by show _ = 4 * i + 0 + 3; omega]
      exact ⟨_, _, rfl, upd_same, gA.splice hi (by show 0 + 3 ≤ 4; omega) (fun _ _ => ⟨a5, by show v1 ≤ 3; omega⟩), (w7.same (same_new hp8)).set nrw, (b07.nw hp8).set hr0⟩
    · rintro σ H4 ⟨row2, x8, rfl, er4, gA, w4, b04⟩
      exact hR _ _ ⟨row2, _, _, rfl, er4, gA, w4, b04⟩
end
end S

set_option Elab.async false
set_option linter.all false
set_option maxRecDepth 100000
set_option maxHeartbeats 4000000
namespace S
open PySem L2
local macro_rules | `(tactic| walk_at "at") => `(tactic| first | assumption | exact upd_same | (refine (upd_ne ?_).trans ?_; (walk_at "ne"); (walk_at "at")) | (refine Same.at ?_ ?_; assumption; (walk_at "at")))
local macro_rules | `(tactic| walk_at "ne") => `(tactic| first | assumption | exact Ne.symm (by assumption) | ((refine' ne_of_none ?h ?n); (case n => assumption); (case h => walk_at "at")) | ((refine Ne.symm ?_); (refine' ne_of_none ?h ?n); (case n => assumption); (case h => walk_at "at")))
local macro_rules | `(tactic| walk_at "cond") => `(tactic| first | trivial | exact Or.inl ⟨by decide, by decide⟩ | exact Or.inr ⟨by decide, by decide⟩ | exact Or.inl ⟨by omega, by omega⟩ | exact Or.inr ⟨by omega, by omega⟩ | (show (0 : Int) < _; omega) | (show (0 : Int) < _; decide))
local macro_rules | `(tactic| walk_at "go1") => `(tactic| first
  | ((with_reducible refine' g_var ?h ?_); (case h => exact rfl))
  | with_reducible refine g_c ?_ | with_reducible refine g_op ?_ | with_reducible refine g_un ?_ | with_reducible refine g_I0 ?_ | with_reducible refine g_U ?_
  | ((with_reducible refine' g_I ?h ?_); (case h => walk_at "cond"))
  | ((with_reducible refine' g_eq ?h ?_); (case h => exact rfl)) | ((with_reducible refine' g_ne ?h ?_); (case h => exact rfl))
  | with_reducible refine g_cb ?_ | with_reducible refine g_nil ?_ | with_reducible refine g_cons ?_
  | (with_reducible refine g_tup ?_) | (with_reducible refine g_lst ?_) | with_reducible refine g_fn ?_ | with_reducible refine g_fnJ ?_
  | with_reducible refine g_fld ?_ | with_reducible refine g_mt ?_ | with_reducible refine g_mtJ ?_ | with_reducible refine g_mk ?_ | with_reducible refine g_mkJ ?_
  | with_reducible refine g_test ?_ | with_reducible refine g_tB ?_ | with_reducible refine g_and ?_ | with_reducible refine g_or ?_ | with_reducible refine g_not ?_ | with_reducible refine g_andV ?_ | with_reducible refine g_orV ?_ | with_reducible refine g_notV ?_ | with_reducible refine g_ifE ?_
  | with_reducible refine g_bl ?_ | with_reducible refine iteT ?_ | with_reducible refine iteF ?_ | with_reducible refine iteNT ?_ | with_reducible refine iteNF ?_
  | with_reducible refine g_seq ?_ | with_reducible refine g_next ?_ | with_reducible refine g_drop ?_ | with_reducible refine g_ret ?_ | with_reducible refine g_retN ?_ | with_reducible refine g_if ?_ | with_reducible refine g_asg ?_ | with_reducible refine g_name ?_ | with_reducible refine g_sub ?_ | with_reducible refine g_sfld ?_ | with_reducible refine g_raise ?_ | with_reducible refine g_tryAs ?_
  | ((with_reducible refine' g_fld1 ?h ?c ?n ?l ?_); (case h => walk_at "at"); (case c => walk_at "cls"); (case n => walk_at "nat"); (case l => exact rfl))
  | ((with_reducible refine' g_sfld1 ?h ?c ?n ?l ?_); (case h => walk_at "at"); (case c => walk_at "cls"); (case n => walk_at "nat"); (case l => exact Nat.le_of_ble_eq_true rfl))
  | with_reducible refine g_aug ?_ | with_reducible refine g_rAdd ?_
  | ((with_reducible refine' g_aug1 ?h ?c ?n ?l ?_); (case h => walk_at "at"); (case c => walk_at "cls"); (case n => walk_at "nat"); (case l => exact rfl))
  | ((with_reducible refine' g_aug2 ?h ?l ?_); (case h => walk_at "at"); (case l => exact Nat.le_of_ble_eq_true rfl))
  | ((with_reducible refine' g_mt1 ?h ?l ?_); (case h => walk_at "at"); (case l => exact rfl))
  | ((with_reducible refine' g_ixL ?h ?e ?_); (case h => walk_at "at"); (case e => exact rfl))
  | ((with_reducible refine' g_ixT ?h ?e ?_); (case h => walk_at "at"); (case e => exact rfl))
  | ((with_reducible refine' g_len ?h ?_); (case h => walk_at "at")) | ((with_reducible refine' g_list ?h ?_); (case h => walk_at "at"))
  | with_reducible refine g_for ?_ | with_reducible refine g_rng1 ?_ | with_reducible refine g_rng2 ?_ | with_reducible refine g_lsti ?_ | with_reducible refine g_comp ?_
  | ((with_reducible refine' g_rngW ?h1 ?h2 ?_); (case h1 => omega); (case h2 => omega)) | ((with_reducible refine' g_rngW ?h1 ?h2 ?_); (case h1 => decide); (case h2 => decide))
  | ((with_reducible refine' g_lstW ?h ?_); (case h => exact SqL.of (by walk_at "at")))
  | with_reducible refine g_bm0 ?_ | ((with_reducible refine' g_clear ?h ?_); (case h => walk_at "at"))
  | with_reducible refine g_bm ?_ | ((with_reducible refine' g_tyL ?h ?_); (case h => walk_at "at")) | ((with_reducible refine' g_app ?h ?l ?_); (case h => walk_at "at"); (case l => first | exact Nat.le_of_ble_eq_true rfl | omega)))
local macro_rules | `(tactic| walk_at "go") => `(tactic| repeat (walk_at "go1"))
set_option hygiene false in
local macro_rules | `(tactic| walk_at "cls") => `(tactic| first | assumption)
set_option hygiene false in
local macro_rules | `(tactic| walk_at "nat") => `(tactic| first | assumption)
section
variable {P : Program} {w : World} {K : PySem.W.Frag} {mg : Str → Option Value} {base : Heap} {cl : Cl}
abbrev s_law : Stmt := top 81
theorem sc_law : FnScope ["script", "k", "well", "size", "orders", "given", "freed", "cells", "turn"] ["script"] (defScope s_law) := ⟨rfl, rfl, rfl, by decide +kernel, rfl, by decide +kernel, by decide +kernel⟩
set_option maxHeartbeats 16000000 in
theorem ok_law {fa : Addr} {fd : FuncData} (D : Fun K "law" "law" s_law fa fd) (T : Txt K mg cl) (G_law_take : FnT P w K mg base "_law_take" 1 ["well", "many"] sp_law_take) (G_law_well : FnT P w K mg base "_law_well" 1 ["script", "k"] (sp_law_well K))
    (G_law_order : FnT P w K mg base "_law_order" 2 ["well", "size"] sp_law_order) (G_law_parts : FnT P w K mg base "_law_parts" 1 ["orders"] sp_law_parts) (G_law_cells : FnT P w K mg base "_law_cells" 2 ["size", "orders", "freed", "given"] sp_law_cells) (G_law_right : FnT P w K mg base "_law_right" 9 ["size", "cells", "well"] sp_law_right) (G_law_spoilt : FnT P w K mg base "_law_spoilt" 3 ["well", "size", "cells"] sp_law_spoilt) :
    FnOk P w K mg base (CXK P w) 10 fa fd ["script"] (sp_law K) := by
  refine D.okX sc_law (fun vs H Q E h => ?_) (fun cdv A outer s H vs Q E hr h => ?_)
  · obtain ⟨a, ns, rfl, _⟩ := h
    rfl
  · obtain ⟨a, ns, rfl, hS, hl, k⟩ := h
    refine ⟨_, (pss_cons (ps_for passOwnX rfl (pi_range1 rfl T.z_range (pa_cons (pe_callB (call_max2 rfl) (by rfl) T.z_max PyProof.Rows.boot_max (pa_cons pe_int (pa_cons (pe_callB (call_min2 rfl) (by rfl) T.z_min PyProof.Rows.boot_min (pa_cons pe_int (pa_cons (pe_callB (call_lenK (K := K)) (by rfl) T.z_len PySem.boot_len (pa_cons (pv 0) pa_nil)) pa_nil))) pa_nil))) pa_nil)) (pg_name (i := 1) sc_law.nd rfl (by first | exact Or.inl rfl | exact Or.inr rfl))
         (pss_cons (ps_set (i := 2) sc_law.nd rfl (by first | exact Or.inl rfl | exact Or.inr rfl) (pe_fn G_law_well hr (by decide) rfl passX (pa_cons (pv 0) (pa_cons (pv 1) pa_nil))))
          (pss_cons (ps_set (i := 3) sc_law.nd rfl (by first | exact Or.inl rfl | exact Or.inr rfl) (pe_op op_add pe_int (pe_fn G_law_take hr (by decide) rfl passX (pa_cons (pv 2) (pa_cons pe_int pa_nil)))))
          (pss_cons (ps_setComp (ix := 4) (N := ["j", "well", "size"]) (nt := 1) (fr := [2, 3]) rfl (comp_ok2 (i := 2) (j := 3) rfl rfl (by decide +kernel) (by decide +kernel) rfl rfl rfl rfl rfl rfl rfl rfl rfl rfl rfl rfl) (pi_range1 rfl T.z_range (pa_cons (pe_fn G_law_take hr (by decide) rfl passX (pa_cons (pv 2) (pa_cons pe_int pa_nil))) pa_nil)) (gk_name (by decide)) (fun _ _ _ _ _ => pg_name (i := 0) (show (["j", "well", "size"] : List Str).Nodup by decide +kernel) rfl (Or.inl rfl) (Or.inr rfl)) (fun _ _ _ _ _ => (pe_fn G_law_order hr (by decide) rfl passC (pa_cons (pv 1) (pa_cons (pv 2) pa_nil)))) sc_law.nd rfl rfl)
          (pss_cons (ps_set (i := 5) sc_law.nd rfl (by first | exact Or.inl rfl | exact Or.inr rfl) (pe_fn G_law_take hr (by decide) rfl passX (pa_cons (pv 2) (pa_cons (pe_op op_add (pe_callB (call_lenK (K := K)) (by rfl) T.z_len PySem.boot_len (pa_cons (pe_fn G_law_parts hr (by decide) rfl passX (pa_cons (pv 4) pa_nil)) pa_nil)) pe_int) pa_nil))))
          (pss_cons (ps_set (i := 6) sc_law.nd rfl (by first | exact Or.inl rfl | exact Or.inr rfl) (pe_callB (call_max2 rfl) (by rfl) T.z_max PyProof.Rows.boot_max (pa_cons pe_int (pa_cons (pe_op op_sub (pv 5) (pe_fn G_law_take hr (by decide) rfl passX (pa_cons (pv 2) (pa_cons (pe_op op_add (pv 3) pe_int) pa_nil)))) pa_nil))))
          (pss_cons (ps_set (i := 7) sc_law.nd rfl (by first | exact Or.inl rfl | exact Or.inr rfl) (pe_fn G_law_cells hr (by decide) rfl passX (pa_cons (pv 3) (pa_cons (pv 4) (pa_cons (pv 6) (pa_cons (pv 5) pa_nil))))))
          (pss_cons (ps_if (pt_not (pt_val (pe_fn G_law_right hr (by decide) rfl passX (pa_cons (pv 3) (pa_cons (pv 7) (pa_cons (pv 2) pa_nil))))))
             (pss_one (ps_ret pe_bl))
             pss_nil)
          (pss_cons (ps_for passOwnX rfl (pi_range1 rfl T.z_range (pa_cons (pe_op op_add pe_int (pe_fn G_law_take hr (by decide) rfl passX (pa_cons (pv 2) (pa_cons pe_int pa_nil)))) pa_nil)) (pg_name (i := 8) sc_law.nd rfl (by first | exact Or.inl rfl | exact Or.inr rfl))
             (pss_one (ps_set (i := 7) sc_law.nd rfl (by first | exact Or.inl rfl | exact Or.inr rfl) (pe_fn G_law_spoilt hr (by decide) rfl passX (pa_cons (pv 2) (pa_cons (pv 3) (pa_cons (pv 7) pa_nil)))))))
          (pss_one (ps_if (pt_not (pt_val (pe_fn G_law_right hr (by decide) rfl passX (pa_cons (pv 3) (pa_cons (pv 7) (pa_cons (pv 2) pa_nil))))))
            (pss_one (ps_ret pe_bl))
            pss_nil)))))))))))
      (pss_one (ps_ret pe_bl))), ?_⟩
    have h20 : 8000 ≤ sizeLine := by decide
    have hlen : (ns.map V.int).length = ns.length := List.length_map _
    walk_at "go"
    refine ⟨a, _, rfl, .inl hS, ?_⟩
    walk_at "go"
    rw [hlen]
    refine ⟨_, _, rfl, ?_⟩
    walk_at "go"
    refine ⟨_, _, rfl, ?_⟩
    walk_at "go"
    refine for_range (fun i σ H' => ∃ x1 x2 x3 x4 x5 x6 x7 x8, σ = [some (.ref a), x1, x2, x3, x4, x5, x6, x7, x8] ∧ Same H H') ⟨_, _, _, _, _, _, _, _, rfl, Same.refl H⟩ ?_ ?_
    · rintro i σ H1 hi ⟨x1, x2, x3, x4, x5, x6, x7, x8, rfl, s1⟩
      have hi : i < 24 := by
        have : (if (if (ns.length : Int) < 24 then (ns.length : Int) else 24) > 1 then (if (ns.length : Int) < 24 then (ns.length : Int) else 24) else 1).toNat ≤ 24 := by split <;> (try split) <;> omega
        omega
      walk_at "go"
      refine ⟨a, ns, i, by rw [Int.zero_add], s1.seq hS, by omega, fun w H2 nw s2 w2 => ?_⟩
      have nwH : H w = none := s1.free nw
      walk_at "go"
      refine ⟨w, 7, rfl, w2, by decide, by decide, fun r3 H3 a3 c3 w3 b3 => ?_⟩
      obtain ⟨n, en⟩ : ∃ n : Nat, (n : Int) = 2 + r3 := ⟨(2 + r3).toNat, by omega⟩
      walk_at "go"
      rw [← en]
      refine ⟨w, 9, rfl, w3, by decide, by decide, fun r4 H4 a4 c4 w4 b4 => ?_⟩
      walk_at "go"
      refine comp_range (n := r4.toNat) (by omega) (OrdP w n H4) (fun D hD => OrdP.zero w4 hD) (fun D i acc H' z => z.has) (fun D i acc H' hD hi z => ?_) (fun D acc H5 hD z => ?_)
      · walk_at "go"
        refine ⟨w, n, rfl, z.well, by omega, by omega, fun p H5 row hp ep l1 l2 sm w5 b5 => ?_⟩
        exact z.step w4 hD hp ep l1 l2 sm w5 b5
      obtain ⟨os, hR, lo, go_, w5, b5⟩ := z.rws w4 hD
      have h8 : ∀ o ∈ os, o.length ≤ 8 := fun o ho => by have := (go_ o ho).2.1; omega
      have lp : (partsI os).length ≤ 8 * os.length := partsTo_le os 8 h8 os.length
      walk_at "go"
      refine ⟨D, os, rfl, hR.rws, by omega, h8, fun td H6 htd s6 t6 => ?_⟩
      obtain ⟨xs, ex, lx⟩ := t6.len
      walk_at "go"
      rw [lx]
      refine ⟨w, _, rfl, w5.same s6, by omega, by omega, fun g H7 a7 c7 w7 b7 => ?_⟩
      walk_at "go"
      refine ⟨w, _, rfl, w7, by omega, by omega, fun r8 H8 a8 c8 w8 b8 => ?_⟩
      have hR8 := ((hR.but (But.of s6)).but b7).but b8
      have b28 : But w H2 H8 := ((((b3.trans b4).trans b5).trans (But.of s6)).trans b7).trans b8
      walk_at "go"
      refine ⟨_, _, rfl, ?_⟩
      walk_at "go"
      refine ⟨n, D, os, _, g, rfl, by omega, by omega, hR8.rws, by omega, h8, a7, by omega, fun c H9 hc s9 e9 => ?_⟩
      have gr : GoodRow n (cellRow n (partsI os) (if g - r8 > 0 then g - r8 else 0) g) := cellRow_good _ _ _ (by omega) (by omega)
      have b29 : But w H2 H9 := b28.trans (But.of s9)
      have w9 := w8.same s9
      have nc : c ≠ w := w8.ne hc
      have toH : ∀ {H'}, But w H2 H' → Same H H' := fun {H'} b x o e => b _ _ (s2 _ _ (s1 _ _ e)) (ne_of_none e nwH)
      walk_at "go"
      refine ⟨n, c, w, _, rfl, w9, e9, gr, fun H10 w10 b10 => ?_⟩
      have b210 := b29.trans b10
      have e10 := b10 _ _ e9 nc
      walk_at "go"
      refine ⟨w, 2, rfl, w10, by decide, by decide, fun r11 H11 a11 c11 w11 b11 => ?_⟩
      have b211 := b210.trans b11
      have e11 := b11 _ _ e10 nc
      walk_at "go"
      refine for_range (n := (1 + r11).toNat) (fun j σ H' => ∃ (c : Addr) (row : List Int) (x8 : Option V), σ = [some (.ref a), some (.int (0 + (i : Int))), some (.ref w), some (.int n), some (.ref D), some (.int g), some (.int (if g - r8 > 0 then g - r8 else 0)), some (.ref c), x8] ∧ c ≠ w ∧ H' c = some (.lst (row.map V.int)) ∧ GoodRow n row ∧ Well H' w ∧ But w H2 H') ⟨c, _, _, rfl, nc, e11, gr, w11, b211⟩ ?_ ?_
      · rintro j σ H12 hj ⟨c, row, x8, rfl, nc, e12, gr, w12, b12⟩
        walk_at "go"
        refine ⟨w, c, n, row, rfl, w12, e12, gr, fun r row2 H13 hr13 e13 g13 w13 b13 => ?_⟩
        walk_at "go"
        exact ⟨r, row2, _, rfl, w12.ne hr13, e13, g13, w13, b12.trans b13⟩
      · rintro σ H12 ⟨c, row, x8, rfl, nc, e12, gr, w12, b12⟩
        walk_at "go"
        refine ⟨n, c, w, row, rfl, w12, e12, gr, fun H13 w13 b13 => ?_⟩
        walk_at "go"
        exact ⟨_, _, _, _, _, _, _, _, rfl, toH (b12.trans b13)⟩
    · rintro σ H1 ⟨x1, x2, x3, x4, x5, x6, x7, x8, rfl, s1⟩
      walk_at "go"
      exact k H1
end
end S

set_option Elab.async false
set_option linter.all false
set_option maxRecDepth 100000
set_option maxHeartbeats 4000000
namespace S
open PySem L2
/-! ### what the top has written -/
theorem all_mk {l : PySem.W.OpenLaw} {w : World} {K : PySem.W.Frag} {h : Heap} {mg : Str → Option Value} {fa : Addr} {C_RingError C_BadSize C_NoTurn C_BadMark C_Crooked C_NoCell C_BadCells C_BadOrder C_NoHand C_NoWaiting C_NotSound C_BadStand C_TooMany C_NoName C_NoText C_NoRow : Addr} {t_LEAST_SIZE : Tok} {t_MOST_SIZE : Tok} {t_FREE : Tok} {t_MOST_MARK : Tok} {t_CELLS_OF_A_PLACE : Tok} {t_NEW_MARK : Tok} {t_NO_ORDER : Tok} {t_NO_TURN : Tok} {t_STILL : Tok} {t_RUNG : Tok} {t_HANDS : Addr} {tn_HANDS : Nat} {ts_HANDS : Array (Option Value)} {tk_HANDS_0 tk_HANDS_1 : Tok} {f_check_size : Addr} {oc_check_size kV_check_size dc_check_size pm_check_size cd_check_size ct_check_size : Value} {od_check_size an_check_size : Option Addr} {sl_check_size : Array (Option Value)} {f_check_turn : Addr} {oc_check_turn kV_check_turn dc_check_turn pm_check_turn cd_check_turn ct_check_turn : Value} {od_check_turn an_check_turn : Option Addr} {sl_check_turn : Array (Option Value)} {f_place_of : Addr} {oc_place_of kV_place_of dc_place_of pm_place_of cd_place_of ct_place_of : Value} {od_place_of an_place_of : Option Addr} {sl_place_of : Array (Option Value)} {f_onward : Addr} {oc_onward kV_onward dc_onward pm_onward cd_onward ct_onward : Value} {od_onward an_onward : Option Addr} {sl_onward : Array (Option Value)} {f_distance : Addr} {oc_distance kV_distance dc_distance pm_distance cd_distance ct_distance : Value} {od_distance an_distance : Option Addr} {sl_distance : Array (Option Value)} {f_check_mark : Addr} {oc_check_mark kV_check_mark dc_check_mark pm_check_mark cd_check_mark ct_check_mark : Value} {od_check_mark an_check_mark : Option Addr} {sl_check_mark : Array (Option Value)} {f_mark_lap : Addr} {oc_mark_lap kV_mark_lap dc_mark_lap pm_mark_lap cd_mark_lap ct_mark_lap : Value} {od_mark_lap an_mark_lap : Option Addr} {sl_mark_lap : Array (Option Value)} {f_mark_side : Addr} {oc_mark_side kV_mark_side dc_mark_side pm_mark_side cd_mark_side ct_mark_side : Value} {od_mark_side an_mark_side : Option Addr} {sl_mark_side : Array (Option Value)} {f_check_hand : Addr} {oc_check_hand kV_check_hand dc_check_hand pm_check_hand cd_check_hand ct_check_hand : Value} {od_check_hand an_check_hand : Option Addr} {sl_check_hand : Array (Option Value)} {f_mark_cell : Addr} {oc_mark_cell kV_mark_cell dc_mark_cell pm_mark_cell cd_mark_cell ct_mark_cell : Value} {od_mark_cell an_mark_cell : Option Addr} {sl_mark_cell : Array (Option Value)} {f_number_cell : Addr} {oc_number_cell kV_number_cell dc_number_cell pm_number_cell cd_number_cell ct_number_cell : Value} {od_number_cell an_number_cell : Option Addr} {sl_number_cell : Array (Option Value)} {f_left_cell : Addr} {oc_left_cell kV_left_cell dc_left_cell pm_left_cell cd_left_cell ct_left_cell : Value} {od_left_cell an_left_cell : Option Addr} {sl_left_cell : Array (Option Value)} {f_thing_cell : Addr} {oc_thing_cell kV_thing_cell dc_thing_cell pm_thing_cell cd_thing_cell ct_thing_cell : Value} {od_thing_cell an_thing_cell : Option Addr} {sl_thing_cell : Array (Option Value)} {f_card_cell : Addr} {oc_card_cell kV_card_cell dc_card_cell pm_card_cell cd_card_cell ct_card_cell : Value} {od_card_cell an_card_cell : Option Addr} {sl_card_cell : Array (Option Value)} {f_bell_cell : Addr} {oc_bell_cell kV_bell_cell dc_bell_cell pm_bell_cell cd_bell_cell ct_bell_cell : Value} {od_bell_cell an_bell_cell : Option Addr} {sl_bell_cell : Array (Option Value)} {f_new_cells : Addr} {oc_new_cells kV_new_cells dc_new_cells pm_new_cells cd_new_cells ct_new_cells : Value} {od_new_cells an_new_cells : Option Addr} {sl_new_cells : Array (Option Value)} {f_marks_among : Addr} {oc_marks_among kV_marks_among dc_marks_among pm_marks_among cd_marks_among ct_marks_among : Value} {od_marks_among an_marks_among : Option Addr} {sl_marks_among : Array (Option Value)} {f_size_of_cells : Addr} {oc_size_of_cells kV_size_of_cells dc_size_of_cells pm_size_of_cells cd_size_of_cells ct_size_of_cells : Value} {od_size_of_cells an_size_of_cells : Option Addr} {sl_size_of_cells : Array (Option Value)} {f_check_numbers : Addr} {oc_check_numbers kV_check_numbers dc_check_numbers pm_check_numbers cd_check_numbers ct_check_numbers : Value} {od_check_numbers an_check_numbers : Option Addr} {sl_check_numbers : Array (Option Value)} {f_check_bits : Addr} {oc_check_bits kV_check_bits dc_check_bits pm_check_bits cd_check_bits ct_check_bits : Value} {od_check_bits an_check_bits : Option Addr} {sl_check_bits : Array (Option Value)} {f_check_marks : Addr} {oc_check_marks kV_check_marks dc_check_marks pm_check_marks cd_check_marks ct_check_marks : Value} {od_check_marks an_check_marks : Option Addr} {sl_check_marks : Array (Option Value)} {f_alike_ahead : Addr} {oc_alike_ahead kV_alike_ahead dc_alike_ahead pm_alike_ahead cd_alike_ahead ct_alike_ahead : Value} {od_alike_ahead an_alike_ahead : Option Addr} {sl_alike_ahead : Array (Option Value)} {f_front : Addr} {oc_front kV_front dc_front pm_front cd_front ct_front : Value} {od_front an_front : Option Addr} {sl_front : Array (Option Value)} {f_taker_bit : Addr} {oc_taker_bit kV_taker_bit dc_taker_bit pm_taker_bit cd_taker_bit ct_taker_bit : Value} {od_taker_bit an_taker_bit : Option Addr} {sl_taker_bit : Array (Option Value)} {f_giver_turn : Addr} {oc_giver_turn kV_giver_turn dc_giver_turn pm_giver_turn cd_giver_turn ct_giver_turn : Value} {od_giver_turn an_giver_turn : Option Addr} {sl_giver_turn : Array (Option Value)} {f_taker_turn : Addr} {oc_taker_turn kV_taker_turn dc_taker_turn pm_taker_turn cd_taker_turn ct_taker_turn : Value} {od_taker_turn an_taker_turn : Option Addr} {sl_taker_turn : Array (Option Value)} {f_sound_marks : Addr} {oc_sound_marks kV_sound_marks dc_sound_marks pm_sound_marks cd_sound_marks ct_sound_marks : Value} {od_sound_marks an_sound_marks : Option Addr} {sl_sound_marks : Array (Option Value)} {f_owner : Addr} {oc_owner kV_owner dc_owner pm_owner cd_owner ct_owner : Value} {od_owner an_owner : Option Addr} {sl_owner : Array (Option Value)} {f_slip_at : Addr} {oc_slip_at kV_slip_at dc_slip_at pm_slip_at cd_slip_at ct_slip_at : Value} {od_slip_at an_slip_at : Option Addr} {sl_slip_at : Array (Option Value)} {f_slips : Addr} {oc_slips kV_slips dc_slips pm_slips cd_slips ct_slips : Value} {od_slips an_slips : Option Addr} {sl_slips : Array (Option Value)} {f_follows_slip : Addr} {oc_follows_slip kV_follows_slip dc_follows_slip pm_follows_slip cd_follows_slip ct_follows_slip : Value} {od_follows_slip an_follows_slip : Option Addr} {sl_follows_slip : Array (Option Value)} {f_sound_slips : Addr} {oc_sound_slips kV_sound_slips dc_sound_slips pm_sound_slips cd_sound_slips ct_sound_slips : Value} {od_sound_slips an_sound_slips : Option Addr} {sl_sound_slips : Array (Option Value)} {f_sound_end : Addr} {oc_sound_end kV_sound_end dc_sound_end pm_sound_end cd_sound_end ct_sound_end : Value} {od_sound_end an_sound_end : Option Addr} {sl_sound_end : Array (Option Value)} {f_sound_board : Addr} {oc_sound_board kV_sound_board dc_sound_board pm_sound_board cd_sound_board ct_sound_board : Value} {od_sound_board an_sound_board : Option Addr} {sl_sound_board : Array (Option Value)} {f_law_well : Addr} {oc_law_well kV_law_well dc_law_well pm_law_well cd_law_well ct_law_well : Value} {od_law_well an_law_well : Option Addr} {sl_law_well : Array (Option Value)} {f_law_take : Addr} {oc_law_take kV_law_take dc_law_take pm_law_take cd_law_take ct_law_take : Value} {od_law_take an_law_take : Option Addr} {sl_law_take : Array (Option Value)} {f_law_far : Addr} {oc_law_far kV_law_far dc_law_far pm_law_far cd_law_far ct_law_far : Value} {od_law_far an_law_far : Option Addr} {sl_law_far : Array (Option Value)} {f_law_marks : Addr} {oc_law_marks kV_law_marks dc_law_marks pm_law_marks cd_law_marks ct_law_marks : Value} {od_law_marks an_law_marks : Option Addr} {sl_law_marks : Array (Option Value)} {f_law_order : Addr} {oc_law_order kV_law_order dc_law_order pm_law_order cd_law_order ct_law_order : Value} {od_law_order an_law_order : Option Addr} {sl_law_order : Array (Option Value)} {f_law_parts : Addr} {oc_law_parts kV_law_parts dc_law_parts pm_law_parts cd_law_parts ct_law_parts : Value} {od_law_parts an_law_parts : Option Addr} {sl_law_parts : Array (Option Value)} {f_law_cells : Addr} {oc_law_cells kV_law_cells dc_law_cells pm_law_cells cd_law_cells ct_law_cells : Value} {od_law_cells an_law_cells : Option Addr} {sl_law_cells : Array (Option Value)} {f_law_asked : Addr} {oc_law_asked kV_law_asked dc_law_asked pm_law_asked cd_law_asked ct_law_asked : Value} {od_law_asked an_law_asked : Option Addr} {sl_law_asked : Array (Option Value)} {f_law_counts : Addr} {oc_law_counts kV_law_counts dc_law_counts pm_law_counts cd_law_counts ct_law_counts : Value} {od_law_counts an_law_counts : Option Addr} {sl_law_counts : Array (Option Value)} {f_law_slip : Addr} {oc_law_slip kV_law_slip dc_law_slip pm_law_slip cd_law_slip ct_law_slip : Value} {od_law_slip an_law_slip : Option Addr} {sl_law_slip : Array (Option Value)} {f_law_sound : Addr} {oc_law_sound kV_law_sound dc_law_sound pm_law_sound cd_law_sound ct_law_sound : Value} {od_law_sound an_law_sound : Option Addr} {sl_law_sound : Array (Option Value)} {f_law_right : Addr} {oc_law_right kV_law_right dc_law_right pm_law_right cd_law_right ct_law_right : Value} {od_law_right an_law_right : Option Addr} {sl_law_right : Array (Option Value)} {f_law_spoilt : Addr} {oc_law_spoilt kV_law_spoilt dc_law_spoilt pm_law_spoilt cd_law_spoilt ct_law_spoilt : Value} {od_law_spoilt an_law_spoilt : Option Addr} {sl_law_spoilt : Array (Option Value)} {f_law : Addr} {oc_law kV_law dc_law pm_law cd_law ct_law : Value} {od_law an_law : Option Addr} {sl_law : Array (Option Value)}
    (X : K.In h) (G : h.Ns mainGlobals mg) (hfa : mg "law" = some (.ref fa))
    (a_RingError : PySem.W.nsIn K mainGlobals "RingError" = some (some (.ref C_RingError)))
    (a_BadSize : PySem.W.nsIn K mainGlobals "BadSize" = some (some (.ref C_BadSize)))
    (e_BadSize : PySem.W.excIn K C_BadSize vErr "ValueError.__new__" = true)
    (ga_BadSize : PySem.W.findIn K (.ref C_BadSize) "__getattribute__" = some (some (.builtin "BaseException.__getattribute__")))
    (gn_BadSize : PySem.W.findIn K (.ref C_BadSize) "__getattr__" = some none)
    (cl_BadSize : PySem.W.findIn K (.ref C_BadSize) "__class__" = some (some (.builtin "object.__class__")))
    (mb_BadSize : PySem.W.mroIn K C_BadSize (.type "BaseException") = some true)
    (mo_BadSize : PySem.W.mroIn K C_BadSize (.type "object") = some true)
    (ic_BadSize : (PySem.W.clsIn K C_BadSize).isSome = true)
    (a_NoTurn : PySem.W.nsIn K mainGlobals "NoTurn" = some (some (.ref C_NoTurn)))
    (e_NoTurn : PySem.W.excIn K C_NoTurn vErr "ValueError.__new__" = true)
    (ga_NoTurn : PySem.W.findIn K (.ref C_NoTurn) "__getattribute__" = some (some (.builtin "BaseException.__getattribute__")))
    (gn_NoTurn : PySem.W.findIn K (.ref C_NoTurn) "__getattr__" = some none)
    (cl_NoTurn : PySem.W.findIn K (.ref C_NoTurn) "__class__" = some (some (.builtin "object.__class__")))
    (mb_NoTurn : PySem.W.mroIn K C_NoTurn (.type "BaseException") = some true)
    (mo_NoTurn : PySem.W.mroIn K C_NoTurn (.type "object") = some true)
    (ic_NoTurn : (PySem.W.clsIn K C_NoTurn).isSome = true)
    (a_BadMark : PySem.W.nsIn K mainGlobals "BadMark" = some (some (.ref C_BadMark)))
    (e_BadMark : PySem.W.excIn K C_BadMark vErr "ValueError.__new__" = true)
    (ga_BadMark : PySem.W.findIn K (.ref C_BadMark) "__getattribute__" = some (some (.builtin "BaseException.__getattribute__")))
    (gn_BadMark : PySem.W.findIn K (.ref C_BadMark) "__getattr__" = some none)
    (cl_BadMark : PySem.W.findIn K (.ref C_BadMark) "__class__" = some (some (.builtin "object.__class__")))
    (mb_BadMark : PySem.W.mroIn K C_BadMark (.type "BaseException") = some true)
    (mo_BadMark : PySem.W.mroIn K C_BadMark (.type "object") = some true)
    (ic_BadMark : (PySem.W.clsIn K C_BadMark).isSome = true)
    (a_Crooked : PySem.W.nsIn K mainGlobals "Crooked" = some (some (.ref C_Crooked)))
    (e_Crooked : PySem.W.excIn K C_Crooked vErr "ValueError.__new__" = true)
    (ga_Crooked : PySem.W.findIn K (.ref C_Crooked) "__getattribute__" = some (some (.builtin "BaseException.__getattribute__")))
    (gn_Crooked : PySem.W.findIn K (.ref C_Crooked) "__getattr__" = some none)
    (cl_Crooked : PySem.W.findIn K (.ref C_Crooked) "__class__" = some (some (.builtin "object.__class__")))
    (mb_Crooked : PySem.W.mroIn K C_Crooked (.type "BaseException") = some true)
    (mo_Crooked : PySem.W.mroIn K C_Crooked (.type "object") = some true)
    (ic_Crooked : (PySem.W.clsIn K C_Crooked).isSome = true)
    (a_NoCell : PySem.W.nsIn K mainGlobals "NoCell" = some (some (.ref C_NoCell)))
    (e_NoCell : PySem.W.excIn K C_NoCell vErr "ValueError.__new__" = true)
    (ga_NoCell : PySem.W.findIn K (.ref C_NoCell) "__getattribute__" = some (some (.builtin "BaseException.__getattribute__")))
    (gn_NoCell : PySem.W.findIn K (.ref C_NoCell) "__getattr__" = some none)
    (cl_NoCell : PySem.W.findIn K (.ref C_NoCell) "__class__" = some (some (.builtin "object.__class__")))
    (mb_NoCell : PySem.W.mroIn K C_NoCell (.type "BaseException") = some true)
    (mo_NoCell : PySem.W.mroIn K C_NoCell (.type "object") = some true)
    (ic_NoCell : (PySem.W.clsIn K C_NoCell).isSome = true)
    (a_BadCells : PySem.W.nsIn K mainGlobals "BadCells" = some (some (.ref C_BadCells)))
    (e_BadCells : PySem.W.excIn K C_BadCells vErr "ValueError.__new__" = true)
    (ga_BadCells : PySem.W.findIn K (.ref C_BadCells) "__getattribute__" = some (some (.builtin "BaseException.__getattribute__")))
    (gn_BadCells : PySem.W.findIn K (.ref C_BadCells) "__getattr__" = some none)
    (cl_BadCells : PySem.W.findIn K (.ref C_BadCells) "__class__" = some (some (.builtin "object.__class__")))
    (mb_BadCells : PySem.W.mroIn K C_BadCells (.type "BaseException") = some true)
    (mo_BadCells : PySem.W.mroIn K C_BadCells (.type "object") = some true)
    (ic_BadCells : (PySem.W.clsIn K C_BadCells).isSome = true)
    (a_BadOrder : PySem.W.nsIn K mainGlobals "BadOrder" = some (some (.ref C_BadOrder)))
    (a_NoHand : PySem.W.nsIn K mainGlobals "NoHand" = some (some (.ref C_NoHand)))
    (e_NoHand : PySem.W.excIn K C_NoHand vErr "ValueError.__new__" = true)
    (ga_NoHand : PySem.W.findIn K (.ref C_NoHand) "__getattribute__" = some (some (.builtin "BaseException.__getattribute__")))
    (gn_NoHand : PySem.W.findIn K (.ref C_NoHand) "__getattr__" = some none)
    (cl_NoHand : PySem.W.findIn K (.ref C_NoHand) "__class__" = some (some (.builtin "object.__class__")))
    (mb_NoHand : PySem.W.mroIn K C_NoHand (.type "BaseException") = some true)
    (mo_NoHand : PySem.W.mroIn K C_NoHand (.type "object") = some true)
    (ic_NoHand : (PySem.W.clsIn K C_NoHand).isSome = true)
    (a_NoWaiting : PySem.W.nsIn K mainGlobals "NoWaiting" = some (some (.ref C_NoWaiting)))
    (a_NotSound : PySem.W.nsIn K mainGlobals "NotSound" = some (some (.ref C_NotSound)))
    (e_NotSound : PySem.W.excIn K C_NotSound vErr "ValueError.__new__" = true)
    (ga_NotSound : PySem.W.findIn K (.ref C_NotSound) "__getattribute__" = some (some (.builtin "BaseException.__getattribute__")))
    (gn_NotSound : PySem.W.findIn K (.ref C_NotSound) "__getattr__" = some none)
    (cl_NotSound : PySem.W.findIn K (.ref C_NotSound) "__class__" = some (some (.builtin "object.__class__")))
    (mb_NotSound : PySem.W.mroIn K C_NotSound (.type "BaseException") = some true)
    (mo_NotSound : PySem.W.mroIn K C_NotSound (.type "object") = some true)
    (ic_NotSound : (PySem.W.clsIn K C_NotSound).isSome = true)
    (a_BadStand : PySem.W.nsIn K mainGlobals "BadStand" = some (some (.ref C_BadStand)))
    (a_TooMany : PySem.W.nsIn K mainGlobals "TooMany" = some (some (.ref C_TooMany)))
    (a_NoName : PySem.W.nsIn K mainGlobals "NoName" = some (some (.ref C_NoName)))
    (a_NoText : PySem.W.nsIn K mainGlobals "NoText" = some (some (.ref C_NoText)))
    (a_NoRow : PySem.W.nsIn K mainGlobals "NoRow" = some (some (.ref C_NoRow)))
    (sg : PySem.W.specialIn K (.builtin "object.__class__") "__get__" = some (some (.builtin "getset_descriptor.__get__")))
    (tk : PySem.W.takesIn K (.builtin "object.__class__") = some true)
    (q_LEAST_SIZE : PySem.W.nsIn K mainGlobals "LEAST_SIZE" = some (some (.int (2) t_LEAST_SIZE)))
    (q_MOST_SIZE : PySem.W.nsIn K mainGlobals "MOST_SIZE" = some (some (.int (8) t_MOST_SIZE)))
    (q_FREE : PySem.W.nsIn K mainGlobals "FREE" = some (some (.int (0) t_FREE)))
    (q_MOST_MARK : PySem.W.nsIn K mainGlobals "MOST_MARK" = some (some (.int (3) t_MOST_MARK)))
    (q_CELLS_OF_A_PLACE : PySem.W.nsIn K mainGlobals "CELLS_OF_A_PLACE" = some (some (.int (4) t_CELLS_OF_A_PLACE)))
    (q_NEW_MARK : PySem.W.nsIn K mainGlobals "NEW_MARK" = some (some (.int (2) t_NEW_MARK)))
    (q_NO_ORDER : PySem.W.nsIn K mainGlobals "NO_ORDER" = some (some (.int (-1) t_NO_ORDER)))
    (q_NO_TURN : PySem.W.nsIn K mainGlobals "NO_TURN" = some (some (.int (-1) t_NO_TURN)))
    (q_STILL : PySem.W.nsIn K mainGlobals "STILL" = some (some (.int (0) t_STILL)))
    (q_RUNG : PySem.W.nsIn K mainGlobals "RUNG" = some (some (.int (1) t_RUNG)))
    (q_HANDS : PySem.W.nsIn K mainGlobals "HANDS" = some (some (.ref t_HANDS)))
    (lk_HANDS : K.lookup t_HANDS = some ⟨.type "tuple", none, .seq #[.str "giver" tk_HANDS_0, .str "taker" tk_HANDS_1] tn_HANDS, ts_HANDS⟩)
    (z_len : PySem.W.nsIn K mainGlobals "len" = some none)
    (z_range : PySem.W.nsIn K mainGlobals "range" = some none)
    (z_max : PySem.W.nsIn K mainGlobals "max" = some none)
    (z_min : PySem.W.nsIn K mainGlobals "min" = some none)
    (z_isinstance : PySem.W.nsIn K mainGlobals "isinstance" = some none)
    (z_int : PySem.W.nsIn K mainGlobals "int" = some none)
    (z_bool : PySem.W.nsIn K mainGlobals "bool" = some none)
    (z_list : PySem.W.nsIn K mainGlobals "list" = some none)
    (z_all : PySem.W.nsIn K mainGlobals "all" = some none)
    (z_ValueError : PySem.W.nsIn K mainGlobals "ValueError" = some none)
    (z_zip : PySem.W.nsIn K mainGlobals "zip" = some none)
    (d_check_size : PySem.W.nsIn K mainGlobals "check_size" = some (some (.ref f_check_size)))
    (l_check_size : K.lookup f_check_size = some ⟨oc_check_size, od_check_size, .func (PySem.W.fnOf "check_size" "check_size" (defArgs s_check_size) (defBody s_check_size) (defScope s_check_size) .none kV_check_size dc_check_size pm_check_size an_check_size cd_check_size ct_check_size), sl_check_size⟩)
    (c_check_size : PySem.W.codeIn K cd_check_size "check_size" = true)
    (k_check_size : PySem.W.keepIn K (.ref f_check_size) = true)
    (d_check_turn : PySem.W.nsIn K mainGlobals "check_turn" = some (some (.ref f_check_turn)))
    (l_check_turn : K.lookup f_check_turn = some ⟨oc_check_turn, od_check_turn, .func (PySem.W.fnOf "check_turn" "check_turn" (defArgs s_check_turn) (defBody s_check_turn) (defScope s_check_turn) .none kV_check_turn dc_check_turn pm_check_turn an_check_turn cd_check_turn ct_check_turn), sl_check_turn⟩)
    (c_check_turn : PySem.W.codeIn K cd_check_turn "check_turn" = true)
    (k_check_turn : PySem.W.keepIn K (.ref f_check_turn) = true)
    (d_place_of : PySem.W.nsIn K mainGlobals "place_of" = some (some (.ref f_place_of)))
    (l_place_of : K.lookup f_place_of = some ⟨oc_place_of, od_place_of, .func (PySem.W.fnOf "place_of" "place_of" (defArgs s_place_of) (defBody s_place_of) (defScope s_place_of) .none kV_place_of dc_place_of pm_place_of an_place_of cd_place_of ct_place_of), sl_place_of⟩)
    (c_place_of : PySem.W.codeIn K cd_place_of "place_of" = true)
    (k_place_of : PySem.W.keepIn K (.ref f_place_of) = true)
    (d_onward : PySem.W.nsIn K mainGlobals "onward" = some (some (.ref f_onward)))
    (l_onward : K.lookup f_onward = some ⟨oc_onward, od_onward, .func (PySem.W.fnOf "onward" "onward" (defArgs s_onward) (defBody s_onward) (defScope s_onward) .none kV_onward dc_onward pm_onward an_onward cd_onward ct_onward), sl_onward⟩)
    (c_onward : PySem.W.codeIn K cd_onward "onward" = true)
    (k_onward : PySem.W.keepIn K (.ref f_onward) = true)
    (d_distance : PySem.W.nsIn K mainGlobals "distance" = some (some (.ref f_distance)))
    (l_distance : K.lookup f_distance = some ⟨oc_distance, od_distance, .func (PySem.W.fnOf "distance" "distance" (defArgs s_distance) (defBody s_distance) (defScope s_distance) .none kV_distance dc_distance pm_distance an_distance cd_distance ct_distance), sl_distance⟩)
    (c_distance : PySem.W.codeIn K cd_distance "distance" = true)
    (k_distance : PySem.W.keepIn K (.ref f_distance) = true)
    (d_check_mark : PySem.W.nsIn K mainGlobals "check_mark" = some (some (.ref f_check_mark)))
    (l_check_mark : K.lookup f_check_mark = some ⟨oc_check_mark, od_check_mark, .func (PySem.W.fnOf "check_mark" "check_mark" (defArgs s_check_mark) (defBody s_check_mark) (defScope s_check_mark) .none kV_check_mark dc_check_mark pm_check_mark an_check_mark cd_check_mark ct_check_mark), sl_check_mark⟩)
    (c_check_mark : PySem.W.codeIn K cd_check_mark "check_mark" = true)
    (k_check_mark : PySem.W.keepIn K (.ref f_check_mark) = true)
    (d_mark_lap : PySem.W.nsIn K mainGlobals "mark_lap" = some (some (.ref f_mark_lap)))
    (l_mark_lap : K.lookup f_mark_lap = some ⟨oc_mark_lap, od_mark_lap, .func (PySem.W.fnOf "mark_lap" "mark_lap" (defArgs s_mark_lap) (defBody s_mark_lap) (defScope s_mark_lap) .none kV_mark_lap dc_mark_lap pm_mark_lap an_mark_lap cd_mark_lap ct_mark_lap), sl_mark_lap⟩)
    (c_mark_lap : PySem.W.codeIn K cd_mark_lap "mark_lap" = true)
    (k_mark_lap : PySem.W.keepIn K (.ref f_mark_lap) = true)
    (d_mark_side : PySem.W.nsIn K mainGlobals "mark_side" = some (some (.ref f_mark_side)))
    (l_mark_side : K.lookup f_mark_side = some ⟨oc_mark_side, od_mark_side, .func (PySem.W.fnOf "mark_side" "mark_side" (defArgs s_mark_side) (defBody s_mark_side) (defScope s_mark_side) .none kV_mark_side dc_mark_side pm_mark_side an_mark_side cd_mark_side ct_mark_side), sl_mark_side⟩)
    (c_mark_side : PySem.W.codeIn K cd_mark_side "mark_side" = true)
    (k_mark_side : PySem.W.keepIn K (.ref f_mark_side) = true)
    (d_check_hand : PySem.W.nsIn K mainGlobals "check_hand" = some (some (.ref f_check_hand)))
    (l_check_hand : K.lookup f_check_hand = some ⟨oc_check_hand, od_check_hand, .func (PySem.W.fnOf "check_hand" "check_hand" (defArgs s_check_hand) (defBody s_check_hand) (defScope s_check_hand) .none kV_check_hand dc_check_hand pm_check_hand an_check_hand cd_check_hand ct_check_hand), sl_check_hand⟩)
    (c_check_hand : PySem.W.codeIn K cd_check_hand "check_hand" = true)
    (k_check_hand : PySem.W.keepIn K (.ref f_check_hand) = true)
    (d_mark_cell : PySem.W.nsIn K mainGlobals "mark_cell" = some (some (.ref f_mark_cell)))
    (l_mark_cell : K.lookup f_mark_cell = some ⟨oc_mark_cell, od_mark_cell, .func (PySem.W.fnOf "mark_cell" "mark_cell" (defArgs s_mark_cell) (defBody s_mark_cell) (defScope s_mark_cell) .none kV_mark_cell dc_mark_cell pm_mark_cell an_mark_cell cd_mark_cell ct_mark_cell), sl_mark_cell⟩)
    (c_mark_cell : PySem.W.codeIn K cd_mark_cell "mark_cell" = true)
    (k_mark_cell : PySem.W.keepIn K (.ref f_mark_cell) = true)
    (d_number_cell : PySem.W.nsIn K mainGlobals "number_cell" = some (some (.ref f_number_cell)))
    (l_number_cell : K.lookup f_number_cell = some ⟨oc_number_cell, od_number_cell, .func (PySem.W.fnOf "number_cell" "number_cell" (defArgs s_number_cell) (defBody s_number_cell) (defScope s_number_cell) .none kV_number_cell dc_number_cell pm_number_cell an_number_cell cd_number_cell ct_number_cell), sl_number_cell⟩)
    (c_number_cell : PySem.W.codeIn K cd_number_cell "number_cell" = true)
    (k_number_cell : PySem.W.keepIn K (.ref f_number_cell) = true)
    (d_left_cell : PySem.W.nsIn K mainGlobals "left_cell" = some (some (.ref f_left_cell)))
    (l_left_cell : K.lookup f_left_cell = some ⟨oc_left_cell, od_left_cell, .func (PySem.W.fnOf "left_cell" "left_cell" (defArgs s_left_cell) (defBody s_left_cell) (defScope s_left_cell) .none kV_left_cell dc_left_cell pm_left_cell an_left_cell cd_left_cell ct_left_cell), sl_left_cell⟩)
    (c_left_cell : PySem.W.codeIn K cd_left_cell "left_cell" = true)
    (k_left_cell : PySem.W.keepIn K (.ref f_left_cell) = true)
    (d_thing_cell : PySem.W.nsIn K mainGlobals "thing_cell" = some (some (.ref f_thing_cell)))
    (l_thing_cell : K.lookup f_thing_cell = some ⟨oc_thing_cell, od_thing_cell, .func (PySem.W.fnOf "thing_cell" "thing_cell" (defArgs s_thing_cell) (defBody s_thing_cell) (defScope s_thing_cell) .none kV_thing_cell dc_thing_cell pm_thing_cell an_thing_cell cd_thing_cell ct_thing_cell), sl_thing_cell⟩)
    (c_thing_cell : PySem.W.codeIn K cd_thing_cell "thing_cell" = true)
    (k_thing_cell : PySem.W.keepIn K (.ref f_thing_cell) = true)
    (d_card_cell : PySem.W.nsIn K mainGlobals "card_cell" = some (some (.ref f_card_cell)))
    (l_card_cell : K.lookup f_card_cell = some ⟨oc_card_cell, od_card_cell, .func (PySem.W.fnOf "card_cell" "card_cell" (defArgs s_card_cell) (defBody s_card_cell) (defScope s_card_cell) .none kV_card_cell dc_card_cell pm_card_cell an_card_cell cd_card_cell ct_card_cell), sl_card_cell⟩)
    (c_card_cell : PySem.W.codeIn K cd_card_cell "card_cell" = true)
    (k_card_cell : PySem.W.keepIn K (.ref f_card_cell) = true)
    (d_bell_cell : PySem.W.nsIn K mainGlobals "bell_cell" = some (some (.ref f_bell_cell)))
    (l_bell_cell : K.lookup f_bell_cell = some ⟨oc_bell_cell, od_bell_cell, .func (PySem.W.fnOf "bell_cell" "bell_cell" (defArgs s_bell_cell) (defBody s_bell_cell) (defScope s_bell_cell) .none kV_bell_cell dc_bell_cell pm_bell_cell an_bell_cell cd_bell_cell ct_bell_cell), sl_bell_cell⟩)
    (c_bell_cell : PySem.W.codeIn K cd_bell_cell "bell_cell" = true)
    (k_bell_cell : PySem.W.keepIn K (.ref f_bell_cell) = true)
    (d_new_cells : PySem.W.nsIn K mainGlobals "new_cells" = some (some (.ref f_new_cells)))
    (l_new_cells : K.lookup f_new_cells = some ⟨oc_new_cells, od_new_cells, .func (PySem.W.fnOf "new_cells" "new_cells" (defArgs s_new_cells) (defBody s_new_cells) (defScope s_new_cells) .none kV_new_cells dc_new_cells pm_new_cells an_new_cells cd_new_cells ct_new_cells), sl_new_cells⟩)
    (c_new_cells : PySem.W.codeIn K cd_new_cells "new_cells" = true)
    (k_new_cells : PySem.W.keepIn K (.ref f_new_cells) = true)
    (d_marks_among : PySem.W.nsIn K mainGlobals "marks_among" = some (some (.ref f_marks_among)))
    (l_marks_among : K.lookup f_marks_among = some ⟨oc_marks_among, od_marks_among, .func (PySem.W.fnOf "marks_among" "marks_among" (defArgs s_marks_among) (defBody s_marks_among) (defScope s_marks_among) .none kV_marks_among dc_marks_among pm_marks_among an_marks_among cd_marks_among ct_marks_among), sl_marks_among⟩)
    (c_marks_among : PySem.W.codeIn K cd_marks_among "marks_among" = true)
    (k_marks_among : PySem.W.keepIn K (.ref f_marks_among) = true)
    (d_size_of_cells : PySem.W.nsIn K mainGlobals "size_of_cells" = some (some (.ref f_size_of_cells)))
    (l_size_of_cells : K.lookup f_size_of_cells = some ⟨oc_size_of_cells, od_size_of_cells, .func (PySem.W.fnOf "size_of_cells" "size_of_cells" (defArgs s_size_of_cells) (defBody s_size_of_cells) (defScope s_size_of_cells) .none kV_size_of_cells dc_size_of_cells pm_size_of_cells an_size_of_cells cd_size_of_cells ct_size_of_cells), sl_size_of_cells⟩)
    (c_size_of_cells : PySem.W.codeIn K cd_size_of_cells "size_of_cells" = true)
    (k_size_of_cells : PySem.W.keepIn K (.ref f_size_of_cells) = true)
    (d_check_numbers : PySem.W.nsIn K mainGlobals "check_numbers" = some (some (.ref f_check_numbers)))
    (l_check_numbers : K.lookup f_check_numbers = some ⟨oc_check_numbers, od_check_numbers, .func (PySem.W.fnOf "check_numbers" "check_numbers" (defArgs s_check_numbers) (defBody s_check_numbers) (defScope s_check_numbers) .none kV_check_numbers dc_check_numbers pm_check_numbers an_check_numbers cd_check_numbers ct_check_numbers), sl_check_numbers⟩)
    (c_check_numbers : PySem.W.codeIn K cd_check_numbers "check_numbers" = true)
    (k_check_numbers : PySem.W.keepIn K (.ref f_check_numbers) = true)
    (d_check_bits : PySem.W.nsIn K mainGlobals "check_bits" = some (some (.ref f_check_bits)))
    (l_check_bits : K.lookup f_check_bits = some ⟨oc_check_bits, od_check_bits, .func (PySem.W.fnOf "check_bits" "check_bits" (defArgs s_check_bits) (defBody s_check_bits) (defScope s_check_bits) .none kV_check_bits dc_check_bits pm_check_bits an_check_bits cd_check_bits ct_check_bits), sl_check_bits⟩)
    (c_check_bits : PySem.W.codeIn K cd_check_bits "check_bits" = true)
    (k_check_bits : PySem.W.keepIn K (.ref f_check_bits) = true)
    (d_check_marks : PySem.W.nsIn K mainGlobals "check_marks" = some (some (.ref f_check_marks)))
    (l_check_marks : K.lookup f_check_marks = some ⟨oc_check_marks, od_check_marks, .func (PySem.W.fnOf "check_marks" "check_marks" (defArgs s_check_marks) (defBody s_check_marks) (defScope s_check_marks) .none kV_check_marks dc_check_marks pm_check_marks an_check_marks cd_check_marks ct_check_marks), sl_check_marks⟩)
    (c_check_marks : PySem.W.codeIn K cd_check_marks "check_marks" = true)
    (k_check_marks : PySem.W.keepIn K (.ref f_check_marks) = true)
    (d_alike_ahead : PySem.W.nsIn K mainGlobals "alike_ahead" = some (some (.ref f_alike_ahead)))
    (l_alike_ahead : K.lookup f_alike_ahead = some ⟨oc_alike_ahead, od_alike_ahead, .func (PySem.W.fnOf "alike_ahead" "alike_ahead" (defArgs s_alike_ahead) (defBody s_alike_ahead) (defScope s_alike_ahead) .none kV_alike_ahead dc_alike_ahead pm_alike_ahead an_alike_ahead cd_alike_ahead ct_alike_ahead), sl_alike_ahead⟩)
    (c_alike_ahead : PySem.W.codeIn K cd_alike_ahead "alike_ahead" = true)
    (k_alike_ahead : PySem.W.keepIn K (.ref f_alike_ahead) = true)
    (d_front : PySem.W.nsIn K mainGlobals "front" = some (some (.ref f_front)))
    (l_front : K.lookup f_front = some ⟨oc_front, od_front, .func (PySem.W.fnOf "front" "front" (defArgs s_front) (defBody s_front) (defScope s_front) .none kV_front dc_front pm_front an_front cd_front ct_front), sl_front⟩)
    (c_front : PySem.W.codeIn K cd_front "front" = true)
    (k_front : PySem.W.keepIn K (.ref f_front) = true)
    (d_taker_bit : PySem.W.nsIn K mainGlobals "taker_bit" = some (some (.ref f_taker_bit)))
    (l_taker_bit : K.lookup f_taker_bit = some ⟨oc_taker_bit, od_taker_bit, .func (PySem.W.fnOf "taker_bit" "taker_bit" (defArgs s_taker_bit) (defBody s_taker_bit) (defScope s_taker_bit) .none kV_taker_bit dc_taker_bit pm_taker_bit an_taker_bit cd_taker_bit ct_taker_bit), sl_taker_bit⟩)
    (c_taker_bit : PySem.W.codeIn K cd_taker_bit "taker_bit" = true)
    (k_taker_bit : PySem.W.keepIn K (.ref f_taker_bit) = true)
    (d_giver_turn : PySem.W.nsIn K mainGlobals "giver_turn" = some (some (.ref f_giver_turn)))
    (l_giver_turn : K.lookup f_giver_turn = some ⟨oc_giver_turn, od_giver_turn, .func (PySem.W.fnOf "giver_turn" "giver_turn" (defArgs s_giver_turn) (defBody s_giver_turn) (defScope s_giver_turn) .none kV_giver_turn dc_giver_turn pm_giver_turn an_giver_turn cd_giver_turn ct_giver_turn), sl_giver_turn⟩)
    (c_giver_turn : PySem.W.codeIn K cd_giver_turn "giver_turn" = true)
    (k_giver_turn : PySem.W.keepIn K (.ref f_giver_turn) = true)
    (d_taker_turn : PySem.W.nsIn K mainGlobals "taker_turn" = some (some (.ref f_taker_turn)))
    (l_taker_turn : K.lookup f_taker_turn = some ⟨oc_taker_turn, od_taker_turn, .func (PySem.W.fnOf "taker_turn" "taker_turn" (defArgs s_taker_turn) (defBody s_taker_turn) (defScope s_taker_turn) .none kV_taker_turn dc_taker_turn pm_taker_turn an_taker_turn cd_taker_turn ct_taker_turn), sl_taker_turn⟩)
    (c_taker_turn : PySem.W.codeIn K cd_taker_turn "taker_turn" = true)
    (k_taker_turn : PySem.W.keepIn K (.ref f_taker_turn) = true)
    (d_sound_marks : PySem.W.nsIn K mainGlobals "sound_marks" = some (some (.ref f_sound_marks)))
    (l_sound_marks : K.lookup f_sound_marks = some ⟨oc_sound_marks, od_sound_marks, .func (PySem.W.fnOf "sound_marks" "sound_marks" (defArgs s_sound_marks) (defBody s_sound_marks) (defScope s_sound_marks) .none kV_sound_marks dc_sound_marks pm_sound_marks an_sound_marks cd_sound_marks ct_sound_marks), sl_sound_marks⟩)
    (c_sound_marks : PySem.W.codeIn K cd_sound_marks "sound_marks" = true)
    (k_sound_marks : PySem.W.keepIn K (.ref f_sound_marks) = true)
    (d_owner : PySem.W.nsIn K mainGlobals "owner" = some (some (.ref f_owner)))
    (l_owner : K.lookup f_owner = some ⟨oc_owner, od_owner, .func (PySem.W.fnOf "owner" "owner" (defArgs s_owner) (defBody s_owner) (defScope s_owner) .none kV_owner dc_owner pm_owner an_owner cd_owner ct_owner), sl_owner⟩)
    (c_owner : PySem.W.codeIn K cd_owner "owner" = true)
    (k_owner : PySem.W.keepIn K (.ref f_owner) = true)
    (d_slip_at : PySem.W.nsIn K mainGlobals "slip_at" = some (some (.ref f_slip_at)))
    (l_slip_at : K.lookup f_slip_at = some ⟨oc_slip_at, od_slip_at, .func (PySem.W.fnOf "slip_at" "slip_at" (defArgs s_slip_at) (defBody s_slip_at) (defScope s_slip_at) .none kV_slip_at dc_slip_at pm_slip_at an_slip_at cd_slip_at ct_slip_at), sl_slip_at⟩)
    (c_slip_at : PySem.W.codeIn K cd_slip_at "slip_at" = true)
    (k_slip_at : PySem.W.keepIn K (.ref f_slip_at) = true)
    (d_slips : PySem.W.nsIn K mainGlobals "slips" = some (some (.ref f_slips)))
    (l_slips : K.lookup f_slips = some ⟨oc_slips, od_slips, .func (PySem.W.fnOf "slips" "slips" (defArgs s_slips) (defBody s_slips) (defScope s_slips) .none kV_slips dc_slips pm_slips an_slips cd_slips ct_slips), sl_slips⟩)
    (c_slips : PySem.W.codeIn K cd_slips "slips" = true)
    (k_slips : PySem.W.keepIn K (.ref f_slips) = true)
    (d_follows_slip : PySem.W.nsIn K mainGlobals "follows_slip" = some (some (.ref f_follows_slip)))
    (l_follows_slip : K.lookup f_follows_slip = some ⟨oc_follows_slip, od_follows_slip, .func (PySem.W.fnOf "follows_slip" "follows_slip" (defArgs s_follows_slip) (defBody s_follows_slip) (defScope s_follows_slip) .none kV_follows_slip dc_follows_slip pm_follows_slip an_follows_slip cd_follows_slip ct_follows_slip), sl_follows_slip⟩)
    (c_follows_slip : PySem.W.codeIn K cd_follows_slip "follows_slip" = true)
    (k_follows_slip : PySem.W.keepIn K (.ref f_follows_slip) = true)
    (d_sound_slips : PySem.W.nsIn K mainGlobals "sound_slips" = some (some (.ref f_sound_slips)))
    (l_sound_slips : K.lookup f_sound_slips = some ⟨oc_sound_slips, od_sound_slips, .func (PySem.W.fnOf "sound_slips" "sound_slips" (defArgs s_sound_slips) (defBody s_sound_slips) (defScope s_sound_slips) .none kV_sound_slips dc_sound_slips pm_sound_slips an_sound_slips cd_sound_slips ct_sound_slips), sl_sound_slips⟩)
    (c_sound_slips : PySem.W.codeIn K cd_sound_slips "sound_slips" = true)
    (k_sound_slips : PySem.W.keepIn K (.ref f_sound_slips) = true)
    (d_sound_end : PySem.W.nsIn K mainGlobals "sound_end" = some (some (.ref f_sound_end)))
    (l_sound_end : K.lookup f_sound_end = some ⟨oc_sound_end, od_sound_end, .func (PySem.W.fnOf "sound_end" "sound_end" (defArgs s_sound_end) (defBody s_sound_end) (defScope s_sound_end) .none kV_sound_end dc_sound_end pm_sound_end an_sound_end cd_sound_end ct_sound_end), sl_sound_end⟩)
    (c_sound_end : PySem.W.codeIn K cd_sound_end "sound_end" = true)
    (k_sound_end : PySem.W.keepIn K (.ref f_sound_end) = true)
    (d_sound_board : PySem.W.nsIn K mainGlobals "sound_board" = some (some (.ref f_sound_board)))
    (l_sound_board : K.lookup f_sound_board = some ⟨oc_sound_board, od_sound_board, .func (PySem.W.fnOf "sound_board" "sound_board" (defArgs s_sound_board) (defBody s_sound_board) (defScope s_sound_board) .none kV_sound_board dc_sound_board pm_sound_board an_sound_board cd_sound_board ct_sound_board), sl_sound_board⟩)
    (c_sound_board : PySem.W.codeIn K cd_sound_board "sound_board" = true)
    (k_sound_board : PySem.W.keepIn K (.ref f_sound_board) = true)
    (d_law_well : PySem.W.nsIn K mainGlobals "_law_well" = some (some (.ref f_law_well)))
    (l_law_well : K.lookup f_law_well = some ⟨oc_law_well, od_law_well, .func (PySem.W.fnOf "_law_well" "_law_well" (defArgs s_law_well) (defBody s_law_well) (defScope s_law_well) .none kV_law_well dc_law_well pm_law_well an_law_well cd_law_well ct_law_well), sl_law_well⟩)
    (c_law_well : PySem.W.codeIn K cd_law_well "_law_well" = true)
    (k_law_well : PySem.W.keepIn K (.ref f_law_well) = true)
    (d_law_take : PySem.W.nsIn K mainGlobals "_law_take" = some (some (.ref f_law_take)))
    (l_law_take : K.lookup f_law_take = some ⟨oc_law_take, od_law_take, .func (PySem.W.fnOf "_law_take" "_law_take" (defArgs s_law_take) (defBody s_law_take) (defScope s_law_take) .none kV_law_take dc_law_take pm_law_take an_law_take cd_law_take ct_law_take), sl_law_take⟩)
    (c_law_take : PySem.W.codeIn K cd_law_take "_law_take" = true)
    (k_law_take : PySem.W.keepIn K (.ref f_law_take) = true)
    (d_law_far : PySem.W.nsIn K mainGlobals "_law_far" = some (some (.ref f_law_far)))
    (l_law_far : K.lookup f_law_far = some ⟨oc_law_far, od_law_far, .func (PySem.W.fnOf "_law_far" "_law_far" (defArgs s_law_far) (defBody s_law_far) (defScope s_law_far) .none kV_law_far dc_law_far pm_law_far an_law_far cd_law_far ct_law_far), sl_law_far⟩)
    (c_law_far : PySem.W.codeIn K cd_law_far "_law_far" = true)
    (k_law_far : PySem.W.keepIn K (.ref f_law_far) = true)
    (d_law_marks : PySem.W.nsIn K mainGlobals "_law_marks" = some (some (.ref f_law_marks)))
    (l_law_marks : K.lookup f_law_marks = some ⟨oc_law_marks, od_law_marks, .func (PySem.W.fnOf "_law_marks" "_law_marks" (defArgs s_law_marks) (defBody s_law_marks) (defScope s_law_marks) .none kV_law_marks dc_law_marks pm_law_marks an_law_marks cd_law_marks ct_law_marks), sl_law_marks⟩)
    (c_law_marks : PySem.W.codeIn K cd_law_marks "_law_marks" = true)
    (k_law_marks : PySem.W.keepIn K (.ref f_law_marks) = true)
    (d_law_order : PySem.W.nsIn K mainGlobals "_law_order" = some (some (.ref f_law_order)))
    (l_law_order : K.lookup f_law_order = some ⟨oc_law_order, od_law_order, .func (PySem.W.fnOf "_law_order" "_law_order" (defArgs s_law_order) (defBody s_law_order) (defScope s_law_order) .none kV_law_order dc_law_order pm_law_order an_law_order cd_law_order ct_law_order), sl_law_order⟩)
    (c_law_order : PySem.W.codeIn K cd_law_order "_law_order" = true)
    (k_law_order : PySem.W.keepIn K (.ref f_law_order) = true)
    (d_law_parts : PySem.W.nsIn K mainGlobals "_law_parts" = some (some (.ref f_law_parts)))
    (l_law_parts : K.lookup f_law_parts = some ⟨oc_law_parts, od_law_parts, .func (PySem.W.fnOf "_law_parts" "_law_parts" (defArgs s_law_parts) (defBody s_law_parts) (defScope s_law_parts) .none kV_law_parts dc_law_parts pm_law_parts an_law_parts cd_law_parts ct_law_parts), sl_law_parts⟩)
    (c_law_parts : PySem.W.codeIn K cd_law_parts "_law_parts" = true)
    (k_law_parts : PySem.W.keepIn K (.ref f_law_parts) = true)
    (d_law_cells : PySem.W.nsIn K mainGlobals "_law_cells" = some (some (.ref f_law_cells)))
    (l_law_cells : K.lookup f_law_cells = some ⟨oc_law_cells, od_law_cells, .func (PySem.W.fnOf "_law_cells" "_law_cells" (defArgs s_law_cells) (defBody s_law_cells) (defScope s_law_cells) .none kV_law_cells dc_law_cells pm_law_cells an_law_cells cd_law_cells ct_law_cells), sl_law_cells⟩)
    (c_law_cells : PySem.W.codeIn K cd_law_cells "_law_cells" = true)
    (k_law_cells : PySem.W.keepIn K (.ref f_law_cells) = true)
    (d_law_asked : PySem.W.nsIn K mainGlobals "_law_asked" = some (some (.ref f_law_asked)))
    (l_law_asked : K.lookup f_law_asked = some ⟨oc_law_asked, od_law_asked, .func (PySem.W.fnOf "_law_asked" "_law_asked" (defArgs s_law_asked) (defBody s_law_asked) (defScope s_law_asked) .none kV_law_asked dc_law_asked pm_law_asked an_law_asked cd_law_asked ct_law_asked), sl_law_asked⟩)
    (c_law_asked : PySem.W.codeIn K cd_law_asked "_law_asked" = true)
    (k_law_asked : PySem.W.keepIn K (.ref f_law_asked) = true)
    (d_law_counts : PySem.W.nsIn K mainGlobals "_law_counts" = some (some (.ref f_law_counts)))
    (l_law_counts : K.lookup f_law_counts = some ⟨oc_law_counts, od_law_counts, .func (PySem.W.fnOf "_law_counts" "_law_counts" (defArgs s_law_counts) (defBody s_law_counts) (defScope s_law_counts) .none kV_law_counts dc_law_counts pm_law_counts an_law_counts cd_law_counts ct_law_counts), sl_law_counts⟩)
    (c_law_counts : PySem.W.codeIn K cd_law_counts "_law_counts" = true)
    (k_law_counts : PySem.W.keepIn K (.ref f_law_counts) = true)
    (d_law_slip : PySem.W.nsIn K mainGlobals "_law_slip" = some (some (.ref f_law_slip)))
    (l_law_slip : K.lookup f_law_slip = some ⟨oc_law_slip, od_law_slip, .func (PySem.W.fnOf "_law_slip" "_law_slip" (defArgs s_law_slip) (defBody s_law_slip) (defScope s_law_slip) .none kV_law_slip dc_law_slip pm_law_slip an_law_slip cd_law_slip ct_law_slip), sl_law_slip⟩)
    (c_law_slip : PySem.W.codeIn K cd_law_slip "_law_slip" = true)
    (k_law_slip : PySem.W.keepIn K (.ref f_law_slip) = true)
    (d_law_sound : PySem.W.nsIn K mainGlobals "_law_sound" = some (some (.ref f_law_sound)))
    (l_law_sound : K.lookup f_law_sound = some ⟨oc_law_sound, od_law_sound, .func (PySem.W.fnOf "_law_sound" "_law_sound" (defArgs s_law_sound) (defBody s_law_sound) (defScope s_law_sound) .none kV_law_sound dc_law_sound pm_law_sound an_law_sound cd_law_sound ct_law_sound), sl_law_sound⟩)
    (c_law_sound : PySem.W.codeIn K cd_law_sound "_law_sound" = true)
    (k_law_sound : PySem.W.keepIn K (.ref f_law_sound) = true)
    (d_law_right : PySem.W.nsIn K mainGlobals "_law_right" = some (some (.ref f_law_right)))
    (l_law_right : K.lookup f_law_right = some ⟨oc_law_right, od_law_right, .func (PySem.W.fnOf "_law_right" "_law_right" (defArgs s_law_right) (defBody s_law_right) (defScope s_law_right) .none kV_law_right dc_law_right pm_law_right an_law_right cd_law_right ct_law_right), sl_law_right⟩)
    (c_law_right : PySem.W.codeIn K cd_law_right "_law_right" = true)
    (k_law_right : PySem.W.keepIn K (.ref f_law_right) = true)
    (d_law_spoilt : PySem.W.nsIn K mainGlobals "_law_spoilt" = some (some (.ref f_law_spoilt)))
    (l_law_spoilt : K.lookup f_law_spoilt = some ⟨oc_law_spoilt, od_law_spoilt, .func (PySem.W.fnOf "_law_spoilt" "_law_spoilt" (defArgs s_law_spoilt) (defBody s_law_spoilt) (defScope s_law_spoilt) .none kV_law_spoilt dc_law_spoilt pm_law_spoilt an_law_spoilt cd_law_spoilt ct_law_spoilt), sl_law_spoilt⟩)
    (c_law_spoilt : PySem.W.codeIn K cd_law_spoilt "_law_spoilt" = true)
    (k_law_spoilt : PySem.W.keepIn K (.ref f_law_spoilt) = true)
    (d_law : PySem.W.nsIn K mainGlobals "law" = some (some (.ref f_law)))
    (l_law : K.lookup f_law = some ⟨oc_law, od_law, .func (PySem.W.fnOf "law" "law" (defArgs s_law) (defBody s_law) (defScope s_law) .none kV_law dc_law pm_law an_law cd_law ct_law), sl_law⟩)
    (c_law : PySem.W.codeIn K cd_law "law" = true)
    (k_law : PySem.W.keepIn K (.ref f_law) = true)
    (x_cx : PySem.W.exmOne K (.ref C_Crooked) (.ref C_Crooked) = some true)
    (x_ka : PySem.W.exmAny K (.ref C_BadCells) [.ref C_BadCells, .ref C_NotSound] = some true)
    (x_kn : PySem.W.exmAny K (.ref C_NotSound) [.ref C_BadCells, .ref C_NotSound] = some true)
    (x_kb : PySem.W.kitOne K (.type "bool") (.type "bool") = some true)
    (x_nx : PySem.W.exmOne K (.ref C_NotSound) (.ref C_RingError) = some true)
    (x_nN : PySem.W.kitOne K (.ref C_NotSound) (.ref C_NotSound) = some true)
    (x_nS : PySem.W.kitOne K (.ref C_NotSound) (.ref C_NoCell) = some false)
    (x_nV : PySem.W.kitOne K (.ref C_NotSound) (.type "ValueError") = some true)
    (x_n8 : PySem.W.kitAny K (.ref C_NotSound) [.ref C_BadCells, .ref C_BadMark, .ref C_BadOrder, .ref C_BadSize, .ref C_Crooked, .ref C_NoHand, .ref C_NoRow, .ref C_NoText] = some false)
    (x_n5 : PySem.W.kitAny K (.ref C_NotSound) [.ref C_BadStand, .ref C_NoName, .ref C_NoTurn, .ref C_NoWaiting, .ref C_TooMany] = some false)
    (x_cxx : PySem.W.exmOne K (.ref C_NoCell) (.ref C_RingError) = some true)
    (x_cN : PySem.W.kitOne K (.ref C_NoCell) (.ref C_NotSound) = some false)
    (x_cS : PySem.W.kitOne K (.ref C_NoCell) (.ref C_NoCell) = some true)
    (x_cV : PySem.W.kitOne K (.ref C_NoCell) (.type "ValueError") = some true)
    (x_c8 : PySem.W.kitAny K (.ref C_NoCell) [.ref C_BadCells, .ref C_BadMark, .ref C_BadOrder, .ref C_BadSize, .ref C_Crooked, .ref C_NoHand, .ref C_NoRow, .ref C_NoText] = some false)
    (x_c5 : PySem.W.kitAny K (.ref C_NoCell) [.ref C_BadStand, .ref C_NoName, .ref C_NoTurn, .ref C_NoWaiting, .ref C_TooMany] = some false) :
    ∃ fd : FuncData, (∀ (s : Shared) (v : Value), BindsTo s fd ⟨[v], []⟩ [("script", v)]) ∧ ∀ base : Heap, K.In base → base.Ns mainGlobals mg → FnOk l.prog w K mg base (CXK l.prog w) 10 fa fd ["script"] (sp_law K) := by
  let cl : Cl := ⟨C_RingError, C_BadSize, C_NoTurn, C_BadMark, C_Crooked, C_NoCell, C_BadCells, C_BadOrder, C_NoHand, C_NoWaiting, C_NotSound, C_BadStand, C_TooMany, C_NoName, C_NoText, C_NoRow, t_HANDS⟩
  have e := hfa.symm.trans (PySem.W.mg_of X G d_law)
  cases e
  have T : Txt K mg cl := ⟨⟨PySem.W.mg_of X G a_RingError⟩,
    ⟨⟨e_BadSize, ga_BadSize, gn_BadSize, cl_BadSize, mb_BadSize, mo_BadSize, ic_BadSize, sg, tk⟩, PySem.W.mg_of X G a_BadSize⟩,
    ⟨⟨e_NoTurn, ga_NoTurn, gn_NoTurn, cl_NoTurn, mb_NoTurn, mo_NoTurn, ic_NoTurn, sg, tk⟩, PySem.W.mg_of X G a_NoTurn⟩,
    ⟨⟨e_BadMark, ga_BadMark, gn_BadMark, cl_BadMark, mb_BadMark, mo_BadMark, ic_BadMark, sg, tk⟩, PySem.W.mg_of X G a_BadMark⟩,
    ⟨⟨e_Crooked, ga_Crooked, gn_Crooked, cl_Crooked, mb_Crooked, mo_Crooked, ic_Crooked, sg, tk⟩, PySem.W.mg_of X G a_Crooked⟩,
    ⟨⟨e_NoCell, ga_NoCell, gn_NoCell, cl_NoCell, mb_NoCell, mo_NoCell, ic_NoCell, sg, tk⟩, PySem.W.mg_of X G a_NoCell⟩,
    ⟨⟨e_BadCells, ga_BadCells, gn_BadCells, cl_BadCells, mb_BadCells, mo_BadCells, ic_BadCells, sg, tk⟩, PySem.W.mg_of X G a_BadCells⟩,
    ⟨PySem.W.mg_of X G a_BadOrder⟩,
    ⟨⟨e_NoHand, ga_NoHand, gn_NoHand, cl_NoHand, mb_NoHand, mo_NoHand, ic_NoHand, sg, tk⟩, PySem.W.mg_of X G a_NoHand⟩,
    ⟨PySem.W.mg_of X G a_NoWaiting⟩,
    ⟨⟨e_NotSound, ga_NotSound, gn_NotSound, cl_NotSound, mb_NotSound, mo_NotSound, ic_NotSound, sg, tk⟩, PySem.W.mg_of X G a_NotSound⟩,
    ⟨PySem.W.mg_of X G a_BadStand⟩,
    ⟨PySem.W.mg_of X G a_TooMany⟩,
    ⟨PySem.W.mg_of X G a_NoName⟩,
    ⟨PySem.W.mg_of X G a_NoText⟩,
    ⟨PySem.W.mg_of X G a_NoRow⟩,
    ⟨_, PySem.W.mg_of X G q_LEAST_SIZE⟩,
    ⟨_, PySem.W.mg_of X G q_MOST_SIZE⟩,
    ⟨_, PySem.W.mg_of X G q_FREE⟩,
    ⟨_, PySem.W.mg_of X G q_MOST_MARK⟩,
    ⟨_, PySem.W.mg_of X G q_CELLS_OF_A_PLACE⟩,
    ⟨_, PySem.W.mg_of X G q_NEW_MARK⟩,
    ⟨_, PySem.W.mg_of X G q_NO_ORDER⟩,
    ⟨_, PySem.W.mg_of X G q_NO_TURN⟩,
    ⟨_, PySem.W.mg_of X G q_STILL⟩,
    ⟨_, PySem.W.mg_of X G q_RUNG⟩,
    PySem.W.mg_of X G q_HANDS,
    ⟨_, _, _, lk_HANDS, (show 2 ≤ sizeLine by decide), .cons ⟨_, rfl⟩ (.cons ⟨_, rfl⟩ (.nil))⟩,
    PySem.W.mg_none_of X G z_len,
    PySem.W.mg_none_of X G z_range,
    PySem.W.mg_none_of X G z_max,
    PySem.W.mg_none_of X G z_min,
    PySem.W.mg_none_of X G z_isinstance,
    PySem.W.mg_none_of X G z_int,
    PySem.W.mg_none_of X G z_bool,
    PySem.W.mg_none_of X G z_list,
    PySem.W.mg_none_of X G z_all,
    PySem.W.mg_none_of X G z_ValueError,
    PySem.W.mg_none_of X G z_zip⟩
  have D_check_size : DefT K mg "check_size" s_check_size ["size"] := .mk' X G d_check_size l_check_size c_check_size k_check_size fun _ _ _ _ _ _ us hl => match us, hl with | [_], _ => rfl
  have D_check_turn : DefT K mg "check_turn" s_check_turn ["size", "turn"] := .mk' X G d_check_turn l_check_turn c_check_turn k_check_turn fun _ _ _ _ _ _ us hl => match us, hl with | [_, _], _ => rfl
  have D_place_of : DefT K mg "place_of" s_place_of ["size", "turn"] := .mk' X G d_place_of l_place_of c_place_of k_place_of fun _ _ _ _ _ _ us hl => match us, hl with | [_, _], _ => rfl
  have D_onward : DefT K mg "onward" s_onward ["size", "turn", "many"] := .mk' X G d_onward l_onward c_onward k_onward fun _ _ _ _ _ _ us hl => match us, hl with | [_, _, _], _ => rfl
  have D_distance : DefT K mg "distance" s_distance ["size", "one", "other"] := .mk' X G d_distance l_distance c_distance k_distance fun _ _ _ _ _ _ us hl => match us, hl with | [_, _, _], _ => rfl
  have D_check_mark : DefT K mg "check_mark" s_check_mark ["mark"] := .mk' X G d_check_mark l_check_mark c_check_mark k_check_mark fun _ _ _ _ _ _ us hl => match us, hl with | [_], _ => rfl
  have D_mark_lap : DefT K mg "mark_lap" s_mark_lap ["mark"] := .mk' X G d_mark_lap l_mark_lap c_mark_lap k_mark_lap fun _ _ _ _ _ _ us hl => match us, hl with | [_], _ => rfl
  have D_mark_side : DefT K mg "mark_side" s_mark_side ["mark"] := .mk' X G d_mark_side l_mark_side c_mark_side k_mark_side fun _ _ _ _ _ _ us hl => match us, hl with | [_], _ => rfl
  have D_check_hand : DefT K mg "check_hand" s_check_hand ["hand"] := .mk' X G d_check_hand l_check_hand c_check_hand k_check_hand fun _ _ _ _ _ _ us hl => match us, hl with | [_], _ => rfl
  have D_mark_cell : DefT K mg "mark_cell" s_mark_cell ["place"] := .mk' X G d_mark_cell l_mark_cell c_mark_cell k_mark_cell fun _ _ _ _ _ _ us hl => match us, hl with | [_], _ => rfl
  have D_number_cell : DefT K mg "number_cell" s_number_cell ["place"] := .mk' X G d_number_cell l_number_cell c_number_cell k_number_cell fun _ _ _ _ _ _ us hl => match us, hl with | [_], _ => rfl
  have D_left_cell : DefT K mg "left_cell" s_left_cell ["place"] := .mk' X G d_left_cell l_left_cell c_left_cell k_left_cell fun _ _ _ _ _ _ us hl => match us, hl with | [_], _ => rfl
  have D_thing_cell : DefT K mg "thing_cell" s_thing_cell ["place"] := .mk' X G d_thing_cell l_thing_cell c_thing_cell k_thing_cell fun _ _ _ _ _ _ us hl => match us, hl with | [_], _ => rfl
  have D_card_cell : DefT K mg "card_cell" s_card_cell ["size", "hand"] := .mk' X G d_card_cell l_card_cell c_card_cell k_card_cell fun _ _ _ _ _ _ us hl => match us, hl with | [_, _], _ => rfl
  have D_bell_cell : DefT K mg "bell_cell" s_bell_cell ["size", "hand"] := .mk' X G d_bell_cell l_bell_cell c_bell_cell k_bell_cell fun _ _ _ _ _ _ us hl => match us, hl with | [_, _], _ => rfl
  have D_new_cells : DefT K mg "new_cells" s_new_cells ["size"] := .mk' X G d_new_cells l_new_cells c_new_cells k_new_cells fun _ _ _ _ _ _ us hl => match us, hl with | [_], _ => rfl
  have D_marks_among : DefT K mg "marks_among" s_marks_among ["cells"] := .mk' X G d_marks_among l_marks_among c_marks_among k_marks_among fun _ _ _ _ _ _ us hl => match us, hl with | [_], _ => rfl
  have D_size_of_cells : DefT K mg "size_of_cells" s_size_of_cells ["cells"] := .mk' X G d_size_of_cells l_size_of_cells c_size_of_cells k_size_of_cells fun _ _ _ _ _ _ us hl => match us, hl with | [_], _ => rfl
  have D_check_numbers : DefT K mg "check_numbers" s_check_numbers ["size", "cells"] := .mk' X G d_check_numbers l_check_numbers c_check_numbers k_check_numbers fun _ _ _ _ _ _ us hl => match us, hl with | [_, _], _ => rfl
  have D_check_bits : DefT K mg "check_bits" s_check_bits ["bits"] := .mk' X G d_check_bits l_check_bits c_check_bits k_check_bits fun _ _ _ _ _ _ us hl => match us, hl with | [_], _ => rfl
  have D_check_marks : DefT K mg "check_marks" s_check_marks ["marks"] := .mk' X G d_check_marks l_check_marks c_check_marks k_check_marks fun _ _ _ _ _ _ us hl => match us, hl with | [_], _ => rfl
  have D_alike_ahead : DefT K mg "alike_ahead" s_alike_ahead ["bits"] := .mk' X G d_alike_ahead l_alike_ahead c_alike_ahead k_alike_ahead fun _ _ _ _ _ _ us hl => match us, hl with | [_], _ => rfl
  have D_front : DefT K mg "front" s_front ["bits"] := .mk' X G d_front l_front c_front k_front fun _ _ _ _ _ _ us hl => match us, hl with | [_], _ => rfl
  have D_taker_bit : DefT K mg "taker_bit" s_taker_bit ["mark"] := .mk' X G d_taker_bit l_taker_bit c_taker_bit k_taker_bit fun _ _ _ _ _ _ us hl => match us, hl with | [_], _ => rfl
  have D_giver_turn : DefT K mg "giver_turn" s_giver_turn ["marks"] := .mk' X G d_giver_turn l_giver_turn c_giver_turn k_giver_turn fun _ _ _ _ _ _ us hl => match us, hl with | [_], _ => rfl
  have D_taker_turn : DefT K mg "taker_turn" s_taker_turn ["marks"] := .mk' X G d_taker_turn l_taker_turn c_taker_turn k_taker_turn fun _ _ _ _ _ _ us hl => match us, hl with | [_], _ => rfl
  have D_sound_marks : DefT K mg "sound_marks" s_sound_marks ["marks"] := .mk' X G d_sound_marks l_sound_marks c_sound_marks k_sound_marks fun _ _ _ _ _ _ us hl => match us, hl with | [_], _ => rfl
  have D_owner : DefT K mg "owner" s_owner ["cells", "place"] := .mk' X G d_owner l_owner c_owner k_owner fun _ _ _ _ _ _ us hl => match us, hl with | [_, _], _ => rfl
  have D_slip_at : DefT K mg "slip_at" s_slip_at ["cells", "place"] := .mk' X G d_slip_at l_slip_at c_slip_at k_slip_at fun _ _ _ _ _ _ us hl => match us, hl with | [_, _], _ => rfl
  have D_slips : DefT K mg "slips" s_slips ["cells"] := .mk' X G d_slips l_slips c_slips k_slips fun _ _ _ _ _ _ us hl => match us, hl with | [_], _ => rfl
  have D_follows_slip : DefT K mg "follows_slip" s_follows_slip ["slip", "ahead"] := .mk' X G d_follows_slip l_follows_slip c_follows_slip k_follows_slip fun _ _ _ _ _ _ us hl => match us, hl with | [_, _], _ => rfl
  have D_sound_slips : DefT K mg "sound_slips" s_sound_slips ["size", "row"] := .mk' X G d_sound_slips l_sound_slips c_sound_slips k_sound_slips fun _ _ _ _ _ _ us hl => match us, hl with | [_, _], _ => rfl
  have D_sound_end : DefT K mg "sound_end" s_sound_end ["cells"] := .mk' X G d_sound_end l_sound_end c_sound_end k_sound_end fun _ _ _ _ _ _ us hl => match us, hl with | [_], _ => rfl
  have D_sound_board : DefT K mg "sound_board" s_sound_board ["cells"] := .mk' X G d_sound_board l_sound_board c_sound_board k_sound_board fun _ _ _ _ _ _ us hl => match us, hl with | [_], _ => rfl
  have D_law_well : DefT K mg "_law_well" s_law_well ["script", "k"] := .mk' X G d_law_well l_law_well c_law_well k_law_well fun _ _ _ _ _ _ us hl => match us, hl with | [_, _], _ => rfl
  have D_law_take : DefT K mg "_law_take" s_law_take ["well", "many"] := .mk' X G d_law_take l_law_take c_law_take k_law_take fun _ _ _ _ _ _ us hl => match us, hl with | [_, _], _ => rfl
  have D_law_far : DefT K mg "_law_far" s_law_far ["well"] := .mk' X G d_law_far l_law_far c_law_far k_law_far fun _ _ _ _ _ _ us hl => match us, hl with | [_], _ => rfl
  have D_law_marks : DefT K mg "_law_marks" s_law_marks ["size", "freed", "given"] := .mk' X G d_law_marks l_law_marks c_law_marks k_law_marks fun _ _ _ _ _ _ us hl => match us, hl with | [_, _, _], _ => rfl
  have D_law_order : DefT K mg "_law_order" s_law_order ["well", "size"] := .mk' X G d_law_order l_law_order c_law_order k_law_order fun _ _ _ _ _ _ us hl => match us, hl with | [_, _], _ => rfl
  have D_law_parts : DefT K mg "_law_parts" s_law_parts ["orders"] := .mk' X G d_law_parts l_law_parts c_law_parts k_law_parts fun _ _ _ _ _ _ us hl => match us, hl with | [_], _ => rfl
  have D_law_cells : DefT K mg "_law_cells" s_law_cells ["size", "orders", "freed", "given"] := .mk' X G d_law_cells l_law_cells c_law_cells k_law_cells fun _ _ _ _ _ _ us hl => match us, hl with | [_, _, _, _], _ => rfl
  have D_law_asked : DefT K mg "_law_asked" s_law_asked ["way", "cells", "place"] := .mk' X G d_law_asked l_law_asked c_law_asked k_law_asked fun _ _ _ _ _ _ us hl => match us, hl with | [_, _, _], _ => rfl
  have D_law_counts : DefT K mg "_law_counts" s_law_counts ["size", "marks"] := .mk' X G d_law_counts l_law_counts c_law_counts k_law_counts fun _ _ _ _ _ _ us hl => match us, hl with | [_, _], _ => rfl
  have D_law_slip : DefT K mg "_law_slip" s_law_slip ["cells", "place"] := .mk' X G d_law_slip l_law_slip c_law_slip k_law_slip fun _ _ _ _ _ _ us hl => match us, hl with | [_, _], _ => rfl
  have D_law_sound : DefT K mg "_law_sound" s_law_sound ["size", "told"] := .mk' X G d_law_sound l_law_sound c_law_sound k_law_sound fun _ _ _ _ _ _ us hl => match us, hl with | [_, _], _ => rfl
  have D_law_right : DefT K mg "_law_right" s_law_right ["size", "cells", "well"] := .mk' X G d_law_right l_law_right c_law_right k_law_right fun _ _ _ _ _ _ us hl => match us, hl with | [_, _, _], _ => rfl
  have D_law_spoilt : DefT K mg "_law_spoilt" s_law_spoilt ["well", "size", "cells"] := .mk' X G d_law_spoilt l_law_spoilt c_law_spoilt k_law_spoilt fun _ _ _ _ _ _ us hl => match us, hl with | [_, _, _], _ => rfl
  have F_law := fun_mk (st := s_law) l_law c_law k_law
  refine ⟨PySem.W.fnOf "law" "law" (defArgs s_law) (defBody s_law) (defScope s_law) .none kV_law dc_law pm_law an_law cd_law ct_law, fun s v => .of_eq rfl, fun base _ _ => ?_⟩
  have kd := (⟨⟨T.c_NotSound.k, x_nx, x_nN, x_nS, x_nV, x_n8, x_n5⟩, ⟨T.c_NoCell.k, x_cxx, x_cN, x_cS, x_cV, x_c8, x_c5⟩⟩ : Kd K cl)
  have G1 := (ok_check_size D_check_size T : FnT l.prog w K mg base "check_size" 1 ["size"] (sp_check_size cl))
  have G2 := (ok_check_hand D_check_hand T : FnT l.prog w K mg base "check_hand" 1 ["hand"] (sp_check_hand cl))
  have T1 := ok_check_turn D_check_turn T G1
  have T2 := ok_place_of D_place_of T T1
  have T3 := ok_onward D_onward T T1
  have T4 := ok_distance D_distance T T1
  have C1 := (ok_mark_cell D_mark_cell T : FnT l.prog w K mg base "mark_cell" 1 ["place"] (sp_cellOf 0))
  have C2 := (ok_number_cell D_number_cell T : FnT l.prog w K mg base "number_cell" 1 ["place"] (sp_cellOf 1))
  have C3 := (ok_left_cell D_left_cell T : FnT l.prog w K mg base "left_cell" 1 ["place"] (sp_cellOf 2))
  have C4 := (ok_thing_cell D_thing_cell T : FnT l.prog w K mg base "thing_cell" 1 ["place"] (sp_cellOf 3))
  have G3 := ok_card_cell D_card_cell T G1 G2
  have G4 := ok_bell_cell D_bell_cell T G3
  have G5 := (ok_new_cells D_new_cells T : FnT l.prog w K mg base "new_cells" 1 ["size"] sp_new_cells)
  have M0 := (ok_check_mark D_check_mark T : FnT l.prog w K mg base "check_mark" 1 ["mark"] (sp_check_mark cl))
  have M1 := (ok_mark_lap D_mark_lap T : FnT l.prog w K mg base "mark_lap" 1 ["mark"] sp_mark_lap)
  have M2 := (ok_mark_side D_mark_side T : FnT l.prog w K mg base "mark_side" 1 ["mark"] sp_mark_side)
  have M3 := ok_taker_bit D_taker_bit T M1 M2
  have F1 := ok_check_bits D_check_bits T G1
  have F2 := (ok_alike_ahead D_alike_ahead T : FnT l.prog w K mg base "alike_ahead" 1 ["bits"] (sp_alike_ahead K))
  have F3 := ok_front D_front T F1 F2 T3
  have F4 := ok_check_marks D_check_marks T G1 M0
  have F5 := ok_giver_turn D_giver_turn T F4 M1 F3
  have F6 := ok_taker_turn D_taker_turn T F4 M3 F3
  have F7 := ok_sound_marks D_sound_marks T x_cx F4 T4 F6 F5
  have S1 := ok_marks_among D_marks_among T C1
  have S2 := ok_check_numbers D_check_numbers T S1 G3 G4
  have S3 := ok_size_of_cells D_size_of_cells T G5 S2
  have S5 := ok_owner D_owner T S3 C1 M2
  have S6 := ok_slip_at D_slip_at T C2 C3 C4
  have S7 := ok_slips D_slips T S3 S1 F7 F6 F5 T4 T3 T2 S6
  have S8 := (ok_follows_slip D_follows_slip T : FnT l.prog w K mg base "follows_slip" 1 ["slip", "ahead"] sp_follows_slip)
  have S9 := ok_sound_slips D_sound_slips T S8
  have SA := ok_sound_end D_sound_end T S1 F5 T3 T2 S6
  have SB := ok_sound_board D_sound_board T x_ka x_kn S7 SA S9 S3
  have L1 := (ok_law_take D_law_take T : FnT l.prog w K mg base "_law_take" 1 ["well", "many"] sp_law_take)
  have L2 := (ok_law_well D_law_well T : FnT l.prog w K mg base "_law_well" 1 ["script", "k"] (sp_law_well K))
  have L4 := ok_law_far D_law_far T L1
  have L5 := (ok_law_marks D_law_marks T : FnT l.prog w K mg base "_law_marks" 1 ["size", "freed", "given"] sp_law_marks)
  have L6 := ok_law_order D_law_order T L1
  have L7 := (ok_law_parts D_law_parts T : FnT l.prog w K mg base "_law_parts" 1 ["orders"] sp_law_parts)
  have L8 := ok_law_cells D_law_cells T L7 L5
  have L9 := ok_law_asked D_law_asked T kd S7 S5
  have LA := (ok_law_slip D_law_slip T : FnT l.prog w K mg base "_law_slip" 1 ["cells", "place"] sp_law_slip)
  have LB := ok_law_counts D_law_counts T L5
  have LC := (ok_law_sound D_law_sound T : FnT l.prog w K mg base "_law_sound" 1 ["size", "told"] sp_law_sound)
  have LD := ok_law_right D_law_right T x_kb LB L9 L4 L1 SB LA LC S7
  have LE := ok_law_spoilt D_law_spoilt T L1 L4
  have H_law := ok_law F_law T L1 L2 L6 L7 L8 LD LE
  exact H_law
theorem walk {l : PySem.W.OpenLaw} {q : Program} {loose : List Str} {XP : (Str → Option Value) → Heap → Prop} {YP : World → Heap → Prop} {d : DefRec} {K : Params → PySem.W.Frag} (hn : l.most = some 63) (hdf : d.params.defaults = [])
    (hY : ∀ (w : World) (h : Heap), YP w h → (K w.params).In h)
    (F : ∀ (w : World) (mg : Str → Option Value) (fa : Addr) (h : Heap), (K w.params).In h → h.Ns mainGlobals mg → mg d.name = some (.ref fa) →
      ∃ fd : FuncData, (∀ (s : Shared) (u : Value), BindsTo s fd ⟨[u], []⟩ [("script", u)]) ∧ ∀ base : Heap, (K w.params).In base → base.Ns mainGlobals mg → FnOk l.prog w (K w.params) mg base (CXK l.prog w) 10 fa fd ["script"] (sp_law (K w.params))) :
    PySem.W.WalkO q loose XP YP l.row.toRowW d [] (fun f vs => PySem.call f vs) :=
  L2.walk_of (n := 63) (k := 10) (x := "script") (CX := fun w => CXK l.prog w) (sp := fun w => sp_law (K w.params)) hn (by decide) hdf ⟨rfl, by decide, by decide⟩ hY F (fun _ _ a ns hl _ hS => ⟨a, ns, rfl, hS, hl, fun _ => rfl⟩)
    fun _ _ _ _ _ z => by obtain ⟨_, _, _, _, _, q⟩ := z; exact q
end S
open PySem PySem.W PyProof.Rows
set_option maxRecDepth 100000
set_option maxHeartbeats 0
def PySem.W.Fast.tw10042083083395451092 : Unit := ()
def PySem.W.Fast.tw10206956779759575209 : Unit := ()
def PySem.W.Fast.tw10374632558016547081 : Unit := ()
def PySem.W.Fast.tw10416115033411757899 : Unit := ()
def PySem.W.Fast.tw11018145951921344529 : Unit := ()
def PySem.W.Fast.tw11521511281804667912 : Unit := ()
def PySem.W.Fast.tw12342807166695948425 : Unit := ()
def PySem.W.Fast.tw13114645530532618160 : Unit := ()
def PySem.W.Fast.tw13469501207593853456 : Unit := ()
def PySem.W.Fast.tw13732051381489595846 : Unit := ()
def PySem.W.Fast.tw14024141229114651172 : Unit := ()
def PySem.W.Fast.tw14332724281983326942 : Unit := ()
def PySem.W.Fast.tw14383893971135437652 : Unit := ()
def PySem.W.Fast.tw14676987329357865820 : Unit := ()
def PySem.W.Fast.tw1478030337931831861 : Unit := ()
def PySem.W.Fast.tw14831331821628862639 : Unit := ()
def PySem.W.Fast.tw15163409612377130007 : Unit := ()
def PySem.W.Fast.tw15528221797031607849 : Unit := ()
def PySem.W.Fast.tw16766683885213920930 : Unit := ()
def PySem.W.Fast.tw17653592248189364939 : Unit := ()
def PySem.W.Fast.tw17710873009340938204 : Unit := ()
def PySem.W.Fast.tw17724038513149304489 : Unit := ()
def PySem.W.Fast.tw17744993626210230056 : Unit := ()
def PySem.W.Fast.tw18191872463588725041 : Unit := ()
def PySem.W.Fast.tw18437792190763421558 : Unit := ()
def PySem.W.Fast.tw2495115493620250326 : Unit := ()
def PySem.W.Fast.tw2786648768249225349 : Unit := ()
def PySem.W.Fast.tw3112634735961092027 : Unit := ()
def PySem.W.Fast.tw3460631979923484722 : Unit := ()
def PySem.W.Fast.tw3615178456390077923 : Unit := ()
def PySem.W.Fast.tw3998647374267775353 : Unit := ()
def PySem.W.Fast.tw4338949390525040424 : Unit := ()
def PySem.W.Fast.tw52312688904243638 : Unit := ()
def PySem.W.Fast.tw592324957102982844 : Unit := ()
def PySem.W.Fast.tw6427576097997697322 : Unit := ()
def PySem.W.Fast.tw6512149657230936976 : Unit := ()
def PySem.W.Fast.tw7601766783294079450 : Unit := ()
def PySem.W.Fast.tw7774113678449685934 : Unit := ()
def PySem.W.Fast.tw8129399028645417746 : Unit := ()
def PySem.W.Fast.tw861502493610598483 : Unit := ()
def PySem.W.Fast.tw8715888555302371167 : Unit := ()
def PySem.W.Fast.tw8997383693586321770 : Unit := ()
def PySem.W.Fast.tw9380741260308362100 : Unit := ()
def PySem.W.Fast.tw938635154573522699 : Unit := ()
def PySem.W.Fast.tw9464783005390448368 : Unit := ()
def PySem.W.Fast.tw9582823730064241283 : Unit := ()
open_top hd for PySem.Challenge.rw_slipring_k17_looks_at_spoilt_cells
theorem PySem.Challenge.cw_slipring_k17_looks_at_spoilt_cells_holds : PySem.Challenge.rw_slipring_k17_looks_at_spoilt_cells.Holds := by
  refine hd ?_
  k_fill
  refine S.walk (l := PySem.Challenge.rw_slipring_k17_looks_at_spoilt_cells) rfl rfl (fun w h Y => PySem.W.kIn_of Y) ?F
  case F =>
    intro w mg fa h KX G hmg
    refine' S.all_mk KX G hmg ?a_RingError ?a_BadSize ?e_BadSize ?ga_BadSize ?gn_BadSize ?cl_BadSize ?mb_BadSize ?mo_BadSize ?ic_BadSize ?a_NoTurn ?e_NoTurn ?ga_NoTurn ?gn_NoTurn ?cl_NoTurn ?mb_NoTurn ?mo_NoTurn ?ic_NoTurn ?a_BadMark ?e_BadMark ?ga_BadMark ?gn_BadMark ?cl_BadMark ?mb_BadMark ?mo_BadMark ?ic_BadMark ?a_Crooked ?e_Crooked ?ga_Crooked ?gn_Crooked ?cl_Crooked ?mb_Crooked ?mo_Crooked ?ic_Crooked ?a_NoCell ?e_NoCell ?ga_NoCell ?gn_NoCell ?cl_NoCell ?mb_NoCell ?mo_NoCell ?ic_NoCell ?a_BadCells ?e_BadCells ?ga_BadCells ?gn_BadCells ?cl_BadCells ?mb_BadCells ?mo_BadCells ?ic_BadCells ?a_BadOrder ?a_NoHand ?e_NoHand ?ga_NoHand ?gn_NoHand ?cl_NoHand ?mb_NoHand ?mo_NoHand ?ic_NoHand ?a_NoWaiting ?a_NotSound ?e_NotSound ?ga_NotSound ?gn_NotSound ?cl_NotSound ?mb_NotSound ?mo_NotSound ?ic_NotSound ?a_BadStand ?a_TooMany ?a_NoName ?a_NoText ?a_NoRow ?sg ?tk ?q_LEAST_SIZE ?q_MOST_SIZE ?q_FREE ?q_MOST_MARK ?q_CELLS_OF_A_PLACE ?q_NEW_MARK ?q_NO_ORDER ?q_NO_TURN ?q_STILL ?q_RUNG ?q_HANDS ?lk_HANDS ?z_len ?z_range ?z_max ?z_min ?z_isinstance ?z_int ?z_bool ?z_list ?z_all ?z_ValueError ?z_zip ?d_check_size ?l_check_size ?c_check_size ?k_check_size ?d_check_turn ?l_check_turn ?c_check_turn ?k_check_turn ?d_place_of ?l_place_of ?c_place_of ?k_place_of ?d_onward ?l_onward ?c_onward ?k_onward ?d_distance ?l_distance ?c_distance ?k_distance ?d_check_mark ?l_check_mark ?c_check_mark ?k_check_mark ?d_mark_lap ?l_mark_lap ?c_mark_lap ?k_mark_lap ?d_mark_side ?l_mark_side ?c_mark_side ?k_mark_side ?d_check_hand ?l_check_hand ?c_check_hand ?k_check_hand ?d_mark_cell ?l_mark_cell ?c_mark_cell ?k_mark_cell ?d_number_cell ?l_number_cell ?c_number_cell ?k_number_cell ?d_left_cell ?l_left_cell ?c_left_cell ?k_left_cell ?d_thing_cell ?l_thing_cell ?c_thing_cell ?k_thing_cell ?d_card_cell ?l_card_cell ?c_card_cell ?k_card_cell ?d_bell_cell ?l_bell_cell ?c_bell_cell ?k_bell_cell ?d_new_cells ?l_new_cells ?c_new_cells ?k_new_cells ?d_marks_among ?l_marks_among ?c_marks_among ?k_marks_among ?d_size_of_cells ?l_size_of_cells ?c_size_of_cells ?k_size_of_cells ?d_check_numbers ?l_check_numbers ?c_check_numbers ?k_check_numbers ?d_check_bits ?l_check_bits ?c_check_bits ?k_check_bits ?d_check_marks ?l_check_marks ?c_check_marks ?k_check_marks ?d_alike_ahead ?l_alike_ahead ?c_alike_ahead ?k_alike_ahead ?d_front ?l_front ?c_front ?k_front ?d_taker_bit ?l_taker_bit ?c_taker_bit ?k_taker_bit ?d_giver_turn ?l_giver_turn ?c_giver_turn ?k_giver_turn ?d_taker_turn ?l_taker_turn ?c_taker_turn ?k_taker_turn ?d_sound_marks ?l_sound_marks ?c_sound_marks ?k_sound_marks ?d_owner ?l_owner ?c_owner ?k_owner ?d_slip_at ?l_slip_at ?c_slip_at ?k_slip_at ?d_slips ?l_slips ?c_slips ?k_slips ?d_follows_slip ?l_follows_slip ?c_follows_slip ?k_follows_slip ?d_sound_slips ?l_sound_slips ?c_sound_slips ?k_sound_slips ?d_sound_end ?l_sound_end ?c_sound_end ?k_sound_end ?d_sound_board ?l_sound_board ?c_sound_board ?k_sound_board ?d_law_well ?l_law_well ?c_law_well ?k_law_well ?d_law_take ?l_law_take ?c_law_take ?k_law_take ?d_law_far ?l_law_far ?c_law_far ?k_law_far ?d_law_marks ?l_law_marks ?c_law_marks ?k_law_marks ?d_law_order ?l_law_order ?c_law_order ?k_law_order ?d_law_parts ?l_law_parts ?c_law_parts ?k_law_parts ?d_law_cells ?l_law_cells ?c_law_cells ?k_law_cells ?d_law_asked ?l_law_asked ?c_law_asked ?k_law_asked ?d_law_counts ?l_law_counts ?c_law_counts ?k_law_counts ?d_law_slip ?l_law_slip ?c_law_slip ?k_law_slip ?d_law_sound ?l_law_sound ?c_law_sound ?k_law_sound ?d_law_right ?l_law_right ?c_law_right ?k_law_right ?d_law_spoilt ?l_law_spoilt ?c_law_spoilt ?k_law_spoilt ?d_law ?l_law ?c_law ?k_law ?x_cx ?x_ka ?x_kn ?x_kb ?x_nx ?x_nN ?x_nS ?x_nV ?x_n8 ?x_n5 ?x_cxx ?x_cN ?x_cS ?x_cV ?x_c8 ?x_c5
    (case a_RingError => first | k_is | kit_is | kts_exm | kernel_rfl)
    (case a_BadSize => first | k_is | kit_is | kts_exm | kernel_rfl)
    (case e_BadSize => first | k_is | kit_is | kts_exm | kernel_rfl)
    (case ga_BadSize => first | k_is | kit_is | kts_exm | kernel_rfl)
    (case gn_BadSize => first | k_is | kit_is | kts_exm | kernel_rfl)
    (case cl_BadSize => first | k_is | kit_is | kts_exm | kernel_rfl)
    (case mb_BadSize => first | k_is | kit_is | kts_exm | kernel_rfl)
    (case mo_BadSize => first | k_is | kit_is | kts_exm | kernel_rfl)
    (case ic_BadSize => first | k_is | kit_is | kts_exm | kernel_rfl)
    (case a_NoTurn => first | k_is | kit_is | kts_exm | kernel_rfl)
    (case e_NoTurn => first | k_is | kit_is | kts_exm | kernel_rfl)
    (case ga_NoTurn => first | k_is | kit_is | kts_exm | kernel_rfl)
    (case gn_NoTurn => first | k_is | kit_is | kts_exm | kernel_rfl)
    (case cl_NoTurn => first | k_is | kit_is | kts_exm | kernel_rfl)
    (case mb_NoTurn => first | k_is | kit_is | kts_exm | kernel_rfl)
    (case mo_NoTurn => first | k_is | kit_is | kts_exm | kernel_rfl)
    (case ic_NoTurn => first | k_is | kit_is | kts_exm | kernel_rfl)
    (case a_BadMark => first | k_is | kit_is | kts_exm | kernel_rfl)
    (case e_BadMark => first | k_is | kit_is | kts_exm | kernel_rfl)
    (case ga_BadMark => first | k_is | kit_is | kts_exm | kernel_rfl)
    (case gn_BadMark => first | k_is | kit_is | kts_exm | kernel_rfl)
    (case cl_BadMark => first | k_is | kit_is | kts_exm | kernel_rfl)
    (case mb_BadMark => first | k_is | kit_is | kts_exm | kernel_rfl)
    (case mo_BadMark => first | k_is | kit_is | kts_exm | kernel_rfl)
    (case ic_BadMark => first | k_is | kit_is | kts_exm | kernel_rfl)
    (case a_Crooked => first | k_is | kit_is | kts_exm | kernel_rfl)
    (case e_Crooked => first | k_is | kit_is | kts_exm | kernel_rfl)
    (case ga_Crooked => first | k_is | kit_is | kts_exm | kernel_rfl)
    (case gn_Crooked => first | k_is | kit_is | kts_exm | kernel_rfl)
    (case cl_Crooked => first | k_is | kit_is | kts_exm | kernel_rfl)
    (case mb_Crooked => first | k_is | kit_is | kts_exm | kernel_rfl)
    (case mo_Crooked => first | k_is | kit_is | kts_exm | kernel_rfl)
    (case ic_Crooked => first | k_is | kit_is | kts_exm | kernel_rfl)
    (case a_NoCell => first | k_is | kit_is | kts_exm | kernel_rfl)
    (case e_NoCell => first | k_is | kit_is | kts_exm | kernel_rfl)
    (case ga_NoCell => first | k_is | kit_is | kts_exm | kernel_rfl)
    (case gn_NoCell => first | k_is | kit_is | kts_exm | kernel_rfl)
    (case cl_NoCell => first | k_is | kit_is | kts_exm | kernel_rfl)
    (case mb_NoCell => first | k_is | kit_is | kts_exm | kernel_rfl)
    (case mo_NoCell => first | k_is | kit_is | kts_exm | kernel_rfl)
    (case ic_NoCell => first | k_is | kit_is | kts_exm | kernel_rfl)
    (case a_BadCells => first | k_is | kit_is | kts_exm | kernel_rfl)
    (case e_BadCells => first | k_is | kit_is | kts_exm | kernel_rfl)
    (case ga_BadCells => first | k_is | kit_is | kts_exm | kernel_rfl)
    (case gn_BadCells => first | k_is | kit_is | kts_exm | kernel_rfl)
    (case cl_BadCells => first | k_is | kit_is | kts_exm | kernel_rfl)
    (case mb_BadCells => first | k_is | kit_is | kts_exm | kernel_rfl)
    (case mo_BadCells => first | k_is | kit_is | kts_exm | kernel_rfl)
    (case ic_BadCells => first | k_is | kit_is | kts_exm | kernel_rfl)
    (case a_BadOrder => first | k_is | kit_is | kts_exm | kernel_rfl)
    (case a_NoHand => first | k_is | kit_is | kts_exm | kernel_rfl)
    (case e_NoHand => first | k_is | kit_is | kts_exm | kernel_rfl)
    (case ga_NoHand => first | k_is | kit_is | kts_exm | kernel_rfl)
    (case gn_NoHand => first | k_is | kit_is | kts_exm | kernel_rfl)
    (case cl_NoHand => first | k_is | kit_is | kts_exm | kernel_rfl)
    (case mb_NoHand => first | k_is | kit_is | kts_exm | kernel_rfl)
    (case mo_NoHand => first | k_is | kit_is | kts_exm | kernel_rfl)
    (case ic_NoHand => first | k_is | kit_is | kts_exm | kernel_rfl)
    (case a_NoWaiting => first | k_is | kit_is | kts_exm | kernel_rfl)
    (case a_NotSound => first | k_is | kit_is | kts_exm | kernel_rfl)
    (case e_NotSound => first | k_is | kit_is | kts_exm | kernel_rfl)
    (case ga_NotSound => first | k_is | kit_is | kts_exm | kernel_rfl)
    (case gn_NotSound => first | k_is | kit_is | kts_exm | kernel_rfl)
    (case cl_NotSound => first | k_is | kit_is | kts_exm | kernel_rfl)
    (case mb_NotSound => first | k_is | kit_is | kts_exm | kernel_rfl)
    (case mo_NotSound => first | k_is | kit_is | kts_exm | kernel_rfl)
    (case ic_NotSound => first | k_is | kit_is | kts_exm | kernel_rfl)
    (case a_BadStand => first | k_is | kit_is | kts_exm | kernel_rfl)
    (case a_TooMany => first | k_is | kit_is | kts_exm | kernel_rfl)
    (case a_NoName => first | k_is | kit_is | kts_exm | kernel_rfl)
    (case a_NoText => first | k_is | kit_is | kts_exm | kernel_rfl)
    (case a_NoRow => first | k_is | kit_is | kts_exm | kernel_rfl)
    (case sg => first | k_is | kit_is | kts_exm | kernel_rfl)
    (case tk => first | k_is | kit_is | kts_exm | kernel_rfl)
    (case q_LEAST_SIZE => first | k_is | kit_is | kts_exm | kernel_rfl)
    (case q_MOST_SIZE => first | k_is | kit_is | kts_exm | kernel_rfl)
    (case q_FREE => first | k_is | kit_is | kts_exm | kernel_rfl)
    (case q_MOST_MARK => first | k_is | kit_is | kts_exm | kernel_rfl)
    (case q_CELLS_OF_A_PLACE => first | k_is | kit_is | kts_exm | kernel_rfl)
    (case q_NEW_MARK => first | k_is | kit_is | kts_exm | kernel_rfl)
    (case q_NO_ORDER => first | k_is | kit_is | kts_exm | kernel_rfl)
    (case q_NO_TURN => first | k_is | kit_is | kts_exm | kernel_rfl)
    (case q_STILL => first | k_is | kit_is | kts_exm | kernel_rfl)
    (case q_RUNG => first | k_is | kit_is | kts_exm | kernel_rfl)
    (case q_HANDS => first | k_is | kit_is | kts_exm | kernel_rfl)
    (case lk_HANDS => first | k_is | kit_is | kts_exm | kernel_rfl)
    (case z_len => first | k_is | kit_is | kts_exm | kernel_rfl)
    (case z_range => first | k_is | kit_is | kts_exm | kernel_rfl)
    (case z_max => first | k_is | kit_is | kts_exm | kernel_rfl)
    (case z_min => first | k_is | kit_is | kts_exm | kernel_rfl)
    (case z_isinstance => first | k_is | kit_is | kts_exm | kernel_rfl)
    (case z_int => first | k_is | kit_is | kts_exm | kernel_rfl)
    (case z_bool => first | k_is | kit_is | kts_exm | kernel_rfl)
    (case z_list => first | k_is | kit_is | kts_exm | kernel_rfl)
    (case z_all => first | k_is | kit_is | kts_exm | kernel_rfl)
    (case z_ValueError => first | k_is | kit_is | kts_exm | kernel_rfl)
    (case z_zip => first | k_is | kit_is | kts_exm | kernel_rfl)
    (case d_check_size => first | k_is | kit_is | kts_exm | kernel_rfl)
    (case l_check_size => first | k_is | kit_is | kts_exm | kernel_rfl)
    (case c_check_size => first | k_is | kit_is | kts_exm | kernel_rfl)
    (case k_check_size => first | k_is | kit_is | kts_exm | kernel_rfl)
    (case d_check_turn => first | k_is | kit_is | kts_exm | kernel_rfl)
    (case l_check_turn => first | k_is | kit_is | kts_exm | kernel_rfl)
    (case c_check_turn => first | k_is | kit_is | kts_exm | kernel_rfl)
    (case k_check_turn => first | k_is | kit_is | kts_exm | kernel_rfl)
    (case d_place_of => first | k_is | kit_is | kts_exm | kernel_rfl)
    (case l_place_of => first | k_is | kit_is | kts_exm | kernel_rfl)
    (case c_place_of => first | k_is | kit_is | kts_exm | kernel_rfl)
    (case k_place_of => first | k_is | kit_is | kts_exm | kernel_rfl)
    (case d_onward => first | k_is | kit_is | kts_exm | kernel_rfl)
    (case l_onward => first | k_is | kit_is | kts_exm | kernel_rfl)
    (case c_onward => first | k_is | kit_is | kts_exm | kernel_rfl)
    (case k_onward => first | k_is | kit_is | kts_exm | kernel_rfl)
    (case d_distance => first | k_is | kit_is | kts_exm | kernel_rfl)
    (case l_distance => first | k_is | kit_is | kts_exm | kernel_rfl)
    (case c_distance => first | k_is | kit_is | kts_exm | kernel_rfl)
    (case k_distance => first | k_is | kit_is | kts_exm | kernel_rfl)
    (case d_check_mark => first | k_is | kit_is | kts_exm | kernel_rfl)
    (case l_check_mark => first | k_is | kit_is | kts_exm | kernel_rfl)
    (case c_check_mark => first | k_is | kit_is | kts_exm | kernel_rfl)
    (case k_check_mark => first | k_is | kit_is | kts_exm | kernel_rfl)
    (case d_mark_lap => first | k_is | kit_is | kts_exm | kernel_rfl)
    (case l_mark_lap => first | k_is | kit_is | kts_exm | kernel_rfl)
    (case c_mark_lap => first | k_is | kit_is | kts_exm | kernel_rfl)
    (case k_mark_lap => first | k_is | kit_is | kts_exm | kernel_rfl)
    (case d_mark_side => first | k_is | kit_is | kts_exm | kernel_rfl)
    (case l_mark_side => first | k_is | kit_is | kts_exm | kernel_rfl)
    (case c_mark_side => first | k_is | kit_is | kts_exm | kernel_rfl)
    (case k_mark_side => first | k_is | kit_is | kts_exm | kernel_rfl)
    (case d_check_hand => first | k_is | kit_is | kts_exm | kernel_rfl)
    (case l_check_hand => first | k_is | kit_is | kts_exm | kernel_rfl)
    (case c_check_hand => first | k_is | kit_is | kts_exm | kernel_rfl)
    (case k_check_hand => first | k_is | kit_is | kts_exm | kernel_rfl)
    (case d_mark_cell => first | k_is | kit_is | kts_exm | kernel_rfl)
    (case l_mark_cell => first | k_is | kit_is | kts_exm | kernel_rfl)
    (case c_mark_cell => first | k_is | kit_is | kts_exm | kernel_rfl)
    (case k_mark_cell => first | k_is | kit_is | kts_exm | kernel_rfl)
    (case d_number_cell => first | k_is | kit_is | kts_exm | kernel_rfl)
    (case l_number_cell => first | k_is | kit_is | kts_exm | kernel_rfl)
    (case c_number_cell => first | k_is | kit_is | kts_exm | kernel_rfl)
    (case k_number_cell => first | k_is | kit_is | kts_exm | kernel_rfl)
    (case d_left_cell => first | k_is | kit_is | kts_exm | kernel_rfl)
    (case l_left_cell => first | k_is | kit_is | kts_exm | kernel_rfl)
    (case c_left_cell => first | k_is | kit_is | kts_exm | kernel_rfl)
    (case k_left_cell => first | k_is | kit_is | kts_exm | kernel_rfl)
    (case d_thing_cell => first | k_is | kit_is | kts_exm | kernel_rfl)
    (case l_thing_cell => first | k_is | kit_is | kts_exm | kernel_rfl)
    (case c_thing_cell => first | k_is | kit_is | kts_exm | kernel_rfl)
    (case k_thing_cell => first | k_is | kit_is | kts_exm | kernel_rfl)
    (case d_card_cell => first | k_is | kit_is | kts_exm | kernel_rfl)
    (case l_card_cell => first | k_is | kit_is | kts_exm | kernel_rfl)
    (case c_card_cell => first | k_is | kit_is | kts_exm | kernel_rfl)
    (case k_card_cell => first | k_is | kit_is | kts_exm | kernel_rfl)
    (case d_bell_cell => first | k_is | kit_is | kts_exm | kernel_rfl)
    (case l_bell_cell => first | k_is | kit_is | kts_exm | kernel_rfl)
    (case c_bell_cell => first | k_is | kit_is | kts_exm | kernel_rfl)
    (case k_bell_cell => first | k_is | kit_is | kts_exm | kernel_rfl)
    (case d_new_cells => first | k_is | kit_is | kts_exm | kernel_rfl)
    (case l_new_cells => first | k_is | kit_is | kts_exm | kernel_rfl)
    (case c_new_cells => first | k_is | kit_is | kts_exm | kernel_rfl)
    (case k_new_cells => first | k_is | kit_is | kts_exm | kernel_rfl)
    (case d_marks_among => first | k_is | kit_is | kts_exm | kernel_rfl)
    (case l_marks_among => first | k_is | kit_is | kts_exm | kernel_rfl)
    (case c_marks_among => first | k_is | kit_is | kts_exm | kernel_rfl)
    (case k_marks_among => first | k_is | kit_is | kts_exm | kernel_rfl)
    (case d_size_of_cells => first | k_is | kit_is | kts_exm | kernel_rfl)
    (case l_size_of_cells => first | k_is | kit_is | kts_exm | kernel_rfl)
    (case c_size_of_cells => first | k_is | kit_is | kts_exm | kernel_rfl)
    (case k_size_of_cells => first | k_is | kit_is | kts_exm | kernel_rfl)
    (case d_check_numbers => first | k_is | kit_is | kts_exm | kernel_rfl)
    (case l_check_numbers => first | k_is | kit_is | kts_exm | kernel_rfl)
    (case c_check_numbers => first | k_is | kit_is | kts_exm | kernel_rfl)
    (case k_check_numbers => first | k_is | kit_is | kts_exm | kernel_rfl)
    (case d_check_bits => first | k_is | kit_is | kts_exm | kernel_rfl)
    (case l_check_bits => first | k_is | kit_is | kts_exm | kernel_rfl)
    (case c_check_bits => first | k_is | kit_is | kts_exm | kernel_rfl)
    (case k_check_bits => first | k_is | kit_is | kts_exm | kernel_rfl)
    (case d_check_marks => first | k_is | kit_is | kts_exm | kernel_rfl)
    (case l_check_marks => first | k_is | kit_is | kts_exm | kernel_rfl)
    (case c_check_marks => first | k_is | kit_is | kts_exm | kernel_rfl)
    (case k_check_marks => first | k_is | kit_is | kts_exm | kernel_rfl)
    (case d_alike_ahead => first | k_is | kit_is | kts_exm | kernel_rfl)
    (case l_alike_ahead => first | k_is | kit_is | kts_exm | kernel_rfl)
    (case c_alike_ahead => first | k_is | kit_is | kts_exm | kernel_rfl)
    (case k_alike_ahead => first | k_is | kit_is | kts_exm | kernel_rfl)
    (case d_front => first | k_is | kit_is | kts_exm | kernel_rfl)
    (case l_front => first | k_is | kit_is | kts_exm | kernel_rfl)
    (case c_front => first | k_is | kit_is | kts_exm | kernel_rfl)
    (case k_front => first | k_is | kit_is | kts_exm | kernel_rfl)
    (case d_taker_bit => first | k_is | kit_is | kts_exm | kernel_rfl)
    (case l_taker_bit => first | k_is | kit_is | kts_exm | kernel_rfl)
    (case c_taker_bit => first | k_is | kit_is | kts_exm | kernel_rfl)
    (case k_taker_bit => first | k_is | kit_is | kts_exm | kernel_rfl)
    (case d_giver_turn => first | k_is | kit_is | kts_exm | kernel_rfl)
    (case l_giver_turn => first | k_is | kit_is | kts_exm | kernel_rfl)
    (case c_giver_turn => first | k_is | kit_is | kts_exm | kernel_rfl)
    (case k_giver_turn => first | k_is | kit_is | kts_exm | kernel_rfl)
    (case d_taker_turn => first | k_is | kit_is | kts_exm | kernel_rfl)
    (case l_taker_turn => first | k_is | kit_is | kts_exm | kernel_rfl)
    (case c_taker_turn => first | k_is | kit_is | kts_exm | kernel_rfl)
    (case k_taker_turn => first | k_is | kit_is | kts_exm | kernel_rfl)
    (case d_sound_marks => first | k_is | kit_is | kts_exm | kernel_rfl)
    (case l_sound_marks => first | k_is | kit_is | kts_exm | kernel_rfl)
    (case c_sound_marks => first | k_is | kit_is | kts_exm | kernel_rfl)
    (case k_sound_marks => first | k_is | kit_is | kts_exm | kernel_rfl)
    (case d_owner => first | k_is | kit_is | kts_exm | kernel_rfl)
    (case l_owner => first | k_is | kit_is | kts_exm | kernel_rfl)
    (case c_owner => first | k_is | kit_is | kts_exm | kernel_rfl)
    (case k_owner => first | k_is | kit_is | kts_exm | kernel_rfl)
    (case d_slip_at => first | k_is | kit_is | kts_exm | kernel_rfl)
    (case l_slip_at => first | k_is | kit_is | kts_exm | kernel_rfl)
    (case c_slip_at => first | k_is | kit_is | kts_exm | kernel_rfl)
    (case k_slip_at => first | k_is | kit_is | kts_exm | kernel_rfl)
    (case d_slips => first | k_is | kit_is | kts_exm | kernel_rfl)
    (case l_slips => first | k_is | kit_is | kts_exm | kernel_rfl)
    (case c_slips => first | k_is | kit_is | kts_exm | kernel_rfl)
    (case k_slips => first | k_is | kit_is | kts_exm | kernel_rfl)
    (case d_follows_slip => first | k_is | kit_is | kts_exm | kernel_rfl)
    (case l_follows_slip => first | k_is | kit_is | kts_exm | kernel_rfl)
    (case c_follows_slip => first | k_is | kit_is | kts_exm | kernel_rfl)
    (case k_follows_slip => first | k_is | kit_is | kts_exm | kernel_rfl)
    (case d_sound_slips => first | k_is | kit_is | kts_exm | kernel_rfl)
    (case l_sound_slips => first | k_is | kit_is | kts_exm | kernel_rfl)
    (case c_sound_slips => first | k_is | kit_is | kts_exm | kernel_rfl)
    (case k_sound_slips => first | k_is | kit_is | kts_exm | kernel_rfl)
    (case d_sound_end => first | k_is | kit_is | kts_exm | kernel_rfl)
    (case l_sound_end => first | k_is | kit_is | kts_exm | kernel_rfl)
    (case c_sound_end => first | k_is | kit_is | kts_exm | kernel_rfl)
    (case k_sound_end => first | k_is | kit_is | kts_exm | kernel_rfl)
    (case d_sound_board => first | k_is | kit_is | kts_exm | kernel_rfl)
    (case l_sound_board => first | k_is | kit_is | kts_exm | kernel_rfl)
    (case c_sound_board => first | k_is | kit_is | kts_exm | kernel_rfl)
    (case k_sound_board => first | k_is | kit_is | kts_exm | kernel_rfl)
    (case d_law_well => first | k_is | kit_is | kts_exm | kernel_rfl)
    (case l_law_well => first | k_is | kit_is | kts_exm | kernel_rfl)
    (case c_law_well => first | k_is | kit_is | kts_exm | kernel_rfl)
    (case k_law_well => first | k_is | kit_is | kts_exm | kernel_rfl)
    (case d_law_take => first | k_is | kit_is | kts_exm | kernel_rfl)
    (case l_law_take => first | k_is | kit_is | kts_exm | kernel_rfl)
    (case c_law_take => first | k_is | kit_is | kts_exm | kernel_rfl)
    (case k_law_take => first | k_is | kit_is | kts_exm | kernel_rfl)
    (case d_law_far => first | k_is | kit_is | kts_exm | kernel_rfl)
    (case l_law_far => first | k_is | kit_is | kts_exm | kernel_rfl)
    (case c_law_far => first | k_is | kit_is | kts_exm | kernel_rfl)
    (case k_law_far => first | k_is | kit_is | kts_exm | kernel_rfl)
    (case d_law_marks => first | k_is | kit_is | kts_exm | kernel_rfl)
    (case l_law_marks => first | k_is | kit_is | kts_exm | kernel_rfl)
    (case c_law_marks => first | k_is | kit_is | kts_exm | kernel_rfl)
    (case k_law_marks => first | k_is | kit_is | kts_exm | kernel_rfl)
    (case d_law_order => first | k_is | kit_is | kts_exm | kernel_rfl)
    (case l_law_order => first | k_is | kit_is | kts_exm | kernel_rfl)
    (case c_law_order => first | k_is | kit_is | kts_exm | kernel_rfl)
    (case k_law_order => first | k_is | kit_is | kts_exm | kernel_rfl)
    (case d_law_parts => first | k_is | kit_is | kts_exm | kernel_rfl)
    (case l_law_parts => first | k_is | kit_is | kts_exm | kernel_rfl)
    (case c_law_parts => first | k_is | kit_is | kts_exm | kernel_rfl)
    (case k_law_parts => first | k_is | kit_is | kts_exm | kernel_rfl)
    (case d_law_cells => first | k_is | kit_is | kts_exm | kernel_rfl)
    (case l_law_cells => first | k_is | kit_is | kts_exm | kernel_rfl)
    (case c_law_cells => first | k_is | kit_is | kts_exm | kernel_rfl)
    (case k_law_cells => first | k_is | kit_is | kts_exm | kernel_rfl)
    (case d_law_asked => first | k_is | kit_is | kts_exm | kernel_rfl)
    (case l_law_asked => first | k_is | kit_is | kts_exm | kernel_rfl)
    (case c_law_asked => first | k_is | kit_is | kts_exm | kernel_rfl)
    (case k_law_asked => first | k_is | kit_is | kts_exm | kernel_rfl)
    (case d_law_counts => first | k_is | kit_is | kts_exm | kernel_rfl)
    (case l_law_counts => first | k_is | kit_is | kts_exm | kernel_rfl)
    (case c_law_counts => first | k_is | kit_is | kts_exm | kernel_rfl)
    (case k_law_counts => first | k_is | kit_is | kts_exm | kernel_rfl)
    (case d_law_slip => first | k_is | kit_is | kts_exm | kernel_rfl)
    (case l_law_slip => first | k_is | kit_is | kts_exm | kernel_rfl)
    (case c_law_slip => first | k_is | kit_is | kts_exm | kernel_rfl)
    (case k_law_slip => first | k_is | kit_is | kts_exm | kernel_rfl)
    (case d_law_sound => first | k_is | kit_is | kts_exm | kernel_rfl)
    (case l_law_sound => first | k_is | kit_is | kts_exm | kernel_rfl)
    (case c_law_sound => first | k_is | kit_is | kts_exm | kernel_rfl)
    (case k_law_sound => first | k_is | kit_is | kts_exm | kernel_rfl)
    (case d_law_right => first | k_is | kit_is | kts_exm | kernel_rfl)
    (case l_law_right => first | k_is | kit_is | kts_exm | kernel_rfl)
    (case c_law_right => first | k_is | kit_is | kts_exm | kernel_rfl)
    (case k_law_right => first | k_is | kit_is | kts_exm | kernel_rfl)
    (case d_law_spoilt => first | k_is | kit_is | kts_exm | kernel_rfl)
    (case l_law_spoilt => first | k_is | kit_is | kts_exm | kernel_rfl)
    (case c_law_spoilt => first | k_is | kit_is | kts_exm | kernel_rfl)
    (case k_law_spoilt => first | k_is | kit_is | kts_exm | kernel_rfl)
    (case d_law => first | k_is | kit_is | kts_exm | kernel_rfl)
    (case l_law => first | k_is | kit_is | kts_exm | kernel_rfl)
    (case c_law => first | k_is | kit_is | kts_exm | kernel_rfl)
    (case k_law => first | k_is | kit_is | kts_exm | kernel_rfl)
    (case x_cx => first | k_is | kit_is | kts_exm | kernel_rfl)
    (case x_ka => first | k_is | kit_is | kts_exm | kernel_rfl)
    (case x_kn => first | k_is | kit_is | kts_exm | kernel_rfl)
    (case x_kb => first | k_is | kit_is | kts_exm | kernel_rfl)
    (case x_nx => first | k_is | kit_is | kts_exm | kernel_rfl)
    (case x_nN => first | k_is | kit_is | kts_exm | kernel_rfl)
    (case x_nS => first | k_is | kit_is | kts_exm | kernel_rfl)
    (case x_nV => first | k_is | kit_is | kts_exm | kernel_rfl)
    (case x_n8 => first | k_is | kit_is | kts_exm | kernel_rfl)
    (case x_n5 => first | k_is | kit_is | kts_exm | kernel_rfl)
    (case x_cxx => first | k_is | kit_is | kts_exm | kernel_rfl)
    (case x_cN => first | k_is | kit_is | kts_exm | kernel_rfl)
    (case x_cS => first | k_is | kit_is | kts_exm | kernel_rfl)
    (case x_cV => first | k_is | kit_is | kts_exm | kernel_rfl)
    (case x_c8 => first | k_is | kit_is | kts_exm | kernel_rfl)
    (case x_c5 => first | k_is | kit_is | kts_exm | kernel_rfl)
