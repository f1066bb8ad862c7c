import PyProof.Rows.All
import Wide.All
import OpenK.AllK
import Wide.FinOn
import Lean
import PyProof.EqAt
import PyProof.EqKinds
import PyProof.TupleCall
import PyProof.NsDelKeeps
import PyProof.NeKinds
import PyProof.CompFree
import KE.LcSums
import PyProof.CompUse
import PyProof.Rows.RuleIs
import PyProof.Rows.RuleIs2
import PyProof.ZipIter
import PyProof.CompMap
import PySem.Challenge.RW_slipring_k06_boards_touched
set_option Elab.async false
set_option linter.all false
set_option maxRecDepth 100000
/-! THE HAND LAYER, for ints, bools, texts, own classes, LISTS and tuples (index, slices, in, append, pop ..), calls, loops. Paste it whole ahead of your own text; what your proof does not reach may be deleted. -/
namespace L2
open PySem PySem.Spec PyProof.Rows

/-- a key: an int or a str -/
abbrev Key := Sum Int Str
def keyIs : Key → Value → Bool
  | .inl k, v => Value.isInt k v
  | .inr x, v => Value.isStrOf x v
def keyH (w : World) : Key → Int
  | .inl k => hashInt k
  | .inr x => hashStr w x
theorem keyIs_shape : ∀ {k : Key} {v : Value}, keyIs k v = true → (∃ i t, k = Sum.inl i ∧ v = Value.int i t) ∨ (∃ x t, k = Sum.inr x ∧ v = Value.str x t)
  | .inl i, v, h => by
    obtain ⟨t, e⟩ := Value.isInt_shape (k := i) (v := v) h
    exact .inl ⟨i, t, rfl, e⟩
  | .inr x, v, h => by
    obtain ⟨t, e⟩ := Value.isStrOf_shape (x := x) (v := v) h
    exact .inr ⟨x, t, rfl, e⟩
theorem keyIs_int (i : Int) (t : Tok) : keyIs (.inl i) (.int i t) = true := by simp [keyIs, Value.isInt]
theorem keyIs_str (x : Str) (t : Tok) : keyIs (.inr x) (.str x t) = true := by simp [keyIs, Value.isStrOf]
theorem key_ll (a b : Int) : decide ((Sum.inl a : Key) = Sum.inl b) = (a == b) := by
  by_cases e : a = b
  · subst e; simp
  · have h : ¬ (Sum.inl a : Key) = Sum.inl b := fun q => e (Sum.inl.inj q)
    rw [decide_eq_false h]
    exact (beq_eq_false_iff_ne.mpr e).symm
theorem key_rr (a b : Str) : decide ((Sum.inr a : Key) = Sum.inr b) = decide (a = b) := by
  by_cases e : a = b
  · subst e; simp
  · have h : ¬ (Sum.inr a : Key) = Sum.inr b := fun q => e (Sum.inr.inj q)
    rw [decide_eq_false h, decide_eq_false e]
theorem key_lr (a : Int) (b : Str) : decide ((Sum.inl a : Key) = Sum.inr b) = false := decide_eq_false (fun q => nomatch q)
theorem key_rl (a : Str) (b : Int) : decide ((Sum.inr a : Key) = Sum.inl b) = false := decide_eq_false (fun q => nomatch q)

def mixKind (prog : Program) (w : World) : PySem.KeyKind prog w Key where
  is := keyIs
  hash := keyH w
  inj := fun v a b ha hb => by
    rcases keyIs_shape ha with ⟨i, t, rfl, rfl⟩ | ⟨x, t, rfl, rfl⟩
    · rcases keyIs_shape hb with ⟨j, u, rfl, e⟩ | ⟨y, u, rfl, e⟩
      · injection e with e1 _; rw [e1]
      · exact nomatch e
    · rcases keyIs_shape hb with ⟨j, u, rfl, e⟩ | ⟨y, u, rfl, e⟩
      · exact nomatch e
      · injection e with e1 _; rw [e1]
  byValue := fun k v h => by
    rcases keyIs_shape h with ⟨i, t, rfl, rfl⟩ | ⟨x, t, rfl, rfl⟩ <;> rfl
  pyHash := fun hv h => by
    rcases keyIs_shape hv with ⟨i, t, rfl, rfl⟩ | ⟨x, t, rfl, rfl⟩
    · exact wpAny_pyHash_int h
    · exact wpAny_pyHash_str h
  eqBool := fun hu hv h => by
    rcases keyIs_shape hu with ⟨i, t, rfl, rfl⟩ | ⟨x, t, rfl, rfl⟩
    · rcases keyIs_shape hv with ⟨j, u, rfl, rfl⟩ | ⟨y, u, rfl, rfl⟩
      · rw [key_ll] at h; exact wpAny_eqBool_int h
      · rw [key_lr] at h; exact SeqAt.EqAt.int_str i t y u _ _ _ _ h
    · rcases keyIs_shape hv with ⟨j, u, rfl, rfl⟩ | ⟨y, u, rfl, rfl⟩
      · rw [key_rl] at h; exact SeqAt.EqAt.str_int x t j u _ _ _ _ h
      · rw [key_rr] at h; exact wpAny_eqBool_str h
  «strs» := fun k x t v h => by
    rcases keyIs_shape h with ⟨i, u, rfl, e⟩ | ⟨y, u, rfl, e⟩
    · exact nomatch e
    · injection e with e1 _
      subst e1
      cases v <;> rfl

theorem mixKind_is (prog : Program) (w : World) (k : Key) (v : Value) : (mixKind prog w).is k v = keyIs k v := rfl
theorem mixKind_int (prog : Program) (w : World) (i : Int) (t : Tok) : (mixKind prog w).is (.inl i) (.int i t) = true := keyIs_int i t
theorem mixKind_str (prog : Program) (w : World) (x : Str) (t : Tok) : (mixKind prog w).is (.inr x) (.str x t) = true := keyIs_str x t
end L2

namespace L2
open PySem PySem.Spec PyProof.Rows

/-- a value, without the heap -/
inductive V where
  | non | bl (b : Bool) | int (i : Int) | str (x : Str) | byt (b : Array UInt8) | flt (b : UInt64) | ref (a : Addr) | ty (n : String)
  deriving DecidableEq

def RelV : V → Value → Prop
  | .non, u => u = Value.none
  | .bl b, u => u = Value.bool b
  | .int i, u => ∃ t, u = Value.int i t
  | .str x, u => ∃ t, u = Value.str x t
  | .byt b, u => ∃ t, u = Value.bytes b t
  | .flt b, u => ∃ t, u = Value.float b t
  | .ref a, u => u = Value.ref a
  | .ty n, u => u = Value.type n

abbrev Vals : List V → List Value → Prop := Paired RelV
theorem Vals.length {xs : List V} {us : List Value} (r : Vals xs us) : xs.length = us.length := Paired.length r
theorem Vals.get : ∀ {xs : List V} {us : List Value} {i : Nat} {x : V}, Vals xs us → xs[i]? = some x → ∃ u, us[i]? = some u ∧ RelV x u
  | _, _, _, _, .nil, e => by simp at e
  | _, _, 0, _, .cons r _, e => by simp at e; subst e; exact ⟨_, rfl, r⟩
  | _, _, i + 1, x, .cons _ t, e => by
    obtain ⟨u, h1, h2⟩ := Vals.get (i := i) (x := x) t (by simpa using e)
    exact ⟨u, by simpa using h1, h2⟩
theorem Vals.set {x : V} {u : Value} (r : RelV x u) : ∀ {xs : List V} {us : List Value} (i : Nat), Vals xs us → Vals (xs.set i x) (us.set i u)
  | _, _, _, .nil => .nil
  | _, _, 0, .cons _ t => .cons r t
  | _, _, i + 1, .cons q t => .cons q (Vals.set r i t)
theorem Vals.append : ∀ {xs ys : List V} {us ws : List Value}, Vals xs us → Vals ys ws → Vals (xs ++ ys) (us ++ ws)
  | _, _, _, _, .nil, s => s
  | _, _, _, _, .cons r t, s => .cons r (Vals.append t s)
theorem Vals.take : ∀ {xs : List V} {us : List Value} (n : Nat), Vals xs us → Vals (xs.take n) (us.take n)
  | _, _, 0, _ => .nil
  | _, _, _ + 1, .nil => .nil
  | _, _, n + 1, .cons r t => .cons r (Vals.take n t)
theorem Vals.drop : ∀ {xs : List V} {us : List Value} (n : Nat), Vals xs us → Vals (xs.drop n) (us.drop n)
  | _, _, 0, r => r
  | _, _, _ + 1, .nil => .nil
  | _, _, n + 1, .cons _ t => Vals.drop n t
theorem Vals.none_of : ∀ {xs : List V} {us : List Value} {i : Nat}, Vals xs us → xs[i]? = none → us[i]? = none := fun {xs us i} r e => by
  have h1 := r.length
  have h2 : xs.length ≤ i := List.getElem?_eq_none_iff.mp e
  exact List.getElem?_eq_none_iff.mpr (by omega)

def RelO : Option V → Option Value → Prop
  | some v, some u => RelV v u
  | none, none => True
  | _, _ => False
def KV {κ : Type} : List (κ × V) → List (κ × Value) → Prop := Paired fun (p : κ × V) (q : κ × Value) => p.1 = q.1 ∧ RelV p.2 q.2

/-- a key of a dict (00_mix): an int or a text -/
def kV : Key → V
  | .inl i => .int i
  | .inr x => .str x

/-- what stands at a tracked address -/
inductive HO where
  /-- a list -/
  | lst (xs : List V)
  /-- a tuple (never changes) -/
  | tup (xs : List V)
  /-- a dict whose keys are ints and texts; one whose keys are tuples of ints and texts (the empty one is both) -/
  | dK (kvs : List (Key × V)) | dT (kvs : List (List Key × V))
  /-- a set of ints: its members, its size -/
  | set (S : Int → Bool) (n : Nat)
  /-- an instance of the class at C, its dict at dx, its attributes -/
  | ins (C dx : Addr) (fs : List (Str × V))
  /-- the dict of the instance at x -/
  | own (x : Addr)
  /-- the dict of an exception -/
  | xd (fs : List (Str × V))
  /-- a bound method, f of x -/
  | met (f x : Addr)
  /-- a range object lo, lo + 1, .. below hi -/
  | rng (lo hi : Int)
  /-- a thing that is known to the object (the script; a dict while a loop walks it): read, never written while it is so -/
  | frz (o : Obj) (u : HO)
  /-- a code object's table -/
  | tbl (ps : Array Value)
  /-- any other thing, by what is true of its one object (a def of one's own: SetO a S n := HO.ext fun h => ..) -/
  | ext (φ : Heap → Prop)

abbrev Hp := Addr → Option HO
def upd (H : Hp) (a : Addr) (o : HO) : Hp := fun b => if b = a then some o else H b
theorem upd_same {H : Hp} {a : Addr} {o : HO} : upd H a o a = some o := by unfold upd; rw [if_pos rfl]
theorem upd_ne {H : Hp} {a b : Addr} {o : HO} (h : b ≠ a) : upd H a o b = H b := by unfold upd; rw [if_neg h]
theorem upd_upd {H : Hp} {a : Addr} {o u : HO} : upd (upd H a o) a u = upd H a u := by
  funext b; unfold upd; split <;> rfl
/-- two objects of different content stand apart -/
theorem ne_of {H : Hp} {a b : Addr} {o u : HO} (h : H a = some o) (h' : H b = some u) (d : o ≠ u) : a ≠ b := by
  intro e; subst e; rw [h] at h'; exact d (Option.some.inj h')
theorem ne_of_none {H : Hp} {a b : Addr} {o : HO} (h : H a = some o) (h' : H b = none) : a ≠ b := by
  intro e; subst e; rw [h] at h'; cases h'

section
variable (P : Program) (w : World)
def ObjOk (H : Hp) (h : Heap) (a : Addr) : HO → Prop
  | .lst xs => xs.length ≤ sizeLine ∧ ∃ (its : List Value) (n : Nat), Vals xs its ∧ h.get? a = some { cls := .type "list", data := .seq its.toArray n }
  | .tup xs => xs.length ≤ sizeLine ∧ ∃ its : List Value, Vals xs its ∧ IsTup h a its.toArray
  | .dK kvs => kvs.length ≤ sizeLine ∧ (a == sysModules) = false ∧ ∃ vs, KV kvs vs ∧ h.DictOf (mixKind P w) a vs
  | .dT kvs => kvs.length ≤ sizeLine ∧ (a == sysModules) = false ∧ ∃ xs : List (List Key × Addr × Value),
      Paired (fun (p : List Key × V) (q : List Key × Addr × Value) => p.1 = q.1 ∧ H q.2.1 = some (.tup (p.1.map kV)) ∧ RelV p.2 q.2.2) kvs xs ∧
      ∃ o es ep, h.get? a = some o ∧ o.ExactDict ∧ o.data = .dict es ep ∧ es.toList = xs.map (entryOfKey (tupleKind (mixKind P w))) ∧ (xs.map (·.1)).Nodup
  | .set S n => h.SetOf (intKind P w) a S n
  | .ins C dx fs => H dx = some (.own a) ∧ fs.length ≤ 1000 ∧ dx ≠ a ∧ h.get? a = some (PySem.W.instObj C dx) ∧
      ∃ mA, h.Ns1 dx mA ∧ (∀ f, RelO (fs.lookup f) (mA f)) ∧ PySem.Within mA (fs.map (·.1))
  | .own _ => ∃ o, h.get? a = some o
  | .xd fs => ∃ mA, h.Ns1 a mA ∧ ∀ f, RelO (fs.lookup f) (mA f)
  | .rng lo hi => ∃ t u v, h.get? a = some { cls := .type "range", data := .fields #[.int lo t, .int hi u, .int 1 v] }
  | .frz o u => h.get? a = some o ∧ ObjOk H h a u
  | .tbl ps => h.get? a = some { cls := .none, data := .fields ps }
  | .met f x => h.get? a = some (PySem.W.methodObj (.ref f) (.ref x))
  | .ext φ => φ h ∧ (∃ o, h.get? a = some o) ∧ ∀ h1 h2 : Heap, φ h1 → (∀ o, h1.get? a = some o → h2.get? a = some o) → φ h2
/-- the abstract heap is held -/
def HOk (H : Hp) (h : Heap) : Prop := ∀ a o, H a = some o → ObjOk P w H h a o
end

section
variable {P : Program} {w : World} {H H' : Hp} {h h' : Heap} {a : Addr} {o : HO}
theorem ObjOk.lt (x : ObjOk P w H h a o) : a < h.objs.size := by
  cases o with
  | lst xs => obtain ⟨_, _, _, _, e⟩ := x; exact Heap.lt_size e
  | tup xs => obtain ⟨_, _, _, p⟩ := x; exact p.lt
  | dK kvs => obtain ⟨_, _, _, _, o, _, _, e, _⟩ := x; exact Heap.lt_size e
  | dT kvs => obtain ⟨_, _, _, _, o, _, _, e, _⟩ := x; exact Heap.lt_size e
  | set S n => obtain ⟨o, _, _, _, e, _⟩ := x; exact Heap.lt_size e
  | ins C dx fs => obtain ⟨_, _, _, e, _⟩ := x; exact Heap.lt_size e
  | own y => obtain ⟨_, e⟩ := x; exact Heap.lt_size e
  | xd fs => obtain ⟨_, ⟨_, _, _, e, _⟩, _⟩ := x; exact Heap.lt_size e
  | rng lo hi => obtain ⟨_, _, _, e⟩ := x; exact Heap.lt_size e
  | frz ob u => obtain ⟨e, _⟩ := x; exact Heap.lt_size e
  | tbl ps => exact Heap.lt_size (show h.get? a = some _ from x)
  | met f y => exact Heap.lt_size (show h.get? a = some _ from x)
  | ext φ => obtain ⟨_, ⟨_, e⟩, _⟩ := x; exact Heap.lt_size e
theorem Paired.mapP {α β : Type} {F G : α → β → Prop} : ∀ {l₁ : List α} {l₂ : List β}, Paired F l₁ l₂ → (∀ a b, F a b → G a b) → Paired G l₁ l₂
  | _, _, .nil, _ => .nil
  | _, _, .cons r t, f => .cons (f _ _ r) (Paired.mapP t f)
theorem Paired.imp' {α β : Type} {F G : α → β → Prop} (f : ∀ a b, F a b → G a b) {l₁ : List α} {l₂ : List β} (r : Paired F l₁ l₂) : Paired G l₁ l₂ := Paired.mapP r f
/-- what an object's description leans on: its own object, its own dict, the tuples -/
theorem ObjOk.stay (x : ObjOk P w H h a o) (k : ∀ b u, (b = a ∨ H b = some (.own a)) → h.get? b = some u → h'.get? b = some u)
    (ho : ∀ b, H b = some (.own a) → H' b = some (.own a)) (ht : ∀ b xs, H b = some (.tup xs) → H' b = some (.tup xs)) : ObjOk P w H' h' a o := by
  induction o with
  | lst xs => obtain ⟨z, its, n, r, e⟩ := x; exact ⟨z, its, n, r, k _ _ (.inl rfl) e⟩
  | tup xs => obtain ⟨z, its, r, ob, e, c⟩ := x; exact ⟨z, its, r, ob, k _ _ (.inl rfl) e, c⟩
  | dK kvs => obtain ⟨z, y, vs, r, ob, es, ep, e, c⟩ := x; exact ⟨z, y, vs, r, ob, es, ep, k _ _ (.inl rfl) e, c⟩
  | dT kvs =>
    obtain ⟨z, y, xs, r, ob, es, ep, e, c⟩ := x
    exact ⟨z, y, xs, Paired.mapP r fun p q z => ⟨z.1, ht _ _ z.2.1, z.2.2⟩, ob, es, ep, k _ _ (.inl rfl) e, c⟩
  | set S n => obtain ⟨ob, es, ep, t, e, c⟩ := x; exact ⟨ob, es, ep, t, k _ _ (.inl rfl) e, c⟩
  | ins C dx fs =>
    obtain ⟨d, z, ne, e, mA, ⟨od, es, ep, e2, c⟩, r⟩ := x
    exact ⟨ho _ d, z, ne, k _ _ (.inl rfl) e, mA, ⟨od, es, ep, k _ _ (.inr d) e2, c⟩, r⟩
  | own y => obtain ⟨ob, e⟩ := x; exact ⟨ob, k _ _ (.inl rfl) e⟩
  | xd fs => obtain ⟨mA, ⟨od, es, ep, e, c⟩, r⟩ := x; exact ⟨mA, ⟨od, es, ep, k _ _ (.inl rfl) e, c⟩, r⟩
  | rng lo hi => obtain ⟨t, u, v, e⟩ := x; exact ⟨t, u, v, k _ _ (.inl rfl) e⟩
  | frz ob u ih => obtain ⟨e, q⟩ := x; exact ⟨k _ _ (.inl rfl) e, ih q⟩
  | tbl ps =>
    have e : h.get? a = some { cls := .none, data := .fields ps } := x
    show h'.get? a = some { cls := .none, data := .fields ps }
    exact k a _ (.inl rfl) e
  | met f y =>
    have e : h.get? a = some (PySem.W.methodObj (.ref f) (.ref y)) := x
    show h'.get? a = some (PySem.W.methodObj (.ref f) (.ref y))
    exact k a _ (.inl rfl) e
  | ext φ => obtain ⟨p, ⟨o, e⟩, st⟩ := x; exact ⟨st _ _ p fun o q => k _ _ (.inl rfl) q, ⟨o, k _ _ (.inl rfl) e⟩, st⟩
theorem HOk.lt (x : HOk P w H h) (e : H a = some o) : a < h.objs.size := (x a o e).lt
theorem HOk.fresh (x : HOk P w H h) (e : h.objs.size ≤ a) : H a = none := by
  cases q : H a with
  | none => rfl
  | some u => exact absurd (Nat.lt_of_lt_of_le (x.lt q) e) (Nat.lt_irrefl _)
/-- every object of the heap is kept -/
theorem HOk.kept (x : HOk P w H h) (k : ∀ b u, h.get? b = some u → h'.get? b = some u) : HOk P w H h' := fun a o e =>
  (x a o e).stay (fun b u _ q => k b u q) (fun _ q => q) fun _ _ q => q
/-- a new object is laid and tracked -/
theorem HOk.laid (x : HOk P w H h) (k : ∀ b u, h.get? b = some u → h'.get? b = some u) (hp : h.objs.size ≤ a) (new : ObjOk P w (upd H a o) h' a o) : HOk P w (upd H a o) h' := fun b u e => by
  have hn := x.fresh hp
  by_cases hb : b = a
  · subst hb; rw [upd_same] at e; cases e; exact new
  · rw [upd_ne hb] at e
    exact (x b u e).stay (fun c v _ q => k c v q) (fun c q => by rw [upd_ne (ne_of_none q hn)]; exact q) fun c xs q => by rw [upd_ne (ne_of_none q hn)]; exact q
end

/-- what may be read as u: it is u, or a known u -/
def Rd (H : Hp) (a : Addr) (u : HO) : Prop := H a = some u ∨ ∃ o, H a = some (.frz o u)
theorem Rd.of {H : Hp} {a : Addr} {u : HO} (h : H a = some u) : Rd H a u := .inl h
theorem Rd.ok {P : Program} {w : World} {H : Hp} {h : Heap} {a : Addr} {u : HO} (r : Rd H a u) (x : HOk P w H h) : ObjOk P w H h a u := by
  rcases r with r | ⟨o, r⟩
  · exact x a u r
  · obtain ⟨_, q⟩ := x a _ r
    exact q
/-- what may be written -/
def Mut : Option HO → Prop
  | some (.lst _) => True
  | some (.dK _) => True
  | some (.dT _) => True
  | some (.set _ _) => True
  | some (.ins _ _ _) => True
  | some (.ext _) => True
  | _ => False
section
variable {P : Program} {w : World} {H : Hp} {h h' : Heap} {x e : Addr} {o' : HO}
/-- the object at e is changed: x itself, or the dict of the instance x -/
theorem HOk.write (ok : HOk P w H h) (mu : Mut (H x)) (he : e = x ∨ H e = some (.own x)) (k : ∀ b u, b ≠ e → h.get? b = some u → h'.get? b = some u) (heo : ∃ u, h'.get? e = some u)
    (new : ObjOk P w (upd H x o') h' x o') : HOk P w (upd H x o') h' := fun b u q => by
  have nown : ∀ c y, H c = some (.own y) → c ≠ x := fun c y r z => by subst z; rw [r] at mu; exact mu
  have ntup : ∀ c xs, H c = some (.tup xs) → c ≠ x := fun c xs r z => by subst z; rw [r] at mu; exact mu
  by_cases hb : b = x
  · subst hb; rw [upd_same] at q; cases q; exact new
  · rw [upd_ne hb] at q
    by_cases hbe : b = e
    · have q' : H b = some (.own x) := by
        rcases he with z | z
        · exact absurd (hbe.trans z) hb
        · rw [hbe]; exact z
      rw [q] at q'; cases q'
      obtain ⟨v, hv⟩ := heo
      exact ⟨v, by rw [hbe]; exact hv⟩
    · refine (ok b u q).stay (fun c v hc r => k c v ?_ r) (fun c r => by rw [upd_ne (nown c b r)]; exact r) fun c xs r => by rw [upd_ne (ntup c xs r)]; exact r
      rcases hc with rfl | hc
      · exact hbe
      · rintro rfl
        rcases he with z | z
        · exact nown c b hc z
        · rw [hc] at z; cases z; exact hb rfl
end

/-! ### kept unless tracked; of the frames at fs (the callers') the slots may change (an exception that passes writes there); of the records at ex (iterators) nothing is said -/
structure Un (fs ex : List Addr) (H H' : Hp) (h h' : Heap) : Prop where
  keep : ∀ b o, h.get? b = some o → H b = none → b ∉ fs → b ∉ ex → h'.get? b = some o
  slot : ∀ b o, h.get? b = some o → H b = none → b ∈ fs → b ∉ ex → ∃ sl, h'.get? b = some { o with slots := sl }
  free : ∀ b o, h.get? b = some o → H b = none → b ∉ ex → H' b = none
  there : ∀ b o, h.get? b = some o → b ∉ ex → ∃ o', h'.get? b = some o'
  tups : ∀ b xs, H b = some (.tup xs) → H' b = some (.tup xs)
  frzs : ∀ b o u, H b = some (.frz o u) → H' b = some (.frz o u)
  tbls : ∀ b ps, H b = some (.tbl ps) → ∃ more, H' b = some (.tbl (ps ++ more))
section
variable {fs fs' ex ex' : List Addr} {H H1 H2 : Hp} {h h1 h2 h' : Heap} {a x e : Addr} {o : HO}
theorem Un.any (u : Un fs ex H H1 h h1) {b : Addr} {ob : Obj} (q : h.get? b = some ob) (n : H b = none) (hx : b ∉ ex) : ∃ sl, h1.get? b = some { ob with slots := sl } := by
  by_cases hb : b ∈ fs
  · exact u.slot b ob q n hb hx
  · exact ⟨ob.slots, u.keep b ob q n hb hx⟩
theorem Un.trans (a : Un fs ex H H1 h h1) (b : Un fs ex H1 H2 h1 h2) : Un fs ex H H2 h h2 where
  keep := fun c ob q n hc hx => b.keep c ob (a.keep c ob q n hc hx) (a.free c ob q n hx) hc hx
  slot := fun c ob q n hc hx => by
    obtain ⟨sl, e1⟩ := a.slot c ob q n hc hx
    obtain ⟨sl', e2⟩ := b.slot c _ e1 (a.free c ob q n hx) hc hx
    exact ⟨sl', e2⟩
  free := fun c ob q n hx => by
    obtain ⟨o', e1⟩ := a.there c ob q hx
    exact b.free c o' e1 (a.free c ob q n hx) hx
  there := fun c ob q hx => by
    obtain ⟨o', e1⟩ := a.there c ob q hx
    exact b.there c o' e1 hx
  tups := fun c xs q => b.tups c xs (a.tups c xs q)
  frzs := fun c ob xs q => b.frzs c ob xs (a.frzs c ob xs q)
  tbls := fun c ps q => by
    obtain ⟨m1, e1⟩ := a.tbls c ps q
    obtain ⟨m2, e2⟩ := b.tbls c _ e1
    exact ⟨m1 ++ m2, by rw [e2, Array.append_assoc]⟩
theorem Un.kept (k : ∀ b u, h.get? b = some u → h'.get? b = some u) : Un fs ex H H h h' :=
  ⟨fun b ob q _ _ _ => k b ob q, fun b ob q _ _ _ => ⟨ob.slots, k b ob q⟩, fun _ _ _ n _ => n, fun b ob q _ => ⟨ob, k b ob q⟩, fun _ _ q => q, fun _ _ _ q => q, fun _ ps q => ⟨#[], by rw [q]; simp⟩⟩
theorem Un.refl : Un fs ex H H h h := Un.kept fun _ _ q => q
theorem Un.laid (k : ∀ b u, h.get? b = some u → h'.get? b = some u) (hp : h.objs.size ≤ a) (hn : H a = none) : Un fs ex H (upd H a o) h h' where
  keep := fun b u q _ _ _ => k b u q
  slot := fun b u q _ _ _ => ⟨u.slots, k b u q⟩
  free := fun b u q n _ => by rw [upd_ne (Nat.ne_of_lt (Nat.lt_of_lt_of_le (Heap.lt_size q) hp))]; exact n
  there := fun b u q _ => ⟨u, k b u q⟩
  tups := fun b xs q => by rw [upd_ne (ne_of_none q hn)]; exact q
  frzs := fun b u xs q => by rw [upd_ne (ne_of_none q hn)]; exact q
  tbls := fun b ps q => ⟨#[], by rw [upd_ne (ne_of_none q hn), q]; simp⟩
theorem Un.write (mu : Mut (H x)) (he : e = x ∨ H e = some (.own x)) (k : ∀ b u, b ≠ e → h.get? b = some u → h'.get? b = some u) (heo : ∃ u, h'.get? e = some u) : Un fs ex H (upd H x o) h h' := by
  have hx : ∀ b, H b = none → b ≠ x := fun b n z => by subst z; rw [n] at mu; exact mu
  have hb : ∀ b, H b = none → b ≠ e := fun b n z => by
    subst z
    rcases he with r | r
    · exact hx b n r
    · rw [n] at r; cases r
  have hm : ∀ b u, H b = some u → ¬ Mut (some u) → b ≠ x := fun b u q nm z => by subst z; rw [q] at mu; exact nm mu
  refine ⟨fun b u q n _ _ => k b u (hb b n) q, fun b u q n _ _ => ⟨u.slots, k b u (hb b n) q⟩, fun b u q n _ => by rw [upd_ne (hx b n)]; exact n, fun b u q _ => ?_,
    fun b xs q => by rw [upd_ne (hm b _ q fun z => z)]; exact q, fun b u xs q => by rw [upd_ne (hm b _ q fun z => z)]; exact q, fun b ps q => ⟨#[], by rw [upd_ne (hm b _ q fun z => z), q]; simp⟩⟩
  by_cases hbe : b = e
  · subst hbe; exact heo
  · exact ⟨u, k b u hbe q⟩
theorem Un.mono (u : Un fs ex H H1 h h1) (hs : ∀ b ∈ fs, b ∈ fs') (hx : ∀ b ∈ ex, b ∈ ex') : Un fs' ex' H H1 h h1 :=
  ⟨fun b ob q n hb he => u.keep b ob q n (fun z => hb (hs b z)) fun z => he (hx b z), fun _ _ q n _ he => u.any q n fun z => he (hx _ z), fun b ob q n he => u.free b ob q n fun z => he (hx b z), fun b ob q he => u.there b ob q fun z => he (hx b z), u.tups, u.frzs, u.tbls⟩
end

/-! ### the heap without what is tracked -/
def trk (h : Heap) (H : Hp) : List Addr := (List.range h.objs.size).filter fun a => (H a).isSome
def hidT (h : Heap) (H : Hp) : Heap := PySem.W.hideAll h (trk h H)
theorem hidT_size (h : Heap) (H : Hp) : (hidT h H).objs.size = h.objs.size := PySem.W.hideAll_size _ _
theorem hidT_get {h : Heap} {H : Hp} {b : Addr} {o : Obj} (e : h.get? b = some o) (n : H b = none) : (hidT h H).get? b = some o :=
  PySem.W.hideAll_get _ e fun hm => by
    have q : (H b).isSome = true := (List.mem_filter.mp hm).2
    rw [n] at q; simp at q
theorem of_hidT {h : Heap} {H : Hp} {b : Addr} {o : Obj} (e : (hidT h H).get? b = some o) : h.get? b = some o ∧ H b = none := by
  have e' : h.get? b = some o := PySem.W.of_hideAll (trk h H) e
  refine ⟨e', ?_⟩
  cases q : H b with
  | none => rfl
  | some x =>
    have hm : b ∈ trk h H := List.mem_filter.mpr ⟨List.mem_range.mpr (Heap.lt_size e'), by simp [q]⟩
    have z : (hidT h H).get? b = none := PySem.W.hideAll_none (trk h H) hm
    rw [z] at e; cases e

/-! ### OpenK's ledger, filled with every new object but one -/
def allNews (g h : Heap) (L : Addr) : List (Addr × Obj) := (List.range h.objs.size).filterMap fun a => if a = L ∨ (g.get? a).isSome = true then none else (h.get? a).map fun o => (a, o)
theorem mem_allNews {g h : Heap} {L a : Addr} {o : Obj} (h1 : a ≠ L) (h2 : g.get? a = none) (h3 : h.get? a = some o) : (a, o) ∈ allNews g h L :=
  List.mem_filterMap.mpr ⟨a, List.mem_range.mpr (Heap.lt_size h3), by simp [h1, h2, h3]⟩
theorem of_mem_allNews {g h : Heap} {L : Addr} {p : Addr × Obj} (hp : p ∈ allNews g h L) : p.1 ≠ L ∧ g.get? p.1 = none ∧ h.get? p.1 = some p.2 := by
  obtain ⟨b, _, e⟩ := List.mem_filterMap.mp hp
  split at e
  · cases e
  · rename_i hn
    cases q : h.get? b with
    | none => rw [q] at e; simp at e
    | some u =>
      rw [q] at e
      simp only [Option.map_some, Option.some.injEq] at e
      subst e
      refine ⟨fun z => hn (.inl z), ?_, q⟩
      show g.get? b = none
      cases r : g.get? b with
      | none => rfl
      | some v => exact (hn (.inr (by simp [r]))).elim
def rest (g h : Heap) (L d : Addr) : List (Addr × Obj) := (allNews g h L).filter fun p => decide (p.1 ≠ d)
theorem rest_ne {g h : Heap} {L d : Addr} : ∀ p ∈ rest g h L d, p.1 ≠ d := fun p hp => of_decide_eq_true (List.mem_filter.mp hp).2
theorem mem_rest {g h : Heap} {L d a : Addr} {o : Obj} (h1 : a ≠ L) (h2 : g.get? a = none) (h3 : h.get? a = some o) (h4 : a ≠ d) : (a, o) ∈ rest g h L d :=
  List.mem_filter.mpr ⟨mem_allNews h1 h2 h3, decide_eq_true h4⟩
theorem news_all {g h : Heap} {L : Addr} : News g L h (allNews g h L) := fun p hp => let ⟨a, b, c⟩ := of_mem_allNews hp; ⟨c, a, b⟩
theorem news_at {g h : Heap} {L d : Addr} {o : Obj} (h1 : d ≠ L) (h2 : g.get? d = none) (h3 : h.get? d = some o) : News g L h ((d, o) :: rest g h L d) := fun p hp => by
  rcases List.mem_cons.mp hp with rfl | hp
  · exact ⟨h3, h1, h2⟩
  · exact news_all p (List.mem_filter.mp hp).1
/-- behind a rule that changed d alone: all else but the frame is kept -/
theorem kept_of_news {g h h' : Heap} {L d : Addr} {m : Str → Option Value} (k : ∀ b o, g.get? b = some o → h.get? b = some o) (F : Fr g L h' m) (N : News g L h' (rest g h L d)) :
    ∀ b o, b ≠ L → b ≠ d → h.get? b = some o → h'.get? b = some o := fun b o h1 h2 e => by
  cases q : g.get? b with
  | some u =>
    have := k b u q
    rw [e] at this; cases this
    exact F.keep b _ q
  | none => exact (N (b, o) (mem_rest h1 q e h2)).1
end L2

namespace L2
open PySem PySem.Spec PyProof.Rows

/-- the module's facts, over the base: the heap at the law's entry without what is tracked there -/
structure Mod (K : PySem.W.Frag) (mg : Str → Option Value) (base : Heap) : Prop where
  kin : K.In base
  glob : base.Ns mainGlobals mg
  blt : ∃ mb, base.Ns builtinsNs mb ∧ ∀ x : Str, x ≠ "__name__" → mb x = bootBuiltins x
  nolimit : base.NoLimit

/-- the context: a def's body (or a comprehension's block) running. base: fixed through the whole law; s₀, H₀: the entry; outer: the frames whose slots others may change (a def's callers); stack: all frames that run;
   ex: iterators that were made ahead of the entry and are walked here (a comprehension's); fn: the names whose cells were made at the entry (a def: all; a comprehension's block: its own); calm: not within an except suite; pn: pins that every state bears; xe: what is wanted of an exception that leaves the code -/
structure Cx where
  prog : Program
  w : World
  K : PySem.W.Frag
  mg : Str → Option Value
  base : Heap
  A : Around
  N : List Str
  s₀ : Shared
  H₀ : Hp
  env : Env
  outer : List Env
  stack : List Env
  ex : List Addr
  fn : Str → Bool
  calm : Bool
  pn : List (Addr × Obj)
  xe : Value → Shared → Prop
/-- the callers' frames -/
def frs (l : List Env) : List Addr := l.filterMap (·.frame)
abbrev Cx.fs (X : Cx) : List Addr := frs X.outer

def Vis (sc : Scope) (x : Str) : Prop := sc.names.lookup x = some .local ∨ sc.names.lookup x = some .cell ∨ sc.names.lookup x = some .free
def Loc (sc : Scope) (x : Str) : Prop := sc.names.lookup x = some .local ∨ sc.names.lookup x = some .cell
def Look (env : Env) (h : Heap) (m : Str → Option Value) (x : Str) (u : Value) : Prop :=
  (env.kindOf x = some .local ∧ m x = some u) ∨ ((env.kindOf x = some .cell ∨ env.kindOf x = some .free) ∧ ∃ c, env.cells.lookup x = some c ∧ h.IsCell c (some u))

structure Cx.Ok (X : Cx) : Prop where
  mod : Mod X.K X.mg X.base
  kind : X.env.scope.kind = .function
  glob : X.env.globals = mainGlobals
  blt : X.env.builtins = builtinsNs
  above : X.s₀.heap.objs.size ≤ X.env.locals
  inj : ∀ x y c, X.env.cells.lookup x = some c → X.env.cells.lookup y = some c → x = y
  has : ∀ x, (X.env.kindOf x = some .cell ∨ X.env.kindOf x = some .free) → ∃ c, X.env.cells.lookup x = some c
  cab : ∀ x c, X.fn x = true → X.env.cells.lookup x = some c → X.s₀.heap.objs.size ≤ c
  hd : X.calm = true → X.A.handled = none
  frames : X.A.frames = some X.stack
  stk : X.stack = X.outer ∨ (X.stack = X.env :: X.outer ∧ X.env.frame = some X.env.locals)
  exf : ∀ b ∈ X.ex, b ≠ X.env.locals ∧ ∀ x c, X.env.cells.lookup x = some c → c ≠ b
  bs : ∀ b o, X.base.get? b = some o → X.s₀.heap.get? b = some o ∧ X.H₀ b = none
  bsz : X.base.objs.size ≤ X.s₀.heap.objs.size
  noex : ∀ b o, X.base.get? b = some o → b ∉ X.ex
  exfs : ∀ b ∈ X.ex, b ∉ X.fs
  funs : X.s₀.heap.FunFrames X.base X.outer
  frf : ∀ b ∈ X.fs, X.H₀ b = none

structure Inv (X : Cx) (pins : List (Addr × Obj)) (σ : List (Option V)) (H : Hp) (s : Shared) : Prop where
  ok : X.Ok
  os : s.os = X.s₀.os
  bare : AllBare s.gens
  base : Un X.fs X.ex X.H₀ H X.s₀.heap s.heap
  loc : ∃ m, s.heap.Ns X.env.locals m ∧ ∀ (i : Nat) (x : Str) (v : V), X.N[i]? = some x → σ[i]? = some (some v) → Vis X.env.scope x → ∃ u, RelV v u ∧ Look X.env s.heap m x u
  cell : ∀ x c, X.env.cells.lookup x = some c → ∃ v, s.heap.IsCell c v
  free : H X.env.locals = none
  freeC : ∀ x c, X.env.cells.lookup x = some c → H c = none
  pin : ∀ p ∈ X.pn ++ pins, s.heap.get? p.1 = some p.2 ∧ H p.1 = none ∧ p.1 ≠ X.env.locals ∧ p.1 ∉ X.fs ∧ ∀ v, p.2.data ≠ .cell v
  hok : HOk X.prog X.w H s.heap
  len : σ.length = X.N.length

section
variable {X : Cx} {pins : List (Addr × Obj)} {σ : List (Option V)} {H H' : Hp} {s : Shared} {h' : Heap}

theorem Cx.Ok.nofr (ok : X.Ok) {b : Addr} {o : Obj} (e : X.base.get? b = some o) : b ∉ X.fs := fun hb => by
  have := (ok.funs.mem hb).1
  rw [e] at this; cases this
theorem Inv.bs (I : Inv X pins σ H s) : ∀ b o, X.base.get? b = some o → s.heap.get? b = some o ∧ H b = none := fun b o e =>
  ⟨I.base.keep b o (I.ok.bs b o e).1 (I.ok.bs b o e).2 (I.ok.nofr e) (I.ok.noex b o e), I.base.free b o (I.ok.bs b o e).1 (I.ok.bs b o e).2 (I.ok.noex b o e)⟩
theorem Inv.bk (I : Inv X pins σ H s) : ∀ b o, X.base.get? b = some o → s.heap.get? b = some o := fun b o e => (I.bs b o e).1
theorem Inv.mod (I : Inv X pins σ H s) : Mod X.K X.mg X.base := I.ok.mod
theorem Inv.kIn (I : Inv X pins σ H s) : X.K.In s.heap := I.ok.mod.kin.keeps I.bk
theorem Inv.nolimit (I : Inv X pins σ H s) : s.heap.NoLimit := I.ok.mod.nolimit.keeps I.bk
/-- the frame over the base: for OpenK's rules (K.In X.base is I.mod.kin) -/
theorem Inv.fr (I : Inv X pins σ H s) : ∃ m, Fr X.base X.env.locals s.heap m :=
  let ⟨m, hn, _⟩ := I.loc
  ⟨m, hn, I.bk, Nat.le_trans I.ok.bsz I.ok.above⟩
theorem Inv.lt (I : Inv X pins σ H s) : X.env.locals < s.heap.objs.size := let ⟨_, hn, _⟩ := I.loc; hn.lt
theorem Inv.sz (I : Inv X pins σ H s) : X.s₀.heap.objs.size ≤ s.heap.objs.size := Nat.le_trans I.ok.above (Nat.le_of_lt I.lt)
theorem Inv.nofs (I : Inv X pins σ H s) {a : Addr} (h : s.heap.objs.size ≤ a) : a ∉ X.fs := fun hb => by
  obtain ⟨_, o, ho, _⟩ := I.ok.funs.mem hb
  exact absurd (Nat.lt_of_lt_of_le (Heap.lt_size ho) (Nat.le_trans I.sz h)) (Nat.lt_irrefl _)
theorem Inv.cne (I : Inv X pins σ H s) : ∀ x c, X.env.cells.lookup x = some c → c ≠ X.env.locals := fun x c e z => by
  obtain ⟨v, o, ho, hd⟩ := I.cell x c e
  obtain ⟨m, ⟨o', es, ep, ho', hd', _⟩, _⟩ := I.loc
  rw [z, ho'] at ho; cases ho; rw [hd'] at hd; cases hd
theorem Inv.funs (I : Inv X pins σ H s) : s.heap.FunFrames X.base X.outer := by
  have all : ∀ (l : List Env), (∀ b ∈ frs l, b ∈ X.fs) → X.s₀.heap.FunFrames X.base l → s.heap.FunFrames X.base l := by
    intro l
    induction l with
    | nil => intro _ _; trivial
    | cons env r ih =>
      intro hs hl
      obtain ⟨hk, ⟨L, o, hf, hn, ho, hd⟩, hr⟩ := hl
      have hL : L ∈ X.fs := hs L (by unfold frs; rw [List.filterMap_cons, hf]; exact List.mem_cons_self)
      obtain ⟨sl, e⟩ := I.base.slot L o ho (I.ok.frf L hL) hL fun z => I.ok.exfs L z hL
      exact ⟨hk, ⟨L, _, hf, hn, e, hd⟩, ih (fun b hb => hs b (by unfold frs; rw [List.filterMap_cons, hf]; exact List.mem_cons_of_mem _ hb)) hr⟩
  exact all X.outer (fun _ hb => hb) I.ok.funs

/-- the frames that run, for a call -/
theorem Inv.stack (I : Inv X pins σ H s) : s.heap.FunFrames X.base X.stack := by
  rcases I.ok.stk with e | ⟨e, hf⟩
  · rw [e]; exact I.funs
  · rw [e]
    obtain ⟨m, hn, _⟩ := I.loc
    refine .cons (by rw [I.ok.kind]; decide) hf hn ?_ I.funs
    exact Heap.get?_none_of_le (Nat.le_trans I.ok.bsz I.ok.above)
theorem Inv.stkSub (I : Inv X pins σ H s) : ∀ b ∈ frs X.stack, b ∈ X.env.locals :: X.fs := fun b hb => by
  rcases I.ok.stk with e | ⟨e, hf⟩
  · rw [e] at hb; exact List.mem_cons_of_mem _ hb
  · rw [e] at hb
    unfold frs at hb
    rw [List.filterMap_cons, hf] at hb
    exact hb
theorem Inv.stkFree (I : Inv X pins σ H s) : ∀ b ∈ frs X.stack, H b = none := fun b hb => by
  rcases List.mem_cons.mp (I.stkSub b hb) with e | hb
  · rw [e]; exact I.free
  · obtain ⟨_, o, ho, _⟩ := I.ok.funs.mem hb
    exact I.base.free b o ho (I.ok.frf b hb) fun z => I.ok.exfs b z hb

/-- THE STEP: the untracked objects but the frame and the records at ch are kept (the callers' frames up to slots), the frame's map is kept, the new abstract heap is held -/
theorem Inv.step {g' : Array GenState} {t' : Nat} {d' : Drawn} {ch : List Addr} (I : Inv X pins σ H s)
    (hch : ∀ b ∈ ch, (b ∈ X.ex ∨ X.s₀.heap.objs.size ≤ b) ∧ b ≠ X.env.locals ∧ (∀ x c, X.env.cells.lookup x = some c → c ≠ b) ∧ ∀ p ∈ X.pn ++ pins, p.1 ≠ b)
    (keep : ∀ b o, b ≠ X.env.locals → b ∉ X.fs → b ∉ ch → s.heap.get? b = some o → H b = none → h'.get? b = some o)
    (slot : ∀ b o, b ≠ X.env.locals → b ∈ X.fs → b ∉ ch → s.heap.get? b = some o → H b = none → ∃ sl, h'.get? b = some { o with slots := sl }) (free : ∀ b o, b ∉ ch → s.heap.get? b = some o → H b = none → H' b = none)
    (there : ∀ b o, b ∉ ch → s.heap.get? b = some o → ∃ o', h'.get? b = some o')
    (tups : ∀ b xs, H b = some (.tup xs) → H' b = some (.tup xs)) (frzs : ∀ b o u, H b = some (.frz o u) → H' b = some (.frz o u)) (tbls : ∀ b ps, H b = some (.tbl ps) → ∃ more, H' b = some (.tbl (ps ++ more)))
    (ns : ∀ m, s.heap.Ns X.env.locals m → h'.Ns X.env.locals m) (hok : HOk X.prog X.w H' h') (hg : AllBare g') :
    Inv X pins σ H' { s with heap := h', gens := g', drawn := d', toks := t' } := by
  have neL : ∀ b o, X.s₀.heap.get? b = some o → b ≠ X.env.locals := fun b o e => Nat.ne_of_lt (Nat.lt_of_lt_of_le (Heap.lt_size e) I.ok.above)
  have neC : ∀ b o, X.s₀.heap.get? b = some o → b ∉ X.ex → b ∉ ch := fun b o e hx hb => by
    rcases (hch b hb).1 with z | z
    · exact hx z
    · exact absurd (Nat.lt_of_lt_of_le (Heap.lt_size e) z) (Nat.lt_irrefl _)
  have cellK : ∀ x c, X.env.cells.lookup x = some c → ∀ v, s.heap.IsCell c v → h'.IsCell c v := fun x c e v ⟨o, ho, hd⟩ => by
    have nch : c ∉ ch := fun z => (hch c z).2.2.1 x c e rfl
    by_cases hc : c ∈ X.fs
    · obtain ⟨sl, q⟩ := slot c o (I.cne x c e) hc nch ho (I.freeC x c e)
      exact ⟨_, q, hd⟩
    · exact ⟨o, keep c o (I.cne x c e) hc nch ho (I.freeC x c e), hd⟩
  refine ⟨I.ok, I.os, hg, ⟨fun b o e n hb hx => ?_, fun b o e n hb hx => ?_, fun b o e n hx => ?_, fun b o e hx => ?_, fun b xs e => tups b xs (I.base.tups b xs e), fun b o xs e => frzs b o xs (I.base.frzs b o xs e), fun b ps e => ?_⟩, ?_, fun x c e => ?_, ?_, fun x c e => ?_, fun p hp => ?_, hok, I.len⟩
  · exact keep b o (neL b o e) hb (neC b o e hx) (I.base.keep b o e n hb hx) (I.base.free b o e n hx)
  · obtain ⟨sl, e1⟩ := I.base.slot b o e n hb hx
    obtain ⟨sl', e2⟩ := slot b _ (neL b o e) hb (neC b o e hx) e1 (I.base.free b o e n hx)
    exact ⟨sl', e2⟩
  · obtain ⟨o', e1⟩ := I.base.there b o e hx
    exact free b o' (neC b o e hx) e1 (I.base.free b o e n hx)
  · obtain ⟨o', e1⟩ := I.base.there b o e hx
    exact there b o' (neC b o e hx) e1
  · obtain ⟨m1, e1⟩ := I.base.tbls b ps e
    obtain ⟨m2, e2⟩ := tbls b _ e1
    exact ⟨m1 ++ m2, by rw [e2, Array.append_assoc]⟩
  · obtain ⟨m, hn, hl⟩ := I.loc
    refine ⟨m, ns m hn, fun i x v e1 e2 e3 => ?_⟩
    obtain ⟨u, r, l⟩ := hl i x v e1 e2 e3
    refine ⟨u, r, ?_⟩
    rcases l with l | ⟨k, c, e, z⟩
    · exact .inl l
    · exact .inr ⟨k, c, e, cellK x c e _ z⟩
  · obtain ⟨v, z⟩ := I.cell x c e
    exact ⟨v, cellK x c e v z⟩
  · obtain ⟨m, ⟨o, _, _, ho, _⟩, _⟩ := I.loc
    exact free _ o (fun z => (hch _ z).2.1 rfl) ho I.free
  · obtain ⟨v, o, ho, hd⟩ := I.cell x c e
    exact free c o (fun z => (hch c z).2.2.1 x c e rfl) ho (I.freeC x c e)
  · obtain ⟨e, n, ne, nf, d⟩ := I.pin p hp
    have nch : p.1 ∉ ch := fun z => (hch p.1 z).2.2.2 p hp rfl
    exact ⟨keep p.1 p.2 ne nf nch e n, free p.1 p.2 nch e n, ne, nf, d⟩
/-- .. where the frame's own object is kept too -/
theorem Inv.un {t' : Nat} (I : Inv X pins σ H s) (u : Un X.fs [] H H' s.heap h') (hok : HOk X.prog X.w H' h') : Inv X pins σ H' { s with heap := h', toks := t' } := by
  obtain ⟨m, ⟨o, es, ep, ho, r⟩, _⟩ := id I.loc
  obtain ⟨sl, hL⟩ := u.any ho I.free (by simp)
  exact I.step (g' := s.gens) (d' := s.drawn) (ch := []) (fun _ z => nomatch z) (fun b o _ hb _ e n => u.keep b o e n hb (by simp)) (fun b o _ hb _ e n => u.slot b o e n hb (by simp)) (fun b o _ e n => u.free b o e n (by simp)) (fun b o _ e => u.there b o e (by simp)) u.tups u.frzs u.tbls (fun m' hm => by
    obtain ⟨o', es', ep', ho', r'⟩ := hm
    rw [ho] at ho'; cases ho'
    exact ⟨_, es', ep', hL, r'⟩) hok I.bare
/-- behind a call (or a comprehension's block): the slots of this frame may have changed too, the records at ch may have turned -/
theorem Inv.call {g' : Array GenState} {t' : Nat} {d' : Drawn} {ch : List Addr} (I : Inv X pins σ H s) (u : Un (frs X.stack) ch H H' s.heap h') (hok : HOk X.prog X.w H' h') (hg : AllBare g')
    (hch : ∀ b ∈ ch, (b ∈ X.ex ∨ X.s₀.heap.objs.size ≤ b) ∧ b ≠ X.env.locals ∧ (∀ x c, X.env.cells.lookup x = some c → c ≠ b) ∧ ∀ p ∈ X.pn ++ pins, p.1 ≠ b) :
    Inv X pins σ H' { s with heap := h', gens := g', drawn := d', toks := t' } := by
  obtain ⟨m, ⟨o, es, ep, ho, r⟩, _⟩ := id I.loc
  obtain ⟨sl, hL⟩ := u.any ho I.free fun z => (hch _ z).2.1 rfl
  exact I.step (ch := ch) hch (fun b o hL hb hc e n => u.keep b o e n (fun z => (List.mem_cons.mp (I.stkSub b z)).elim hL hb) hc) (fun b o _ _ hc e n => u.any e n hc) (fun b o hc e n => u.free b o e n hc) (fun b o hc e => u.there b o e hc) u.tups u.frzs u.tbls (fun m' hm => by
    obtain ⟨o', es', ep', ho', r'⟩ := hm
    rw [ho] at ho'; cases ho'
    exact ⟨_, es', ep', hL, r'⟩) hok hg
/-- an untracked record of ours (an iterator) has turned -/
theorem Inv.turned {t' : Nat} {it : Addr} (I : Inv X pins σ H s) (k : ∀ b o, b ≠ it → s.heap.get? b = some o → h'.get? b = some o) (hn : H it = none) (hL : it ≠ X.env.locals)
    (h1 : it ∈ X.ex ∨ X.s₀.heap.objs.size ≤ it) (h2 : ∀ x c, X.env.cells.lookup x = some c → c ≠ it) (h3 : ∀ p ∈ X.pn ++ pins, p.1 ≠ it) : Inv X pins σ H { s with heap := h', toks := t' } := by
  have nit : ∀ b u, H b = some u → b ≠ it := fun b u e z => by rw [z, hn] at e; cases e
  refine I.step (g' := s.gens) (d' := s.drawn) (ch := [it]) (fun b hb => ?_) (fun b o _ _ hc e _ => k b o (fun z => hc (by simp [z])) e) (fun b o _ _ hc e _ => ⟨o.slots, k b o (fun z => hc (by simp [z])) e⟩) (fun _ _ _ _ n => n)
    (fun b o hc e => ⟨o, k b o (fun z => hc (by simp [z])) e⟩) (fun _ _ e => e) (fun _ _ _ e => e) (fun b ps e => ⟨#[], by rw [e]; simp⟩) (fun m hm => ?_) (fun b u e => ?_) I.bare
  · have e : b = it := by simpa using hb
    subst e
    exact ⟨h1, hL, h2, h3⟩
  · obtain ⟨o, es, ep, ho, r⟩ := hm
    exact ⟨o, es, ep, k _ o (Ne.symm hL) ho, r⟩
  · refine (I.hok b u e).stay (fun c v hc q => k c v ?_ q) (fun _ q => q) fun _ _ q => q
    rcases hc with z | z
    · rw [z]; exact nit b u e
    · exact nit c _ z
theorem Inv.tok (I : Inv X pins σ H s) (t : Nat) : Inv X pins σ H { s with toks := t } := I.un (h' := s.heap) (t' := t) Un.refl I.hok
/-- all objects kept -/
theorem Inv.kept {t' : Nat} (I : Inv X pins σ H s) (k : ∀ b u, s.heap.get? b = some u → h'.get? b = some u) : Inv X pins σ H { s with heap := h', toks := t' } := I.un (Un.kept k) (I.hok.kept k)
/-- a new object laid and tracked -/
theorem Inv.laid {a : Addr} {o : HO} {t' : Nat} (I : Inv X pins σ H s) (k : ∀ b u, s.heap.get? b = some u → h'.get? b = some u) (hp : s.heap.objs.size ≤ a) (new : ObjOk X.prog X.w (upd H a o) h' a o) :
    Inv X pins σ (upd H a o) { s with heap := h', toks := t' } := I.un (Un.laid k hp (I.hok.fresh hp)) (I.hok.laid k hp new)
/-- an object written -/
theorem Inv.write {x e : Addr} {o : HO} {t' : Nat} (I : Inv X pins σ H s) (mu : Mut (H x)) (he : e = x ∨ H e = some (.own x)) (k : ∀ b u, b ≠ e → s.heap.get? b = some u → h'.get? b = some u) (heo : ∃ u, h'.get? e = some u)
    (new : ObjOk X.prog X.w (upd H x o) h' x o) : Inv X pins σ (upd H x o) { s with heap := h', toks := t' } := I.un (Un.write mu he k heo) (I.hok.write mu he k heo new)
/-- forgetting slots, pins -/
theorem Inv.weak {σ' : List (Option V)} (I : Inv X pins σ H s) (hl : σ'.length = σ.length) (w : ∀ (i : Nat) v, σ'[i]? = some (some v) → σ[i]? = some (some v)) : Inv X pins σ' H s :=
  ⟨I.ok, I.os, I.bare, I.base, let ⟨m, hn, hl'⟩ := I.loc; ⟨m, hn, fun i x v e1 e2 e3 => hl' i x v e1 (w i v e2) e3⟩, I.cell, I.free, I.freeC, I.pin, I.hok, hl.trans I.len⟩
theorem Inv.pins_of {pins' : List (Addr × Obj)} (I : Inv X pins σ H s) (h : ∀ p ∈ pins', s.heap.get? p.1 = some p.2 ∧ H p.1 = none ∧ p.1 ≠ X.env.locals ∧ p.1 ∉ X.fs ∧ ∀ v, p.2.data ≠ .cell v) : Inv X pins' σ H s :=
  ⟨I.ok, I.os, I.bare, I.base, I.loc, I.cell, I.free, I.freeC, fun p hp => (List.mem_append.mp hp).elim (fun z => I.pin p (List.mem_append_left _ z)) (h p), I.hok, I.len⟩

theorem nodup_ix {N : List Str} (hN : N.Nodup) {i j : Nat} {x : Str} (a : N[i]? = some x) (b : N[j]? = some x) : i = j := by
  obtain ⟨h1, e1⟩ := List.getElem?_eq_some_iff.mp a
  obtain ⟨h2, e2⟩ := List.getElem?_eq_some_iff.mp b
  exact (List.getElem_inj hN).mp (e1.trans e2.symm)

/-- a name is stored; what changed -/
theorem store_ok2 {M : Model} {A : Around} {E : Value → Shared → Prop} {i : Nat} {x : Str} {v : V} {u : Value} {Q : Unit → Shared → Prop} (I : Inv X pins σ H s) (hN : X.N.Nodup) (hi : X.N[i]? = some x) (hx : Loc X.env.scope x) (r : RelV v u)
    (h : ∀ s', Inv X pins (σ.set i (some v)) H s' → (∃ a, Heap.SameBut a s.heap s'.heap ∧ (a = X.env.locals ∨ X.env.cells.lookup x = some a)) → Q () s') (hf : X.fn x = true ∨ X.env.scope.names.lookup x = some .local := by first | exact .inl rfl | exact .inr rfl | assumption) : wpAny M A (storeName X.env x u) Q E s := by
  obtain ⟨m, hn, hl⟩ := id I.loc
  have hcls : (X.env.scope.kind == .class || (X.env.scope.kind == .module && X.env.locals != X.env.globals)) = false := by rw [I.ok.kind]; rfl
  have hiσ : i < σ.length := by rw [I.len]; exact (List.getElem?_eq_some_iff.mp hi).1
  have cne := I.cne
  have tracked : ∀ {a : Addr} {h' : Heap}, (∃ o, s.heap.get? a = some o ∧ H a = none) → Heap.SameBut a s.heap h' → HOk X.prog X.w H h' := fun {a h'} ha hs b ob e => by
    obtain ⟨_, _, hfree⟩ := ha
    refine (I.hok b ob e).stay (fun c w' hc q => (hs.2 c ?_).trans q) (fun _ q => q) fun _ _ q => q
    rintro rfl
    rcases hc with rfl | hc
    · rw [hfree] at e; cases e
    · rw [hfree] at hc; cases hc
  rcases hx with hk | hk
  · refine wpAny_storeName_local hk hn (fun h' hn' hs => ?_) hcls
    obtain ⟨oL, _, _, hoL, _⟩ := id hn
    refine h _ ⟨I.ok, I.os, I.bare, ⟨fun b o e n hb hx => ?_, fun b o e n hb hx => ?_, I.base.free, fun b o e hx => ?_, I.base.tups, I.base.frzs, I.base.tbls⟩, ⟨_, hn', fun j y v' e1 e2 e3 => ?_⟩, fun y c e => ?_, I.free, I.freeC, fun p hp => ?_, tracked ⟨oL, hoL, I.free⟩ hs, by simpa using I.len⟩ ⟨_, hs, .inl rfl⟩
    · exact (hs.2 b (Nat.ne_of_lt (Nat.lt_of_lt_of_le (Heap.lt_size e) I.ok.above))).trans (I.base.keep b o e n hb hx)
    · obtain ⟨sl, e1⟩ := I.base.slot b o e n hb hx
      exact ⟨sl, (hs.2 b (Nat.ne_of_lt (Nat.lt_of_lt_of_le (Heap.lt_size e) I.ok.above))).trans e1⟩
    · obtain ⟨o', e1⟩ := I.base.there b o e hx
      exact ⟨o', (hs.2 b (Nat.ne_of_lt (Nat.lt_of_lt_of_le (Heap.lt_size e) I.ok.above))).trans e1⟩
    · by_cases hj : j = i
      · subst hj
        rw [hi] at e1; cases e1
        rw [List.getElem?_set_self hiσ] at e2
        cases e2
        exact ⟨u, r, .inl ⟨hk, by simp⟩⟩
      · rw [List.getElem?_set_ne (Ne.symm hj)] at e2
        obtain ⟨u', r', q⟩ := hl j y v' e1 e2 e3
        refine ⟨u', r', ?_⟩
        rcases q with ⟨k, e⟩ | ⟨k, c, e, z⟩
        · refine .inl ⟨k, ?_⟩
          have : y ≠ x := fun e => hj (nodup_ix hN e1 (e ▸ hi))
          simp [this, e]
        · exact .inr ⟨k, c, e, z.sameBut hs (cne y c e)⟩
    · obtain ⟨w', z⟩ := I.cell y c e
      exact ⟨w', z.sameBut hs (cne y c e)⟩
    · obtain ⟨e, n, ne, nf, d⟩ := I.pin p hp
      exact ⟨(hs.2 p.1 ne).trans e, n, ne, nf, d⟩
  · have hfn : X.fn x = true := by
      rcases hf with z | z
      · exact z
      · rw [z] at hk; cases hk
    obtain ⟨c, hc⟩ := I.ok.has x (.inl hk)
    obtain ⟨w', z⟩ := I.cell x c hc
    refine wpAny_storeName_cell I.ok.kind hk hc z (fun h' hc' hs => ?_)
    obtain ⟨oc, hoc, hocd⟩ := id z
    refine h { s with heap := h' } ⟨I.ok, I.os, I.bare, ⟨fun b o e n hb hx => ?_, fun b o e n hb hx => ?_, I.base.free, fun b o e hx => ?_, I.base.tups, I.base.frzs, I.base.tbls⟩, ⟨m, hn.sameBut hs (Ne.symm (cne x c hc)), fun j y v' e1 e2 e3 => ?_⟩, fun y c' e => ?_, I.free, I.freeC, fun p hp => ?_, tracked ⟨oc, hoc, I.freeC x c hc⟩ hs, by simpa using I.len⟩ ⟨c, hs, .inr hc⟩
    · exact (hs.2 b (Nat.ne_of_lt (Nat.lt_of_lt_of_le (Heap.lt_size e) (I.ok.cab x c hfn hc)))).trans (I.base.keep b o e n hb hx)
    · obtain ⟨sl, e1⟩ := I.base.slot b o e n hb hx
      exact ⟨sl, (hs.2 b (Nat.ne_of_lt (Nat.lt_of_lt_of_le (Heap.lt_size e) (I.ok.cab x c hfn hc)))).trans e1⟩
    · obtain ⟨o', e1⟩ := I.base.there b o e hx
      exact ⟨o', (hs.2 b (Nat.ne_of_lt (Nat.lt_of_lt_of_le (Heap.lt_size e) (I.ok.cab x c hfn hc)))).trans e1⟩
    · by_cases hj : j = i
      · subst hj
        rw [hi] at e1; cases e1
        rw [List.getElem?_set_self hiσ] at e2
        cases e2
        exact ⟨u, r, .inr ⟨.inl hk, c, hc, hc'⟩⟩
      · rw [List.getElem?_set_ne (Ne.symm hj)] at e2
        obtain ⟨u', r', q⟩ := hl j y v' e1 e2 e3
        refine ⟨u', r', ?_⟩
        rcases q with q | ⟨k, c', e, z'⟩
        · exact .inl q
        · refine .inr ⟨k, c', e, z'.sameBut hs ?_⟩
          rintro rfl
          exact hj (nodup_ix hN e1 (I.ok.inj _ _ _ e hc ▸ hi))
    · by_cases hcc : c' = c
      · subst hcc; exact ⟨_, hc'⟩
      · obtain ⟨w2, z2⟩ := I.cell y c' e
        exact ⟨w2, z2.sameBut hs hcc⟩
    · obtain ⟨e, n, ne, nf, d⟩ := I.pin p hp
      refine ⟨(hs.2 p.1 ?_).trans e, n, ne, nf, d⟩
      intro q
      rw [q, hoc] at e
      have q' : oc = p.2 := Option.some.inj e
      exact d w' (by rw [← q']; exact hocd)
theorem store_ok {M : Model} {A : Around} {E : Value → Shared → Prop} {i : Nat} {x : Str} {v : V} {u : Value} {Q : Unit → Shared → Prop} (I : Inv X pins σ H s) (hN : X.N.Nodup) (hi : X.N[i]? = some x) (hx : Loc X.env.scope x) (r : RelV v u)
    (h : ∀ s', Inv X pins (σ.set i (some v)) H s' → Q () s') (hf : X.fn x = true ∨ X.env.scope.names.lookup x = some .local := by first | exact .inl rfl | exact .inr rfl | assumption) : wpAny M A (storeName X.env x u) Q E s :=
  store_ok2 I hN hi hx r (fun s' I' _ => h s' I') hf
/-- behind a call or a block, the state as it is -/
theorem Inv.call' {s' : Shared} {ch : List Addr} (I : Inv X pins σ H s) (ho : s'.os = s.os) (u : Un (frs X.stack) ch H H' s.heap s'.heap) (hok : HOk X.prog X.w H' s'.heap) (hg : AllBare s'.gens)
    (hch : ∀ b ∈ ch, (b ∈ X.ex ∨ X.s₀.heap.objs.size ≤ b) ∧ b ≠ X.env.locals ∧ (∀ x c, X.env.cells.lookup x = some c → c ≠ b) ∧ ∀ p ∈ X.pn ++ pins, p.1 ≠ b) : Inv X pins σ H' s' := by
  obtain ⟨h', g', d', t', o'⟩ := s'
  have e : o' = s.os := ho
  subst e
  exact I.call (g' := g') (t' := t') (d' := d') u hok hg hch
end

/-! ### the judgements -/
/-- an exception: its class, its own dict's address (where it has one), the abstract heap behind it -/
abbrev XK := Value → Option Addr → Hp → Prop
abbrev St := List (Option V)
abbrev VK := V → Hp → Prop
/-- an expression's reading; a test's; an argument list's -/
abbrev TE := St → Hp → VK → Prop
abbrev TT := St → Hp → (Bool → Hp → Prop) → Prop
abbrev TA := St → Hp → (List V → Hp → Prop) → Prop
/-- what is wanted behind a statement -/
structure Ends where
  nx : St → Hp → Prop
  rt : VK
  bk : St → Hp → Prop := fun _ _ => False
  ct : St → Hp → Prop := fun _ _ => False
abbrev TS := Ends → St → Hp → Prop

def EP (X : Cx) (pins : List (Addr × Obj)) (σ : St) (Q : VK) (u : Value) (s' : Shared) : Prop := ∃ v H', Inv X pins σ H' s' ∧ RelV v u ∧ Q v H'
def TP (X : Cx) (pins : List (Addr × Obj)) (σ : St) (Q : Bool → Hp → Prop) (b : Bool) (s' : Shared) : Prop := ∃ H', Inv X pins σ H' s' ∧ Q b H'
def AP (X : Cx) (pins : List (Addr × Obj)) (σ : St) (Q : List V → Hp → Prop) (us : List Value) (s' : Shared) : Prop := ∃ vs H', Inv X pins σ H' s' ∧ Vals vs us ∧ Q vs H'
def SP (X : Cx) (pins : List (Addr × Obj)) (D : Ends) (f : Flow) (s' : Shared) : Prop :=
  match f with
  | .next => ∃ σ' H', Inv X pins σ' H' s' ∧ D.nx σ' H'
  | .brk => ∃ σ' H', Inv X pins σ' H' s' ∧ D.bk σ' H'
  | .cont => ∃ σ' H', Inv X pins σ' H' s' ∧ D.ct σ' H'
  | .ret u => ∃ v σ' H', Inv X pins σ' H' s' ∧ RelV v u ∧ D.rt v H'

def PE (X : Cx) (e : Expr) (t : TE) : Prop :=
  ∀ (pins : List (Addr × Obj)) (s : Shared) (σ : St) (H : Hp) (Q : VK), Inv X pins σ H s → t σ H Q → wpAny (model X.prog X.w) X.A (eval e X.env) (EP X pins σ Q) X.xe s
def PT (X : Cx) (e : Expr) (t : TT) : Prop :=
  ∀ (pins : List (Addr × Obj)) (s : Shared) (σ : St) (H : Hp) (Q : Bool → Hp → Prop), Inv X pins σ H s → t σ H Q → wpAny (model X.prog X.w) X.A (isTrue e X.env (eval e X.env)) (TP X pins σ Q) X.xe s
/-- a test whatever its 'whole' is (and, or) -/
def PW (X : Cx) (e : Expr) (t : TT) : Prop :=
  ∀ (whole : Sem Value) (pins : List (Addr × Obj)) (s : Shared) (σ : St) (H : Hp) (Q : Bool → Hp → Prop), Inv X pins σ H s → t σ H Q → wpAny (model X.prog X.w) X.A (isTrue e X.env whole) (TP X pins σ Q) X.xe s
theorem PW.pt {X : Cx} {e : Expr} {t : TT} (h : PW X e t) : PT X e t := h _
/-- an argument list (no star), from the left -/
def PA (X : Cx) (es : List Expr) (t : TA) : Prop :=
  ∀ (pos : Pos) (pins : List (Addr × Obj)) (s : Shared) (σ : St) (H : Hp) (Q : List V → Hp → Prop), Inv X pins σ H s → t σ H Q → wpAny (model X.prog X.w) X.A (spliced (backTo pos (starEach es X.env))) (AP X pins σ Q) X.xe s
def PS (X : Cx) (st : Stmt) (t : TS) : Prop :=
  ∀ (pins : List (Addr × Obj)) (s : Shared) (σ : St) (H : Hp) (D : Ends), Inv X pins σ H s → t D σ H → wpAny (model X.prog X.w) X.A (exec st X.env) (SP X pins D) X.xe s
def PSs (X : Cx) (st : List Stmt) (t : TS) : Prop :=
  ∀ (pins : List (Addr × Obj)) (s : Shared) (σ : St) (H : Hp) (D : Ends), Inv X pins σ H s → t D σ H → wpAny (model X.prog X.w) X.A (execs st X.env) (SP X pins D) X.xe s
/-- weaken the end -/
theorem thn {α : Type} {t : Sem α} {Q Q' : α → Shared → Prop} {M : Model} {A : Around} {E : Value → Shared → Prop} {s : Shared} (h : wpAny M A t Q E s) (hQ : ∀ a s, Q a s → Q' a s) : wpAny M A t Q' E s := wpAny_mono h hQ fun _ _ x => x
end L2

namespace L2
open PySem PySem.Spec PyProof.Rows
section
variable {X : Cx}

/-- two expressions in a row -/
theorem bin {a b : Expr} {ta tb : TE} (ha : PE X a ta) (hb : PE X b tb) {pins : List (Addr × Obj)} {s : Shared} {σ : St} {H : Hp} {R : V → V → Hp → Prop} (I : Inv X pins σ H s) (h : ta σ H fun x H1 => tb σ H1 fun y H2 => R x y H2)
    {α : Type} {Q : α → Shared → Prop} {f : Value → Value → Sem α}
    (hf : ∀ v u s2 x y H2, Inv X pins σ H2 s2 → RelV x v → RelV y u → R x y H2 → wpAny (model X.prog X.w) X.A (f v u) Q X.xe s2) :
    wpAny (model X.prog X.w) X.A (eval a X.env) (fun v s₁ => wpAny (model X.prog X.w) X.A (eval b X.env) (fun u s₂ => wpAny (model X.prog X.w) X.A (f v u) Q X.xe s₂) X.xe s₁) X.xe s := by
  refine thn (ha pins s σ H _ I h) fun v s1 ⟨x, H1, I1, r1, q1⟩ => ?_
  refine thn (hb pins s1 σ H1 _ I1 q1) fun u s2 ⟨y, H2, I2, r2, q2⟩ => ?_
  exact hf v u s2 x y H2 I2 r1 r2 q2

/-! ### names and constants -/
def tVar (i : Nat) : TE := fun σ H Q => ∃ v, σ[i]? = some (some v) ∧ Q v H
def tC (v : V) : TE := fun _ H Q => Q v H
theorem pe_var {i : Nat} {x : Str} {pos : Pos} (hN : X.N[i]? = some x) (hv : Vis X.env.scope x) (hd : (x == ("__debug__" : Str)) = false := by decide) (hcd : (x == ("__classdict__" : Str)) = false := by decide) : PE X (.Name x pos) (tVar i) := by
  intro pins s σ H Q I h
  obtain ⟨v, e, h⟩ := h
  obtain ⟨m, hn, hl⟩ := I.loc
  obtain ⟨u, r, l⟩ := hl i x v hN e hv
  have fin : EP X pins σ Q u s := ⟨v, H, I, r, h⟩
  rcases l with ⟨hk, hm⟩ | ⟨hk, c, hc, hcell⟩
  · exact wpAny_Name (wpAny_loadName_local I.ok.kind hk hn hm fin) hd
  · rcases hk with hk | hk
    · exact wpAny_Name (wpAny_loadName_cell I.ok.kind hk hc hcell fin) hd
    · exact wpAny_Name (wpAny_loadName_free I.ok.kind hk hc hcell fin hcd) hd
theorem pe_int {i j pos} : PE X (.Constant (.int i) j pos) (tC (.int i)) := fun _ _ _ H _ I h => wpAny_Constant_int ⟨.int i, H, I.tok _, ⟨_, rfl⟩, h⟩
theorem pe_bl {b j pos} : PE X (.Constant (.bool b) j pos) (tC (.bl b)) := fun _ _ _ H _ I h => Constant_bool ⟨.bl b, H, I, rfl, h⟩
theorem pe_non {j pos} : PE X (.Constant .none j pos) (tC .non) := fun _ _ _ H _ I h => Constant_none ⟨.non, H, I, rfl, h⟩
theorem pe_str {x j pos} : PE X (.Constant (.str x) j pos) (tC (.str x)) := fun _ _ _ H _ I h => Calls.Constant_str ⟨.str x, H, I.tok _, ⟨_, rfl⟩, h⟩

/-- a global name of the def -/
def Gl (X : Cx) (x : Str) : Prop := X.env.kindOf x = some .globalImplicit
theorem ld_glob {E : Value → Shared → Prop} {pins : List (Addr × Obj)} {s : Shared} {σ : St} {H : Hp} {x : Str} {u : Value} {pos : Pos} {Q : Value → Shared → Prop} (I : Inv X pins σ H s) (hg : Gl X x) (hm : X.mg x = some u) (h : Q u s)
    (hd : (x == ("__debug__" : Str)) = false := by decide) : wpAny (model X.prog X.w) X.A (eval (.Name x pos) X.env) Q E s :=
  Calls.Name_function_global I.ok.kind hg (Calls.loadGlobal_global (by rw [I.ok.glob]; exact I.mod.glob.keeps I.bk) hm h) hd
theorem ld_blt {E : Value → Shared → Prop} {pins : List (Addr × Obj)} {s : Shared} {σ : St} {H : Hp} {x : Str} {u : Value} {pos : Pos} {Q : Value → Shared → Prop} (I : Inv X pins σ H s) (hg : Gl X x) (hm : X.mg x = none) (hv : bootBuiltins x = some u) (h : Q u s)
    (hn : x ≠ "__name__" := by decide) (hd : (x == ("__debug__" : Str)) = false := by decide) : wpAny (model X.prog X.w) X.A (eval (.Name x pos) X.env) Q E s := by
  obtain ⟨mb, h1, h2⟩ := I.mod.blt
  exact Calls.Name_function_global I.ok.kind hg (Calls.loadGlobal_builtin (by rw [I.ok.glob]; exact I.mod.glob.keeps I.bk) hm (by rw [I.ok.blt]; exact h1.keeps I.bk) ((h2 x hn).trans hv) h) hd
/-- a module's constant, a class, a function, as a value -/
theorem pe_glob {x : Str} {v : V} {u : Value} {pos : Pos} (hg : Gl X x) (hm : X.mg x = some u) (r : RelV v u) (hd : (x == ("__debug__" : Str)) = false := by decide) : PE X (.Name x pos) (tC v) :=
  fun _ _ _ H _ I h => ld_glob I hg hm ⟨v, H, I, r, h⟩ hd
theorem pe_bltn {x : Str} {v : V} {u : Value} {pos : Pos} (hg : Gl X x) (hm : X.mg x = none) (hv : bootBuiltins x = some u) (r : RelV v u) (hn : x ≠ "__name__" := by decide) (hd : (x == ("__debug__" : Str)) = false := by decide) : PE X (.Name x pos) (tC v) :=
  fun _ _ _ H _ I h => ld_blt I hg hm hv ⟨v, H, I, r, h⟩ hn hd

/-! ### arithmetic -/
/-- two ints -/
def t2I (ta tb : TE) (k : Int → Int → Hp → Prop) : St → Hp → Prop := fun σ H => ta σ H fun x H1 => tb σ H1 fun y H2 => ∃ i j, x = .int i ∧ y = .int j ∧ k i j H2
def tAdd (ta tb : TE) : TE := fun σ H Q => t2I ta tb (fun i j H2 => Q (.int (i + j)) H2) σ H
def tSub (ta tb : TE) : TE := fun σ H Q => t2I ta tb (fun i j H2 => Q (.int (i - j)) H2) σ H
/-- the left factor below 2^64 -/
def tMul (ta tb : TE) : TE := fun σ H Q => t2I ta tb (fun i j H2 => (-(2 ^ 64) < i ∧ i < 2 ^ 64) ∧ Q (.int (i * j)) H2) σ H
variable {a b : Expr} {ta tb : TE} {pos : Pos}
theorem pe_add (ha : PE X a ta) (hb : PE X b tb) : PE X (.BinOp a .Add b pos) (tAdd ta tb) := by
  intro pins s σ H Q I h
  refine wpAny_BinOp (bin ha hb I h fun v u s2 x y H2 I2 rx ry q => ?_)
  obtain ⟨i, j, rfl, rfl, q⟩ := q
  obtain ⟨t, rfl⟩ := rx
  obtain ⟨t', rfl⟩ := ry
  exact add_int ⟨.int _, H2, I2.tok _, ⟨_, rfl⟩, q⟩
theorem pe_sub (ha : PE X a ta) (hb : PE X b tb) : PE X (.BinOp a .Sub b pos) (tSub ta tb) := by
  intro pins s σ H Q I h
  refine wpAny_BinOp (bin ha hb I h fun v u s2 x y H2 I2 rx ry q => ?_)
  obtain ⟨i, j, rfl, rfl, q⟩ := q
  obtain ⟨t, rfl⟩ := rx
  obtain ⟨t', rfl⟩ := ry
  exact sub_int ⟨.int _, H2, I2.tok _, ⟨_, rfl⟩, q⟩
theorem pe_mul (ha : PE X a ta) (hb : PE X b tb) : PE X (.BinOp a .Mult b pos) (tMul ta tb) := by
  intro pins s σ H Q I h
  refine wpAny_BinOp (bin ha hb I h fun v u s2 x y H2 I2 rx ry q => ?_)
  obtain ⟨i, j, rfl, rfl, ⟨q1, q2⟩, q⟩ := q
  obtain ⟨t, rfl⟩ := rx
  obtain ⟨t', rfl⟩ := ry
  exact mul_int ⟨.int _, H2, I2.tok _, ⟨_, rfl⟩, q⟩ (.of_left (intBits_le_64 q1 q2))

/-! ### comparisons -/
def PC (X : Cx) (op : CmpOp) (a b : Expr) (t : TE) : Prop :=
  ∀ (pins : List (Addr × Obj)) (s : Shared) (σ : St) (H : Hp) (Q : VK), Inv X pins σ H s → t σ H Q →
    wpAny (model X.prog X.w) X.A (eval a X.env) (fun v s₁ => wpAny (model X.prog X.w) X.A (eval b X.env) (fun u s₂ => wpAny (model X.prog X.w) X.A (compareOp op v u) (EP X pins σ Q) X.xe s₂) X.xe s₁) X.xe s
theorem nobehind (b : Expr) {op : CmpOp} (h : op ≠ .In) (h2 : op ≠ .NotIn) : behindInMarks op b = false := by
  have e1 : (op == CmpOp.In) = false := by cases op <;> first | rfl | exact absurd rfl h
  have e2 : (op == CmpOp.NotIn) = false := by cases op <;> first | rfl | exact absurd rfl h2
  cases b <;> simp [behindInMarks, e1, e2]
def tCmp (p : Int → Int → Bool) (ta tb : TE) : TE := fun σ H Q => t2I ta tb (fun i j H2 => Q (.bl (p i j)) H2) σ H
abbrev tLt : TE → TE → TE := tCmp fun i j => decide (i < j)
abbrev tLe : TE → TE → TE := tCmp fun i j => decide (i ≤ j)
abbrev tGt : TE → TE → TE := tCmp fun i j => decide (j < i)
abbrev tGe : TE → TE → TE := tCmp fun i j => decide (j ≤ i)
abbrev tEqI : TE → TE → TE := tCmp fun i j => decide (i = j)
abbrev tNeI : TE → TE → TE := tCmp fun i j => !decide (i = j)
/-- a comparison of two ints, by its rule -/
theorem pc_int {op : CmpOp} {p : Int → Int → Bool} (ha : PE X a ta) (hb : PE X b tb)
    (rule : ∀ (i j : Int) (t u : Tok) (Q : Value → Shared → Prop) (s : Shared), Q (.bool (p i j)) s → wpAny (model X.prog X.w) X.A (compareOp op (.int i t) (.int j u)) Q X.xe s) : PC X op a b (tCmp p ta tb) := by
  intro pins s σ H Q I h
  refine bin ha hb I h fun v u s2 x y H2 I2 rx ry q => ?_
  obtain ⟨i, j, rfl, rfl, q⟩ := q
  obtain ⟨t, rfl⟩ := rx
  obtain ⟨t', rfl⟩ := ry
  exact rule i j t t' _ s2 ⟨.bl _, H2, I2, rfl, q⟩
theorem pc_lt (ha : PE X a ta) (hb : PE X b tb) : PC X .Lt a b (tLt ta tb) := pc_int ha hb fun _ _ _ _ _ _ h => lt_int h
theorem pc_le (ha : PE X a ta) (hb : PE X b tb) : PC X .LtE a b (tLe ta tb) := pc_int ha hb fun _ _ _ _ _ _ h => le_int h
theorem pc_gt (ha : PE X a ta) (hb : PE X b tb) : PC X .Gt a b (tGt ta tb) := pc_int ha hb fun _ _ _ _ _ _ h => gt_int h
theorem pc_ge (ha : PE X a ta) (hb : PE X b tb) : PC X .GtE a b (tGe ta tb) := pc_int ha hb fun _ _ _ _ _ _ h => ge_int h
theorem pc_eqI (ha : PE X a ta) (hb : PE X b tb) : PC X .Eq a b (tEqI ta tb) := pc_int ha hb fun _ _ _ _ _ _ h => eq_int (by rw [Bool.beq_eq_decide_eq]; exact h)
theorem pc_neI (ha : PE X a ta) (hb : PE X b tb) : PC X .NotEq a b (tNeI ta tb) := pc_int ha hb fun _ _ _ _ _ _ h => ne_int (by rw [bne, Bool.beq_eq_decide_eq]; exact h)
/-- is None -/
def tIsN (ta : TE) : TE := fun σ H Q => ta σ H fun x H1 => Q (.bl (decide (x = .non))) H1
def tNotN (ta : TE) : TE := fun σ H Q => ta σ H fun x H1 => Q (.bl (!decide (x = .non))) H1
theorem RelV.none_iff {x : V} {v : Value} (r : RelV x v) : (v == Value.none) = decide (x = .non) := by
  cases x with
  | non => cases r; rfl
  | bl _ => cases r; rfl
  | int _ => obtain ⟨t, rfl⟩ := r; rfl
  | str _ => obtain ⟨t, rfl⟩ := r; rfl
  | byt _ => obtain ⟨t, rfl⟩ := r; rfl
  | flt _ => obtain ⟨t, rfl⟩ := r; rfl
  | ref _ => cases r; rfl
  | ty _ => cases r; rfl
theorem pc_isN {j pos'} (ha : PE X a ta) : PC X .Is a (.Constant .none j pos') (tIsN ta) := by
  intro pins s σ H Q I h
  refine thn (ha pins s σ H _ I h) fun v s1 ⟨x, H1, I1, r1, q1⟩ => ?_
  exact Constant_none (is_none_gen ⟨.bl _, H1, I1, by rw [r1.none_iff]; rfl, q1⟩)
theorem pc_notN {j pos'} (ha : PE X a ta) : PC X .IsNot a (.Constant .none j pos') (tNotN ta) := by
  intro pins s σ H Q I h
  refine thn (ha pins s σ H _ I h) fun v s1 ⟨x, H1, I1, r1, q1⟩ => ?_
  exact Constant_none (isnot_none_gen ⟨.bl _, H1, I1, by rw [r1.none_iff]; rfl, q1⟩)
/-- a comparison as a value, as a test -/
def tB (t : TE) : TT := fun σ H Q => t σ H fun x H1 => ∃ c, x = .bl c ∧ Q c H1
theorem pe_cmp {op : CmpOp} {t : TE} (h : PC X op a b t) (h1 : behindInMarks op b = false := by first | exact nobehind _ (by decide) (by decide) | rfl) : PE X (.Compare a [op] [b] pos) t := fun pins s σ H Q I hw => wpAny_Compare1 (h pins s σ H Q I hw) h1
theorem pt_cmp {op : CmpOp} {t : TE} (h : PC X op a b t) (h1 : behindInMarks op b = false := by first | exact nobehind _ (by decide) (by decide) | rfl) : PT X (.Compare a [op] [b] pos) (tB t) := by
  intro pins s σ H Q I hw
  refine wpAny_isTrue_Compare1 (thn (h pins s σ H _ I hw) fun v s1 h1 => thn h1 fun u s2 h2 => thn h2 fun c s3 ⟨x, H1, I1, r1, q1⟩ => ?_) h1
  obtain ⟨d, rfl, q⟩ := q1
  cases r1
  exact wpAny_truthy_bool ⟨H1, I1, q⟩
/-- an expression whose value is a bool, as a test -/
theorem pt_val {e : Expr} {t : TE} (h : PE X e t) (he : ∀ whole, isTrue e X.env whole = (do let v ← whole; standAt e.pos; holding [v] (truthy v)) := by intro _; rfl) : PT X e (tB t) := by
  intro pins s σ H Q I hw
  refine isTrue_plain (thn (h pins s σ H _ I hw) fun v s1 ⟨x, H1, I1, r1, q1⟩ => ?_) (he _)
  obtain ⟨d, rfl, q⟩ := q1
  cases r1
  exact wpAny_truthy_bool ⟨H1, I1, q⟩

/-! ### and, or, not -/
variable {tA tB' : TT} {rest : List Expr}
def tAnd (t u : TT) : TT := fun σ H Q => t σ H fun c H1 => if c = true then u σ H1 Q else Q false H1
def tOr (t u : TT) : TT := fun σ H Q => t σ H fun c H1 => if c = true then Q true H1 else u σ H1 Q
def tNot (t : TT) : TT := fun σ H Q => t σ H fun c H1 => Q (!c) H1
theorem pw_and1 (ha : PT X a tA) : PW X (.BoolOp .And [a] pos) tA := by
  intro wh pins s σ H Q I h
  refine isTrue_and (thn (ha pins s σ H Q I h) fun c s1 e => ?_)
  cases c with
  | true => exact isTrue_and_nil e
  | false => exact e
theorem pw_or1 (ha : PT X a tA) : PW X (.BoolOp .Or [a] pos) tA := by
  intro wh pins s σ H Q I h
  refine isTrue_or (thn (ha pins s σ H Q I h) fun c s1 e => ?_)
  cases c with
  | false => exact isTrue_or_nil e
  | true => exact e
theorem pw_and (ha : PT X a tA) (hb : PW X (.BoolOp .And (b :: rest) pos) tB') : PW X (.BoolOp .And (a :: b :: rest) pos) (tAnd tA tB') := by
  intro wh pins s σ H Q I h
  refine isTrue_and (thn (ha pins s σ H _ I h) fun c s1 ⟨H1, I1, q1⟩ => ?_)
  cases c with
  | true => exact hb wh pins s1 σ H1 Q I1 q1
  | false => exact ⟨H1, I1, q1⟩
theorem pw_or (ha : PT X a tA) (hb : PW X (.BoolOp .Or (b :: rest) pos) tB') : PW X (.BoolOp .Or (a :: b :: rest) pos) (tOr tA tB') := by
  intro wh pins s σ H Q I h
  refine isTrue_or (thn (ha pins s σ H _ I h) fun c s1 ⟨H1, I1, q1⟩ => ?_)
  cases c with
  | true => exact ⟨H1, I1, q1⟩
  | false => exact hb wh pins s1 σ H1 Q I1 q1
theorem pt_not (ha : PT X a tA) : PT X (.UnaryOp .Not a pos) (tNot tA) := by
  intro pins s σ H Q I h
  exact isTrue_not (ha pins s σ H (fun c H1 => Q (!c) H1) I h)
/-- .. as values (bools) -/
def tAndV (ta tb : TE) : TE := fun σ H Q => ta σ H fun x H1 => ∃ c, x = .bl c ∧ if c = true then tb σ H1 Q else Q (.bl false) H1
def tOrV (ta tb : TE) : TE := fun σ H Q => ta σ H fun x H1 => ∃ c, x = .bl c ∧ if c = true then Q (.bl true) H1 else tb σ H1 Q
def tNotV (ta : TE) : TE := fun σ H Q => ta σ H fun x H1 => ∃ c, x = .bl c ∧ Q (.bl (!c)) H1
theorem pe_one {op} {t : TE} (h : PE X a t) : PE X (.BoolOp op [a] pos) t := fun pins s σ H Q I hw => BoolOp_one (h pins s σ H Q I hw)
theorem pe_and (ha : PE X a ta) (hb : PE X (.BoolOp .And (b :: rest) pos) tb) : PE X (.BoolOp .And (a :: b :: rest) pos) (tAndV ta tb) := by
  intro pins s σ H Q I h
  refine BoolOp_and (thn (ha pins s σ H _ I h) fun v s1 ⟨x, H1, I1, r1, q1⟩ => ?_)
  obtain ⟨c, rfl, q1⟩ := q1
  cases r1
  refine wpAny_truthy_bool ?_
  cases c with
  | true => exact hb pins s1 σ H1 Q I1 q1
  | false => exact ⟨.bl false, H1, I1, rfl, q1⟩
theorem pe_or (ha : PE X a ta) (hb : PE X (.BoolOp .Or (b :: rest) pos) tb) : PE X (.BoolOp .Or (a :: b :: rest) pos) (tOrV ta tb) := by
  intro pins s σ H Q I h
  refine BoolOp_or (thn (ha pins s σ H _ I h) fun v s1 ⟨x, H1, I1, r1, q1⟩ => ?_)
  obtain ⟨c, rfl, q1⟩ := q1
  cases r1
  refine wpAny_truthy_bool ?_
  cases c with
  | false => exact hb pins s1 σ H1 Q I1 q1
  | true => exact ⟨.bl true, H1, I1, rfl, q1⟩
theorem pe_not (ha : PE X a ta) : PE X (.UnaryOp .Not a pos) (tNotV ta) := by
  intro pins s σ H Q I h
  refine UnaryOp_ (thn (ha pins s σ H _ I h) fun v s1 ⟨x, H1, I1, r1, q1⟩ => ?_)
  obtain ⟨c, rfl, q1⟩ := q1
  cases r1
  exact not_of (wpAny_truthy_bool ⟨.bl (!c), H1, I1, rfl, q1⟩)
/-- a if t else b -/
def tIf (t : TT) (ta tb : TE) : TE := fun σ H Q => t σ H fun c H1 => if c = true then ta σ H1 Q else tb σ H1 Q
theorem pe_ifExp {c : Expr} (hc : PT X c tA) (ha : PE X a ta) (hb : PE X b tb) : PE X (.IfExp c a b pos) (tIf tA ta tb) := by
  intro pins s σ H Q I h
  refine wpAny_IfExp (thn (hc pins s σ H _ I h) fun d s1 ⟨H1, I1, q1⟩ => ?_)
  cases d with
  | true => exact ha pins s1 σ H1 Q I1 q1
  | false => exact hb pins s1 σ H1 Q I1 q1
end
end L2

namespace L2
open PySem PySem.Spec PyProof.Rows

/-! ### a list, a tuple that is read: tracked, frozen, or an object of the module -/
def SqL (K : PySem.W.Frag) (H : Hp) (a : Addr) (xs : List V) : Prop :=
  Rd H a (.lst xs) ∨
    ∃ (o : Obj) (its : Array Value) (n : Nat), K.lookup a = some o ∧ o.cls = .type "list" ∧ o.dict = none ∧ o.data = .seq its n ∧ its.size ≤ sizeLine ∧ Vals xs its.toList
def SqT (K : PySem.W.Frag) (H : Hp) (a : Addr) (xs : List V) : Prop :=
  Rd H a (.tup xs) ∨
    ∃ (o : Obj) (its : Array Value) (n : Nat), K.lookup a = some o ∧ o.cls = .type "tuple" ∧ o.data = .seq its n ∧ its.size ≤ sizeLine ∧ Vals xs its.toList
def absV : Value → Option V
  | .none => some .non
  | .bool b => some (.bl b)
  | .int i _ => some (.int i)
  | .str x _ => some (.str x)
  | .bytes b _ => some (.byt b)
  | .float b _ => some (.flt b)
  | .ref a => some (.ref a)
  | .type n => some (.ty n)
  | _ => none
theorem RelV.abs {x : V} {u : Value} (r : RelV x u) : absV u = some x := by
  cases x with
  | non => cases r; rfl
  | bl _ => cases r; rfl
  | int _ => obtain ⟨t, rfl⟩ := r; rfl
  | str _ => obtain ⟨t, rfl⟩ := r; rfl
  | byt _ => obtain ⟨t, rfl⟩ := r; rfl
  | flt _ => obtain ⟨t, rfl⟩ := r; rfl
  | ref _ => cases r; rfl
  | ty _ => cases r; rfl
theorem RelV.inj {x y : V} {u : Value} (r : RelV x u) (q : RelV y u) : x = y := Option.some.inj (r.abs.symm.trans q.abs)
theorem Vals.inj : ∀ {xs ys : List V} {us : List Value}, Vals xs us → Vals ys us → xs = ys
  | _, _, _, .nil, .nil => rfl
  | _, _, _, .cons r t, .cons r' t' => by rw [r.inj r', Vals.inj t t']
section
variable {X : Cx} {pins : List (Addr × Obj)} {σ : St} {H : Hp} {s : Shared} {a : Addr} {xs ys : List V}
theorem SqL.of {K : PySem.W.Frag} (h : H a = some (.lst xs)) : SqL K H a xs := .inl (.inl h)
theorem SqT.of {K : PySem.W.Frag} (h : H a = some (.tup xs)) : SqT K H a xs := .inl (.inl h)
theorem Inv.list (I : Inv X pins σ H s) (h : SqL X.K H a xs) : ∃ its : List Value, Vals xs its ∧ PlainL s.heap a its.toArray ∧ xs.length ≤ sizeLine := by
  rcases h with h | ⟨o, its, n, hk, hc, hd, hs, hz, r⟩
  · obtain ⟨z, its, n, r, e⟩ := h.ok I.hok
    exact ⟨its, r, ⟨_, n, e, rfl, rfl, rfl⟩, z⟩
  · refine ⟨its.toList, r, ⟨o, n, I.kIn a o hk, hc, hd, by simpa using hs⟩, ?_⟩
    have e := r.length
    simp only [Array.length_toList] at e
    omega
theorem Inv.tuple (I : Inv X pins σ H s) (h : SqT X.K H a xs) : ∃ its : List Value, Vals xs its ∧ IsTup s.heap a its.toArray ∧ xs.length ≤ sizeLine := by
  rcases h with h | ⟨o, its, n, hk, hc, hs, hz, r⟩
  · obtain ⟨z, its, r, p⟩ := h.ok I.hok
    exact ⟨its, r, p, z⟩
  · refine ⟨its.toList, r, ⟨o, I.kIn a o hk, hc, n, by simpa using hs⟩, ?_⟩
    have e := r.length
    simp only [Array.length_toList] at e
    omega
theorem Inv.list_inj (I : Inv X pins σ H s) (h : SqL X.K H a xs) (h' : SqL X.K H a ys) : xs = ys := by
  obtain ⟨its, r, ⟨o, n, e, _, _, d⟩, _⟩ := I.list h
  obtain ⟨its', r', ⟨o', n', e', _, _, d'⟩, _⟩ := I.list h'
  rw [e] at e'; cases e'
  rw [d] at d'
  injection d' with d1 _
  have : its = its' := by simpa using congrArg Array.toList d1
  subst this
  exact r.inj r'
theorem Inv.tuple_inj (I : Inv X pins σ H s) (h : SqT X.K H a xs) (h' : SqT X.K H a ys) : xs = ys := by
  obtain ⟨its, r, ⟨o, e, _, n, d⟩, _⟩ := I.tuple h
  obtain ⟨its', r', ⟨o', e', _, n', d'⟩, _⟩ := I.tuple h'
  rw [e] at e'; cases e'
  rw [d] at d'
  injection d' with d1 _
  have : its = its' := by simpa using congrArg Array.toList d1
  subst this
  exact r.inj r'
end

/-! ### another wish about exceptions -/
abbrev Cx.wish (X : Cx) (E : Value → Shared → Prop) : Cx := { X with xe := E }
/-- no exception leaves -/
abbrev Cx.nox (X : Cx) : Cx := X.wish fun _ _ => False
theorem Cx.Ok.wish {X : Cx} (ok : X.Ok) (E : Value → Shared → Prop) : (X.wish E).Ok :=
  ⟨ok.mod, ok.kind, ok.glob, ok.blt, ok.above, ok.inj, ok.has, ok.cab, ok.hd, ok.frames, ok.stk, ok.exf, ok.bs, ok.bsz, ok.noex, ok.exfs, ok.funs, ok.frf⟩
theorem Cx.Ok.unwish {X : Cx} {E : Value → Shared → Prop} (ok : (X.wish E).Ok) : X.Ok :=
  ⟨ok.mod, ok.kind, ok.glob, ok.blt, ok.above, ok.inj, ok.has, ok.cab, ok.hd, ok.frames, ok.stk, ok.exf, ok.bs, ok.bsz, ok.noex, ok.exfs, ok.funs, ok.frf⟩
section
variable {X : Cx} {pins : List (Addr × Obj)} {σ : St} {H : Hp} {s : Shared} {E : Value → Shared → Prop}
theorem Inv.wish (I : Inv X pins σ H s) (E : Value → Shared → Prop) : Inv (X.wish E) pins σ H s := ⟨I.ok.wish E, I.os, I.bare, I.base, I.loc, I.cell, I.free, I.freeC, I.pin, I.hok, I.len⟩
theorem Inv.unwish (I : Inv (X.wish E) pins σ H s) : Inv X pins σ H s := ⟨I.ok.unwish, I.os, I.bare, I.base, I.loc, I.cell, I.free, I.freeC, I.pin, I.hok, I.len⟩
theorem SP.unwish {D : Ends} {f : Flow} {s' : Shared} (h : SP (X.wish E) pins D f s') : SP X pins D f s' := by
  cases f with
  | next => obtain ⟨σ', H', I, q⟩ := h; exact ⟨σ', H', I.unwish, q⟩
  | brk => obtain ⟨σ', H', I, q⟩ := h; exact ⟨σ', H', I.unwish, q⟩
  | cont => obtain ⟨σ', H', I, q⟩ := h; exact ⟨σ', H', I.unwish, q⟩
  | ret u => obtain ⟨v, σ', H', I, r, q⟩ := h; exact ⟨v, σ', H', I.unwish, r, q⟩
theorem PE.nox {e : Expr} {t : TE} (h : PE X.nox e t) : PE X e t := fun pins s σ H Q I hw =>
  wpAny_mono (h pins s σ H Q (I.wish _) hw) (fun _ _ ⟨v, H', I', r, q⟩ => ⟨v, H', I'.unwish, r, q⟩) fun _ _ z => False.elim z
theorem PT.nox {e : Expr} {t : TT} (h : PT X.nox e t) : PT X e t := fun pins s σ H Q I hw =>
  wpAny_mono (h pins s σ H Q (I.wish _) hw) (fun _ _ ⟨H', I', q⟩ => ⟨H', I'.unwish, q⟩) fun _ _ z => False.elim z
theorem PSs.nox {st : List Stmt} {t : TS} (h : PSs X.nox st t) : PSs X st t := fun pins s σ H D I hw =>
  wpAny_mono (h pins s σ H D (I.wish _) hw) (fun _ _ q => q.unwish) fun _ _ z => False.elim z
end

/-! ### blocks and small statements -/
section
variable {X : Cx} {st : Stmt} {rest : List Stmt} {t u : TS} {e : Expr} {te : TE} {pos : Pos}
def tNext : TS := fun D σ H => D.nx σ H
def tSeq (t u : TS) : TS := fun D σ H => t { D with nx := u D } σ H
theorem pss_nil : PSs X [] tNext := fun _ _ σ H _ I h => wpAny_execs_nil ⟨σ, H, I, h⟩
theorem pss_cons (h1 : PS X st t) (h2 : PSs X rest u) : PSs X (st :: rest) (tSeq t u) := by
  intro pins s σ H D I h
  refine wpAny_execs_cons (thn (h1 pins s σ H { D with nx := u D } I h) fun f s1 q => ?_)
  cases f with
  | next =>
    obtain ⟨σ', H', I', q⟩ := q
    exact h2 pins s1 σ' H' D I' q
  | ret v => exact q
  | brk => exact q
  | cont => exact q
theorem pss_one (h1 : PS X st t) : PSs X [st] t := by
  intro pins s σ H D I h
  refine wpAny_execs_cons (thn (h1 pins s σ H D I h) fun f s1 q => ?_)
  cases f with
  | next => exact wpAny_execs_nil q
  | ret v => exact q
  | brk => exact q
  | cont => exact q
def tBreak : TS := fun D σ H => D.bk σ H
def tCont : TS := fun D σ H => D.ct σ H
theorem ps_pass : PS X (.Pass pos) tNext := fun _ _ σ H _ I h => wpAny_Pass ⟨σ, H, I, h⟩
theorem ps_break : PS X (.Break pos) tBreak := fun _ _ σ H _ I h => wpAny_Break ⟨σ, H, I, h⟩
theorem ps_continue : PS X (.Continue pos) tCont := fun _ _ σ H _ I h => wpAny_Continue ⟨σ, H, I, h⟩
/-- in a def's body nothing is shown -/
theorem Inv.quiet {pins : List (Addr × Obj)} {σ : St} {H : Hp} {s : Shared} (I : Inv X pins σ H s) : interactive X.env = false := by simp [interactive, I.ok.kind]
/-- a docstring -/
theorem ps_doc {x j pos pos'} : PS X (.Expr (.Constant (.str x) j pos) pos') tNext := fun _ s σ H _ I h => wpAny_Expr (Calls.Constant_str (show SP X _ _ .next { s with toks := s.toks + 1 } from ⟨σ, H, I.tok _, h⟩)) I.quiet
/-- an expression whose value is dropped -/
def tDrop (te : TE) : TS := fun D σ H => te σ H fun _ H1 => D.nx σ H1
theorem ps_expr (he : PE X e te) (hs : swapsWith e none pos.line X.env = pure false := by rfl) : PS X (.Expr e pos) (tDrop te) := by
  intro pins s σ H D I h
  exact wpAny_Expr_any (thn (he pins s σ H _ I h) fun v s1 ⟨x, H1, I1, r1, q1⟩ => ⟨σ, H1, I1, q1⟩) I.quiet hs
def tRet (te : TE) : TS := fun D σ H => te σ H D.rt
theorem ps_ret (he : PE X e te) : PS X (.Return (some e) pos) (tRet te) := by
  intro pins s σ H D I h
  exact wpAny_Return_some (thn (he pins s σ H _ I h) fun v s1 ⟨x, H1, I1, r1, q1⟩ => ⟨x, σ, H1, I1, r1, q1⟩)
def tRetN : TS := fun D _ H => D.rt .non H
theorem ps_retN : PS X (.Return none pos) tRetN := fun _ _ σ H _ I h => wpAny_Return_none ⟨.non, σ, H, I, rfl, h⟩
def tIfS (c : TT) (t u : TS) : TS := fun D σ H => c σ H fun b H1 => if b = true then t D σ H1 else u D σ H1
theorem ps_if {c : Expr} {a b : List Stmt} {tc : TT} (hc : PT X c tc) (ha : PSs X a t) (hb : PSs X b u) : PS X (.If c a b pos) (tIfS tc t u) := by
  intro pins s σ H D I h
  refine wpAny_If (thn (hc pins s σ H _ I h) fun d s1 ⟨H1, I1, q1⟩ => ?_)
  cases d with
  | true => exact ha pins s1 σ H1 D I1 q1
  | false => exact hb pins s1 σ H1 D I1 q1
/-- code that the proof never comes to -/
def tNever : TS := fun _ _ _ => False
theorem ps_never : PS X st tNever := fun _ _ _ _ _ _ h => h.elim
theorem pss_never {sts : List Stmt} : PSs X sts tNever := fun _ _ _ _ _ _ h => h.elim
end

/-! ### targets -/
abbrev TG := V → St → Hp → (St → Hp → Prop) → Prop
abbrev TGs := List V → St → Hp → (St → Hp → Prop) → Prop
def PG (X : Cx) (target : Expr) (t : TG) : Prop :=
  ∀ (pins : List (Addr × Obj)) (s : Shared) (σ : St) (H : Hp) (v : V) (u : Value) (Q : St → Hp → Prop), Inv X pins σ H s → RelV v u → t v σ H Q →
    wpAny (model X.prog X.w) X.A (assign target X.env u) (fun _ s' => ∃ σ' H', Inv X pins σ' H' s' ∧ Q σ' H') X.xe s
/-- several targets, one after another -/
def PGs (X : Cx) (ts : List Expr) (t : TGs) : Prop :=
  ∀ (pins : List (Addr × Obj)) (s : Shared) (σ : St) (H : Hp) (vs : List V) (us : List Value) (Q : St → Hp → Prop), Inv X pins σ H s → Vals vs us → t vs σ H Q →
    wpAny (model X.prog X.w) X.A (assignInOrder ((assignEach ts X.env).map (·.2)) us) (fun _ s' => ∃ σ' H', Inv X pins σ' H' s' ∧ Q σ' H') X.xe s
/-- o[i] = v, by values -/
abbrev TSet := V → V → V → Hp → (Hp → Prop) → Prop
def PSet (X : Cx) (t : TSet) : Prop :=
  ∀ (pins : List (Addr × Obj)) (s : Shared) (σ : St) (H : Hp) (o i v : V) (ov iv u : Value) (Q : Hp → Prop), Inv X pins σ H s → RelV o ov → RelV i iv → RelV v u → t o i v H Q →
    wpAny (model X.prog X.w) X.A (setItem ov iv u) (fun _ s' => ∃ H', Inv X pins σ H' s' ∧ Q H') X.xe s
/-- a op= b, by values -/
abbrev TIp := V → V → Hp → VK → Prop
def PIp (X : Cx) (op : Operator) (t : TIp) : Prop :=
  ∀ (pins : List (Addr × Obj)) (s : Shared) (σ : St) (H : Hp) (x y : V) (v u : Value) (Q : VK), Inv X pins σ H s → RelV x v → RelV y u → t x y H Q →
    wpAny (model X.prog X.w) X.A (inplaceOp op v u) (EP X pins σ Q) X.xe s
section
variable {X : Cx} {pos : Pos}
def gName (i : Nat) : TG := fun v σ H Q => Q (σ.set i (some v)) H
theorem pg_name {i : Nat} {x : Str} (hN : X.N.Nodup) (hi : X.N[i]? = some x) (hx : Loc X.env.scope x) (hf : X.fn x = true ∨ X.env.scope.names.lookup x = some .local := by first | exact .inl rfl | exact .inr rfl | assumption) : PG X (.Name x pos) (gName i) := by
  intro pins s σ H v u Q I r h
  exact wpAny_assign_Name (store_ok I hN hi hx r (fun s' I' => ⟨_, H, I', h⟩) hf)
def gNil : TGs := fun vs σ H Q => vs = [] ∧ Q σ H
def gCons (t : TG) (u : TGs) : TGs := fun vs σ H Q => ∃ v r, vs = v :: r ∧ t v σ H fun σ' H' => u r σ' H' Q
theorem pgs_nil : PGs X [] gNil := by
  intro pins s σ H vs us Q I r h
  obtain ⟨e, h⟩ := h
  subst e
  cases r
  exact assignInOrder_nil ⟨σ, H, I, h⟩
theorem pgs_cons {e : Expr} {es : List Expr} {t : TG} {u : TGs} (h1 : PG X e t) (h2 : PGs X es u)
    (hs : (assignEach (e :: es) X.env).map (·.2) = assign e X.env :: (assignEach es X.env).map (·.2) := by rfl) : PGs X (e :: es) (gCons t u) := by
  intro pins s σ H vs us Q I r h
  obtain ⟨v, vr, e1, h⟩ := h
  subst e1
  cases r with
  | cons r rr =>
    rw [hs]
    refine assignInOrder_cons (thn (h1 pins s σ H _ _ _ I r h) fun _ s1 ⟨σ1, H1, I1, q1⟩ => ?_)
    exact h2 pins s1 σ1 H1 _ _ Q I1 rr q1
/-- (a, b, ..) = a tuple of that length -/
def gTup (K : PySem.W.Frag) (n : Nat) (t : TGs) : TG := fun v σ H Q => ∃ a xs, v = .ref a ∧ SqT K H a xs ∧ xs.length = n ∧ t xs σ H Q
theorem pg_tup {es : List Expr} {k : Nat} {t : TGs} {n : Nat} (hc : X.calm = true) (h : PGs X es t)
    (hn : (assignEach es X.env).length = n := by rfl) (hst : (assignEach es X.env).findIdx? (·.1) = none := by rfl) : PG X (.Tuple es k pos) (gTup X.K n t) := by
  intro pins s σ H v u Q I r hw
  obtain ⟨a, xs, e1, hq, hl, hw⟩ := hw
  subst e1
  cases r
  obtain ⟨its, rv, ht, hz⟩ := I.tuple hq
  refine assign_Tuple_tuple (I.ok.hd hc) ht (by simp [hn, ← hl, rv.length]) hst fun h' hx => ?_
  have I1 : Inv X pins σ H { s with heap := h' } := I.kept (t' := s.toks) fun b o e => hx b o (Nat.ne_of_lt (Heap.lt_size e)) e
  exact h pins _ σ H xs _ Q I1 (by simpa using rv) hw
/-- o[i] = .. -/
def gSub (to ti : TE) (t : TSet) : TG := fun v σ H Q => to σ H fun o H1 => ti σ H1 fun i H2 => t o i v H2 fun H3 => Q σ H3
theorem pg_sub {o i : Expr} {to ti : TE} {t : TSet} (ho : PE X o to) (hi : PE X i ti) (hs : PSet X t)
    (ha : ∀ v, assign (.Subscript o i pos) X.env v = (do
      let ov ← holding [v] (eval o X.env)
      let iv ← holding [v, ov] (eval i X.env)
      standAt pos
      holding [v, ov, iv] (setItem ov iv v)
      release [v, ov, iv] []) := by intro _; rfl) : PG X (.Subscript o i pos) (gSub to ti t) := by
  intro pins s σ H v u Q I r h
  rw [ha]
  refine wpAny_bind (wpAny_holding (thn (ho pins s σ H _ I h) fun ov s1 ⟨x, H1, I1, r1, q1⟩ => ?_))
  refine wpAny_bind (wpAny_holding (thn (hi pins s1 σ H1 _ I1 q1) fun iv s2 ⟨y, H2, I2, r2, q2⟩ => ?_))
  refine wpAny_bind (wpAny_standAt (wpAny_bind (wpAny_holding (thn (hs pins s2 σ H2 x y v ov iv u _ I2 r1 r2 r q2) fun _ s3 ⟨H3, I3, q3⟩ => ?_))))
  exact wpAny_release ⟨σ, H3, I3, q3⟩
/-- target = value -/
def tAsg (te : TE) (g : TG) : TS := fun D σ H => te σ H fun x H1 => g x σ H1 D.nx
theorem ps_asg {tg e : Expr} {te : TE} {g : TG} (he : PE X e te) (hg : PG X tg g) (hs : swapsWithSole [tg] e pos.line X.env = pure false := by rfl) (hw : swappedStores [tg] e X.env = pure none := by rfl)
    (h1 : (assignEach [tg] X.env).map (·.2) = [assign tg X.env] := by rfl) : PS X (.Assign [tg] e pos) (tAsg te g) := by
  intro pins s σ H D I h
  refine wpAny_Assign_stores (thn (he pins s σ H _ I h) fun v s1 ⟨x, H1, I1, r1, q1⟩ => ?_) hs hw
  rw [h1]
  exact thn (hg pins s1 σ H1 x v _ I1 r1 q1) fun _ s2 q => q
/-- name = value -/
theorem ps_set {i : Nat} {x : Str} {e : Expr} {te : TE} {pos' : Pos} (hN : X.N.Nodup) (hi : X.N[i]? = some x) (hx : Loc X.env.scope x) (he : PE X e te) (hs : swapsWith e (some (.Name x pos')) pos.line X.env = pure false := by rfl) (hf : X.fn x = true ∨ X.env.scope.names.lookup x = some .local := by first | exact .inl rfl | exact .inr rfl | assumption) :
    PS X (.Assign [.Name x pos'] e pos) (tAsg te (gName i)) := by
  intro pins s σ H D I h
  refine wpAny_Assign_Name (thn (he pins s σ H _ I h) fun v s1 ⟨y, H1, I1, r1, q1⟩ => ?_) hs
  exact store_ok I1 hN hi hx r1 (fun s2 I2 => ⟨_, H1, I2, q1⟩) hf
/-- a, b = x, y with plain local names: stored from the right; the pair itself is not tracked (the opening rows as in PyProof/Rows/TupAssign.lean:23) -/
def tPar (i j : Nat) (ta : TA) : TS := fun D σ H => ta σ H fun vs H1 => ∃ v w, vs = [v, w] ∧ D.nx ((σ.set i (some v)).set j (some w)) H1
theorem ps_par {i j : Nat} {x y : Str} {a b : Expr} {ta : TA} {px py pt : Pos} {kt k2 pt2} (hc : X.calm = true) (hN : X.N.Nodup) (hi : X.N[i]? = some x) (hj : X.N[j]? = some y) (hij : i ≠ j)
    (hx : X.env.scope.names.lookup x = some .local) (hy : X.env.scope.names.lookup y = some .local) (ha : PA X [a, b] ta)
    (hw : swappedStores [.Tuple [.Name x px, .Name y py] kt pt] (.Tuple [a, b] k2 pt2) X.env = pure (some [x, y]))
    (hs : swapsWithSole [.Tuple [.Name x px, .Name y py] kt pt] (.Tuple [a, b] k2 pt2) pos.line X.env = pure false := by rfl) :
    PS X (.Assign [.Tuple [.Name x px, .Name y py] kt pt] (.Tuple [a, b] k2 pt2) pos) (tPar i j ta) := by
  intro pins s σ H D I h
  rw [exec_Assign_arm]
  refine wpAny_bind (wpAny_standAt ?_)
  rw [hs]
  refine wpAny_bind (wpAny_pure ?_)
  rw [if_neg (by decide)]
  refine wpAny_bind (Tuple_ (thn (ha _ pins s σ H _ I h) fun us s1 ⟨vs, H1, I1, r1, q1⟩ => ?_))
  obtain ⟨v, w, e1, q1⟩ := q1
  subst e1
  obtain ⟨u1, u2, rfl, rv, rw'⟩ : ∃ u1 u2, us = [u1, u2] ∧ RelV v u1 ∧ RelV w u2 := by
    cases r1 with
    | cons p q =>
      cases q with
      | cons p' q' =>
        cases q'
        exact ⟨_, _, rfl, p, p'⟩
  refine wpAny_newObj_type ?_ (by show 2 ≤ sizeLine; decide)
  have I2 : Inv X pins σ H1 { s1 with heap := s1.heap.push { cls := .type "tuple", data := .seq [u1, u2].toArray } } := I1.kept (t' := s1.toks) fun b o e => Heap.get?_push_of_some _ e
  rw [hw]
  refine wpAny_bind (wpAny_pure ?_)
  show wpAny (model X.prog X.w) X.A (do rule "assign.swapped-stores"; let items ← unpackItems (.ref s1.heap.objs.size) 2 none; assignInOrder [fun v => bindName X.env y v, fun v => bindName X.env x v] items.reverse; pure Flow.next) _ _ _
  refine wpAny_bind (wpAny_rule (wpAny_bind (unpackItems_tuple (items := #[u1, u2]) (I.ok.hd hc) (IsTup.new s1.heap _) fun h' hx' => ?_)))
  have I3 := I2.kept (h' := h') (t' := s1.toks) fun b o e => hx' b o (Nat.ne_of_lt (Heap.lt_size e)) e
  show wpAny _ _ (assignInOrder [fun v => bindName X.env y v, fun v => bindName X.env x v] [u2, u1] >>= fun _ => pure Flow.next) _ _ _
  refine wpAny_bind (assignInOrder_cons (wpAny_bindName (store_ok I3 hN hj (.inl hy) rw' (fun s2 I4 => ?_) (.inr hy))))
  refine assignInOrder_cons (wpAny_bindName (store_ok I4 hN hi (.inl hx) rv (fun s3 I5 => assignInOrder_nil (wpAny_pure ?_)) (.inr hx)))
  rw [List.set_comm _ _ (Ne.symm hij)] at I5
  exact ⟨_, H1, I5, q1⟩
/-- name op= e -/
def tAug (i : Nat) (te : TE) (ti : TIp) : TS := fun D σ H => ∃ x, σ[i]? = some (some x) ∧ te σ H fun y H1 => ti x y H1 fun z H2 => D.nx (σ.set i (some z)) H2
theorem ps_aug {i : Nat} {x : Str} {e : Expr} {te : TE} {op : Operator} {ti : TIp} {pos' : Pos} (hN : X.N.Nodup) (hi : X.N[i]? = some x) (hx : Loc X.env.scope x) (he : PE X e te) (ho : PIp X op ti) (hf : X.fn x = true ∨ X.env.scope.names.lookup x = some .local := by first | exact .inl rfl | exact .inr rfl | assumption) :
    PS X (.AugAssign (.Name x pos') op e pos) (tAug i te ti) := by
  intro pins s σ H D I h
  obtain ⟨v, e1, h⟩ := h
  obtain ⟨m, hn, hl⟩ := I.loc
  have vis : Vis X.env.scope x := by rcases hx with k | k; exact .inl k; exact .inr (.inl k)
  obtain ⟨u, r, l⟩ := hl i x v hi e1 vis
  refine wpAny_AugAssign_Name ?_
  have go : wpAny (model X.prog X.w) X.A (eval e X.env) (fun w s₂ => wpAny (model X.prog X.w) X.A (inplaceOp op u w) (fun r s₃ => wpAny (model X.prog X.w) X.A (storeName X.env x r) (fun _ => SP X pins D .next) X.xe s₃) X.xe s₂) X.xe s := by
    refine thn (he pins s σ H _ I h) fun w s1 ⟨y, H1, I1, r1, q1⟩ => ?_
    refine thn (ho pins s1 σ H1 v y u w _ I1 r r1 q1) fun z s2 ⟨zv, H2, I2, r2, q2⟩ => ?_
    exact store_ok I2 hN hi hx r2 (fun s3 I3 => ⟨_, H2, I3, q2⟩) hf
  rcases l with ⟨hk, hm⟩ | ⟨hk, c, hc, hcell⟩
  · exact wpAny_loadName_local I.ok.kind hk hn hm go
  · rcases hk with hk | hk
    · exact wpAny_loadName_cell I.ok.kind hk hc hcell go
    · rcases hx with k | k
      · have : X.env.scope.names.lookup x = some .free := hk
        rw [k] at this; cases this
      · have : X.env.scope.names.lookup x = some .free := hk
        rw [k] at this; cases this
/-- o[i] op= e -/
def tAugS (to ti te : TE) (tget : V → V → Hp → VK → Prop) (tip : TIp) (tset : TSet) : TS := fun D σ H => to σ H fun o H1 => ti σ H1 fun i H2 => tget o i H2 fun x H3 => te σ H3 fun y H4 => tip x y H4 fun z H5 => tset o i z H5 fun H6 => D.nx σ H6
/-- o[i], by values -/
def PGet (X : Cx) (t : V → V → Hp → VK → Prop) : Prop :=
  ∀ (pins : List (Addr × Obj)) (s : Shared) (σ : St) (H : Hp) (o i : V) (ov iv : Value) (Q : VK), Inv X pins σ H s → RelV o ov → RelV i iv → t o i H Q →
    wpAny (model X.prog X.w) X.A (getItem ov iv) (EP X pins σ Q) X.xe s
theorem ps_augS {o i e : Expr} {to ti te : TE} {tget : V → V → Hp → VK → Prop} {tip : TIp} {tset : TSet} {op : Operator} {tpos : Pos} (ho : PE X o to) (hi : PE X i ti) (hg : PGet X tget) (he : PE X e te) (hp : PIp X op tip) (hs : PSet X tset)
    (ha : ∀ ov iv new, augStore i ov iv new = (do holding [new, ov, iv] (setItem ov iv new); release [new, ov, iv] []; pure .next) := by intros; rfl) : PS X (.AugAssign (.Subscript o i tpos) op e pos) (tAugS to ti te tget tip tset) := by
  intro pins s σ H D I h
  refine wpAny_AugAssign_SubscriptAny (thn (ho pins s σ H _ I h) fun ov s1 ⟨x1, H1, I1, r1, q1⟩ => ?_) ha
  refine thn (hi pins s1 σ H1 _ I1 q1) fun iv s2 ⟨x2, H2, I2, r2, q2⟩ => ?_
  refine thn (hg pins s2 σ H2 x1 x2 ov iv _ I2 r1 r2 q2) fun old s3 ⟨x3, H3, I3, r3, q3⟩ => ?_
  refine thn (he pins s3 σ H3 _ I3 q3) fun v s4 ⟨x4, H4, I4, r4, q4⟩ => ?_
  refine thn (hp pins s4 σ H4 x3 x4 old v _ I4 r3 r4 q4) fun new s5 ⟨x5, H5, I5, r5, q5⟩ => ?_
  exact thn (hs pins s5 σ H5 x1 x2 x5 ov iv new _ I5 r1 r2 r5 q5) fun _ s6 ⟨H6, I6, q6⟩ => ⟨σ, H6, I6, q6⟩
/-- ints -/
def ipI (f : Int → Int → Int) : TIp := fun x y H Q => ∃ i j, x = .int i ∧ y = .int j ∧ Q (.int (f i j)) H
theorem ip_add : PIp X .Add (ipI fun i j => i + j) := by
  intro pins s σ H x y v u Q I r1 r2 h
  obtain ⟨i, j, e1, e2, q⟩ := h
  subst e1; subst e2
  obtain ⟨t, rfl⟩ := r1
  obtain ⟨t', rfl⟩ := r2
  exact iadd_int ⟨.int _, H, I.tok _, ⟨_, rfl⟩, q⟩
theorem ip_sub : PIp X .Sub (ipI fun i j => i - j) := by
  intro pins s σ H x y v u Q I r1 r2 h
  obtain ⟨i, j, e1, e2, q⟩ := h
  subst e1; subst e2
  obtain ⟨t, rfl⟩ := r1
  obtain ⟨t', rfl⟩ := r2
  exact isub_int ⟨.int _, H, I.tok _, ⟨_, rfl⟩, q⟩
end

/-! ### while -/
section
variable {X : Cx} {pos : Pos}
/-- the invariant W with its measure -/
def tWhile (c : TT) (tb : TS) : TS := fun D σ H => ∃ W : Nat → St → Hp → Prop, (∃ m, W m σ H) ∧ ∀ m σ H, W m σ H →
  c σ H fun b H1 => if b = true then ∃ N : St → Hp → Prop, (∀ σ' H', N σ' H' → ∃ m', m' < m ∧ W m' σ' H') ∧ tb { D with nx := N, ct := N, bk := D.nx } σ H1 else D.nx σ H1
theorem ps_while {c : Expr} {body : List Stmt} {tc : TT} {tb : TS} (hp : PassesOwn (model X.prog X.w) X.A X.env X.xe) (hc : PT X c tc) (hb : PSs X body tb) : PS X (.While c body [] pos) (tWhile tc tb) := by
  intro pins s σ H D I h
  obtain ⟨W, ⟨m0, w0⟩, turn⟩ := h
  refine wpAny_While (codeAny_whileLoop (fun n s' => ∃ σ' H', Inv X pins σ' H' s' ∧ W n σ' H') ?_ m0 ⟨σ, H, I, w0⟩)
  rintro n s1 ⟨σ1, H1, I1, w1⟩
  refine wpAny_passesOwn hp (thn (hc pins s1 σ1 H1 _ I1 (turn n σ1 H1 w1)) fun b s2 ⟨H2, I2, q2⟩ => ?_)
  cases b with
  | true =>
    obtain ⟨N, hN, q2⟩ := q2
    rw [if_pos rfl]
    refine wpAny_passesOwn hp (thn (hb pins s2 σ1 H2 _ I2 q2) fun f s3 q3 => ?_)
    cases f with
    | next =>
      obtain ⟨σ3, H3, I3, n3⟩ := q3
      obtain ⟨m', hm, w3⟩ := hN σ3 H3 n3
      exact ⟨m', hm, σ3, H3, I3, w3⟩
    | cont =>
      obtain ⟨σ3, H3, I3, n3⟩ := q3
      obtain ⟨m', hm, w3⟩ := hN σ3 H3 n3
      exact ⟨m', hm, σ3, H3, I3, w3⟩
    | brk => exact q3
    | ret v => exact q3
  | false =>
    rw [if_neg Bool.false_ne_true]
    exact wpAny_execs_nil ⟨σ1, H2, I2, q2⟩
end

/-! ### what a loop or a comprehension walks -/
/-- at turn i: it yields x (the heap may grow), or it stops -/
structure It where
  go : Nat → Hp → Prop
  yld : Nat → Hp → V → Hp → Prop
  stop : Nat → Hp → Prop
/-- the iterator's own objects may turn: they are not the frame's, not pinned, younger than the entry (or a comprehension's own) -/
def FpOk (X : Cx) (pins : List (Addr × Obj)) (H : Hp) (b : Addr) : Prop :=
  H b = none ∧ b ≠ X.env.locals ∧ b ∉ X.fs ∧ (b ∈ X.ex ∨ X.s₀.heap.objs.size ≤ b) ∧ (∀ x c, X.env.cells.lookup x = some c → c ≠ b) ∧ ∀ p ∈ X.pn ++ pins, p.1 ≠ b
theorem Inv.fpOk {X : Cx} {pins : List (Addr × Obj)} {σ : St} {H H' : Hp} {s : Shared} {b : Addr} (I : Inv X pins σ H s) (hb : s.heap.objs.size ≤ b) (hn : H' b = none) : FpOk X pins H' b := by
  refine ⟨hn, Nat.ne_of_gt (Nat.lt_of_lt_of_le I.lt hb), I.nofs hb, .inr (Nat.le_trans I.sz hb), fun x c e z => ?_, fun p hp z => ?_⟩
  · obtain ⟨v, q⟩ := I.cell x c e
    exact absurd (Nat.lt_of_lt_of_le q.lt (by rw [z]; exact hb)) (Nat.lt_irrefl _)
  · exact absurd (Nat.lt_of_lt_of_le (Heap.lt_size (I.pin p hp).1) (by rw [z]; exact hb)) (Nat.lt_irrefl _)
structure Turn (P : Program) (w : World) (K : PySem.W.Frag) (tg : Expr) (J : It) (fp : List Addr) (it : Addr) (tn : Nat → Heap → Prop) : Prop where
  mem : it ∈ fp
  obj : ∀ i h, tn i h → ∀ b ∈ fp, ∃ o, h.get? b = some o ∧ ∀ v, o.data ≠ .cell v
  keep : ∀ i h h', tn i h → (∀ b ∈ fp, ∀ o, h.get? b = some o → h'.get? b = some o) → tn i h'
  item : ∀ (X : Cx), X.prog = P → X.w = w → X.K = K → X.calm = true → ∀ (i : Nat) (pins : List (Addr × Obj)) (s : Shared) (σ : St) (H : Hp) (E : Value → Shared → Prop), Inv X pins σ H s → (∀ b ∈ fp, FpOk X pins H b) → tn i s.heap → J.go i H →
    wpAny (model P w) X.A (pyNext (.ref it)) (fun r s1 => ∃ u, r = some u ∧
      wpAny (model P w) X.A (letOwnedTupleGo tg (.ref it) u) (fun _ s2 => ∃ x H', Inv X pins σ H' s2 ∧ RelV x u ∧ J.yld i H x H' ∧ tn (i + 1) s2.heap ∧ ∀ b ∈ fp, H' b = none) E s1) E s
  done : ∀ (X : Cx), X.prog = P → X.w = w → X.K = K → X.calm = true → ∀ (i : Nat) (pins : List (Addr × Obj)) (s : Shared) (σ : St) (H : Hp) (E : Value → Shared → Prop), Inv X pins σ H s → (∀ b ∈ fp, FpOk X pins H b) → tn i s.heap → J.stop i H →
    wpAny (model P w) X.A (pyNext (.ref it)) (fun r s1 => r = none ∧ Inv X pins σ H s1) E s
  self : ∀ (A : Around) (i : Nat) (s : Shared) (Q : Value → Shared → Prop) (E : Value → Shared → Prop), tn i s.heap → Q (.ref it) s → wpAny (model P w) A (pyIter (.ref it)) Q E s
abbrev TI := St → Hp → (It → Hp → Prop) → Prop
/-- an iterator has come -/
def PIE (X : Cx) (pins : List (Addr × Obj)) (σ : St) (tg : Expr) (R : It → Hp → Prop) (itv : Value) (s2 : Shared) : Prop :=
  ∃ (it : Addr) (fp : List Addr) (tn : Nat → Heap → Prop) (J : It) (H' : Hp), itv = .ref it ∧ Inv X pins σ H' s2 ∧ Turn X.prog X.w X.K tg J fp it tn ∧ tn 0 s2.heap ∧ (∀ b ∈ fp, FpOk X pins H' b) ∧ R J H'
def PI (X : Cx) (tg iter : Expr) (wi : TI) : Prop :=
  ∀ (pins : List (Addr × Obj)) (s : Shared) (σ : St) (H : Hp) (R : It → Hp → Prop), Inv X pins σ H s → wi σ H R →
    wpAny (model X.prog X.w) X.A (eval iter X.env) (fun v s1 => wpAny (model X.prog X.w) X.A (pyIter v) (PIE X pins σ tg R) X.xe s1) X.xe s

/-- the step ahead of the store is nothing for an iterator that keeps no tuple -/
theorem go_of {M : Model} {A : Around} {E : Value → Shared → Prop} {s : Shared} {tg : Expr} {it : Addr} {u : Value} {o : Obj} {n : String} {vs : Array Value} {Q : Unit → Shared → Prop} (ho : s.heap.get? it = some o) (hc : o.cls = .type n) (hd : o.data = .fields vs)
    (hn : ["enumerate", "zip", "dict_itemiterator", "dict_reverseitemiterator", "odict_iterator", "itertools.zip_longest", "itertools.pairwise"].contains n = false) (hQ : Q () s) : wpAny M A (letOwnedTupleGo tg (.ref it) u) Q E s := by
  unfold letOwnedTupleGo
  cases tg <;> first
    | exact wpAny_pure hQ
    | (cases u <;> first
        | exact wpAny_pure hQ
        | (refine wpAny_bind (wpAny_load ho ?_)
           rw [hc, hd]
           show wpAny M A (if (["enumerate", "zip", "dict_itemiterator", "dict_reverseitemiterator", "odict_iterator", "itertools.zip_longest", "itertools.pairwise"].contains n && vs[0]? == some (rawInt _)) = true then _ else _) Q E s
           rw [if_neg (by intro h; rw [hn, Bool.false_and] at h; cases h)]
           exact wpAny_pure hQ))

/-- the list at a, as it stands at each turn (a loop may append to it) -/
def Itl (K : PySem.W.Frag) (a : Addr) : It :=
  ⟨fun i H => ∃ xs x, SqL K H a xs ∧ xs[i]? = some x, fun i H x H' => H' = H ∧ ∀ xs, SqL K H a xs → xs[i]? = some x, fun i H => ∃ xs, SqL K H a xs ∧ xs.length ≤ i⟩
def Itt (K : PySem.W.Frag) (a : Addr) : It :=
  ⟨fun i H => ∃ xs x, SqT K H a xs ∧ xs[i]? = some x, fun i H x H' => H' = H ∧ ∀ xs, SqT K H a xs → xs[i]? = some x, fun i H => ∃ xs, SqT K H a xs ∧ xs.length ≤ i⟩
/-- lo, lo + 1, .. (n of them) -/
def Itr (lo : Int) (n : Nat) : It := ⟨fun i _ => i < n, fun i H x H' => H' = H ∧ x = .int (lo + i), fun i _ => n ≤ i⟩
theorem turn_list {P : Program} {w : World} {K : PySem.W.Frag} {tg : Expr} (a it : Addr) : Turn P w K tg (Itl K a) [it] it (fun i h => h.IsListIter it a i) where
  mem := by simp
  obj := fun i h st b hb => by
    have e : b = it := by simpa using hb
    subst e
    obtain ⟨o, e, c, d⟩ := st
    exact ⟨o, e, fun v z => by rw [d] at z; cases z⟩
  keep := fun i h h' st k => st.at fun o e => k it (by simp) o e
  item := by
    intro X hP hw hK hc i pins s σ H E I hf st hg
    subst hP hw hK
    obtain ⟨xs, x, hq, hx⟩ := hg
    obtain ⟨its, rv, p, hz⟩ := I.list hq
    obtain ⟨u, hu, ru⟩ := rv.get hx
    obtain ⟨f0, f1, f2, f3, f4, f5⟩ := hf it (by simp)
    refine wpAny_pyNext_list_item st p.isList (x := u) (by simpa using hu) fun h' st' sb => ?_
    have I1 : Inv X pins σ H { s with heap := h' } := I.turned (t' := s.toks) (fun b o hb e => (sb.2 b hb).trans e) f0 f1 f3 f4 f5
    obtain ⟨o, e, c, d⟩ := id st'
    exact ⟨u, rfl, go_of (s := { s with heap := h' }) e c d (by decide) ⟨x, H, I1, ru, ⟨rfl, fun ys hy => by rw [I.list_inj hy hq]; exact hx⟩, st', fun b hb => (hf b hb).1⟩⟩
  done := by
    intro X hP hw hK hc i pins s σ H E I hf st hg
    subst hP hw hK
    obtain ⟨xs, hq, hx⟩ := hg
    obtain ⟨its, rv, p, hz⟩ := I.list hq
    obtain ⟨f0, f1, f2, f3, f4, f5⟩ := hf it (by simp)
    have hl := rv.length
    exact wpAny_pyNext_list_end (I.ok.hd hc) st p.isList (by simp; omega) fun h' eb => ⟨rfl, I.turned (t' := s.toks) (fun b o hb e => eb b o hb e) f0 f1 f3 f4 f5⟩
  self := fun _ _ _ _ _ st h => wpAny_pyIter_listiter st h
theorem turn_tuple {P : Program} {w : World} {K : PySem.W.Frag} {tg : Expr} (a it : Addr) : Turn P w K tg (Itt K a) [it] it (fun i h => h.IsTupleIter it a i) where
  mem := by simp
  obj := fun i h st b hb => by
    have e : b = it := by simpa using hb
    subst e
    obtain ⟨o, e, c, d⟩ := st
    exact ⟨o, e, fun v z => by rw [d] at z; cases z⟩
  keep := fun i h h' st k => st.at fun o e => k it (by simp) o e
  item := by
    intro X hP hw hK hc i pins s σ H E I hf st hg
    subst hP hw hK
    obtain ⟨xs, x, hq, hx⟩ := hg
    obtain ⟨its, rv, p, hz⟩ := I.tuple hq
    obtain ⟨u, hu, ru⟩ := rv.get hx
    obtain ⟨f0, f1, f2, f3, f4, f5⟩ := hf it (by simp)
    refine wpAny_pyNext_tuple_item st (show s.heap.IsTuple a its.toArray from p) (x := u) (by simpa using hu) fun h' st' sb => ?_
    have I1 : Inv X pins σ H { s with heap := h' } := I.turned (t' := s.toks) (fun b o hb e => (sb.2 b hb).trans e) f0 f1 f3 f4 f5
    obtain ⟨o, e, c, d⟩ := id st'
    exact ⟨u, rfl, go_of (s := { s with heap := h' }) e c d (by decide) ⟨x, H, I1, ru, ⟨rfl, fun ys hy => by rw [I.tuple_inj hy hq]; exact hx⟩, st', fun b hb => (hf b hb).1⟩⟩
  done := by
    intro X hP hw hK hc i pins s σ H E I hf st hg
    subst hP hw hK
    obtain ⟨xs, hq, hx⟩ := hg
    obtain ⟨its, rv, p, hz⟩ := I.tuple hq
    obtain ⟨f0, f1, f2, f3, f4, f5⟩ := hf it (by simp)
    have hl := rv.length
    exact wpAny_pyNext_tuple_end (I.ok.hd hc) st (show s.heap.IsTuple a its.toArray from p) (by simp; omega) fun h' eb => ⟨rfl, I.turned (t' := s.toks) (fun b o hb e => eb b o hb e) f0 f1 f3 f4 f5⟩
  self := fun _ _ _ _ _ st h => wpAny_pyIter_tupleiter st h
theorem turn_range {P : Program} {w : World} {K : PySem.W.Frag} {tg : Expr} (it : Addr) (lo : Int) (n : Nat) : Turn P w K tg (Itr lo n) [it] it (fun i h => IsRangeIter h it (lo + (i : Nat) * 1) ((n : Int) - (i : Nat)) 1) where
  mem := by simp
  obj := fun i h st b hb => by
    have e : b = it := by simpa using hb
    subst e
    exact ⟨_, st, fun v z => by
      have z' : Data.fields _ = Data.cell v := z
      cases z'⟩
  keep := fun i h h' st k => k it (by simp) _ st
  item := by
    intro X hP hw hK hc i pins s σ H E I hf st hg
    subst hP hw hK
    obtain ⟨f0, f1, f2, f3, f4, f5⟩ := hf it (by simp)
    have W := Walks.range (prog := X.prog) (w := X.w) (I.ok.hd hc) it lo 1 n
    refine W.item i s _ _ hg st fun v h' tk hv st' kk => ?_
    obtain ⟨t, rfl⟩ := hv
    have I1 : Inv X pins σ H { s with heap := h', toks := tk } := I.turned (fun b o hb e => kk b o (by simpa using hb) e) f0 f1 f3 f4 f5
    refine ⟨_, rfl, go_of (s := { s with heap := h', toks := tk }) (n := "range_iterator") st' rfl rfl (by decide) ⟨.int (lo + i), H, I1, ⟨t, ?_⟩, ⟨rfl, rfl⟩, st', fun b hb => (hf b hb).1⟩⟩
    rw [Int.mul_one]
  done := by
    intro X hP hw hK hc i pins s σ H E I hf st hg
    subst hP hw hK
    obtain ⟨f0, f1, f2, f3, f4, f5⟩ := hf it (by simp)
    exact wpAny_pyNext_range_end (I.ok.hd hc) st (by have : n ≤ i := hg; omega) fun h' eb => ⟨rfl, I.turned (t' := s.toks) (fun b o hb e => eb b o hb e) f0 f1 f3 f4 f5⟩
  self := fun _ _ _ _ _ st h => wpAny_pyIter_rangeiter st h
end L2

namespace L2
open PySem PySem.Spec PyProof.Rows
section
variable {X : Cx} {tg : Expr}
def iList (K : PySem.W.Frag) (tl : TE) : TI := fun σ H R => tl σ H fun x H1 => ∃ a, x = .ref a ∧ (∃ xs, SqL K H1 a xs) ∧ R (Itl K a) H1
def iTup (K : PySem.W.Frag) (tl : TE) : TI := fun σ H R => tl σ H fun x H1 => ∃ a, x = .ref a ∧ (∃ xs, SqT K H1 a xs) ∧ R (Itt K a) H1
theorem pi_list {l : Expr} {tl : TE} (hl : PE X l tl) : PI X tg l (iList X.K tl) := by
  intro pins s σ H R I h
  refine thn (hl pins s σ H _ I h) fun v s1 ⟨x, H1, I1, r1, q1⟩ => ?_
  obtain ⟨a, e, ⟨xs, hq⟩, q⟩ := q1
  subst e
  cases r1
  obtain ⟨its, rv, p, hz⟩ := I1.list hq
  refine wpAny_pyIter_list p.isList ?_
  refine ⟨s1.heap.objs.size, [s1.heap.objs.size], _, _, H1, rfl, I1.kept (t' := s1.toks) fun b o e => Heap.get?_push_of_some _ e, turn_list a _, ⟨_, Heap.get?_push_size _ rfl, rfl, rfl⟩, fun b hb => ?_, q⟩
  have e : b = s1.heap.objs.size := by simpa using hb
  subst e
  exact I1.fpOk (Nat.le_refl _) (I1.hok.fresh (Nat.le_refl _))
theorem pi_tup {l : Expr} {tl : TE} (hl : PE X l tl) : PI X tg l (iTup X.K tl) := by
  intro pins s σ H R I h
  refine thn (hl pins s σ H _ I h) fun v s1 ⟨x, H1, I1, r1, q1⟩ => ?_
  obtain ⟨a, e, ⟨xs, hq⟩, q⟩ := q1
  subst e
  cases r1
  obtain ⟨its, rv, p, hz⟩ := I1.tuple hq
  refine wpAny_pyIter_tuple (show s1.heap.IsTuple a its.toArray from p) ?_
  refine ⟨s1.heap.objs.size, [s1.heap.objs.size], _, _, H1, rfl, I1.kept (t' := s1.toks) fun b o e => Heap.get?_push_of_some _ e, turn_tuple a _, ⟨_, Heap.get?_push_size _ rfl, rfl, rfl⟩, fun b hb => ?_, q⟩
  have e : b = s1.heap.objs.size := by simpa using hb
  subst e
  exact I1.fpOk (Nat.le_refl _) (I1.hok.fresh (Nat.le_refl _))
/-- a range object just made, walked -/
theorem range_it {pins : List (Addr × Obj)} {σ : St} {H : Hp} {s : Shared} {R : It → Hp → Prop} {E : Value → Shared → Prop} {lo hi : Int} {t u v : Tok} {tk : Nat} (I : Inv X pins σ H s) (h1 : -(2 ^ 62) ≤ lo) (h2 : lo < 2 ^ 62) (h3 : -(2 ^ 62) ≤ hi) (h4 : hi < 2 ^ 62)
    (q : R (Itr lo (hi - lo).toNat) H) : wpAny (model X.prog X.w) X.A (pyIter (.ref s.heap.objs.size)) (PIE X pins σ tg R) E { s with heap := s.heap.push { cls := .type "range", data := .fields #[.int lo t, .int hi u, .int 1 v] }, toks := tk } := by
  refine wpAny_pyIter_range (IsRange.new ..) (small_one h1 h2 h3 h4) ?_
  have I1 : Inv X pins σ H { s with heap := s.heap.push { cls := .type "range", data := .fields #[.int lo t, .int hi u, .int 1 v] }, toks := tk } := I.kept fun b o e => Heap.get?_push_of_some _ e
  refine ⟨(s.heap.push { cls := .type "range", data := .fields #[.int lo t, .int hi u, .int 1 v] }).objs.size, [(s.heap.push { cls := .type "range", data := .fields #[.int lo t, .int hi u, .int 1 v] }).objs.size], _, _, H, rfl,
    I1.kept (t' := tk) fun b o e => Heap.get?_push_of_some _ e, turn_range _ lo (hi - lo).toNat, ?_, fun b hb => ?_, q⟩
  · have e1 : lo + ((0 : Nat) : Int) * 1 = lo := by simp
    have e2 : (((hi - lo).toNat : Nat) : Int) - ((0 : Nat) : Int) = Builtin.Range.rangeSize lo hi 1 := by rw [rangeSize_one]; split <;> omega
    show IsRangeIter _ _ (lo + ((0 : Nat) : Int) * 1) ((((hi - lo).toNat : Nat) : Int) - ((0 : Nat) : Int)) 1
    rw [e1, e2]
    exact Heap.get?_push_size _ rfl
  · have e : b = (s.heap.push { cls := .type "range", data := .fields #[.int lo t, .int hi u, .int 1 v] }).objs.size := by simpa using hb
    subst e
    exact I1.fpOk (Nat.le_refl _) (I1.hok.fresh (Nat.le_refl _))
def iRng1 (ta : TA) : TI := fun σ H R => ta σ H fun vs H1 => ∃ j : Int, vs = [.int j] ∧ -(2 ^ 62) ≤ j ∧ j < 2 ^ 62 ∧ R (Itr 0 j.toNat) H1
def iRng2 (ta : TA) : TI := fun σ H R => ta σ H fun vs H1 => ∃ i j : Int, vs = [.int i, .int j] ∧ (-(2 ^ 62) ≤ i ∧ i < 2 ^ 62 ∧ -(2 ^ 62) ≤ j ∧ j < 2 ^ 62) ∧ R (Itr i (j - i).toNat) H1
theorem pi_range1 {a : Expr} {ta : TA} {p pos : Pos} (hg : Gl X "range") (hm : X.mg "range" = none) (ha : PA X [a] ta) (hs : starEach [a] X.env = [(false, eval a X.env)] := by rfl) : PI X tg (.Call (.Name "range" p) [a] [] pos) (iRng1 ta) := by
  intro pins s σ H R I h
  refine Call_ (ld_blt I hg hm boot_range (PyProof.Rows.callWith_type1 (thn (ha pos pins s σ H _ I h) fun us s1 ⟨vs, H1, I1, r1, q1⟩ => ?_) hs rfl))
  obtain ⟨j, e, q1, q2, q⟩ := q1
  subst e
  cases r1 with
  | cons r rr =>
    cases rr
    obtain ⟨t, rfl⟩ := r
    exact call_range_1 (range_it I1 (by omega) (by omega) q1 q2 (by simpa using q))
theorem pi_range2 {a b : Expr} {ta : TA} {p pos : Pos} (hg : Gl X "range") (hm : X.mg "range" = none) (ha : PA X [a, b] ta) (hs : starEach [a, b] X.env = [(false, eval a X.env), (false, eval b X.env)] := by rfl) (hs2 : starEach [b] X.env = [(false, eval b X.env)] := by rfl) :
    PI X tg (.Call (.Name "range" p) [a, b] [] pos) (iRng2 ta) := by
  intro pins s σ H R I h
  refine Call_ (ld_blt I hg hm boot_range (PyProof.Rows.callWith_type1 (thn (ha pos pins s σ H _ I h) fun us s1 ⟨vs, H1, I1, r1, q1⟩ => ?_) (by rw [hs, hs2]) (by rw [hs2]; rfl)))
  obtain ⟨i, j, e, ⟨q1, q2, q3, q4⟩, q⟩ := q1
  subst e
  cases r1 with
  | cons r rr =>
    cases rr with
    | cons r' rr =>
      cases rr
      obtain ⟨t, rfl⟩ := r
      obtain ⟨t', rfl⟩ := r'
      exact call_range_2 (range_it I1 q1 q2 q3 q4 q)

/-! ### for -/
/-- W: the invariant by the turn and a measure; N: what the body is to reach -/
def tFor (wi : TI) (g : TG) (tb : TS) : TS := fun D σ H => wi σ H fun J H1 => ∃ W : Nat → Nat → St → Hp → Prop, (∃ m, W 0 m σ H1) ∧ ∀ i m σ H, W i m σ H →
  (J.stop i H ∧ D.nx σ H) ∨ (J.go i H ∧ ∃ N : St → Hp → Prop, (∀ σ' H', N σ' H' → ∃ m', m' < m ∧ W (i + 1) m' σ' H') ∧ ∀ x H', J.yld i H x H' → g x σ H' fun σ2 H2 => tb { D with nx := N, ct := N, bk := D.nx } σ2 H2)
/-- the records at fp as they stand -/
def pinsAt (fp : List Addr) (h : Heap) : List (Addr × Obj) := fp.filterMap fun b => (h.get? b).map fun o => (b, o)
theorem mem_pinsAt {fp : List Addr} {h : Heap} {b : Addr} {o : Obj} (hb : b ∈ fp) (e : h.get? b = some o) : (b, o) ∈ pinsAt fp h := List.mem_filterMap.mpr ⟨b, hb, by rw [e]; rfl⟩
theorem of_pinsAt {fp : List Addr} {h : Heap} {p : Addr × Obj} (hp : p ∈ pinsAt fp h) : p.1 ∈ fp ∧ h.get? p.1 = some p.2 := by
  obtain ⟨b, hb, e⟩ := List.mem_filterMap.mp hp
  cases q : h.get? b with
  | none => rw [q] at e; cases e
  | some o =>
    rw [q] at e
    have e' : (b, o) = p := Option.some.inj e
    subst e'
    exact ⟨hb, q⟩
theorem Inv.pinned {pins : List (Addr × Obj)} {σ : St} {H : Hp} {s : Shared} {fp : List Addr} (I : Inv X pins σ H s) (hf : ∀ b ∈ fp, FpOk X pins H b) (ho : ∀ b ∈ fp, ∃ o, s.heap.get? b = some o ∧ ∀ v, o.data ≠ .cell v) : Inv X (pins ++ pinsAt fp s.heap) σ H s :=
  I.pins_of fun p hp => (List.mem_append.mp hp).elim (fun z => I.pin p (List.mem_append_right _ z)) fun z => by
    obtain ⟨hb, e⟩ := of_pinsAt z
    obtain ⟨f0, f1, f2, _⟩ := hf p.1 hb
    obtain ⟨o, e', d⟩ := ho p.1 hb
    rw [e] at e'; cases e'
    exact ⟨e, f0, f1, f2, d⟩
theorem Inv.unpinned {pins pl : List (Addr × Obj)} {σ : St} {H : Hp} {s : Shared} (I : Inv X (pins ++ pl) σ H s) : Inv X pins σ H s := I.pins_of fun p hp => I.pin p (List.mem_append_right _ (List.mem_append_left _ hp))
theorem ps_for {iter : Expr} {body : List Stmt} {wi : TI} {g : TG} {tb : TS} {pos : Pos} (hp : PassesOwn (model X.prog X.w) X.A X.env X.xe) (hc : X.calm = true) (hi : PI X tg iter wi) (hg : PG X tg g) (hb : PSs X body tb)
    (hs : ∀ x, foldedSetIterable iter X.env x = pure x := by intro _; rfl) : PS X (.For tg iter body [] pos) (tFor wi g tb) := by
  intro pins s σ H D I h
  refine wpAny_For (thn (hi pins s σ H _ I h) fun v s1 h1 => thn h1 fun itv s2 h2 => ?_) hs
  obtain ⟨it, fp, tn, J, H2, e, I2, T, st2, f2, W, ⟨m0, w0⟩, turn⟩ := h2
  subst e
  -- what stays true of the iterator's objects through the loop
  have stat : ∀ {H' : Hp}, (∀ b ∈ fp, H' b = none) → ∀ b ∈ fp, FpOk X pins H' b := fun hn b hb => ⟨hn b hb, (f2 b hb).2⟩
  refine codeAny_forLoop_any (fun n s' => ∃ i σ' H', Inv X pins σ' H' s' ∧ tn i s'.heap ∧ (∀ b ∈ fp, H' b = none) ∧ W i n σ' H') ?_ m0 ⟨0, σ, H2, I2, st2, fun b hb => (f2 b hb).1, w0⟩
  rintro n s3 ⟨i, σ3, H3, I3, st3, fr3, w3⟩
  rcases turn i n σ3 H3 w3 with ⟨stop, qn⟩ | ⟨go, N, hN, step⟩
  · refine wpAny_passesOwn hp (thn (T.done X rfl rfl rfl hc i pins s3 σ3 H3 X.xe I3 (stat fr3) st3 stop) fun r s4 ⟨hr, I4⟩ => ?_)
    subst hr
    exact wpAny_execs_nil ⟨σ3, H3, I4, qn⟩
  · refine wpAny_passesOwn hp (thn (T.item X rfl rfl rfl hc i pins s3 σ3 H3 X.xe I3 (stat fr3) st3 go) fun r s4 ⟨u, hr, h4⟩ => ?_)
    subst hr
    refine wpAny_passesOwn hp (thn h4 fun _ s5 ⟨x, H5, I5, r5, y5, st5, fr5⟩ => ?_)
    have I5' := I5.pinned (stat fr5) (T.obj _ _ st5)
    refine wpAny_passesOwn hp (thn (hg _ s5 σ3 H5 x u _ I5' r5 (step x H5 y5)) fun _ s6 ⟨σ6, H6, I6, q6⟩ => ?_)
    refine wpAny_passesOwn hp (thn (hb _ s6 σ6 H6 _ I6 q6) fun f s7 q7 => ?_)
    have again : ∀ {σ7 : St} {H7 : Hp}, Inv X (pins ++ pinsAt fp s5.heap) σ7 H7 s7 → N σ7 H7 → ∃ m, m < n ∧ ∃ i σ' H', Inv X pins σ' H' s7 ∧ tn i s7.heap ∧ (∀ b ∈ fp, H' b = none) ∧ W i m σ' H' := fun {σ7 H7} I7 n7 => by
      obtain ⟨m', hm, w7⟩ := hN σ7 H7 n7
      refine ⟨m', hm, i + 1, σ7, H7, I7.unpinned, T.keep _ _ _ st5 fun b hb o e => (I7.pin (b, o) (List.mem_append_right _ (List.mem_append_right _ (mem_pinsAt hb e)))).1, fun b hb => ?_, w7⟩
      obtain ⟨o, e, d⟩ := T.obj _ _ st5 b hb
      exact (I7.pin (b, o) (List.mem_append_right _ (List.mem_append_right _ (mem_pinsAt hb e)))).2.1
    cases f with
    | next => obtain ⟨σ7, H7, I7, n7⟩ := q7; exact again I7 n7
    | cont => obtain ⟨σ7, H7, I7, n7⟩ := q7; exact again I7 n7
    | brk => obtain ⟨σ7, H7, I7, q7⟩ := q7; exact ⟨σ7, H7, I7.unpinned, q7⟩
    | ret v => obtain ⟨x7, σ7, H7, I7, r7, q7⟩ := q7; exact ⟨x7, σ7, H7, I7.unpinned, r7, q7⟩
end

/-! ### the forms one uses -/
/-- over a list that the body leaves as it is -/
theorem for_list {K : PySem.W.Frag} {a : Addr} {xs : List V} {g : TG} {tb : TS} {D : Ends} {σ : St} {H : Hp} (Pv : Nat → St → Hp → Prop) (h0 : Pv 0 σ H) (hl : ∀ i σ H, i ≤ xs.length → Pv i σ H → SqL K H a xs)
    (hs : ∀ i x σ H, xs[i]? = some x → Pv i σ H → g x σ H fun σ2 H2 => tb { D with nx := Pv (i + 1), ct := Pv (i + 1), bk := D.nx } σ2 H2) (hd : ∀ σ H, Pv xs.length σ H → D.nx σ H) :
    ∃ W : Nat → Nat → St → Hp → Prop, (∃ m, W 0 m σ H) ∧ ∀ i m σ H, W i m σ H →
      ((Itl K a).stop i H ∧ D.nx σ H) ∨ ((Itl K a).go i H ∧ ∃ N : St → Hp → Prop, (∀ σ' H', N σ' H' → ∃ m', m' < m ∧ W (i + 1) m' σ' H') ∧ ∀ x H', (Itl K a).yld i H x H' → g x σ H' fun σ2 H2 => tb { D with nx := N, ct := N, bk := D.nx } σ2 H2) := by
  refine ⟨fun i m σ H => m = xs.length - i ∧ i ≤ xs.length ∧ Pv i σ H, ⟨xs.length, by simp, Nat.zero_le _, h0⟩, ?_⟩
  rintro i m σ H ⟨rfl, hi, p⟩
  have q := hl i σ H hi p
  by_cases hlt : i < xs.length
  · refine .inr ⟨⟨xs, xs[i], q, by simp [hlt]⟩, Pv (i + 1), fun σ' H' p' => ⟨xs.length - (i + 1), by omega, rfl, hlt, p'⟩, fun x H' y => ?_⟩
    obtain ⟨e, y⟩ := y
    subst e
    exact hs i x σ _ (y xs q) p
  · have e : i = xs.length := by omega
    subst e
    exact .inl ⟨⟨xs, q, Nat.le_refl _⟩, hd σ H p⟩
theorem for_tup {K : PySem.W.Frag} {a : Addr} {xs : List V} {g : TG} {tb : TS} {D : Ends} {σ : St} {H : Hp} (Pv : Nat → St → Hp → Prop) (h0 : Pv 0 σ H) (hl : ∀ i σ H, i ≤ xs.length → Pv i σ H → SqT K H a xs)
    (hs : ∀ i x σ H, xs[i]? = some x → Pv i σ H → g x σ H fun σ2 H2 => tb { D with nx := Pv (i + 1), ct := Pv (i + 1), bk := D.nx } σ2 H2) (hd : ∀ σ H, Pv xs.length σ H → D.nx σ H) :
    ∃ W : Nat → Nat → St → Hp → Prop, (∃ m, W 0 m σ H) ∧ ∀ i m σ H, W i m σ H →
      ((Itt K a).stop i H ∧ D.nx σ H) ∨ ((Itt K a).go i H ∧ ∃ N : St → Hp → Prop, (∀ σ' H', N σ' H' → ∃ m', m' < m ∧ W (i + 1) m' σ' H') ∧ ∀ x H', (Itt K a).yld i H x H' → g x σ H' fun σ2 H2 => tb { D with nx := N, ct := N, bk := D.nx } σ2 H2) := by
  refine ⟨fun i m σ H => m = xs.length - i ∧ i ≤ xs.length ∧ Pv i σ H, ⟨xs.length, by simp, Nat.zero_le _, h0⟩, ?_⟩
  rintro i m σ H ⟨rfl, hi, p⟩
  have q := hl i σ H hi p
  by_cases hlt : i < xs.length
  · refine .inr ⟨⟨xs, xs[i], q, by simp [hlt]⟩, Pv (i + 1), fun σ' H' p' => ⟨xs.length - (i + 1), by omega, rfl, hlt, p'⟩, fun x H' y => ?_⟩
    obtain ⟨e, y⟩ := y
    subst e
    exact hs i x σ _ (y xs q) p
  · have e : i = xs.length := by omega
    subst e
    exact .inl ⟨⟨xs, q, Nat.le_refl _⟩, hd σ H p⟩
theorem for_range {lo : Int} {n : Nat} {g : TG} {tb : TS} {D : Ends} {σ : St} {H : Hp} (Pv : Nat → St → Hp → Prop) (h0 : Pv 0 σ H)
    (hs : ∀ i σ H, i < n → Pv i σ H → g (.int (lo + i)) σ H fun σ2 H2 => tb { D with nx := Pv (i + 1), ct := Pv (i + 1), bk := D.nx } σ2 H2) (hd : ∀ σ H, Pv n σ H → D.nx σ H) :
    ∃ W : Nat → Nat → St → Hp → Prop, (∃ m, W 0 m σ H) ∧ ∀ i m σ H, W i m σ H →
      ((Itr lo n).stop i H ∧ D.nx σ H) ∨ ((Itr lo n).go i H ∧ ∃ N : St → Hp → Prop, (∀ σ' H', N σ' H' → ∃ m', m' < m ∧ W (i + 1) m' σ' H') ∧ ∀ x H', (Itr lo n).yld i H x H' → g x σ H' fun σ2 H2 => tb { D with nx := N, ct := N, bk := D.nx } σ2 H2) := by
  refine ⟨fun i m σ H => m = n - i ∧ i ≤ n ∧ Pv i σ H, ⟨n, by simp, Nat.zero_le _, h0⟩, ?_⟩
  rintro i m σ H ⟨rfl, hi, p⟩
  by_cases hlt : i < n
  · refine .inr ⟨hlt, Pv (i + 1), fun σ' H' p' => ⟨n - (i + 1), by omega, rfl, hlt, p'⟩, fun x H' y => ?_⟩
    obtain ⟨e, y⟩ := y
    subst e y
    exact hs i σ _ hlt p
  · have e : i = n := by omega
    subst e
    exact .inl ⟨Nat.le_refl _, hd σ H p⟩
/-- while, by a word and a measure of the state -/
theorem while_by {c : TT} {tb : TS} {D : Ends} {σ : St} {H : Hp} (Pv : St → Hp → Prop) (μ : St → Hp → Nat) (h0 : Pv σ H)
    (hs : ∀ σ H, Pv σ H → c σ H fun b H1 => if b = true then tb { D with nx := fun σ' H' => Pv σ' H' ∧ μ σ' H' < μ σ H, ct := fun σ' H' => Pv σ' H' ∧ μ σ' H' < μ σ H, bk := D.nx } σ H1 else D.nx σ H1)
    (mono : ∀ σ H Q Q', (∀ b H1, Q b H1 → Q' b H1) → c σ H Q → c σ H Q') : tWhile c tb D σ H := by
  refine ⟨fun m σ H => m = μ σ H ∧ Pv σ H, ⟨_, rfl, h0⟩, ?_⟩
  rintro m σ H ⟨rfl, p⟩
  refine mono σ H _ _ (fun b H1 q => ?_) (hs σ H p)
  cases b with
  | true => exact ⟨_, fun σ' H' ⟨p', l⟩ => ⟨_, l, rfl, p'⟩, q⟩
  | false => exact q
end L2

namespace L2
open PySem PySem.Spec PyProof.Rows

abbrev R2 := V → V → Hp → VK → Prop
/-- a two-place operation on values: f is binaryOp op, inplaceOp op or compareOp op -/
def OpR (X : Cx) (f : Value → Value → Sem Value) (r : R2) : Prop :=
  ∀ (pins : List (Addr × Obj)) (s : Shared) (σ : St) (H : Hp) (x y : V) (v u : Value) (Q : VK), Inv X pins σ H s → RelV x v → RelV y u → r x y H Q →
    wpAny (model X.prog X.w) X.A (f v u) (EP X pins σ Q) X.xe s
/-- a one-place operation -/
def UnR (X : Cx) (f : Value → Sem Value) (r : V → Hp → VK → Prop) : Prop :=
  ∀ (pins : List (Addr × Obj)) (s : Shared) (σ : St) (H : Hp) (x : V) (v : Value) (Q : VK), Inv X pins σ H s → RelV x v → r x H Q →
    wpAny (model X.prog X.w) X.A (f v) (EP X pins σ Q) X.xe s
/-- a call of a value that is known (a builtin, a type) with values -/
def CallR (X : Cx) (f : Value) (r : List V → Hp → VK → Prop) : Prop :=
  ∀ (pins : List (Addr × Obj)) (s : Shared) (σ : St) (H : Hp) (xs : List V) (us : List Value) (Q : VK), Inv X pins σ H s → Vals xs us → r xs H Q →
    wpAny (model X.prog X.w) X.A (call f us) (EP X pins σ Q) X.xe s
/-- a value's truth -/
def TruR (X : Cx) (r : V → Hp → (Bool → Hp → Prop) → Prop) : Prop :=
  ∀ (pins : List (Addr × Obj)) (s : Shared) (σ : St) (H : Hp) (x : V) (v : Value) (Q : Bool → Hp → Prop), Inv X pins σ H s → RelV x v → r x H Q →
    wpAny (model X.prog X.w) X.A (truthy v) (TP X pins σ Q) X.xe s

def tOp (r : R2) (ta tb : TE) : TE := fun σ H Q => ta σ H fun x H1 => tb σ H1 fun y H2 => r x y H2 Q
def tUn (r : V → Hp → VK → Prop) (ta : TE) : TE := fun σ H Q => ta σ H fun x H1 => r x H1 Q
/-- ints in, under C, and a value out -/
def rI (C : Int → Int → Prop) (g : Int → Int → V) : R2 := fun x y H Q => ∃ i j, x = .int i ∧ y = .int j ∧ C i j ∧ Q (g i j) H
def rI0 (g : Int → Int → V) : R2 := fun x y H Q => ∃ i j, x = .int i ∧ y = .int j ∧ Q (g i j) H
def rU (g : Int → V) : V → Hp → VK → Prop := fun x H Q => ∃ i, x = .int i ∧ Q (g i) H

section
variable {X : Cx} {a b c : Expr} {ta tb tc : TE} {pos : Pos}

theorem binT (ha : PE X a ta) (hb : PE X b tb) {pins : List (Addr × Obj)} {s : Shared} {σ : St} {H : Hp} {R : V → V → Hp → Prop} (I : Inv X pins σ H s)
    (h : ta σ H fun x H1 => tb σ H1 fun y H2 => R x y H2) {Q : Value → Shared → Prop} {f : Value → Value → Sem Value}
    (hf : ∀ v u s2 x y H2, Inv X pins σ H2 s2 → RelV x v → RelV y u → R x y H2 → wpAny (model X.prog X.w) X.A (f v u) Q X.xe s2) :
    wpAny (model X.prog X.w) X.A (eval a X.env) (fun v s₁ => wpAny (model X.prog X.w) X.A (eval b X.env) (fun u s₂ => wpAny (model X.prog X.w) X.A (f v u) Q X.xe s₂) X.xe s₁) X.xe s := by
  refine thn (ha pins s σ H _ I h) fun v s1 ⟨x, H1, I1, r1, q1⟩ => ?_
  refine thn (hb pins s1 σ H1 _ I1 q1) fun u s2 ⟨y, H2, I2, r2, q2⟩ => ?_
  exact hf v u s2 x y H2 I2 r1 r2 q2

theorem pe_op {op : Operator} {r : R2} (ho : OpR X (binaryOp op) r) (ha : PE X a ta) (hb : PE X b tb) : PE X (.BinOp a op b pos) (tOp r ta tb) := by
  intro pins s σ H Q I h
  exact wpAny_BinOp (binT ha hb I h fun v u s2 x y H2 I2 rx ry q => ho pins s2 σ H2 x y v u Q I2 rx ry q)
theorem pe_un {op : UnaryOp} {r : V → Hp → VK → Prop} (ho : UnR X (unaryOp op) r) (ha : PE X a ta) : PE X (.UnaryOp op a pos) (tUn r ta) := by
  intro pins s σ H Q I h
  exact UnaryOp_ (thn (ha pins s σ H _ I h) fun v s1 ⟨x, H1, I1, r1, q1⟩ => ho pins s1 σ H1 x v Q I1 r1 q1)
/-- a op= e at a name: the name's slot i -/
theorem augR {op : Operator} {r : R2} (ho : OpR X (inplaceOp op) r) {pins : List (Addr × Obj)} {s : Shared} {σ : St} {H : Hp} {x y : V} {v u : Value} {Q : VK} (I : Inv X pins σ H s)
    (rx : RelV x v) (ry : RelV y u) (q : r x y H Q) : wpAny (model X.prog X.w) X.A (inplaceOp op v u) (EP X pins σ Q) X.xe s := ho pins s σ H x y v u Q I rx ry q

/-! ### ints -/
theorem opI {f : Value → Value → Sem Value} {C : Int → Int → Prop} {g : Int → Int → Int}
    (rule : ∀ (i j : Int) (t u : Tok) (s : Shared) (Q : Value → Shared → Prop) (E : Value → Shared → Prop), C i j → Q (.int (g i j) s.toks) { s with toks := s.toks + 1 } → wpAny (model X.prog X.w) X.A (f (.int i t) (.int j u)) Q E s) :
    OpR X f (rI C fun i j => .int (g i j)) := by
  intro pins s σ H x y v u Q I rx ry h
  obtain ⟨i, j, rfl, rfl, hc, q⟩ := h
  obtain ⟨t, rfl⟩ := rx
  obtain ⟨t', rfl⟩ := ry
  exact rule i j t t' s _ _ hc ⟨.int (g i j), H, I.tok _, ⟨_, rfl⟩, q⟩
theorem opI0 {f : Value → Value → Sem Value} {g : Int → Int → Int}
    (rule : ∀ (i j : Int) (t u : Tok) (s : Shared) (Q : Value → Shared → Prop) (E : Value → Shared → Prop), Q (.int (g i j) s.toks) { s with toks := s.toks + 1 } → wpAny (model X.prog X.w) X.A (f (.int i t) (.int j u)) Q E s) :
    OpR X f (rI0 fun i j => .int (g i j)) := by
  intro pins s σ H x y v u Q I rx ry h
  obtain ⟨i, j, rfl, rfl, q⟩ := h
  obtain ⟨t, rfl⟩ := rx
  obtain ⟨t', rfl⟩ := ry
  exact rule i j t t' s _ _ ⟨.int (g i j), H, I.tok _, ⟨_, rfl⟩, q⟩
theorem opB0 {f : Value → Value → Sem Value} {g : Int → Int → Bool}
    (rule : ∀ (i j : Int) (t u : Tok) (s : Shared) (Q : Value → Shared → Prop) (E : Value → Shared → Prop), Q (.bool (g i j)) s → wpAny (model X.prog X.w) X.A (f (.int i t) (.int j u)) Q E s) :
    OpR X f (rI0 fun i j => .bl (g i j)) := by
  intro pins s σ H x y v u Q I rx ry h
  obtain ⟨i, j, rfl, rfl, q⟩ := h
  obtain ⟨t, rfl⟩ := rx
  obtain ⟨t', rfl⟩ := ry
  exact rule i j t t' s _ _ ⟨.bl (g i j), H, I, rfl, q⟩

def CDiv (i j : Int) : Prop := 0 < j ∧ j < 1073741824
def CDivN (i j : Int) : Prop := j ≠ 0 ∧ j.natAbs < 1073741824
def CPow (i j : Int) : Prop := 0 ≤ j ∧ j ≤ 1000000 ∧ i.natAbs < 2 ^ 64
def CMul (i j : Int) : Prop := (-(2 ^ 64) < i ∧ i < 2 ^ 64) ∨ (-(2 ^ 64) < j ∧ j < 2 ^ 64)
theorem CMul.ok {i j : Int} (h : CMul i j) : IntMulOk i j := by
  rcases h with ⟨h1, h2⟩ | ⟨h1, h2⟩
  · exact .of_left (intBits_le_64 h1 h2)
  · exact .of_right (intBits_le_64 h1 h2)
theorem two_pow_nn (k : Nat) : (0 : Int) ≤ 2 ^ k := by
  rw [two_pow_cast]
  exact Int.natCast_nonneg _

theorem op_add : OpR X (binaryOp .Add) (rI0 fun i j => .int (i + j)) := opI0 fun _ _ _ _ _ _ _ q => add_int q
theorem op_sub : OpR X (binaryOp .Sub) (rI0 fun i j => .int (i - j)) := opI0 fun _ _ _ _ _ _ _ q => sub_int q
theorem op_mul : OpR X (binaryOp .Mult) (rI CMul fun i j => .int (i * j)) := opI fun _ _ _ _ _ _ _ hc q => mul_int q hc.ok
/-- // by a positive divisor -/
theorem op_fdiv : OpR X (binaryOp .FloorDiv) (rI CDiv fun i j => .int (i / j)) := opI fun i j _ _ _ _ _ hc q => by
  have h1 : (0 : Int) < j := hc.1
  have h2 : j < 1073741824 := hc.2
  exact floordiv_int (by omega) (by rw [Int.fdiv_eq_ediv_of_nonneg i (by omega)]; exact q) (.inl (PyProof.noPylong_small (by omega)))
theorem op_fdivN : OpR X (binaryOp .FloorDiv) (rI CDivN fun i j => .int (i.fdiv j)) := opI fun _ _ _ _ _ _ _ hc q => floordiv_int hc.1 q (.inl (PyProof.noPylong_small hc.2))
/-- % by a positive divisor of any size -/
theorem op_mod : OpR X (binaryOp .Mod) (rI (fun _ j => 0 < j) fun i j => .int (i % j)) := opI fun i j _ _ _ _ _ hc q => by
  have h1 : (0 : Int) < j := hc
  exact mod_int' (by omega) (by rw [Int.fmod_eq_emod_of_nonneg i (by omega)]; exact q)
theorem op_modN : OpR X (binaryOp .Mod) (rI (fun _ j => j ≠ 0) fun i j => .int (i.fmod j)) := opI fun _ _ _ _ _ _ _ hc q => mod_int' hc q
theorem op_pow : OpR X (binaryOp .Pow) (rI CPow fun i j => .int (i ^ j.toNat)) := opI fun _ _ _ _ _ _ _ hc q => pow_int_small hc.1 hc.2.1 hc.2.2 q
theorem op_shl : OpR X (binaryOp .LShift) (rI CPow fun i j => .int (i * 2 ^ j.toNat)) := opI fun _ _ _ _ _ _ _ hc q => lshift_int_small hc.1 hc.2.1 hc.2.2 q
theorem op_shr : OpR X (binaryOp .RShift) (rI (fun _ j => 0 ≤ j) fun i j => .int (i / 2 ^ j.toNat)) := opI fun i j _ _ _ _ _ hc q =>
  rshift_int hc (by rw [Int.fdiv_eq_ediv_of_nonneg i (two_pow_nn _)]; exact q)
theorem op_and : OpR X (binaryOp .BitAnd) (rI0 fun i j => .int (Builtin.bitAnd i j)) := opI0 fun _ _ _ _ _ _ _ q => and_int q
theorem op_or : OpR X (binaryOp .BitOr) (rI0 fun i j => .int (Builtin.bitOr i j)) := opI0 fun _ _ _ _ _ _ _ q => or_int q
theorem op_xor : OpR X (binaryOp .BitXor) (rI0 fun i j => .int (Builtin.bitXor i j)) := opI0 fun _ _ _ _ _ _ _ q => xor_int q

theorem iop_add : OpR X (inplaceOp .Add) (rI0 fun i j => .int (i + j)) := opI0 fun _ _ _ _ _ _ _ q => iadd_int q
theorem iop_sub : OpR X (inplaceOp .Sub) (rI0 fun i j => .int (i - j)) := opI0 fun _ _ _ _ _ _ _ q => isub_int q
theorem iop_mul : OpR X (inplaceOp .Mult) (rI CMul fun i j => .int (i * j)) := opI fun _ _ _ _ _ _ _ hc q => imul_int q hc.ok
theorem iop_fdiv : OpR X (inplaceOp .FloorDiv) (rI CDiv fun i j => .int (i / j)) := opI fun i j _ _ _ _ _ hc q => by
  have h1 : (0 : Int) < j := hc.1
  have h2 : j < 1073741824 := hc.2
  exact ifloordiv_int (by omega) (by rw [Int.fdiv_eq_ediv_of_nonneg i (by omega)]; exact q) (.inl (PyProof.noPylong_small (by omega)))
theorem iop_mod : OpR X (inplaceOp .Mod) (rI (fun _ j => 0 < j) fun i j => .int (i % j)) := opI fun i j _ _ _ _ _ hc q => by
  have h1 : (0 : Int) < j := hc
  exact imod_int (by omega) (by rw [Int.fmod_eq_emod_of_nonneg i (by omega)]; exact q)
theorem iop_shl : OpR X (inplaceOp .LShift) (rI CPow fun i j => .int (i * 2 ^ j.toNat)) := opI fun _ _ _ _ _ _ _ hc q => ilshift_int_small hc.1 hc.2.1 hc.2.2 q
theorem iop_shr : OpR X (inplaceOp .RShift) (rI (fun _ j => 0 ≤ j) fun i j => .int (i / 2 ^ j.toNat)) := opI fun i j _ _ _ _ _ hc q =>
  irshift_int hc (by rw [Int.fdiv_eq_ediv_of_nonneg i (two_pow_nn _)]; exact q)
theorem iop_and : OpR X (inplaceOp .BitAnd) (rI0 fun i j => .int (Builtin.bitAnd i j)) := opI0 fun _ _ _ _ _ _ _ q => iand_int q
theorem iop_or : OpR X (inplaceOp .BitOr) (rI0 fun i j => .int (Builtin.bitOr i j)) := opI0 fun _ _ _ _ _ _ _ q => ior_int q
theorem iop_xor : OpR X (inplaceOp .BitXor) (rI0 fun i j => .int (Builtin.bitXor i j)) := opI0 fun _ _ _ _ _ _ _ q => ixor_int q

theorem unI {f : Value → Sem Value} {g : Int → Int}
    (rule : ∀ (i : Int) (t : Tok) (s : Shared) (Q : Value → Shared → Prop) (E : Value → Shared → Prop), Q (.int (g i) s.toks) { s with toks := s.toks + 1 } → wpAny (model X.prog X.w) X.A (f (.int i t)) Q E s) :
    UnR X f (rU fun i => .int (g i)) := by
  intro pins s σ H x v Q I rx h
  obtain ⟨i, rfl, q⟩ := h
  obtain ⟨t, rfl⟩ := rx
  exact rule i t s _ _ ⟨.int (g i), H, I.tok _, ⟨_, rfl⟩, q⟩
theorem un_neg : UnR X (unaryOp .USub) (rU fun i => .int (-i)) := unI fun _ _ _ _ _ q => neg_int q
theorem un_inv : UnR X (unaryOp .Invert) (rU fun i => .int (Builtin.bitNot i)) := unI fun _ _ _ _ _ q => invert_int q

/-! ### bools among ints: n += (a < b) -/
theorem op_add_ib : OpR X (binaryOp .Add) (fun x y H Q => ∃ i k, x = .int i ∧ y = .bl k ∧ Q (.int (i + b2i k)) H) := by
  intro pins s σ H x y v u Q I rx ry h
  obtain ⟨i, k, rfl, rfl, q⟩ := h
  obtain ⟨t, rfl⟩ := rx
  cases ry
  exact add_int_bool ⟨.int (i + b2i k), H, I.tok _, ⟨_, rfl⟩, q⟩
end

/-! ### comparisons -/
/-- the scalars that == tells apart as data does -/
def scal : V → V → Bool
  | .non, .non => true | .non, .int _ => true | .int _, .non => true | .non, .bl _ => true | .bl _, .non => true | .non, .str _ => true | .str _, .non => true
  | .int _, .int _ => true | .bl _, .bl _ => true | .str _, .str _ => true | .byt _, .byt _ => true
  | .int _, .str _ => true | .str _, .int _ => true | .bl _, .str _ => true | .str _, .bl _ => true
  | _, _ => false
def rEq : R2 := fun x y H Q => scal x y = true ∧ Q (.bl (decide (x = y))) H
def rNe : R2 := fun x y H Q => scal x y = true ∧ Q (.bl (!decide (x = y))) H

theorem dec_int {i j : Int} : decide (V.int i = V.int j) = (i == j) := by
  rw [Bool.eq_iff_iff]
  simp
theorem dec_bl {i j : Bool} : decide (V.bl i = V.bl j) = (i == j) := by
  rw [Bool.eq_iff_iff]
  simp
theorem dec_str {i j : Str} : decide (V.str i = V.str j) = (i == j) := by
  rw [Bool.eq_iff_iff]
  simp
theorem dec_byt {i j : Array UInt8} : decide (V.byt i = V.byt j) = (i.toList == j.toList) := by
  rw [Bool.eq_iff_iff]
  cases i
  cases j
  simp

section
variable {X : Cx} {a b c : Expr} {ta tb tc : TE} {pos : Pos}
theorem fin_bl {pins : List (Addr × Obj)} {σ : St} {H : Hp} {s : Shared} {Q : VK} {k k' : Bool} (I : Inv X pins σ H s) (q : Q (.bl k) H) (e : k = k') : EP X pins σ Q (.bool k') s := by
  subst e
  exact ⟨.bl k, H, I, rfl, q⟩
theorem op_eq : OpR X (compareOp .Eq) rEq := by
  intro pins s σ H x y v u Q I rx ry h
  obtain ⟨hs, q⟩ := h
  cases x with
  | non =>
    cases rx
    cases y with
    | non => cases ry; exact PySem.EqNone.eq_none_none (fin_bl I q (by simp))
    | bl j => cases ry; exact PySem.EqNone.eq_none_bool (fin_bl I q (by simp))
    | int j => obtain ⟨t', rfl⟩ := ry; exact PySem.EqNone.eq_none_int (fin_bl I q (by simp))
    | str j => obtain ⟨t', rfl⟩ := ry; exact PySem.EqNone.eq_none_str (fin_bl I q (by simp))
    | _ => exact absurd (show false = true from hs) Bool.false_ne_true
  | bl i =>
    cases rx
    cases y with
    | non => cases ry; exact PySem.EqNone.eq_bool_none (fin_bl I q (by simp))
    | bl j => cases ry; exact eq_bool (fin_bl I q dec_bl)
    | str j => obtain ⟨t', rfl⟩ := ry; exact PySem.EqMixed.eq_bool_str (fin_bl I q (by simp))
    | _ => exact absurd (show false = true from hs) Bool.false_ne_true
  | int i =>
    obtain ⟨t, rfl⟩ := rx
    cases y with
    | non => cases ry; exact PySem.EqNone.eq_int_none (fin_bl I q (by simp))
    | int j => obtain ⟨t', rfl⟩ := ry; exact eq_int (fin_bl I q dec_int)
    | str j => obtain ⟨t', rfl⟩ := ry; exact PySem.EqMixed.eq_int_str (fin_bl I q (by simp))
    | _ => exact absurd (show false = true from hs) Bool.false_ne_true
  | str i =>
    obtain ⟨t, rfl⟩ := rx
    cases y with
    | non => cases ry; exact PySem.EqNone.eq_str_none (fin_bl I q (by simp))
    | bl j => cases ry; exact PySem.EqMixed.eq_str_bool (fin_bl I q (by simp))
    | int j => obtain ⟨t', rfl⟩ := ry; exact PySem.EqMixed.eq_str_int (fin_bl I q (by simp))
    | str j => obtain ⟨t', rfl⟩ := ry; exact eq_str (fin_bl I q dec_str)
    | _ => exact absurd (show false = true from hs) Bool.false_ne_true
  | byt i =>
    obtain ⟨t, rfl⟩ := rx
    cases y with
    | byt j => obtain ⟨t', rfl⟩ := ry; exact PySem.W.eq_bytes (fin_bl I q dec_byt)
    | _ => exact absurd (show false = true from hs) Bool.false_ne_true
  | _ => cases y <;> exact absurd (show false = true from hs) Bool.false_ne_true
theorem op_ne : OpR X (compareOp .NotEq) rNe := by
  intro pins s σ H x y v u Q I rx ry h
  obtain ⟨hs, q⟩ := h
  cases x with
  | non =>
    cases rx
    cases y with
    | non => cases ry; exact PySem.EqNone.ne_none_none (fin_bl I q (by simp))
    | bl j => cases ry; exact PySem.EqNone.ne_none_bool (fin_bl I q (by simp))
    | int j => obtain ⟨t', rfl⟩ := ry; exact PySem.EqNone.ne_none_int (fin_bl I q (by simp))
    | str j => obtain ⟨t', rfl⟩ := ry; exact PySem.EqNone.ne_none_str (fin_bl I q (by simp))
    | _ => exact absurd (show false = true from hs) Bool.false_ne_true
  | bl i =>
    cases rx
    cases y with
    | non => cases ry; exact PySem.EqNone.ne_bool_none (fin_bl I q (by simp))
    | bl j => cases ry; exact ne_bool (fin_bl I q (congrArg not dec_bl))
    | str j => obtain ⟨t', rfl⟩ := ry; exact PySem.EqMixed.ne_bool_str (fin_bl I q (by simp))
    | _ => exact absurd (show false = true from hs) Bool.false_ne_true
  | int i =>
    obtain ⟨t, rfl⟩ := rx
    cases y with
    | non => cases ry; exact PySem.EqNone.ne_int_none (fin_bl I q (by simp))
    | int j => obtain ⟨t', rfl⟩ := ry; exact ne_int (fin_bl I q (congrArg not dec_int))
    | str j => obtain ⟨t', rfl⟩ := ry; exact PySem.EqMixed.ne_int_str (fin_bl I q (by simp))
    | _ => exact absurd (show false = true from hs) Bool.false_ne_true
  | str i =>
    obtain ⟨t, rfl⟩ := rx
    cases y with
    | non => cases ry; exact PySem.EqNone.ne_str_none (fin_bl I q (by simp))
    | bl j => cases ry; exact PySem.EqMixed.ne_str_bool (fin_bl I q (by simp))
    | int j => obtain ⟨t', rfl⟩ := ry; exact PySem.EqMixed.ne_str_int (fin_bl I q (by simp))
    | str j => obtain ⟨t', rfl⟩ := ry; exact ne_str (fin_bl I q (congrArg not dec_str))
    | _ => exact absurd (show false = true from hs) Bool.false_ne_true
  | byt i =>
    obtain ⟨t, rfl⟩ := rx
    cases y with
    | byt j => obtain ⟨t', rfl⟩ := ry; exact PySem.W.ne_bytes (fin_bl I q (congrArg not dec_byt))
    | _ => exact absurd (show false = true from hs) Bool.false_ne_true
  | _ => cases y <;> exact absurd (show false = true from hs) Bool.false_ne_true

theorem op_lt : OpR X (compareOp .Lt) (rI0 fun i j => .bl (decide (i < j))) := opB0 fun _ _ _ _ _ _ _ q => lt_int q
theorem op_le : OpR X (compareOp .LtE) (rI0 fun i j => .bl (decide (i ≤ j))) := opB0 fun _ _ _ _ _ _ _ q => le_int q
theorem op_gt : OpR X (compareOp .Gt) (rI0 fun i j => .bl (decide (j < i))) := opB0 fun _ _ _ _ _ _ _ q => gt_int q
theorem op_ge : OpR X (compareOp .GtE) (rI0 fun i j => .bl (decide (j ≤ i))) := opB0 fun _ _ _ _ _ _ _ q => ge_int q
theorem op_lt_str : OpR X (compareOp .Lt) (fun x y H Q => ∃ i j, x = .str i ∧ y = .str j ∧ Q (.bl (decide (i.cps.toList < j.cps.toList))) H) := by
  intro pins s σ H x y v u Q I rx ry h
  obtain ⟨i, j, rfl, rfl, q⟩ := h
  obtain ⟨t, rfl⟩ := rx
  obtain ⟨t', rfl⟩ := ry
  exact lt_str (fin_bl I q rfl)
/-- the one string within the other -/
theorem op_in_str : OpR X (compareOp .In) (fun x y H Q => ∃ i j, x = .str i ∧ y = .str j ∧ Q (.bl (!(Builtin.Str.occurrences j i 0 j.length 1).isEmpty)) H) := by
  intro pins s σ H x y v u Q I rx ry h
  obtain ⟨i, j, rfl, rfl, q⟩ := h
  obtain ⟨t, rfl⟩ := rx
  obtain ⟨t', rfl⟩ := ry
  exact in_str (fin_bl I q rfl)

/-- is None, is not None: the right side a value none -/
theorem op_isN : OpR X (compareOp .Is) (fun x y H Q => y = .non ∧ Q (.bl (decide (x = .non))) H) := by
  intro pins s σ H x y v u Q I rx ry h
  obtain ⟨rfl, q⟩ := h
  cases ry
  refine is_none_gen (fin_bl I q ?_)
  cases x <;> first
    | (cases rx; rfl)
    | (obtain ⟨t, rfl⟩ := rx; rfl)
theorem op_notN : OpR X (compareOp .IsNot) (fun x y H Q => y = .non ∧ Q (.bl (!decide (x = .non))) H) := by
  intro pins s σ H x y v u Q I rx ry h
  obtain ⟨rfl, q⟩ := h
  cases ry
  refine isnot_none_gen (fin_bl I q ?_)
  cases x <;> first
    | (cases rx; rfl)
    | (obtain ⟨t, rfl⟩ := rx; rfl)

theorem op_notin_str : OpR X (compareOp .NotIn) (fun x y H Q => ∃ i j, x = .str i ∧ y = .str j ∧ Q (.bl (!(!(Builtin.Str.occurrences j i 0 j.length 1).isEmpty))) H) := by
  intro pins s σ H x y v u Q I rx ry h
  obtain ⟨i, j, rfl, rfl, q⟩ := h
  obtain ⟨t, rfl⟩ := rx
  obtain ⟨t', rfl⟩ := ry
  exact notIn_str (fin_bl I q rfl)
/-- is, is not of two objects that are tracked lists or instances -/
def isObj : HO → Bool
  | .lst _ => true
  | .ins _ _ _ => true
  | _ => false
theorem obj_there {pins : List (Addr × Obj)} {s : Shared} {σ : St} {H : Hp} {a : Addr} {o : HO} (I : Inv X pins σ H s) (h : H a = some o) (p : isObj o = true) : ∃ ob, s.heap.get? a = some ob ∧ ob.cls ≠ .type "tuple" := by
  cases o with
  | lst xs =>
    obtain ⟨_, its, n, _, e⟩ : xs.length ≤ sizeLine ∧ ∃ (its : List Value) (n : Nat), Vals xs its ∧ s.heap.get? a = some { cls := .type "list", data := .seq its.toArray n } := I.hok a _ h
    exact ⟨_, e, (by show Value.type "list" ≠ .type "tuple"; decide +kernel)⟩
  | ins C dx fs =>
    have x := I.hok a _ h
    obtain ⟨_, _, _, e, _⟩ := x
    exact ⟨_, e, (by show Value.ref C ≠ .type "tuple"; exact fun z => by cases z)⟩
  | _ => exact absurd (show false = true from p) Bool.false_ne_true
theorem op_is_ref : OpR X (compareOp .Is) (fun x y H Q => ∃ a b oa ob, x = .ref a ∧ y = .ref b ∧ H a = some oa ∧ isObj oa = true ∧ H b = some ob ∧ isObj ob = true ∧ Q (.bl (decide (a = b))) H) := by
  intro pins s σ H x y v u Q I rx ry h
  obtain ⟨a, b, oa, ob, rfl, rfl, ha, pa, hb, pb, q⟩ := h
  cases rx
  cases ry
  obtain ⟨o1, e1, n1⟩ := obj_there I ha pa
  obtain ⟨o2, e2, _⟩ := obj_there I hb pb
  by_cases z : a = b
  · subst z
    exact wpAny_is_ref_self (fin_bl I q (by simp))
  · exact wpAny_is_ref_other z e1 e2 n1 (fin_bl I q (by simp [z]))
theorem op_isnot_ref : OpR X (compareOp .IsNot) (fun x y H Q => ∃ a b oa ob, x = .ref a ∧ y = .ref b ∧ H a = some oa ∧ isObj oa = true ∧ H b = some ob ∧ isObj ob = true ∧ Q (.bl (!decide (a = b))) H) := by
  intro pins s σ H x y v u Q I rx ry h
  obtain ⟨a, b, oa, ob, rfl, rfl, ha, pa, hb, pb, q⟩ := h
  cases rx
  cases ry
  obtain ⟨o1, e1, n1⟩ := obj_there I ha pa
  obtain ⟨o2, e2, _⟩ := obj_there I hb pb
  by_cases z : a = b
  · subst z
    exact wpAny_isNot_ref_self (fin_bl I q (by simp))
  · exact wpAny_isNot_ref_other z e1 e2 n1 (fin_bl I q (by simp [z]))

/-- two rules for one operation: by cases -/
theorem OpR.or {f : Value → Value → Sem Value} {r r' : R2} (h : OpR X f r) (h' : OpR X f r') : OpR X f (fun x y H Q => r x y H Q ∨ r' x y H Q) := by
  intro pins s σ H x y v u Q I rx ry q
  rcases q with q | q
  · exact h pins s σ H x y v u Q I rx ry q
  · exact h' pins s σ H x y v u Q I rx ry q

theorem nomark (b : Expr) {op : CmpOp} (h : op ≠ .In := by decide) (h2 : op ≠ .NotIn := by decide) : behindInMarks op b = false := by
  have e1 : (op == CmpOp.In) = false := by cases op <;> first | rfl | exact absurd rfl h
  have e2 : (op == CmpOp.NotIn) = false := by cases op <;> first | rfl | exact absurd rfl h2
  cases b <;> simp [behindInMarks, e1, e2]
/-- a comparison as a value; hm: nomark b, or (for in, not in) by with_unfolding_all rfl -/
theorem pe_cmpR {op : CmpOp} {r : R2} (ho : OpR X (compareOp op) r) (ha : PE X a ta) (hb : PE X b tb) (hm : behindInMarks op b = false) : PE X (.Compare a [op] [b] pos) (tOp r ta tb) := by
  intro pins s σ H Q I h
  exact wpAny_Compare1 (binT ha hb I h fun v u s2 x y H2 I2 rx ry q => ho pins s2 σ H2 x y v u Q I2 rx ry q) hm
/-- a reading of a value as a test -/
def tTest (t : TE) : TT := fun σ H Q => t σ H fun x H' => ∃ k, x = .bl k ∧ Q k H'
theorem pt_cmpR {op : CmpOp} {r : R2} (ho : OpR X (compareOp op) r) (ha : PE X a ta) (hb : PE X b tb) (hm : behindInMarks op b = false) : PT X (.Compare a [op] [b] pos) (tTest (tOp r ta tb)) := by
  intro pins s σ H Q I h
  refine wpAny_isTrue_Compare1 (thn (ha pins s σ H _ I h) fun v s1 ⟨x, H1, I1, r1, q1⟩ => thn (hb pins s1 σ H1 _ I1 q1) fun u s2 ⟨y, H2, I2, r2, q2⟩ =>
    thn (ho pins s2 σ H2 x y v u _ I2 r1 r2 q2) fun c s3 ⟨z, H3, I3, r3, k, e, q3⟩ => ?_) hm
  subst e
  cases r3
  exact wpAny_truthy_bool ⟨H3, I3, q3⟩
/-- a op1 b op2 c -/
def tChain (r r' : R2) (ta tb tc : TE) : TE := fun σ H Q => ta σ H fun x H1 => tb σ H1 fun y H2 => r x y H2 fun z H3 => ∃ k, z = .bl k ∧
  (if k = true then tc σ H3 fun w' H4 => r' y w' H4 Q else Q (.bl false) H3)
theorem pe_chain {op op' : CmpOp} {r r' : R2} (ho : OpR X (compareOp op) r) (ho' : OpR X (compareOp op') r') (ha : PE X a ta) (hb : PE X b tb) (hc : PE X c tc)
    (hm : lastMarks [op, op'] [b, c] = false := by with_unfolding_all rfl) : PE X (.Compare a [op, op'] [b, c] pos) (tChain r r' ta tb tc) := by
  intro pins s σ H Q I h
  refine Compare_chain (thn (ha pins s σ H _ I h) fun v s1 ⟨x, H1, I1, r1, q1⟩ => chain_link (thn (hb pins s1 σ H1 _ I1 q1) fun u s2 ⟨y, H2, I2, r2, q2⟩ =>
    thn (ho pins s2 σ H2 x y v u _ I2 r1 r2 q2) fun d s3 ⟨z, H3, I3, r3, k, e, q3⟩ => ?_)) hm
  subst e
  cases r3
  refine wpAny_truthy_bool ?_
  cases k with
  | false => exact ite_ff ⟨.bl false, H3, I3, rfl, q3⟩
  | true => exact ite_tt (chain_last (thn (hc pins s3 σ H3 _ I3 q3) fun w' s4 ⟨z', H4, I4, r4, q4⟩ => ho' pins s4 σ H4 y z' u w' Q I4 r2 r4 q4))
theorem pt_chain {op op' : CmpOp} {r r' : R2} (ho : OpR X (compareOp op) r) (ho' : OpR X (compareOp op') r') (ha : PE X a ta) (hb : PE X b tb) (hc : PE X c tc)
    (hm : lastMarks [op, op'] [b, c] = false := by with_unfolding_all rfl) : PT X (.Compare a [op, op'] [b, c] pos) (tTest (tChain r r' ta tb tc)) := by
  intro pins s σ H Q I h
  refine isTrue_chain (thn (ha pins s σ H _ I h) fun v s1 ⟨x, H1, I1, r1, q1⟩ => test_link (thn (hb pins s1 σ H1 _ I1 q1) fun u s2 ⟨y, H2, I2, r2, q2⟩ =>
    thn (ho pins s2 σ H2 x y v u _ I2 r1 r2 q2) fun d s3 ⟨z, H3, I3, r3, k, e, q3⟩ => ?_)) hm
  subst e
  cases r3
  refine wpAny_truthy_bool ?_
  cases k with
  | false =>
    obtain ⟨k', e', q'⟩ := q3
    cases e'
    exact ite_ff ⟨H3, I3, q'⟩
  | true =>
    refine ite_tt (test_last (thn (hc pins s3 σ H3 _ I3 q3) fun w' s4 ⟨z', H4, I4, r4, q4⟩ => thn (ho' pins s4 σ H4 y z' u w' _ I4 r2 r4 q4) fun d' s5 ⟨z2, H5, I5, r5, k2, e2, q5⟩ => ?_))
    subst e2
    cases r5
    exact wpAny_truthy_bool ⟨H5, I5, q5⟩

/-! ### truth -/
/-- a value's truth by the abstract heap -/
def TruV (K : PySem.W.Frag) (x : V) (H : Hp) (k : Bool) : Prop :=
  match x with
  | .non => k = false
  | .bl b => k = b
  | .int i => k = (i != 0)
  | .str y => y.length ≤ sizeLine ∧ k = ((y.length : Int) != 0)
  | .byt y => y.size ≤ sizeLine ∧ k = ((y.size : Int) != 0)
  | .ref p => (∃ xs, SqL K H p xs ∧ k = !xs.isEmpty) ∨ (∃ xs, SqT K H p xs ∧ k = !xs.isEmpty) ∨ ∃ kvs, H p = some (.dK kvs) ∧ k = !kvs.isEmpty
  | _ => False
theorem isEmpty_kv {κ : Type} {kvs : List (κ × V)} {vs : List (κ × Value)} (r : KV kvs vs) : (!vs.isEmpty) = !kvs.isEmpty := by
  cases r <;> rfl
theorem isEmpty_of {xs : List V} {its : List Value} (r : Vals xs its) : (!its.toArray.isEmpty) = !xs.isEmpty := by
  cases r <;> simp
theorem line63 : (sizeLine : Nat) < 2 ^ 63 := by rw [sizeLine_eq]; decide
theorem tru_ok : TruR X (fun x H Q => ∃ k, TruV X.K x H k ∧ Q k H) := by
  intro pins s σ H x v Q I rx h
  obtain ⟨k, e, q⟩ := h
  have hl := line63
  have hs : sizeLine = 16777216 := sizeLine_eq
  cases x with
  | non =>
    cases rx
    have e' : k = false := e
    subst e'
    exact truthy_none ⟨H, I, q⟩
  | bl b =>
    cases rx
    have e' : k = b := e
    subst e'
    exact wpAny_truthy_bool ⟨H, I, q⟩
  | int i =>
    obtain ⟨t, rfl⟩ := rx
    have e' : k = (i != 0) := e
    subst e'
    exact PySem.P.truthy_int ⟨H, I, q⟩
  | str y =>
    obtain ⟨t, rfl⟩ := rx
    obtain ⟨hy, e'⟩ : y.length ≤ sizeLine ∧ k = ((y.length : Int) != 0) := e
    subst e'
    exact PySem.P.truthy_str (by omega) ⟨H, I.tok _, q⟩
  | byt y =>
    obtain ⟨t, rfl⟩ := rx
    obtain ⟨hy, e'⟩ : y.size ≤ sizeLine ∧ k = ((y.size : Int) != 0) := e
    subst e'
    exact PySem.W.truthy_bytes (by omega) ⟨H, I.tok _, q⟩
  | ref p =>
    cases rx
    have e' : (∃ xs, SqL X.K H p xs ∧ k = !xs.isEmpty) ∨ (∃ xs, SqT X.K H p xs ∧ k = !xs.isEmpty) ∨ ∃ kvs, H p = some (.dK kvs) ∧ k = !kvs.isEmpty := e
    rcases e' with ⟨xs, hx, e'⟩ | ⟨xs, hx, e'⟩ | ⟨kvs, hx, e'⟩
    · subst e'
      obtain ⟨its, r, pl, hz⟩ := I.list hx
      have hlen := r.length
      exact wpAny_truthy_list pl.isList (by simp only [List.size_toArray]; omega) ⟨H, I.tok _, by rw [isEmpty_of r]; exact q⟩
    · subst e'
      obtain ⟨its, r, pl, hz⟩ := I.tuple hx
      have hlen := r.length
      exact truthy_tuple pl (by simp only [List.size_toArray]; omega) ⟨H, I.tok _, by rw [isEmpty_of r]; exact q⟩
    · subst e'
      obtain ⟨hz, hS, vs, r, m⟩ : kvs.length ≤ sizeLine ∧ (p == sysModules) = false ∧ ∃ vs, KV kvs vs ∧ s.heap.DictOf (mixKind X.prog X.w) p vs := I.hok p _ hx
      have hlen : kvs.length = vs.length := Paired.length r
      exact wpAny_truthy_dict hS m (by omega) ⟨H, I.tok _, by rw [isEmpty_kv r]; exact q⟩
  | _ => exact (show False from e).elim
/-- any expression whose test is its value's truth (a name, a call, a subscript, a field ..: he by fun _ => rfl) -/
theorem pt_truth (ha : PE X a ta) (he : ∀ whole, isTrue a X.env whole = (do let v ← whole; standAt a.pos; holding [v] (truthy v))) :
    PT X a (fun σ H Q => ta σ H fun x H' => ∃ k, TruV X.K x H' k ∧ Q k H') := by
  intro pins s σ H Q I h
  exact isTrue_plain (thn (ha pins s σ H _ I h) fun v s1 ⟨x, H1, I1, r1, q1⟩ => tru_ok pins s1 σ H1 x v Q I1 r1 q1) (he _)

/-! ### strs and bytes -/
theorem pe_byt {x : List UInt8} {k : Nat} : PE X (.Constant (.bytes x) k pos) (fun _ H Q => Q (.byt x.toArray) H) := fun _ _ _ H _ I h => PySem.W.Constant_bytes ⟨.byt x.toArray, H, I.tok _, ⟨_, rfl⟩, h⟩
theorem op_add_str : OpR X (binaryOp .Add) (fun x y H Q => ∃ i j, x = .str i ∧ y = .str j ∧ i.length + j.length ≤ sizeLine ∧ Q (.str (i ++ j)) H) := by
  intro pins s σ H x y v u Q I rx ry h
  obtain ⟨i, j, rfl, rfl, hz, q⟩ := h
  obtain ⟨t, rfl⟩ := rx
  obtain ⟨t', rfl⟩ := ry
  exact add_str (fun t' tk => ⟨.str (i ++ j), H, I.tok _, ⟨_, rfl⟩, q⟩) hz
theorem iop_add_str : OpR X (inplaceOp .Add) (fun x y H Q => ∃ i j, x = .str i ∧ y = .str j ∧ i.length + j.length ≤ sizeLine ∧ Q (.str (i ++ j)) H) := by
  intro pins s σ H x y v u Q I rx ry h
  obtain ⟨i, j, rfl, rfl, hz, q⟩ := h
  obtain ⟨t, rfl⟩ := rx
  obtain ⟨t', rfl⟩ := ry
  exact iadd_str (fun t' tk => ⟨.str (i ++ j), H, I.tok _, ⟨_, rfl⟩, q⟩) hz
theorem op_add_byt : OpR X (binaryOp .Add) (fun x y H Q => ∃ i j, x = .byt i ∧ y = .byt j ∧ i.size + j.size ≤ 16777216 ∧ Q (.byt (i ++ j)) H) := by
  intro pins s σ H x y v u Q I rx ry h
  obtain ⟨i, j, rfl, rfl, hz, q⟩ := h
  obtain ⟨t, rfl⟩ := rx
  obtain ⟨t', rfl⟩ := ry
  exact PySem.W.KBy.add_bytes hz (fun t' tk => ⟨.byt (i ++ j), H, I.tok _, ⟨_, rfl⟩, q⟩)

def PlainIxT (b : Expr) : Prop := ∀ o i, subscripted b false o i = operate [o, i] (getItem o i)
/-- s[i], 0 ≤ i < len -/
theorem pe_item_str (ha : PE X a ta) (hb : PE X b tb) (hs : PlainIxT b) :
    PE X (.Subscript a b pos) (tOp (fun x y H Q => ∃ z i c, x = .str z ∧ y = .int i ∧ 0 ≤ i ∧ i < 2 ^ 63 ∧ i < z.length ∧ z.cps[i.toNat]? = some c ∧ Q (.str ⟨#[c]⟩) H) ta tb) := by
  intro pins s σ H Q I h
  refine Subscript_ (binT ha hb I h fun v u s2 x y H2 I2 rx ry q => ?_)
  obtain ⟨z, i, c, rfl, rfl, h0, h63, h1, hc, q⟩ := q
  obtain ⟨t, rfl⟩ := rx
  obtain ⟨t', rfl⟩ := ry
  have e : seqIndex? i z.length = some i.toNat := PySem.StrLaws.seqIndex_nonneg h0 h1
  exact tail_any (typeIs_str s2 z t) slot_str_getitem.lookup (getItem_str (c := c) (by
    have e1 : decide (i < -(2 ^ 63 : Int)) = false := decide_eq_false (by omega)
    have e2 : decide (i ≥ 2 ^ 63) = false := decide_eq_false (by omega)
    rw [e1, e2] <;> rfl) (by rw [e]; exact hc) ⟨.str ⟨#[c]⟩, H2, I2.tok _, ⟨_, rfl⟩, q⟩) (hs _ _)
/-- b[i], 0 ≤ i < len -/
theorem pe_item_byt (ha : PE X a ta) (hb : PE X b tb) (hs : PlainIxT b) :
    PE X (.Subscript a b pos) (tOp (fun x y H Q => ∃ (z : List UInt8) (i : Int), x = .byt z.toArray ∧ y = .int i ∧ z.length ≤ sizeLine ∧ 0 ≤ i ∧ i < z.length ∧ Q (.int ((z.getD i.toNat 0).toNat : Nat)) H) ta tb) := by
  intro pins s σ H Q I h
  refine Subscript_ (binT ha hb I h fun v u s2 x y H2 I2 rx ry q => ?_)
  obtain ⟨z, i, rfl, rfl, hz, h0, h1, q⟩ := q
  obtain ⟨t, rfl⟩ := rx
  obtain ⟨t', rfl⟩ := ry
  have hl : sizeLine = 16777216 := sizeLine_eq
  exact tail_any (PySem.W.typeIs_bytes s2 z.toArray t) PySem.W.FB.slot_bytes_getitem.lookup (PySem.W.getItem_bytes (by omega) h0 h1 ⟨.int ((z.getD i.toNat 0).toNat : Nat), H2, I2.tok _, ⟨_, rfl⟩, q⟩) (hs _ _)

/-! ### scalar builtins, by CallR -/
theorem vals1 {x : V} {us : List Value} (r : Vals [x] us) : ∃ u, us = [u] ∧ RelV x u := by
  cases r with
  | cons r1 r2 => cases r2; exact ⟨_, rfl, r1⟩
theorem vals2 {x y : V} {us : List Value} (r : Vals [x, y] us) : ∃ u w', us = [u, w'] ∧ RelV x u ∧ RelV y w' := by
  cases r with
  | cons r1 r2 =>
    cases r2 with
    | cons r3 r4 => cases r4; exact ⟨_, _, rfl, r1, r3⟩
theorem call_abs : CallR X (.builtin "abs") (fun xs H Q => ∃ i, xs = [.int i] ∧ Q (.int (if i < 0 then -i else i)) H) := by
  intro pins s σ H xs us Q I r h
  obtain ⟨i, rfl, q⟩ := h
  obtain ⟨u, rfl, t, rfl⟩ := vals1 r
  exact call_abs_int fun u tk => ⟨.int (if i < 0 then -i else i), H, I.tok _, ⟨_, rfl⟩, q⟩
theorem call_max2 (hc : X.calm = true) : CallR X (.builtin "max") (fun xs H Q => ∃ i j, xs = [.int i, .int j] ∧ Q (.int (if j > i then j else i)) H) := by
  intro pins s σ H xs us Q I r h
  obtain ⟨i, j, rfl, q⟩ := h
  obtain ⟨u, w', rfl, ⟨t, rfl⟩, ⟨t', rfl⟩⟩ := vals2 r
  refine max_two_ints (I.ok.hd hc) fun h' tk k => ⟨_, H, I.kept k, ?_, q⟩
  by_cases hj : j > i
  · rw [if_pos hj, if_pos hj]; exact ⟨_, rfl⟩
  · rw [if_neg hj, if_neg hj]; exact ⟨_, rfl⟩
theorem call_min2 (hc : X.calm = true) : CallR X (.builtin "min") (fun xs H Q => ∃ i j, xs = [.int i, .int j] ∧ Q (.int (if j < i then j else i)) H) := by
  intro pins s σ H xs us Q I r h
  obtain ⟨i, j, rfl, q⟩ := h
  obtain ⟨u, w', rfl, ⟨t, rfl⟩, ⟨t', rfl⟩⟩ := vals2 r
  refine min_two_ints (I.ok.hd hc) fun h' tk k => ⟨_, H, I.kept k, ?_, q⟩
  by_cases hj : j < i
  · rw [if_pos hj, if_pos hj]; exact ⟨_, rfl⟩
  · rw [if_neg hj, if_neg hj]; exact ⟨_, rfl⟩
theorem call_int1 : CallR X (.type "int") (fun xs H Q => (∃ i, xs = [.int i] ∧ Q (.int i) H) ∨ ∃ k, xs = [.bl k] ∧ Q (.int (if k then 1 else 0)) H) := by
  intro pins s σ H xs us Q I r h
  rcases h with ⟨i, rfl, q⟩ | ⟨k, rfl, q⟩
  · obtain ⟨u, rfl, t, rfl⟩ := vals1 r
    exact call_int_int ⟨.int i, H, I, ⟨_, rfl⟩, q⟩
  · obtain ⟨u, rfl, r1⟩ := vals1 r
    cases r1
    exact call_int_bool ⟨.int (if k then 1 else 0), H, I.tok _, ⟨_, rfl⟩, q⟩
theorem call_bool1 : CallR X (.type "bool") (fun xs H Q => (∃ i, xs = [.int i] ∧ Q (.bl (i != 0)) H) ∨ ∃ k, xs = [.bl k] ∧ Q (.bl k) H) := by
  intro pins s σ H xs us Q I r h
  rcases h with ⟨i, rfl, q⟩ | ⟨k, rfl, q⟩
  · obtain ⟨u, rfl, t, rfl⟩ := vals1 r
    exact call_bool_int ⟨.bl (i != 0), H, I, rfl, q⟩
  · obtain ⟨u, rfl, r1⟩ := vals1 r
    cases r1
    exact call_bool_bool ⟨.bl k, H, I, rfl, q⟩
theorem call_str_int : CallR X (.type "str") (fun xs H Q => ∃ i, xs = [.int i] ∧ i.natAbs.log2 < 1920 ∧ Q (.str (toString i)) H) := by
  intro pins s σ H xs us Q I r h
  obtain ⟨i, rfl, hz, q⟩ := h
  obtain ⟨u, rfl, t, rfl⟩ := vals1 r
  exact PySem.P.str_of_int hz ⟨.str _, H, I.tok _, ⟨_, rfl⟩, q⟩
theorem call_ord : CallR X (.builtin "ord") (fun xs H Q => ∃ x, xs = [.str x] ∧ x.length = 1 ∧ Q (.int (x.cps.getD 0 0 : Nat)) H) := by
  intro pins s σ H xs us Q I r h
  obtain ⟨x, rfl, hz, q⟩ := h
  obtain ⟨u, rfl, t, rfl⟩ := vals1 r
  exact ord_of_one hz ⟨.int _, H, I.tok _, ⟨_, rfl⟩, q⟩
theorem call_chr : CallR X (.builtin "chr") (fun xs H Q => ∃ i, xs = [.int i] ∧ 0 ≤ i ∧ i ≤ 1114111 ∧ Q (.str ⟨#[i.toNat]⟩) H) := by
  intro pins s σ H xs us Q I r h
  obtain ⟨i, rfl, h0, h1, q⟩ := h
  obtain ⟨u, rfl, t, rfl⟩ := vals1 r
  exact chr_of_range h0 h1 ⟨.str _, H, I.tok _, ⟨_, rfl⟩, q⟩
/-- len of a str, a bytes, a list, a tuple -/
def LenV (K : PySem.W.Frag) (x : V) (H : Hp) (n : Nat) : Prop :=
  match x with
  | .str y => y.length ≤ sizeLine ∧ n = y.length
  | .byt y => y.size ≤ sizeLine ∧ n = y.size
  | .ref p => (∃ xs, SqL K H p xs ∧ n = xs.length) ∨ ∃ xs, SqT K H p xs ∧ n = xs.length
  | _ => False
theorem call_len : CallR X (.builtin "len") (fun xs H Q => ∃ x n, xs = [x] ∧ LenV X.K x H n ∧ Q (.int n) H) := by
  intro pins s σ H xs us Q I r h
  obtain ⟨x, n, rfl, e, q⟩ := h
  obtain ⟨u, rfl, rx⟩ := vals1 r
  have hl := line63
  have hs : sizeLine = 16777216 := sizeLine_eq
  cases x with
  | str y =>
    obtain ⟨t, rfl⟩ := rx
    obtain ⟨hy, e'⟩ : y.length ≤ sizeLine ∧ n = y.length := e
    subst e'
    exact len_str (by omega) ⟨.int _, H, I.tok _, ⟨_, rfl⟩, q⟩
  | byt y =>
    obtain ⟨t, rfl⟩ := rx
    obtain ⟨hy, e'⟩ : y.size ≤ sizeLine ∧ n = y.size := e
    subst e'
    exact PySem.W.len_bytes (by omega) ⟨.int _, H, I.tok _, ⟨_, rfl⟩, q⟩
  | ref p =>
    cases rx
    have e' : (∃ xs, SqL X.K H p xs ∧ n = xs.length) ∨ ∃ xs, SqT X.K H p xs ∧ n = xs.length := e
    rcases e' with ⟨xs, hx, e'⟩ | ⟨xs, hx, e'⟩
    · subst e'
      obtain ⟨its, r', pl, hz⟩ := I.list hx
      have hlen := r'.length
      exact Calls.call_len_list pl.isList (by simp only [List.size_toArray]; omega) ⟨.int xs.length, H, I.tok _, ⟨_, by simp only [List.size_toArray]; rw [hlen]⟩, q⟩
    · subst e'
      obtain ⟨its, r', pl, hz⟩ := I.tuple hx
      have hlen := r'.length
      exact len_tuple pl (by simp only [List.size_toArray]; omega) ⟨.int xs.length, H, I.tok _, ⟨_, by simp only [List.size_toArray]; rw [hlen]⟩, q⟩
  | _ => exact (show False from e).elim
/-- divmod: a new tuple -/
theorem call_divmod : CallR X (.builtin "divmod") (fun xs H Q => ∃ i j, xs = [.int i, .int j] ∧ CDiv i j ∧ ∀ p, H p = none → Q (.ref p) (upd H p (.tup [.int (i / j), .int (i % j)]))) := by
  intro pins s σ H xs us Q I r h
  obtain ⟨i, j, rfl, ⟨h1, h2⟩, q⟩ := h
  obtain ⟨u, w', rfl, ⟨t, rfl⟩, ⟨t', rfl⟩⟩ := vals2 r
  refine divmod_int (by omega) ?_ (.inl (PyProof.noPylong_small (by omega)))
  rw [Int.fdiv_eq_ediv_of_nonneg i (by omega), Int.fmod_eq_emod_of_nonneg i (by omega)]
  have hn : H s.heap.objs.size = none := I.hok.fresh (Nat.le_refl _)
  refine ⟨.ref s.heap.objs.size, _, ?_, rfl, q _ hn⟩
  refine I.laid (fun b o e => Heap.get?_push_of_some _ e) (Nat.le_refl _) ⟨by simp only [List.length_cons, List.length_nil]; rw [sizeLine_eq]; decide, [.int (i / j) s.toks, .int (i % j) (s.toks + 1)], .cons ⟨_, rfl⟩ (.cons ⟨_, rfl⟩ .nil), ?_⟩
  exact ⟨_, Heap.get?_push_size s.heap rfl, rfl, 0, rfl⟩
end
end L2

namespace L2
open PySem PySem.Spec PyProof.Rows

/-! ### an instance, its attributes a map -/
structure ObjM (h : Heap) (x dx C : Addr) (mA : Str → Option Value) : Prop where
  obj : h.get? x = some (PySem.W.instObj C dx)
  ns : h.Ns1 dx mA
  ne : dx ≠ x

theorem lookIn_ns {h : Heap} {dx : Addr} {mA : Str → Option Value} (n : h.Ns1 dx mA) : ∃ od, h.get? dx = some od ∧ ∀ name, PySem.W.lookIn name od = some (mA name) := by
  obtain ⟨o, es, ep, ho, hd, hk, _, hm⟩ := n
  refine ⟨o, ho, fun name => ?_⟩
  have e := hm name
  unfold nsFind findBy at e
  rw [← Array.find?_toList] at e
  unfold PySem.W.lookIn
  rw [hd]
  dsimp only
  split
  · rename_i y q
    rw [q] at e
    exact congrArg some e
  · rename_i q
    rw [q] at e
    have a : es.toList.any (·.refKey) = false := by
      rw [List.any_eq_false]
      intro y hy
      obtain ⟨z, t, hkey⟩ := hk y (Array.mem_toList_iff.mp hy)
      simp [DictEntry.refKey, hkey]
    have a' : ¬ es.toList.any (·.refKey) = true := by rw [a]; exact Bool.false_ne_true
    rw [if_neg a']
    exact congrArg some e

theorem ObjM.look {h : Heap} {x dx C : Addr} {mA : Str → Option Value} (I : ObjM h x dx C mA) : ∃ od, PySem.W.InstAt h x (PySem.W.instObj C dx) C (some od) ∧ ∀ name, PySem.W.lookIn name od = some (mA name) :=
  let ⟨od, ho, hl⟩ := lookIn_ns I.ns
  ⟨od, ⟨I.obj, rfl, rfl, ho⟩, hl⟩

section
variable {prog : Program} {w : World} {A : Around} {E : Value → Shared → Prop} {s : Shared} {K : PySem.W.Frag} {x dx C f : Addr} {mA : Str → Option Value} {name : Str} {v : Value}

theorem get_map {expr : Bool} {Q : Value → Shared → Prop} (X : K.In s.heap) (I : ObjM s.heap x dx C mA) (hg : PySem.W.plainGet K C name = true) (hh : PySem.W.hasDictIn K C = true)
    (ha : PySem.W.findIn K (.ref C) name = some none) (hv : mA name = some v) (hv' : PySem.W.handedIn v = true) (h : Q v { s with toks := s.toks + 1 }) :
    wpAny (model prog w) A (getAttr (.ref x) name expr) Q E s := by
  obtain ⟨od, J, hl⟩ := I.look
  exact PySem.W.get_value X J (PySem.W.plainGet_of hg).1 (PySem.W.findObj_own hh ha rfl (by rw [hl, hv])) hv' h

theorem get_const {expr : Bool} {a : Value} {Q : Value → Shared → Prop} (X : K.In s.heap) (I : ObjM s.heap x dx C mA) (hg : PySem.W.plainGet K C name = true) (hh : PySem.W.hasDictIn K C = true)
    (ha : PySem.W.findIn K (.ref C) name = some (some a)) (hn : PySem.W.specialIn K a "__get__" = some none) (hc : PySem.W.copiedNames.contains name = false) (hv : mA name = none) (hv' : PySem.W.handedIn a = true)
    (h : Q a { s with toks := s.toks + 1 }) : wpAny (model prog w) A (getAttr (.ref x) name expr) Q E s := by
  obtain ⟨od, J, hl⟩ := I.look
  exact PySem.W.get_value X J (PySem.W.plainGet_of hg).1 (PySem.W.findObj_cls hh ha hn hv' hc (by rw [hl, hv])) hv' h

theorem get_meth {pl : Sem Bool} {Q : Value × List Value → Shared → Prop} (X : K.In s.heap) (I : ObjM s.heap x dx C mA) (hg : PySem.W.plainGet K C name = true)
    (hf : PySem.W.findIn K (.ref C) name = some (some (.ref f))) (ht : PySem.W.isFn K (.ref f) = true) (hv : mA name = none) (h : Q (.ref f, [.ref x]) s) :
    wpAny (model prog w) A (getMethod (.ref x) name pl) Q E s := by
  obtain ⟨od, J, hl⟩ := I.look
  exact PySem.W.method_fn X J (PySem.W.plainGet_of hg).1 (PySem.W.plainGet_of hg).2 hf (beq_iff_eq.mp ht) (by show (PySem.W.lookIn name od).map (·.isSome) = some false; rw [hl, hv]; rfl) h

theorem set_map {ns : List Str} {Q : Unit → Shared → Prop} (X : K.In s.heap) (I : ObjM s.heap x dx C mA)
    (hs : PySem.W.findIn K (.ref C) "__setattr__" = some (some (.builtin "object.__setattr__"))) (hp : PySem.W.plainOver K C = true) (ht : PySem.W.takerIn K C name = some none) (hh : PySem.W.hasDictIn K C = true)
    (hw : PySem.Within mA ns) (hsz : ns.length ≤ sizeLine)
    (h : ∀ h', ObjM h' x dx C (fun y => if y = name then some v else mA y) → Heap.SameBut dx s.heap h' → Q () { s with heap := h', toks := s.toks + 2 }) :
    wpAny (model prog w) A (setAttr (.ref x) name v) Q E s := by
  obtain ⟨od, J, hl⟩ := I.look
  refine PySem.W.set_plain X J hs (PySem.W.osa_open (s := { s with toks := s.toks + 1 }) (r := none) X J hp ht fun b => ?_)
  obtain ⟨cd, hc, hd'⟩ := PySem.W.any_some hh
  have hx : s.heap.get? x = some ⟨.ref C, some dx, .plain, #[]⟩ := I.obj
  refine wpAny_bind (wpAny_pure (wpAny_bind (wpAny_bind (wpAny_loadPart hx (wpAny_bind (PySem.W.Looks.here (s := { s with toks := s.toks + 1 }) (PySem.W.looks_clsIn X hc) ?_))))))
  rw [hd']
  refine wpAny_pure (a := some dx) (wpAny_bind (wpAny_pure (wpAny_bind ?_)))
  refine wpAny_nsSet1 (s := { s with toks := s.toks + 1 }) I.ns fun h' hn2 hs2 => ?_
  obtain ⟨oD, esD, epD, hoD, hdD, hcD⟩ := hn2.count (PySem.Within.cons name v hw)
  refine wpAny_bind (wpAny_lookBehind hoD (by rw [hdD]; exact pastItsLine_dict (Nat.le_trans hcD (by rw [List.length_cons]; omega))) ?_)
  exact wpAny_pure (h _ ⟨(hs2.2 _ (Ne.symm I.ne)).trans I.obj, hn2, I.ne⟩ hs2)

/-- C(..): the dict at the heap's end, the instance behind it; then its __init__ -/
theorem make_map {R : Result → Shared → Prop} {vs : List Value} {kw : List (Str × Value)} (X : K.In s.heap) (hm : PySem.W.makesIn K C = true)
    (hi : PySem.W.findIn K (.ref C) "__init__" = some (some (.ref f))) (hf : PySem.W.typeIn K (.ref f) = some (.type "function"))
    (h : codeAny (model prog w) (A.under (.builtin "type.__call__" ⟨.ref C :: vs, kw⟩)) (.call (.ref f) ⟨.ref (s.heap.objs.size + 1) :: vs, kw⟩) (PySem.W.InitBack (s.heap.objs.size + 1) R)
      { s with heap := (s.heap.push PySem.W.emptyDict).push (PySem.W.instObj C s.heap.objs.size) }) :
    codeAny (model prog w) A (.call (.ref C) ⟨vs, kw⟩) R s := by
  obtain ⟨hh, g, d, t, os⟩ := s
  exact PySem.W.make_core (PySem.W.makes_of X hm) (PySem.W.looks_findIn X hi) (fun self => PySem.W.bind_fn X self hf) (.inl rfl) h
/-- C() where there is no __init__ but object's -/
theorem make_map0 {R : Result → Shared → Prop} (X : K.In s.heap) (hm : PySem.W.makesIn K C = true)
    (hi : PySem.W.findIn K (.ref C) "__init__" = some (some (.builtin "object.__init__")))
    (hb : ∀ self, PySem.W.Looks (model prog w) s.heap (bindSpecial (.builtin "object.__init__") self) (.builtin "object.__init__", [self]))
    (h : codeAny (model prog w) (A.under (.builtin "type.__call__" ⟨[.ref C], []⟩)) (.call (.builtin "object.__init__") ⟨[.ref (s.heap.objs.size + 1)], []⟩) (PySem.W.InitBack (s.heap.objs.size + 1) R)
      { s with heap := (s.heap.push PySem.W.emptyDict).push (PySem.W.instObj C s.heap.objs.size) }) :
    codeAny (model prog w) A (.call (.ref C) ⟨[], []⟩) R s := by
  obtain ⟨hh, g, d, t, os⟩ := s
  exact PySem.W.make_core (PySem.W.makes_of X hm) (PySem.W.looks_findIn X hi) hb (.inr ⟨rfl, rfl⟩) h
end

/-! ### the attributes as a list of pairs -/
def putF (f : Str) (v : V) : List (Str × V) → List (Str × V)
  | [] => [(f, v)]
  | (g, x) :: r => if g = f then (g, v) :: r else (g, x) :: putF f v r
theorem lookup_putF (f g : Str) (v : V) : ∀ fs : List (Str × V), (putF f v fs).lookup g = if g = f then some v else fs.lookup g
  | [] => by
    show List.lookup g [(f, v)] = _
    by_cases h : g = f
    · have hb : (g == f) = true := beq_iff_eq.mpr h
      simp only [List.lookup, hb, if_pos h]
    · have hb : (g == f) = false := beq_eq_false_iff_ne.mpr h
      simp only [List.lookup, hb, if_neg h]
  | (k, x) :: r => by
    have ih := lookup_putF f g v r
    rw [show putF f v ((k, x) :: r) = (if k = f then (k, v) :: r else (k, x) :: putF f v r) from rfl]
    by_cases hk : k = f
    · rw [if_pos hk]
      by_cases h : g = k
      · have hb : (g == k) = true := beq_iff_eq.mpr h
        simp only [List.lookup, hb, if_pos (h.trans hk)]
      · have hb : (g == k) = false := beq_eq_false_iff_ne.mpr h
        simp only [List.lookup, hb, if_neg (fun e : g = f => h (e.trans hk.symm))]
    · rw [if_neg hk]
      by_cases h : g = k
      · have hb : (g == k) = true := beq_iff_eq.mpr h
        simp only [List.lookup, hb, if_neg (fun e : g = f => hk (h.symm.trans e))]
      · have hb : (g == k) = false := beq_eq_false_iff_ne.mpr h
        simp only [List.lookup, hb]
        exact ih
theorem keys_putF (f : Str) (v : V) : ∀ fs : List (Str × V), f ∈ (putF f v fs).map (·.1) ∧ ∀ g, g ∈ fs.map (·.1) → g ∈ (putF f v fs).map (·.1)
  | [] => ⟨by simp [putF], fun g h => by simp at h⟩
  | (k, x) :: r => by
    obtain ⟨i1, i2⟩ := keys_putF f v r
    rw [show putF f v ((k, x) :: r) = (if k = f then (k, v) :: r else (k, x) :: putF f v r) from rfl]
    by_cases hk : k = f
    · rw [if_pos hk]
      subst hk
      exact ⟨by simp, fun g h => by simpa using h⟩
    · rw [if_neg hk]
      refine ⟨?_, fun g h => ?_⟩
      · rw [List.map_cons]
        exact List.mem_cons_of_mem _ i1
      · rw [List.map_cons] at h ⊢
        rcases List.mem_cons.mp h with e | e
        · exact List.mem_cons.mpr (.inl e)
        · exact List.mem_cons_of_mem _ (i2 g e)
theorem length_putF (f : Str) (v : V) : ∀ fs : List (Str × V), (putF f v fs).length ≤ fs.length + 1
  | [] => by simp [putF]
  | (k, x) :: r => by
    have ih := length_putF f v r
    rw [show putF f v ((k, x) :: r) = (if k = f then (k, v) :: r else (k, x) :: putF f v r) from rfl]
    by_cases hk : k = f
    · rw [if_pos hk, List.length_cons, List.length_cons]; omega
    · rw [if_neg hk, List.length_cons, List.length_cons]; omega

theorem RelO.some_of {v : V} {o : Option Value} (r : RelO (some v) o) : ∃ u, o = some u ∧ RelV v u := by
  cases o with
  | none => exact (show False from r).elim
  | some u => exact ⟨u, rfl, r⟩
theorem RelO.none_of {o : Option Value} (r : RelO none o) : o = none := by
  cases o with
  | none => rfl
  | some u => exact (show False from r).elim
theorem handed_of {v : V} {u : Value} (r : RelV v u) : PySem.W.handedIn u = true := by
  cases v with
  | non => cases (show u = Value.none from r); rfl
  | bl b => cases (show u = Value.bool b from r); rfl
  | int i => obtain ⟨t, e⟩ := (show ∃ t, u = Value.int i t from r); cases e; rfl
  | str x => obtain ⟨t, e⟩ := (show ∃ t, u = Value.str x t from r); cases e; rfl
  | byt b => obtain ⟨t, e⟩ := (show ∃ t, u = Value.bytes b t from r); cases e; rfl
  | flt b => obtain ⟨t, e⟩ := (show ∃ t, u = Value.float b t from r); cases e; rfl
  | ref a => cases (show u = Value.ref a from r); rfl
  | ty n => cases (show u = Value.type n from r); rfl

section
variable {P : Program} {w : World} {H H' : Hp} {h h' : Heap} {a C dx : Addr} {fs fs' : List (Str × V)}
theorem ins_get (hok : HOk P w H h) (e : H a = some (.ins C dx fs)) : ∃ mA, ObjM h a dx C mA ∧ (∀ f, RelO (fs.lookup f) (mA f)) ∧ PySem.Within mA (fs.map (·.1)) ∧ fs.length ≤ 1000 ∧ H dx = some (.own a) := by
  obtain ⟨d, z, ne, ob, mA, n, r, q⟩ := (show ObjOk P w H h a (.ins C dx fs) from hok a _ e)
  exact ⟨mA, ⟨ob, n, ne⟩, r, q, z, d⟩
end

/-! ### what of the text a class must have -/
structure Cls (K : PySem.W.Frag) (C : Addr) : Prop where
  pg : PySem.W.plainGet K C Str.empty = true
  hd : PySem.W.hasDictIn K C = true
  po : PySem.W.plainOver K C = true
  sa : PySem.W.findIn K (.ref C) "__setattr__" = some (some (.builtin "object.__setattr__"))
theorem Cls.get {K : PySem.W.Frag} {C : Addr} (c : Cls K C) (f : Str) : PySem.W.plainGet K C f = true := c.pg
/-- no class of it has the name -/
def NoAttr (K : PySem.W.Frag) (C : Addr) (f : Str) : Prop := PySem.W.findIn K (.ref C) f = some none
theorem NoAttr.taker {K : PySem.W.Frag} {C : Addr} {f : Str} (n : NoAttr K C f) : PySem.W.takerIn K C f = some none := by
  unfold PySem.W.takerIn
  rw [show PySem.W.findIn K (.ref C) f = some none from n]
  rfl
/-- a constant of the class -/
structure Con (K : PySem.W.Frag) (C : Addr) (f : Str) (v : V) (u : Value) : Prop where
  at_ : PySem.W.findIn K (.ref C) f = some (some u)
  rel : RelV v u
  get : PySem.W.specialIn K u "__get__" = some none
  cp : PySem.W.copiedNames.contains f = false
/-- a method: a plain def of the class or of one above it -/
structure Meth (K : PySem.W.Frag) (C : Addr) (m : Str) (f : Addr) : Prop where
  at_ : PySem.W.findIn K (.ref C) m = some (some (.ref f))
  fn : PySem.W.isFn K (.ref f) = true
  kp : PySem.W.keepIn K (.ref f) = true

section
variable {X : Cx} {pins : List (Addr × Obj)} {σ : St} {H : Hp} {s : Shared} {a C dx : Addr} {fs : List (Str × V)} {f : Str} {v : V} {A : Around} {E : Value → Shared → Prop}

theorem getattr_ok {b : Bool} {Q : Value → Shared → Prop} (I : Inv X pins σ H s) (e : H a = some (.ins C dx fs)) (c : Cls X.K C) (n : NoAttr X.K C f) (l : fs.lookup f = some v)
    (h : ∀ u s', Inv X pins σ H s' → RelV v u → Q u s') : wpAny (model X.prog X.w) A (getAttr (.ref a) f b) Q E s := by
  obtain ⟨mA, O, r, _, _, _⟩ := ins_get I.hok e
  obtain ⟨u, hu, ru⟩ := RelO.some_of (v := v) (o := mA f) (by rw [← l]; exact r f)
  exact get_map I.kIn O (c.get f) c.hd n hu (handed_of ru) (h u _ (I.tok _) ru)

theorem getcon_ok {b : Bool} {u : Value} {Q : Value → Shared → Prop} (I : Inv X pins σ H s) (e : H a = some (.ins C dx fs)) (c : Cls X.K C) (k : Con X.K C f v u) (l : fs.lookup f = none)
    (h : ∀ s', Inv X pins σ H s' → Q u s') : wpAny (model X.prog X.w) A (getAttr (.ref a) f b) Q E s := by
  obtain ⟨mA, O, r, _, _, _⟩ := ins_get I.hok e
  have hn : mA f = none := RelO.none_of (by rw [← l]; exact r f)
  exact get_const I.kIn O (c.get f) c.hd k.at_ k.get k.cp hn (handed_of k.rel) (h _ (I.tok _))

theorem getmeth_ok {m : Str} {g : Addr} {pl : Sem Bool} {Q : Value × List Value → Shared → Prop} (I : Inv X pins σ H s) (e : H a = some (.ins C dx fs)) (c : Cls X.K C) (k : Meth X.K C m g) (l : fs.lookup m = none)
    (h : Q (.ref g, [.ref a]) s) : wpAny (model X.prog X.w) A (getMethod (.ref a) m pl) Q E s := by
  obtain ⟨mA, O, r, _, _, _⟩ := ins_get I.hok e
  have hn : mA m = none := RelO.none_of (by rw [← l]; exact r m)
  exact get_meth I.kIn O (c.get m) k.at_ k.fn hn h

theorem setattr_ok {y : V} {u : Value} {Q : Unit → Shared → Prop} (I : Inv X pins σ H s) (e : H a = some (.ins C dx fs)) (c : Cls X.K C) (n : NoAttr X.K C f) (hl : fs.length < 1000) (ry : RelV y u)
    (h : ∀ s', Inv X pins σ (upd H a (.ins C dx (putF f y fs))) s' → Q () s') : wpAny (model X.prog X.w) A (setAttr (.ref a) f u) Q E s := by
  obtain ⟨mA, O, r, wi, _, ho⟩ := ins_get I.hok e
  have hz : (fs.map (·.1)).length ≤ sizeLine := by rw [List.length_map, sizeLine_eq]; omega
  refine set_map I.kIn O c.sa c.po n.taker c.hd wi hz fun h' O' sb => h _ ?_
  have hd : ∃ o, h'.get? dx = some o := let ⟨o, _, _, e', _⟩ := O'.ns; ⟨o, e'⟩
  refine I.write (x := a) (e := dx) (by rw [e]; exact True.intro) (.inr ho) (fun b q hb z => (sb.2 b hb).trans z) hd ?_
  refine ⟨by rw [upd_ne O.ne]; exact ho, ?_, O.ne, O'.obj, _, O'.ns, fun g => ?_, fun g hg => ?_⟩
  · have := length_putF f y fs; omega
  · show RelO ((putF f y fs).lookup g) (if g = f then some u else mA g)
    rw [lookup_putF]
    by_cases q : g = f
    · rw [if_pos q, if_pos q]; exact ry
    · rw [if_neg q, if_neg q]; exact r g
  · by_cases q : g = f
    · rw [q]; exact (keys_putF f y fs).1
    · refine (keys_putF f y fs).2 g (wi g fun z => hg ?_)
      show (if g = f then some u else mA g) = none
      rw [if_neg q]; exact z

/-- a new instance, tracked, without attributes -/
theorem Inv.made (I : Inv X pins σ H s) : Inv X pins σ (upd (upd H s.heap.objs.size (.own (s.heap.objs.size + 1))) (s.heap.objs.size + 1) (.ins C s.heap.objs.size []))
    { s with heap := (s.heap.push PySem.W.emptyDict).push (PySem.W.instObj C s.heap.objs.size) } := by
  have e1 : (s.heap.push PySem.W.emptyDict).get? s.heap.objs.size = some PySem.W.emptyDict := Heap.get?_push_size s.heap rfl
  have e2 : ((s.heap.push PySem.W.emptyDict).push (PySem.W.instObj C s.heap.objs.size)).get? (s.heap.objs.size + 1) = some (PySem.W.instObj C s.heap.objs.size) := by
    have := Heap.get?_push_size (s.heap.push PySem.W.emptyDict) (o := PySem.W.instObj C s.heap.objs.size) rfl
    rwa [Heap.size_push] at this
  have e3 : (s.heap.push PySem.W.emptyDict).Ns s.heap.objs.size (fun _ => none) := ⟨PySem.W.emptyDict, #[], _, e1, rfl, (fun e he => absurd he (by simp)), fun _ => rfl⟩
  have I1 := I.laid (a := s.heap.objs.size) (o := .own (s.heap.objs.size + 1)) (h' := s.heap.push PySem.W.emptyDict) (t' := s.toks) (fun b u q => Heap.get?_push_of_some _ q) (Nat.le_refl _) ⟨_, e1⟩
  refine I1.laid (a := s.heap.objs.size + 1) (o := .ins C s.heap.objs.size []) (t' := s.toks) (fun b u q => Heap.get?_push_of_some _ q) (Nat.le_of_eq (Heap.size_push _ _)) ?_
  have ne : s.heap.objs.size ≠ s.heap.objs.size + 1 := Nat.ne_of_lt (Nat.lt_succ_self _)
  refine ⟨by rw [upd_ne ne, upd_same], Nat.zero_le _, ne, e2, fun _ => none, (Heap.Ns1.of_empty e3).at fun o q => Heap.get?_push_of_some _ q, fun _ => True.intro, fun y hy => absurd rfl hy⟩

/-- e.f where nothing but the object is asked: through attributeBase (super) and the last hold -/
theorem attr_of {prog : Program} {w : World} {env : Env} {e : Expr} {f : Str} {pos : Pos} {s : Shared} {Q : Value → Shared → Prop} (hb : attributeBase e f env (eval e env) = eval e env)
    (h : wpAny (model prog w) A (eval e env) (fun o s₁ => wpAny (model prog w) A (getAttr o f true) Q E s₁) E s) : wpAny (model prog w) A (eval (.Attribute e f pos) env) Q E s :=
  Attribute_any_ h (by rw [arm_eval_Attribute, hb])
end

/-! ### readings and rules -/
/-- e.f, an attribute of the instance -/
def tFld (K : PySem.W.Frag) (ta : TE) (f : Str) : TE := fun σ H Q => ta σ H fun x H1 => ∃ a C dx fs v, x = .ref a ∧ H1 a = some (.ins C dx fs) ∧ Cls K C ∧ NoAttr K C f ∧ fs.lookup f = some v ∧ Q v H1
/-- e.f, a constant of the class -/
def tCon (K : PySem.W.Frag) (ta : TE) (f : Str) : TE := fun σ H Q => ta σ H fun x H1 => ∃ a C dx fs v u, x = .ref a ∧ H1 a = some (.ins C dx fs) ∧ Cls K C ∧ Con K C f v u ∧ fs.lookup f = none ∧ Q v H1
/-- e.f = value -/
def sFld (K : PySem.W.Frag) (ta tv : TE) (f : Str) : TS := fun D σ H => tv σ H fun y H1 => ta σ H1 fun x H2 => ∃ a C dx fs, x = .ref a ∧ H2 a = some (.ins C dx fs) ∧ Cls K C ∧ NoAttr K C f ∧ fs.length < 1000 ∧
  D.nx σ (upd H2 a (.ins C dx (putF f y fs)))
/-- an augmented operator on two values -/
def InOp (X : Cx) (op : Operator) (rd : V → V → Hp → VK → Prop) : Prop :=
  ∀ (pins : List (Addr × Obj)) (s : Shared) (σ : St) (H : Hp) (x y : V) (u v : Value) (Q : VK), Inv X pins σ H s → RelV x u → RelV y v → rd x y H Q → wpAny (model X.prog X.w) X.A (inplaceOp op u v) (EP X pins σ Q) X.xe s
/-- e.f op= value -/
def sFldAug (K : PySem.W.Frag) (ta tv : TE) (rd : V → V → Hp → VK → Prop) (f : Str) : TS := fun D σ H => ta σ H fun x H1 => ∃ a C dx fs v, x = .ref a ∧ H1 a = some (.ins C dx fs) ∧ Cls K C ∧ NoAttr K C f ∧ fs.lookup f = some v ∧
  tv σ H1 fun y H2 => rd v y H2 fun z H3 => ∃ dx' fs', H3 a = some (.ins C dx' fs') ∧ fs'.length < 1000 ∧ D.nx σ (upd H3 a (.ins C dx' (putF f z fs')))

section
variable {X : Cx} {o e value : Expr} {f : Str} {pos pos' tpos : Pos} {ta tv : TE}
theorem pe_fld (he : PE X e ta) (hb : attributeBase e f X.env (eval e X.env) = eval e X.env) : PE X (.Attribute e f pos) (tFld X.K ta f) := by
  intro pins s σ H Q I h
  refine attr_of hb (thn (he pins s σ H _ I h) fun u s1 ⟨x, H1, I1, rx, a, C, dx, fs, v, ex, ea, c, n, l, q⟩ => ?_)
  subst ex
  obtain rfl : u = Value.ref a := rx
  exact getattr_ok I1 ea c n l fun u' s2 I2 ru => ⟨v, H1, I2, ru, q⟩
theorem pe_con (he : PE X e ta) (hb : attributeBase e f X.env (eval e X.env) = eval e X.env) : PE X (.Attribute e f pos) (tCon X.K ta f) := by
  intro pins s σ H Q I h
  refine attr_of hb (thn (he pins s σ H _ I h) fun u s1 ⟨x, H1, I1, rx, a, C, dx, fs, v, u0, ex, ea, c, k, l, q⟩ => ?_)
  subst ex
  obtain rfl : u = Value.ref a := rx
  exact getcon_ok I1 ea c k l fun s2 I2 => ⟨v, H1, I2, k.rel, q⟩
theorem ps_fld (ha : PE X o ta) (hv : PE X value tv) (hs : swapsWith value (some (.Attribute o f pos')) pos.line X.env = pure false) : PS X (.Assign [.Attribute o f pos'] value pos) (sFld X.K ta tv f) := by
  intro pins s σ H D I h
  refine plainObj_wpAny_Assign_Attribute (thn (hv pins s σ H _ I h) fun u s1 ⟨y, H1, I1, ry, q⟩ => thn (ha pins s1 σ H1 _ I1 q) fun ov s2 ⟨x, H2, I2, rx, a, C, dx, fs, ex, ea, c, n, l, q2⟩ => ?_) hs
  subst ex
  obtain rfl : ov = Value.ref a := rx
  exact setattr_ok I2 ea c n l ry fun s3 I3 => ⟨σ, _, I3, q2⟩
theorem ps_fldaug {op : Operator} {rd : V → V → Hp → VK → Prop} (ha : PE X o ta) (hv : PE X value tv) (hop : InOp X op rd) : PS X (.AugAssign (.Attribute o f tpos) op value pos) (sFldAug X.K ta tv rd f) := by
  intro pins s σ H D I h
  refine wpAny_AugAssign_AttributeAny (thn (ha pins s σ H _ I h) fun ov s1 ⟨x, H1, I1, rx, a, C, dx, fs, v, ex, ea, c, n, l, q⟩ => ?_)
  subst ex
  obtain rfl : ov = Value.ref a := rx
  refine getattr_ok I1 ea c n l fun u s2 I2 ru => thn (hv pins s2 σ H1 _ I2 q) fun w3 s3 ⟨y, H2, I3, ry, q3⟩ => thn (hop pins s3 σ H2 v y u w3 _ I3 ru ry q3) fun w4 s4 ⟨z, H3, I4, rz, dx', fs', ea', l', q4⟩ => ?_
  exact setattr_ok I4 ea' c n l' rz fun s5 I5 => ⟨σ, _, I5, q4⟩
def rAdd : V → V → Hp → VK → Prop := fun x y H Q => ∃ i j, x = .int i ∧ y = .int j ∧ Q (.int (i + j)) H
def rSub : V → V → Hp → VK → Prop := fun x y H Q => ∃ i j, x = .int i ∧ y = .int j ∧ Q (.int (i - j)) H
theorem in_add : InOp X .Add rAdd := by
  rintro pins s σ H x y u v Q I rx ry ⟨i, j, rfl, rfl, q⟩
  obtain ⟨t, rfl⟩ := (show ∃ t, u = Value.int i t from rx)
  obtain ⟨t', rfl⟩ := (show ∃ t', v = Value.int j t' from ry)
  exact PyProof.Rows.iadd_int ⟨.int (i + j), H, I.tok _, ⟨_, rfl⟩, q⟩
theorem in_sub : InOp X .Sub rSub := by
  rintro pins s σ H x y u v Q I rx ry ⟨i, j, rfl, rfl, q⟩
  obtain ⟨t, rfl⟩ := (show ∃ t, u = Value.int i t from rx)
  obtain ⟨t', rfl⟩ := (show ∃ t', v = Value.int j t' from ry)
  exact PyProof.Rows.isub_int ⟨.int (i - j), H, I.tok _, ⟨_, rfl⟩, q⟩

/-- what is between an instance and its method: the tree of a method call -/
theorem methcall_of {pl : Sem Bool} {m : Str} {apos : Pos} {args : List Expr} {pins : List (Addr × Obj)} {s : Shared} {σ : St} {H : Hp} {Q : Value → Shared → Prop} {te : TE} (he : PE X e te) (I : Inv X pins σ H s)
    (h : te σ H fun x H1 => ∃ a C dx fs g, x = .ref a ∧ H1 a = some (.ins C dx fs) ∧ Cls X.K C ∧ Meth X.K C m g ∧ fs.lookup m = none ∧
      ∀ s1, Inv X pins σ H1 s1 → wpAny (model X.prog X.w) X.A (callWith pos (.ref g) [.ref a] (backTo pos (starEach args X.env)) (backToKw pos (keywordEach [] X.env))) Q X.xe s1)
    (ht : eval (.Call (.Attribute e m apos) args [] pos) X.env = (do
      let ov ← eval e X.env
      standAt apos.atName
      let (f, first) ← holding [ov] (getMethod ov m pl)
      callWith pos f first (backTo pos (starEach args X.env)) (backToKw pos (keywordEach [] X.env)))) :
    wpAny (model X.prog X.w) X.A (eval (.Call (.Attribute e m apos) args [] pos) X.env) Q X.xe s := by
  refine PySem.W.methodCall_KW (pl := pl) (thn (he pins s σ H _ I h) fun u s1 ⟨x, H1, I1, rx, a, C, dx, fs, g, ex, ea, c, k, l, q⟩ => ?_) ht
  subst ex
  obtain rfl : u = Value.ref a := rx
  exact getmeth_ok I1 ea c k l (q s1 I1)
end

/-! ### isinstance -/
section
variable {X : Cx} {pins : List (Addr × Obj)} {σ : St} {H : Hp} {s : Shared} {A : Around} {E : Value → Shared → Prop} {Q : Value → Shared → Prop} {c : Value} {b : Bool}
/-- the type of a value, as the fragment's deciders take it; for an instance its class -/
inductive TyOf (K : PySem.W.Frag) (H : Hp) : V → Value → Prop where
  | non : TyOf K H .non (.type "NoneType")
  | bl (x : Bool) : TyOf K H (.bl x) (.type "bool")
  | int (i : Int) : TyOf K H (.int i) (.type "int")
  | str (x : Str) : TyOf K H (.str x) (.type "str")
  | flt (x : UInt64) : TyOf K H (.flt x) (.type "float")
  | lst {a : Addr} {xs : List V} (e : H a = some (.lst xs)) : TyOf K H (.ref a) (.type "list")
  | frz {a : Addr} {o : Obj} {xs : List V} (e : H a = some (.frz o (.lst xs))) : TyOf K H (.ref a) (.type "list")
  | tup {a : Addr} {xs : List V} (e : H a = some (.tup xs)) : TyOf K H (.ref a) (.type "tuple")
  | dK {a : Addr} {kvs : List (Key × V)} (e : H a = some (.dK kvs)) : TyOf K H (.ref a) (.type "dict")
  | dT {a : Addr} {kvs : List (List Key × V)} (e : H a = some (.dT kvs)) : TyOf K H (.ref a) (.type "dict")
  | ins {a C dx : Addr} {fs : List (Str × V)} (e : H a = some (.ins C dx fs)) (cl : Cls K C) (ha : PySem.W.findIn K (.ref C) "__class__" = some (some (.builtin "object.__class__")))
      (hn : PySem.W.specialIn K (.builtin "object.__class__") "__get__" = some (some (.builtin "getset_descriptor.__get__"))) (htk : PySem.W.takesIn K (.builtin "object.__class__") = some true)
      (hm : PySem.W.mroIn K C (.type "object") = some true) : TyOf K H (.ref a) (.ref C)
/-- isinstance(x, c) for one class c, a built-in or an own one: kitOne's answer -/
theorem isinst_ok {x : V} {u t : Value} (I : Inv X pins σ H s) (rx : RelV x u) (ty : TyOf X.K H x t) (e : PySem.W.kitOne X.K t c = some b) (h : ∀ tk, Q (.bool b) { s with toks := tk }) :
    wpAny (model X.prog X.w) A (call (.builtin "isinstance") [u, c]) Q E s := by
  cases ty with
  | non => cases (show u = Value.none from rx); exact PySem.W.kia_one PySem.W.kitx_none I.kIn True.intro e (fun z => nomatch z) h
  | bl y => cases (show u = Value.bool y from rx); exact PySem.W.kia_one PySem.W.kitx_bool I.kIn True.intro e (fun z => nomatch z) h
  | int i => obtain ⟨t, q⟩ := (show ∃ t, u = Value.int i t from rx); cases q; exact PySem.W.kia_one PySem.W.kitx_int I.kIn True.intro e (fun z => nomatch z) h
  | str y => obtain ⟨t, q⟩ := (show ∃ t, u = Value.str y t from rx); cases q; exact PySem.W.kia_one PySem.W.kitx_str I.kIn True.intro e (fun z => nomatch z) h
  | flt y => obtain ⟨t, q⟩ := (show ∃ t, u = Value.float y t from rx); cases q; exact PySem.W.kia_one PySem.W.kitx_float I.kIn True.intro e (fun z => nomatch z) h
  | @lst a xs ea =>
    cases (show u = Value.ref a from rx)
    obtain ⟨_, _, n, _, h1⟩ := (show ObjOk X.prog X.w H s.heap a (.lst xs) from I.hok a _ ea)
    exact PySem.W.kia_one PySem.W.kitx_list I.kIn ⟨_, h1, rfl⟩ e (fun z => nomatch z) h
  | @frz a ob xs ea =>
    cases (show u = Value.ref a from rx)
    obtain ⟨_, _, _, n, _, h1⟩ := (show ObjOk X.prog X.w H s.heap a (.frz ob (.lst xs)) from I.hok a _ ea)
    exact PySem.W.kia_one PySem.W.kitx_list I.kIn ⟨_, h1, rfl⟩ e (fun z => nomatch z) h
  | @tup a xs ea =>
    cases (show u = Value.ref a from rx)
    obtain ⟨_, _, _, p⟩ := (show ObjOk X.prog X.w H s.heap a (.tup xs) from I.hok a _ ea)
    obtain ⟨o, h1, h2, _⟩ := p
    exact PySem.W.kia_one PySem.W.kitx_tuple I.kIn ⟨o, h1, h2⟩ e (fun z => nomatch z) h
  | @dK a kvs ea =>
    cases (show u = Value.ref a from rx)
    obtain ⟨_, _, vs, _, p⟩ := (show ObjOk X.prog X.w H s.heap a (.dK kvs) from I.hok a _ ea)
    obtain ⟨o, es, ep, h1, h2, _⟩ := p
    exact PySem.W.kia_one PySem.W.kitx_dict I.kIn ⟨o, h1, h2.1⟩ e (fun z => nomatch z) h
  | @dT a kvs ea =>
    cases (show u = Value.ref a from rx)
    obtain ⟨_, _, xs, _, o, es, ep, h1, h2, _⟩ := (show ObjOk X.prog X.w H s.heap a (.dT kvs) from I.hok a _ ea)
    exact PySem.W.kia_one PySem.W.kitx_dict I.kIn ⟨o, h1, h2.1⟩ e (fun z => nomatch z) h
  | @ins a C dx fs ea cl ha hn htk hm =>
    cases (show u = Value.ref a from rx)
    obtain ⟨mA, O, _⟩ := ins_get I.hok ea
    obtain ⟨od, J, _⟩ := O.look
    exact PySem.W.kia_one (PySem.W.kitx_own (cl.get _) cl.hd ha hn htk hm) I.kIn J e (fun z => nomatch z) h
end
end L2

namespace L2
open PySem PySem.Spec PyProof.Rows

/-! ### room -/
structure Room (k : Nat) (A : Around) : Prop where
  hd : A.handled = none
  dp : A.depth + 3 * k + 5 < recursionLimit
  un : A.units + 16 * k + 200 < cLine
theorem Room.mono {j k : Nat} {A : Around} (r : Room k A) (h : j ≤ k) : Room j A := ⟨r.hd, by have := r.dp; omega, by have := r.un; omega⟩
theorem Room.deeper {k : Nat} {A : Around} (r : Room (k + 1) A) (env : Env) : Room k (A.deeper env) :=
  ⟨r.hd, by have := r.dp; show A.depth + 1 + 3 * k + 5 < _; omega, by have := r.un; show A.units + 3 + 16 * k + 200 < _; omega⟩
theorem Room.in1 {k : Nat} {A : Around} (r : Room (k + 1) A) : Room k A.in1 :=
  ⟨r.hd, by have := r.dp; show A.depth + 3 * k + 5 < _; omega, by have := r.un; show A.units + 1 + 16 * k + 200 < _; omega⟩
theorem make_depth {A : Around} {C : Addr} {us : List Value} {kw : List (Str × Value)} : (A.under (.builtin "type.__call__" ⟨.ref C :: us, kw⟩)).depth = A.depth + 1 := by
  first | rfl | simp [Around.under, Code.weight, Code.isCreation, Code.isGuard, Code.isCaller, Code.frames, Code.isFrame, guardIds]
theorem make_units {A : Around} {C : Addr} {us : List Value} {kw : List (Str × Value)} : (A.under (.builtin "type.__call__" ⟨.ref C :: us, kw⟩)).units = A.units + 1 := by
  first | rfl | simp [Around.under, Code.cUnits, Code.frames, Code.isFrame]
theorem Room.make {k : Nat} {A : Around} (r : Room (k + 1) A) (C : Addr) (us : List Value) (kw : List (Str × Value)) : Room k (A.under (.builtin "type.__call__" ⟨.ref C :: us, kw⟩)) :=
  ⟨r.hd, by have := r.dp; rw [make_depth]; omega, by have := r.un; rw [make_units]; omega⟩
theorem Room.depth {k : Nat} {A : Around} (r : Room k A) : A.depth < recursionLimit := by have := r.dp; omega
theorem Room.units {k : Nat} {A : Around} (r : Room k A) : A.units + 64 < cLine := by have := r.un; omega
theorem Room.units0 {k : Nat} {A : Around} (r : Room k A) : A.units < cLine := by have := r.un; omega

/-! ### argument lists and displays -/
def tNil : TA := fun _ H Q => Q [] H
def tCons (ta : TE) (tr : TA) : TA := fun σ H Q => ta σ H fun x H1 => tr σ H1 fun xs H2 => Q (x :: xs) H2
section
variable {X : Cx} {e : Expr} {es : List Expr} {te : TE} {t : TA} {pos : Pos}
theorem pa_nil : PA X [] tNil := fun _ _ _ _ H Q I h => Calls.spliced_nil ⟨[], H, I, .nil, h⟩
theorem pa_cons (ha : PE X e te) (hr : PA X es t) (hs : starEach (e :: es) X.env = (false, eval e X.env) :: starEach es X.env := by rfl) : PA X (e :: es) (tCons te t) := by
  intro pos pins s σ H Q I h
  rw [hs]
  show wpAny _ _ (spliced ((false, eval e X.env) :: backTo pos (starEach es X.env))) _ _ s
  refine Calls.spliced_cons (thn (ha pins s σ H _ I h) fun u s1 ⟨x, H1, I1, r1, q1⟩ => ?_)
  exact thn (hr pos pins s1 σ H1 _ I1 q1) fun us s2 ⟨xs, H2, I2, r2, q2⟩ => ⟨x :: xs, H2, I2, .cons r1 r2, q2⟩

/-- a tuple, a list of written items -/
def tTup (t : TA) : TE := fun σ H Q => t σ H fun xs H1 => xs.length ≤ sizeLine ∧ ∀ p, H1 p = none → Q (.ref p) (upd H1 p (.tup xs))
def tLst (t : TA) : TE := fun σ H Q => t σ H fun xs H1 => xs.length ≤ sizeLine ∧ ∀ p, H1 p = none → Q (.ref p) (upd H1 p (.lst xs))
theorem pe_tup {x1} (h : PA X es t) : PE X (.Tuple es x1 pos) (tTup t) := by
  intro pins s σ H Q I hq
  refine wpAny_Tuple_spliced (thn (h pos pins s σ H _ I hq) fun us s1 ⟨xs, H1, I1, r, z, q⟩ => ⟨by rw [← r.length]; exact z, ?_⟩)
  have hf : H1 s1.heap.objs.size = none := I1.hok.fresh (Nat.le_refl _)
  refine ⟨.ref s1.heap.objs.size, upd H1 s1.heap.objs.size (.tup xs), I1.laid (t' := s1.toks) (fun b u e => Heap.get?_push_of_some _ e) (Nat.le_refl _) ?_, rfl, q _ hf⟩
  exact ⟨z, us, r, ⟨_, Heap.get?_push_size _ rfl, rfl, _, rfl⟩⟩
theorem pe_lst (h : PA X es t) : PE X (.List es pos) (tLst t) := by
  intro pins s σ H Q I hq
  refine wpAny_List_spliced (thn (h pos pins s σ H _ I hq) fun us s1 ⟨xs, H1, I1, r, z, q⟩ => ⟨by rw [← r.length]; exact z, ?_⟩)
  have hf : H1 s1.heap.objs.size = none := I1.hok.fresh (Nat.le_refl _)
  refine ⟨.ref s1.heap.objs.size, upd H1 s1.heap.objs.size (.lst xs), I1.laid (t' := s1.toks) (fun b u e => Heap.get?_push_of_some _ e) (Nat.le_refl _) ?_, rfl, q _ hf⟩
  exact ⟨z, us, 0, r, Heap.get?_push_size _ rfl⟩
end

/-! ### what a def promises -/
/-- a def's promise: the bound arguments in the parameters' order, the heap, the wanted end, the wanted exception -/
abbrev Sp := List V → Hp → VK → XK → Prop
/-- how an exception lies behind a call (file 08 gives it): the callers' frames, abstract heap and state ahead of the call, the wish, the exception, the state -/
abbrev CXT := List Env → Hp → Shared → XK → Value → Shared → Prop

/-- the state at a call -/
structure Env0 (P : Program) (w : World) (K : PySem.W.Frag) (mg : Str → Option Value) (base : Heap) (A : Around) (outer : List Env) (s : Shared) (H : Hp) : Prop where
  frames : A.frames = some outer
  mod : Mod K mg base
  bs : ∀ b o, base.get? b = some o → s.heap.get? b = some o ∧ H b = none
  bsz : base.objs.size ≤ s.heap.objs.size
  funs : s.heap.FunFrames base outer
  frf : ∀ b ∈ frs outer, H b = none
  hok : HOk P w H s.heap
  bare : AllBare s.gens
/-- a call's end -/
def CE (outer : List Env) (P : Program) (w : World) (H : Hp) (s : Shared) (Q : VK) (u : Value) (s' : Shared) : Prop :=
  ∃ v H', s'.os = s.os ∧ AllBare s'.gens ∧ Un (frs outer) [] H H' s.heap s'.heap ∧ HOk P w H' s'.heap ∧ RelV v u ∧ Q v H'
def CR (CX : CXT) (outer : List Env) (P : Program) (w : World) (H : Hp) (s : Shared) (Q : VK) (E : XK) (r : Result) (s' : Shared) : Prop :=
  match r with
  | .ok (.ret u) => CE outer P w H s Q u s'
  | .ok _ => False
  | .error e => CX outer H s E e s'
structure FnOk (P : Program) (w : World) (K : PySem.W.Frag) (mg : Str → Option Value) (base : Heap) (CX : CXT) (k : Nat) (f : Addr) (fd : FuncData) (ps : List Str) (sp : Sp) : Prop where
  len : ∀ vs H Q E, sp vs H Q E → vs.length = ps.length
  run : ∀ (A : Around) (outer : List Env) (s : Shared) (H : Hp) (args : Args) (us : List Value) (vs : List V) (Q : VK) (E : XK), Room k A → Env0 P w K mg base A outer s H → BindsTo s fd args (ps.zip us) → Vals vs us → sp vs H Q E →
    codeAny (model P w) A (.call (.ref f) args) (CR CX outer P w H s Q E) s
theorem FnOk.mono {P : Program} {w : World} {K : PySem.W.Frag} {mg : Str → Option Value} {base : Heap} {CX : CXT} {j k : Nat} {f : Addr} {fd : FuncData} {ps : List Str} {sp : Sp} (F : FnOk P w K mg base CX j f fd ps sp) (h : j ≤ k) :
    FnOk P w K mg base CX k f fd ps sp := ⟨F.len, fun A outer s H args us vs Q E hr => F.run A outer s H args us vs Q E (hr.mono h)⟩
/-- a weaker promise -/
theorem FnOk.imp {P : Program} {w : World} {K : PySem.W.Frag} {mg : Str → Option Value} {base : Heap} {CX : CXT} {k : Nat} {f : Addr} {fd : FuncData} {ps : List Str} {sp sp' : Sp} (F : FnOk P w K mg base CX k f fd ps sp)
    (h : ∀ vs H Q E, sp' vs H Q E → sp vs H Q E) : FnOk P w K mg base CX k f fd ps sp' :=
  ⟨fun vs H Q E q => F.len vs H Q E (h _ _ _ _ q), fun A outer s H args us vs Q E hr he hb hv hs => F.run A outer s H args us vs Q E hr he hb hv (h _ _ _ _ hs)⟩

theorem Env0.make {P : Program} {w : World} {K : PySem.W.Frag} {mg : Str → Option Value} {base : Heap} {A : Around} {outer : List Env} {s : Shared} {H : Hp} (e : Env0 P w K mg base A outer s H) (C : Addr) (us : List Value) (kw : List (Str × Value)) :
    Env0 P w K mg base (A.under (.builtin "type.__call__" ⟨.ref C :: us, kw⟩)) outer s H := ⟨by first | exact e.frames | (simpa [Around.under, Code.envs, Code.isFrame, pushEnvs] using e.frames), e.mod, e.bs, e.bsz, e.funs, e.frf, e.hok, e.bare⟩
theorem Env0.in1 {P : Program} {w : World} {K : PySem.W.Frag} {mg : Str → Option Value} {base : Heap} {A : Around} {outer : List Env} {s : Shared} {H : Hp} (e : Env0 P w K mg base A outer s H) :
    Env0 P w K mg base A.in1 outer s H := ⟨e.frames, e.mod, e.bs, e.bsz, e.funs, e.frf, e.hok, e.bare⟩

section
variable {X : Cx} {pins : List (Addr × Obj)} {σ : St} {H : Hp} {s s' : Shared}
/-- from a body: what a callee wants -/
theorem Inv.env0 (I : Inv X pins σ H s) : Env0 X.prog X.w X.K X.mg X.base X.A X.stack s H :=
  ⟨I.ok.frames, I.ok.mod, I.bs, Nat.le_trans I.ok.bsz I.sz, I.stack, I.stkFree, I.hok, I.bare⟩
/-- behind a call -/
theorem Inv.after {Q : VK} {u : Value} (I : Inv X pins σ H s) (h : CE X.stack X.prog X.w H s Q u s') : EP X pins σ Q u s' := by
  obtain ⟨v, H', os, bare, un, hok, r, q⟩ := h
  obtain ⟨hh, g, d, t, os'⟩ := s'
  obtain rfl : os' = s.os := os
  exact ⟨v, H', I.call (h' := hh) (g' := g) (d' := d) (t' := t) (ch := []) un hok bare (fun b z => absurd z (by simp)), r, q⟩
end

/-! ### calls -/
/-- f(..): the written arguments, then the defaults dvs; E: what is wanted of an exception -/
def tCall (sp : Sp) (dvs : List V) (E : XK) (t : TA) : TE := fun σ H Q => t σ H fun vs H1 => sp (vs ++ dvs) H1 Q E
/-- o.m(..) of an instance of the class at C -/
def tMeth (C : Addr) (m : Str) (sp : Sp) (dvs : List V) (E : XK) (ta : TE) (t : TA) : TE := fun σ H Q => ta σ H fun x H1 => ∃ a dx fs, x = .ref a ∧ H1 a = some (.ins C dx fs) ∧ fs.lookup m = none ∧
  t σ H1 fun vs H2 => sp (x :: (vs ++ dvs)) H2 Q E
/-- C(..): a new instance and its dict, then __init__ -/
def tMake (C : Addr) (sp : Sp) (dvs : List V) (E : XK) (t : TA) : TE := fun σ H Q => t σ H fun vs H1 => ∀ x dx, H1 x = none → H1 dx = none → dx ≠ x →
  sp (.ref x :: (vs ++ dvs)) (upd (upd H1 dx (.own x)) x (.ins C dx [])) (fun v H2 => v = .non ∧ Q (.ref x) H2) E

/-- how the parameters are bound: us the positional arguments, kw the keywords' values by name, ds the defaults that fill up -/
def Binds (K : PySem.W.Frag) (fd : FuncData) (ps : List Str) (ds : List Value) : Prop :=
  ∀ (s : Shared) (us : List Value), K.In s.heap → (us ++ ds).length = ps.length → BindsTo s fd ⟨us, []⟩ (ps.zip (us ++ ds))
/-- every parameter is given -/
theorem Binds.all {K : PySem.W.Frag} {fd : FuncData} {ps : List Str} (h : ∀ us : List Value, us.length = ps.length → bindArgs fd ⟨us, []⟩ = pure (ps.zip us)) : Binds K fd ps [] := fun s us _ hl => by
  rw [List.append_nil] at hl ⊢
  exact .of_eq (h us hl)

/-- an exception of a callee reaches what this body wants of exceptions -/
def Passes (CX : CXT) (X : Cx) (E : XK) : Prop := ∀ (pins : List (Addr × Obj)) (σ : St) (H : Hp) (s : Shared) (e : Value) (s' : Shared), Inv X pins σ H s → CX X.stack H s E e s' → X.xe e s'

section
variable {X : Cx} {CX : CXT} {k : Nat} {f C : Addr} {fd : FuncData} {ps : List Str} {sp : Sp} {dvs : List V} {ds : List Value} {E : XK} {x m : Str} {p pos apos : Pos} {e o : Expr} {es : List Expr} {ta : TE} {t : TA}

/-- the callee runs -/
theorem run_fn {pins : List (Addr × Obj)} {σ : St} {H : Hp} {s : Shared} {Q : VK} {us : List Value} {vs : List V} (F : FnOk X.prog X.w X.K X.mg X.base CX k f fd ps sp) (hr : Room k X.A) (hb : Binds X.K fd ps ds) (hd : Vals dvs ds) (hx : Passes CX X E)
    (I : Inv X pins σ H s) (r : Vals vs us) (h : sp (vs ++ dvs) H Q E) : wpAny (model X.prog X.w) X.A (call (.ref f) us) (EP X pins σ Q) X.xe s := by
  have r2 : Vals (vs ++ dvs) (us ++ ds) := r.append hd
  have hl : (us ++ ds).length = ps.length := by rw [← r2.length]; exact F.len _ _ _ _ h
  refine wpAny_call (codeAny_mono (F.run X.A X.stack s H ⟨us, []⟩ (us ++ ds) (vs ++ dvs) Q E hr I.env0 (hb s us I.kIn hl) r2 h) fun r s' hq => ?_)
  cases r with
  | error e => exact hx pins σ H s e s' I hq
  | ok fl =>
    cases fl with
    | ret u => exact I.after hq
    | next => exact False.elim hq
    | brk => exact False.elim hq
    | cont => exact False.elim hq

theorem pe_call (F : FnOk X.prog X.w X.K X.mg X.base CX k f fd ps sp) (hr : Room k X.A) (hg : Gl X x) (hm : X.mg x = some (.ref f)) (hk : PySem.W.keepIn X.K (.ref f) = true) (hb : Binds X.K fd ps ds) (hd : Vals dvs ds) (hx : Passes CX X E)
    (ha : PA X (e :: es) t) (hdb : (x == ("__debug__" : Str)) = false := by decide) (he : starEach (e :: es) X.env = (false, eval e X.env) :: starEach es X.env := by rfl) (hpl : (backTo pos (starEach es X.env)).any (·.1) = false := by rfl) :
    PE X (.Call (.Name x p) (e :: es) [] pos) (tCall sp dvs E t) := by
  intro pins s σ H Q I h
  refine wpAny_Call_Name_kw (ld_glob I hg hm ?_ hdb)
  refine PySem.W.callWith_K (h₀ := X.base) I.ok.mod.kin hk (thn (ha pos pins s σ H _ I h) fun us s1 ⟨vs, H1, I1, r, q⟩ => ⟨I1.kIn, ?_⟩) he hpl
  exact run_fn F hr hb hd hx I1 r q
theorem pe_call0 (F : FnOk X.prog X.w X.K X.mg X.base CX k f fd ps sp) (hr : Room k X.A) (hg : Gl X x) (hm : X.mg x = some (.ref f)) (hk : PySem.W.keepIn X.K (.ref f) = true) (hb : Binds X.K fd ps ds) (hd : Vals dvs ds) (hx : Passes CX X E)
    (hdb : (x == ("__debug__" : Str)) = false := by decide) : PE X (.Call (.Name x p) [] [] pos) (tCall sp dvs E tNil) := by
  intro pins s σ H Q I h
  refine wpAny_Call_Name_kw (ld_glob I hg hm ?_ hdb)
  exact PySem.W.callWith_K0 I.kIn hk (run_fn (us := []) F hr hb hd hx I .nil h)

/-- o.m(e, ..) -/
theorem pe_meth {pl : Sem Bool} (he : PE X o ta) (c : Cls X.K C) (hm : Meth X.K C m f) (F : FnOk X.prog X.w X.K X.mg X.base CX k f fd ps sp) (hr : Room k X.A) (hb : Binds X.K fd ps ds) (hd : Vals dvs ds) (hx : Passes CX X E) (ha : PA X (e :: es) t)
    (hst : starEach (e :: es) X.env = (false, eval e X.env) :: starEach es X.env := by rfl) (hpl : (backTo pos (starEach es X.env)).any (·.1) = false := by rfl)
    (ht : eval (.Call (.Attribute o m apos) (e :: es) [] pos) X.env = (do
      let ov ← eval o X.env
      standAt apos.atName
      let (f, first) ← holding [ov] (getMethod ov m pl)
      callWith pos f first (backTo pos (starEach (e :: es) X.env)) (backToKw pos (keywordEach [] X.env))) := by rfl) :
    PE X (.Call (.Attribute o m apos) (e :: es) [] pos) (tMeth C m sp dvs E ta t) := by
  intro pins s σ H Q I h
  refine PySem.W.methodCall_KW (pl := pl) (thn (he pins s σ H _ I h) fun u s1 ⟨x, H1, I1, rx, a, dx, fs, ex, ea, l, q⟩ => ?_) ht
  subst ex
  obtain rfl : u = Value.ref a := rx
  refine getmeth_ok I1 ea c hm l ?_
  refine PySem.W.callWith_K (first := [.ref a]) (h₀ := X.base) I.ok.mod.kin hm.kp (thn (ha pos pins s1 σ H1 _ I1 q) fun us s2 ⟨vs, H2, I2, r, q2⟩ => ⟨I2.kIn, ?_⟩) hst hpl
  exact run_fn (us := .ref a :: us) (vs := .ref a :: vs) F hr hb hd hx I2 (.cons rfl r) q2
/-- o.m() -/
theorem pe_meth0 {pl : Sem Bool} (he : PE X o ta) (c : Cls X.K C) (hm : Meth X.K C m f) (F : FnOk X.prog X.w X.K X.mg X.base CX k f fd ps sp) (hr : Room k X.A) (hb : Binds X.K fd ps ds) (hd : Vals dvs ds) (hx : Passes CX X E)
    (ht : eval (.Call (.Attribute o m apos) [] [] pos) X.env = (do
      let ov ← eval o X.env
      standAt apos.atName
      let (f, first) ← holding [ov] (getMethod ov m pl)
      callWith pos f first (backTo pos (starEach [] X.env)) (backToKw pos (keywordEach [] X.env))) := by rfl) :
    PE X (.Call (.Attribute o m apos) [] [] pos) (tMeth C m sp dvs E ta tNil) := by
  intro pins s σ H Q I h
  refine PySem.W.methodCall_KW (pl := pl) (thn (he pins s σ H _ I h) fun u s1 ⟨x, H1, I1, rx, a, dx, fs, ex, ea, l, q⟩ => ?_) ht
  subst ex
  obtain rfl : u = Value.ref a := rx
  refine getmeth_ok I1 ea c hm l ?_
  exact PySem.W.callWith_K0 (first := [.ref a]) I1.kIn hm.kp (run_fn (us := [.ref a]) (vs := [.ref a]) F hr hb hd hx I1 (.cons rfl .nil) q)

/-- what a class must have to be made -/
structure Mk (K : PySem.W.Frag) (C f : Addr) : Prop where
  makes : PySem.W.makesIn K C = true
  init : PySem.W.findIn K (.ref C) "__init__" = some (some (.ref f))
  fn : PySem.W.isFn K (.ref f) = true
  kp : PySem.W.keepIn K (.ref C) = true

theorem run_make {pins : List (Addr × Obj)} {σ : St} {H : Hp} {s : Shared} {Q : VK} {us : List Value} {vs : List V} (M : Mk X.K C f) (F : FnOk X.prog X.w X.K X.mg X.base CX k f fd ps sp) (hr : Room (k + 1) X.A) (hb : Binds X.K fd ps ds) (hd : Vals dvs ds)
    (hx : Passes CX X E) (I : Inv X pins σ H s) (r : Vals vs us)
    (h : ∀ x dx, H x = none → H dx = none → dx ≠ x → sp (.ref x :: (vs ++ dvs)) (upd (upd H dx (.own x)) x (.ins C dx [])) (fun v H2 => v = .non ∧ Q (.ref x) H2) E) :
    wpAny (model X.prog X.w) X.A (call (.ref C) us) (EP X pins σ Q) X.xe s := by
  have hq := h (s.heap.objs.size + 1) s.heap.objs.size (I.hok.fresh (Nat.le_succ _)) (I.hok.fresh (Nat.le_refl _)) (Nat.ne_of_lt (Nat.lt_succ_self _))
  have I2 := Inv.made (C := C) I
  have r2 : Vals (V.ref (s.heap.objs.size + 1) :: (vs ++ dvs)) (Value.ref (s.heap.objs.size + 1) :: (us ++ ds)) := .cons rfl (r.append hd)
  have hl : (Value.ref (s.heap.objs.size + 1) :: us ++ ds).length = ps.length := by
    have e := r2.length
    rw [F.len _ _ _ _ hq] at e
    exact e.symm
  refine wpAny_call (make_map (f := f) I.kIn M.makes M.init (beq_iff_eq.mp M.fn) (codeAny_mono (F.run _ X.stack _ _ ⟨Value.ref (s.heap.objs.size + 1) :: us, []⟩ (Value.ref (s.heap.objs.size + 1) :: (us ++ ds)) _ _ E (hr.make C us [])
    (I2.env0.make C us []) (hb _ (Value.ref (s.heap.objs.size + 1) :: us) I2.kIn hl) r2 hq) fun r s' hq' => ?_))
  cases r with
  | error e => exact hx pins σ _ _ e s' I2 hq'
  | ok fl =>
    cases fl with
    | ret u =>
      obtain ⟨v, H', I3, rv, ev, q3⟩ := I2.after hq'
      subst ev
      exact ⟨rv, ⟨V.ref (s.heap.objs.size + 1), H', I3, rfl, q3⟩⟩
    | next => exact False.elim hq'
    | brk => exact False.elim hq'
    | cont => exact False.elim hq'
theorem pe_make (M : Mk X.K C f) (F : FnOk X.prog X.w X.K X.mg X.base CX k f fd ps sp) (hr : Room (k + 1) X.A) (hg : Gl X x) (hm : X.mg x = some (.ref C)) (hb : Binds X.K fd ps ds) (hd : Vals dvs ds) (hx : Passes CX X E)
    (ha : PA X (e :: es) t) (hdb : (x == ("__debug__" : Str)) = false := by decide) (he : starEach (e :: es) X.env = (false, eval e X.env) :: starEach es X.env := by rfl) (hpl : (backTo pos (starEach es X.env)).any (·.1) = false := by rfl) :
    PE X (.Call (.Name x p) (e :: es) [] pos) (tMake C sp dvs E t) := by
  intro pins s σ H Q I h
  refine wpAny_Call_Name_kw (ld_glob I hg hm ?_ hdb)
  refine PySem.W.callWith_K (h₀ := X.base) I.ok.mod.kin M.kp (thn (ha pos pins s σ H _ I h) fun us s1 ⟨vs, H1, I1, r, q⟩ => ⟨I1.kIn, ?_⟩) he hpl
  exact run_make M F hr hb hd hx I1 r q
theorem pe_make0 (M : Mk X.K C f) (F : FnOk X.prog X.w X.K X.mg X.base CX k f fd ps sp) (hr : Room (k + 1) X.A) (hg : Gl X x) (hm : X.mg x = some (.ref C)) (hb : Binds X.K fd ps ds) (hd : Vals dvs ds) (hx : Passes CX X E)
    (hdb : (x == ("__debug__" : Str)) = false := by decide) : PE X (.Call (.Name x p) [] [] pos) (tMake C sp dvs E tNil) := by
  intro pins s σ H Q I h
  refine wpAny_Call_Name_kw (ld_glob I hg hm ?_ hdb)
  exact PySem.W.callWith_K0 I.kIn M.kp (run_make (us := []) M F hr hb hd hx I .nil h)
end

/-! ### keywords -/
/-- the values of the keywords, from the left -/
def PK (X : Cx) (kws : List Keyword) (t : TA) : Prop :=
  ∀ (pos : Pos) (pins : List (Addr × Obj)) (s : Shared) (σ : St) (H : Hp) (Q : List V → Hp → Prop), Inv X pins σ H s → t σ H Q → wpAny (model X.prog X.w) X.A (evalAll ((backToKw pos (keywordEach kws X.env)).map (·.2))) (AP X pins σ Q) X.xe s
section
variable {X : Cx} {CX : CXT} {k : Nat} {f C : Addr} {fd : FuncData} {ps ks : List Str} {sp : Sp} {E : XK} {x m : Str} {p pos apos kpos : Pos} {e o : Expr} {es : List Expr} {kws : List Keyword} {te ta : TE} {t tk : TA} {nm : Option Str}
theorem pk_nil : PK X [] tNil := fun _ _ _ _ H Q I h => wpAny_evalAll_nil ⟨[], H, I, .nil, h⟩
theorem pk_cons (ha : PE X e te) (hr : PK X kws t) : PK X (⟨nm, e, kpos⟩ :: kws) (tCons te t) := by
  intro pos pins s σ H Q I h
  show wpAny _ _ (evalAll ((do let v ← eval e X.env; standAt pos; pure v) :: (backToKw pos (keywordEach kws X.env)).map (·.2))) _ _ s
  refine wpAny_evalAll_cons (wpAny_bind (thn (ha pins s σ H _ I h) fun u s1 ⟨x, H1, I1, r1, q1⟩ => wpAny_bind (wpAny_standAt (wpAny_pure ?_))))
  exact thn (hr pos pins s1 σ H1 _ I1 q1) fun us s2 ⟨xs, H2, I2, r2, q2⟩ => ⟨x :: xs, H2, I2, .cons r1 r2, q2⟩

/-- how a call with keywords binds: g puts the positional values us and the keywords' values ws (names ks) in the parameters' order, defaults among them -/
structure KBinds (K : PySem.W.Frag) (fd : FuncData) (ps ks : List Str) (g : List Value → List Value → List Value) (gV : List V → List V → List V) : Prop where
  to : ∀ (s : Shared) (us ws : List Value), K.In s.heap → (g us ws).length = ps.length → BindsTo s fd ⟨us, ks.zip ws⟩ (ps.zip (g us ws))
  rel : ∀ {vs : List V} {us : List Value} {zs : List V} {ws : List Value}, Vals vs us → Vals zs ws → Vals (gV vs zs) (g us ws)
def tCallK (sp : Sp) (gV : List V → List V → List V) (E : XK) (t tk : TA) : TE := fun σ H Q => t σ H fun vs H1 => tk σ H1 fun zs H2 => sp (gV vs zs) H2 Q E
variable {g : List Value → List Value → List Value} {gV : List V → List V → List V}
theorem run_fnk {pins : List (Addr × Obj)} {σ : St} {H : Hp} {s : Shared} {Q : VK} {us ws : List Value} {vs zs : List V} (F : FnOk X.prog X.w X.K X.mg X.base CX k f fd ps sp) (hr : Room k X.A) (hb : KBinds X.K fd ps ks g gV) (hx : Passes CX X E)
    (I : Inv X pins σ H s) (r : Vals vs us) (rz : Vals zs ws) (h : sp (gV vs zs) H Q E) : wpAny (model X.prog X.w) X.A (call (.ref f) us (ks.zip ws)) (EP X pins σ Q) X.xe s := by
  have r2 := hb.rel r rz
  have hl : (g us ws).length = ps.length := by rw [← r2.length]; exact F.len _ _ _ _ h
  refine wpAny_call (codeAny_mono (F.run X.A X.stack s H ⟨us, ks.zip ws⟩ (g us ws) (gV vs zs) Q E hr I.env0 (hb.to s us ws I.kIn hl) r2 h) fun r s' hq => ?_)
  cases r with
  | error e => exact hx pins σ H s e s' I hq
  | ok fl =>
    cases fl with
    | ret u => exact I.after hq
    | next => exact False.elim hq
    | brk => exact False.elim hq
    | cont => exact False.elim hq
/-- f(e, .., k = v, ..) -/
theorem pe_callK (F : FnOk X.prog X.w X.K X.mg X.base CX k f fd ps sp) (hr : Room k X.A) (hg : Gl X x) (hm : X.mg x = some (.ref f)) (hk : PySem.W.keepIn X.K (.ref f) = true) (hb : KBinds X.K fd ps ks g gV) (hx : Passes CX X E)
    (ha : PA X (e :: es) t) (hkw : PK X kws tk) (hall : (backToKw pos (keywordEach kws X.env)).all (·.1.isSome) = true := by rfl) (hks : (backToKw pos (keywordEach kws X.env)).filterMap (·.1) = ks := by rfl)
    (hdb : (x == ("__debug__" : Str)) = false := by decide) (he : starEach (e :: es) X.env = (false, eval e X.env) :: starEach es X.env := by rfl)
    (hpl : ((backTo pos (starEach (e :: es) X.env)).any (·.1) || (backToKw pos (keywordEach kws X.env)).any (·.1.isNone)) = false := by rfl) :
    PE X (.Call (.Name x p) (e :: es) kws pos) (tCallK sp gV E t tk) := by
  intro pins s σ H Q I h
  refine wpAny_Call_Name_kw (ld_glob I hg hm ?_ hdb)
  refine PySem.W.callWith_KW (h₀ := X.base) I.ok.mod.kin hk hall (thn (ha pos pins s σ H _ I h) fun us s1 ⟨vs, H1, I1, r, q⟩ => ?_) hpl he
  refine thn (hkw pos pins s1 σ H1 _ I1 q) fun ws s2 ⟨zs, H2, I2, rz, q2⟩ => ⟨I2.kIn, ?_⟩
  rw [hks]
  exact run_fnk F hr hb hx I2 r rz q2
end

/-! ### a def's body keeps its promise -/
/-- names: the parameters first -/
structure FnScope (N P : List Str) (sc : Scope) : Prop where
  kind : sc.kind = .function
  co : sc.isCoroutine = false
  gen : sc.isGenerator = false
  nd : N.Nodup
  pre : N.take P.length = P
  par : ∀ x ∈ P, sc.names.lookup x = some .local ∨ sc.names.lookup x = some .cell
  nofree : ∀ y ∈ sc.names, y.2 ≠ .free

theorem bindL_out {kindOf : Str → Option NameKind} {x : Str} : ∀ {binds : List (Str × Value)} {m : Str → Option Value}, (∀ v, (x, v) ∉ binds) → bindL kindOf binds m x = m x
  | [], _, _ => rfl
  | (n, v) :: r, m, h => by
    unfold bindL
    rw [bindL_out fun w hw => h w (List.mem_cons_of_mem _ hw)]
    split
    · have : x ≠ n := by rintro rfl; exact h v List.mem_cons_self
      simp [this]
    · rfl
theorem bindC_out {kindOf : Str → Option NameKind} {x : Str} : ∀ {binds : List (Str × Value)} {m : Str → Option Value}, (∀ v, (x, v) ∉ binds) → bindC kindOf binds m x = m x
  | [], _, _ => rfl
  | (n, v) :: r, m, h => by
    unfold bindC
    rw [bindC_out fun w hw => h w (List.mem_cons_of_mem _ hw)]
    split
    · rfl
    · have : x ≠ n := by rintro rfl; exact h v List.mem_cons_self
      simp [this]
theorem bindL_get {kindOf : Str → Option NameKind} {x : Str} {v : Value} : ∀ {P : List Str} {vs : List Value} {i : Nat} {m : Str → Option Value}, P.Nodup → P[i]? = some x → vs[i]? = some v → kindOf x = some .local →
    bindL kindOf (P.zip vs) m x = some v
  | [], _, _, _, _, h, _, _ => by simp at h
  | _ :: _, [], _, _, _, _, h, _ => by simp at h
  | p :: P, w :: vs, 0, m, nd, h1, h2, hk => by
    simp at h1 h2; subst h1; subst h2
    show bindL kindOf ((p, w) :: P.zip vs) m p = _
    unfold bindL
    rw [bindL_out fun v hv => (List.nodup_cons.mp nd).1 (List.of_mem_zip hv).1, if_pos hk]
    simp
  | p :: P, w :: vs, i + 1, m, nd, h1, h2, hk => by
    show bindL kindOf ((p, w) :: P.zip vs) m x = _
    unfold bindL
    exact bindL_get (i := i) (List.nodup_cons.mp nd).2 (by simpa using h1) (by simpa using h2) hk
theorem bindC_get {kindOf : Str → Option NameKind} {x : Str} {v : Value} : ∀ {P : List Str} {vs : List Value} {i : Nat} {m : Str → Option Value}, P.Nodup → P[i]? = some x → vs[i]? = some v → kindOf x ≠ some .local →
    bindC kindOf (P.zip vs) m x = some v
  | [], _, _, _, _, h, _, _ => by simp at h
  | _ :: _, [], _, _, _, _, h, _ => by simp at h
  | p :: P, w :: vs, 0, m, nd, h1, h2, hk => by
    simp at h1 h2; subst h1; subst h2
    show bindC kindOf ((p, w) :: P.zip vs) m p = _
    unfold bindC
    rw [bindC_out fun v hv => (List.nodup_cons.mp nd).1 (List.of_mem_zip hv).1, if_neg hk]
    simp
  | p :: P, w :: vs, i + 1, m, nd, h1, h2, hk => by
    show bindC kindOf ((p, w) :: P.zip vs) m x = _
    unfold bindC
    exact bindC_get (i := i) (List.nodup_cons.mp nd).2 (by simpa using h1) (by simpa using h2) hk

/-- the names' values at the entry -/
def start (N : List Str) (vs : List V) : St := vs.map some ++ List.replicate (N.length - vs.length) none

/-- the context of a def's body, at its entry; an exception leaves the frame, then lies as CX says -/
def cxOf (CX : CXT) (P : Program) (w : World) (K : PySem.W.Frag) (mg : Str → Option Value) (base : Heap) (N : List Str) (qual : Str) (scope : Scope) (f : Addr) (cd : Value) (A : Around) (outer : List Env) (s : Shared) (H : Hp) (E : XK) : Cx where
  prog := P
  w := w
  K := K
  mg := mg
  base := base
  A := A.deeper (envOfC qual scope s.heap.objs.size f cd)
  N := N
  s₀ := s
  H₀ := H
  env := envOfC qual scope s.heap.objs.size f cd
  outer := outer
  stack := envOfC qual scope s.heap.objs.size f cd :: outer
  ex := []
  calm := true
  fn := fun _ => true
  pn := []
  xe := fun e s' => wpAny (model P w) (A.deeper (envOfC qual scope s.heap.objs.size f cd)) (leaving (envOfC qual scope s.heap.objs.size f cd) e) (fun _ s'' => CX outer H s E e s'') (fun e' s'' => CX outer H s E e' s'') s'

theorem cell_has {sc : Scope} {n : Nat} {x : Str} (h : sc.names.lookup x = some .cell) : ∃ c, (cellsFrom n sc.names []).lookup x = some c := by
  have q := PySem.W.cellsFrom_some sc.names n [] (.inl h)
  exact Option.isSome_iff_exists.mp q

theorem inv_start {CX : CXT} {P : Program} {w : World} {K : PySem.W.Frag} {mg : Str → Option Value} {base : Heap} {N ps : List Str} {qual : Str} {scope : Scope} {f : Addr} {cd : Value} {A : Around} {outer : List Env} {s s1 : Shared} {H : Hp} {E : XK} {us : List Value} {vs : List V}
    (S : FnScope N ps scope) (hd : A.handled = none) (e0 : Env0 P w K mg base A outer s H) (hl : vs.length = ps.length) (r : Vals vs us)
    (x : InCallC s s.heap.objs.size (bindL (envOfC qual scope s.heap.objs.size f cd).kindOf (ps.zip us) fun _ => none) (cellsFrom (s.heap.objs.size + 1) scope.names []) (bindC (envOfC qual scope s.heap.objs.size f cd).kindOf (ps.zip us) fun _ => none) s1) :
    Inv (cxOf CX P w K mg base N qual scope f cd A outer s H E) [] (start N vs) H s1 := by
  have hpl : ps.length ≤ N.length := by have := congrArg List.length S.pre; rw [List.length_take] at this; omega
  obtain ⟨h1, tk, rfl, hk⟩ := x.done
  have noA : ∀ b : Addr, b ∉ (cxOf CX P w K mg base N qual scope f cd A outer s H E).ex := fun b z => absurd (show b ∈ ([] : List Addr) from z) (by simp)
  refine ⟨⟨e0.mod, S.kind, rfl, rfl, Nat.le_refl _, fun y z c h1 h2 => ?_, fun y hy => ?_, fun y c _ h => ?_, fun _ => hd, Around.frames_deeper e0.frames, .inr ⟨rfl, rfl⟩, fun b z => absurd z (noA b), e0.bs, e0.bsz, fun b _ _ => noA b, fun b z => absurd z (noA b), e0.funs, e0.frf⟩,
    rfl, e0.bare, Un.kept hk, ⟨_, x.toInCall.ns, fun i y v h1 h2 h3 => ?_⟩, fun y c h => ⟨_, x.cell y c h⟩, e0.hok.fresh (Nat.le_refl _), fun y c h => ?_, fun p hp => absurd (show p ∈ ([] : List (Addr × Obj)) from hp) (by simp), e0.hok.kept hk, ?_⟩
  · exact name_of_addr x.apart (PySem.mem_of_lookup h1) (PySem.mem_of_lookup h2)
  · have hy : scope.names.lookup y = some .cell ∨ scope.names.lookup y = some .free := hy
    rcases hy with hy | hy
    · exact cell_has hy
    · exact absurd rfl (S.nofree _ (PySem.mem_of_lookup hy))
  · exact Nat.le_of_lt (x.above y c (PySem.mem_of_lookup h))
  · have hi : i < vs.length := by
      unfold start at h2
      by_cases hi : i < vs.length
      · exact hi
      · rw [List.getElem?_append_right (by simpa using hi)] at h2
        rw [List.getElem?_replicate] at h2
        split at h2 <;> cases h2
    have ha : vs[i]? = some v := by
      unfold start at h2
      rw [List.getElem?_append_left (by simpa using hi), List.getElem?_map] at h2
      cases e : vs[i]? with
      | none => rw [e] at h2; cases h2
      | some a => rw [e] at h2; cases h2; rfl
    obtain ⟨u, hu, rv⟩ := r.get ha
    have hp : ps[i]? = some y := by
      rw [← S.pre, List.getElem?_take_of_lt (by omega)]; exact h1
    have ndP : ps.Nodup := by rw [← S.pre]; exact S.nd.sublist (List.take_sublist _ _)
    refine ⟨u, rv, ?_⟩
    rcases S.par y (List.mem_of_getElem? hp) with k | k
    · exact .inl ⟨k, bindL_get ndP hp hu k⟩
    · obtain ⟨c, e⟩ := cell_has (n := s.heap.objs.size + 1) k
      refine .inr ⟨.inl k, c, e, ?_⟩
      have q := x.cell y c e
      rw [bindC_get ndP hp hu (by show scope.names.lookup y ≠ _; rw [k]; decide)] at q
      exact q
  · exact e0.hok.fresh (Nat.le_of_lt (x.above y c (PySem.mem_of_lookup h)))
  · unfold start
    show _ = N.length
    rw [List.length_append, List.length_map, List.length_replicate]
    omega

/-- THE RULE: a def (or a method) of the text, by its body. The body's reading t is chosen for each entry; it is run at the parameters' values -/
theorem fn_of {CX : CXT} {P : Program} {w : World} {K : PySem.W.Frag} {mg : Str → Option Value} {base : Heap} {k : Nat} {f : Addr} {name qual : Str} {params : Arguments} {body : List Stmt} {scope : Scope} {dV kV doc pm cdv ct oc : Value} {an od : Option Addr}
    {osl : Array (Option Value)} {N ps : List Str} {sp : Sp} (lk : K.lookup f = some ⟨oc, od, .func (PySem.W.fnOf name qual params body scope dV kV doc pm an cdv ct), osl⟩) (hcd : PySem.W.codeIn K cdv qual = true) (S : FnScope N ps scope)
    (len : ∀ vs H Q E, sp vs H Q E → vs.length = ps.length)
    (hbody : ∀ (A : Around) (outer : List Env) (s : Shared) (H : Hp) (vs : List V) (Q : VK) (E : XK), Room k (A.deeper (envOfC qual scope s.heap.objs.size f cdv)) → sp vs H Q E →
      ∃ t, PSs (cxOf CX P w K mg base N qual scope f cdv A outer s H E) body t ∧ t { nx := fun _ H' => Q .non H', rt := Q } (start N vs) H) :
    FnOk P w K mg base CX (k + 1) f (PySem.W.fnOf name qual params body scope dV kV doc pm an cdv ct) ps sp := by
  refine ⟨len, fun A outer s H args us vs Q E hr e0 hb r hsp => ?_⟩
  have hl := len _ _ _ _ hsp
  have KX : K.In s.heap := e0.mod.kin.keeps fun b o e => (e0.bs b o e).1
  have lim : s.heap.NoLimit := e0.mod.nolimit.keeps fun b o e => (e0.bs b o e).1
  have hkind : ∀ y ∈ ps.zip us, scope.names.lookup y.1 = some .local ∨ (scope.names.lookup y.1 = some .cell ∧ ((cellsFrom (s.heap.objs.size + 1) scope.names []).lookup y.1).isSome = true) := fun ⟨n, v⟩ hy => by
    rcases S.par n (List.of_mem_zip hy).1 with q | q
    · exact .inl q
    · exact .inr ⟨q, PySem.W.cellsFrom_some _ _ _ (.inl q)⟩
  refine codeAny_call_function hr.depth (KX _ _ lk) rfl S.co S.gen rfl (PySem.W.codeRec_of KX hcd) (hb _ _ _ _ ?_)
  refine wpAny_newFunctionEnv_cells S.kind hkind fun env he s1 x => ?_
  subst he
  refine ⟨lim.keeps x.toInCall.keep, codeAny_func ?_⟩
  obtain ⟨t, ht, hq⟩ := hbody A outer s H vs Q E (hr.deeper _) hsp
  have I : Inv (cxOf CX P w K mg base N qual scope f cdv A outer s H E) [] (start N vs) H s1 := inv_start S hr.hd e0 hl r x
  refine wpAny_mono (ht [] s1 (start N vs) H _ I hq) (fun fl s' hs => ?_) fun e s' hs => hs
  have fin : ∀ {σ' : St} {H' : Hp} {v : V} {u : Value}, Inv (cxOf CX P w K mg base N qual scope f cdv A outer s H E) [] σ' H' s' → RelV v u → Q v H' → CE outer P w H s Q u s' :=
    fun {σ' H' v u} J rv q => ⟨v, H', J.os, J.bare, J.base, J.hok, rv, q⟩
  cases fl with
  | ret u =>
    obtain ⟨v, σ', H', J, rv, q⟩ := hs
    exact fin J rv q
  | next =>
    obtain ⟨σ', H', J, q⟩ := hs
    exact fin (v := V.non) (u := Value.none) J rfl q
  | brk =>
    obtain ⟨_, _, _, q⟩ := hs
    exact False.elim q
  | cont =>
    obtain ⟨_, _, _, q⟩ := hs
    exact False.elim q
end L2

namespace L2
open PySem PySem.Spec PyProof.Rows
section
variable {X : Cx} {x : Str} {p pos : Pos} {e : Expr} {es : List Expr} {t : TA} {id T : String} {r : List V → Hp → VK → Prop}

def tCB (r : List V → Hp → VK → Prop) (t : TA) : TE := fun σ H Q => t σ H fun vs H1 => r vs H1 Q
/-- f(e, ..), f a built-in function -/
theorem pe_callB (hc : CallR X (.builtin id) r) (hg : Gl X x) (hm : X.mg x = none) (hv : bootBuiltins x = some (.builtin id)) (ha : PA X (e :: es) t) (hn : x ≠ "__name__" := by decide) (hdb : (x == ("__debug__" : Str)) = false := by decide)
    (he : starEach (e :: es) X.env = (false, eval e X.env) :: starEach es X.env := by rfl) (hpl : (backTo pos (starEach es X.env)).any (·.1) = false := by rfl) : PE X (.Call (.Name x p) (e :: es) [] pos) (tCB r t) := by
  intro pins s σ H Q I h
  refine wpAny_Call_Name_kw (ld_blt I hg hm hv ?_ hn hdb)
  exact PyProof.Rows.callWith_builtin1 (thn (ha pos pins s σ H _ I h) fun us s1 ⟨vs, H1, I1, r1, q1⟩ => hc pins s1 σ H1 vs us Q I1 r1 q1) he hpl
/-- T(e, ..), T a built-in type -/
theorem pe_callTy (hc : CallR X (.type T) r) (hg : Gl X x) (hm : X.mg x = none) (hv : bootBuiltins x = some (.type T)) (ha : PA X (e :: es) t) (hn : x ≠ "__name__" := by decide) (hdb : (x == ("__debug__" : Str)) = false := by decide)
    (he : starEach (e :: es) X.env = (false, eval e X.env) :: starEach es X.env := by rfl) (hpl : (backTo pos (starEach es X.env)).any (·.1) = false := by rfl) : PE X (.Call (.Name x p) (e :: es) [] pos) (tCB r t) := by
  intro pins s σ H Q I h
  refine wpAny_Call_Name_kw (ld_blt I hg hm hv ?_ hn hdb)
  exact PyProof.Rows.callWith_type1 (thn (ha pos pins s σ H _ I h) fun us s1 ⟨vs, H1, I1, r1, q1⟩ => hc pins s1 σ H1 vs us Q I1 r1 q1) he hpl
/-- T() -/
theorem pe_callTy0 (hc : CallR X (.type T) r) (hg : Gl X x) (hm : X.mg x = none) (hv : bootBuiltins x = some (.type T)) (hn : x ≠ "__name__" := by decide) (hdb : (x == ("__debug__" : Str)) = false := by decide) :
    PE X (.Call (.Name x p) [] [] pos) (tCB r tNil) := by
  intro pins s σ H Q I h
  refine wpAny_Call_Name_kw (ld_blt I hg hm hv ?_ hn hdb)
  exact PyProof.Rows.callWith_type0 (hc pins s σ H [] [] Q I .nil h)
end
end L2

namespace HT
open PySem PyProof.Rows

/-- t < u of tuples of ints -/
def lexLt : List Int → List Int → Bool
  | [], [] => false
  | [], _ :: _ => true
  | _ :: _, [] => false
  | x :: xs, y :: ys => if x = y then lexLt xs ys else decide (x < y)
theorem lexLt_cons (x y : Int) (xs ys : List Int) : lexLt (x :: xs) (y :: ys) = if x = y then lexLt xs ys else decide (x < y) := rfl
theorem lexLt_nil_nil : lexLt [] [] = false := rfl
theorem lexLt_nil_cons (y : Int) (ys : List Int) : lexLt [] (y :: ys) = true := rfl
theorem lexLt_cons_nil (x : Int) (xs : List Int) : lexLt (x :: xs) [] = false := rfl

theorem eqAt_int (A : Around) (s : Shared) (a : Int) (t : Tok) (c : Int) (u : Tok) : ∃ e, SeqAt.EqAt A s (.int a t) (.int c u) e ∧ (e = true ↔ a = c) :=
  ⟨(a == c), SeqAt.EqAt.int_int a t c u, by simp⟩
theorem rcLt_int (A : Around) (s : Shared) (a : Int) (t : Tok) (c : Int) (u : Tok) (prog : Program) (w : World) (E : Value → Shared → Prop) (Q : Value → Shared → Prop) (h : Q (.bool (decide (a < c))) s) :
    wpAny (model prog w) A (richCompare .Lt (.int a t) (.int c u)) Q E s :=
  (PyProof.Rows.lt_int h : wpAny (model prog w) A (compareOp .Lt (.int a t) (.int c u)) Q E s)

section
open PySem.SeqAt
open PySem.AutoSeq1 (wpAny_loadPart')
open PySem.MeetsSeq PySem.MeetsSeq2 PySem.MeetsSeq3

theorem tuple_lt_ints (l b : Addr) (items items2 : Array Value) (n n2 : Nat) (dd dd2 : Option Addr) (sl sl2 : Array (Option Value)) (ns ms : List Int) (hi : IntsAre items.toList ns) (hj : IntsAre items2.toList ms) :
    Meets (Builtin.«tuple.__lt__» ⟨[.ref l, .ref b], []⟩)
      (fun _ R s => s.heap.get? l = some { cls := .type "tuple", dict := dd, data := .seq items n, slots := sl } ∧ s.heap.get? b = some { cls := .type "tuple", dict := dd2, data := .seq items2 n2, slots := sl2 } ∧
        R (.ok (.ret (.bool (lexLt ns ms)))) s) :=
  .of_wp fun prog w A R s h => by
    obtain ⟨hp, g, d, tk, os⟩ := s; obtain ⟨hl, hb, h⟩ := h
    have f2 := AutoSeq1.sub_tuple_tuple
    have z1 : items.size = ns.length := by rw [← hi.length]; simp
    have z2 : items2.size = ms.length := by rw [← hj.length]; simp
    wp_walk using wpAny_loadPart' hl, wpAny_loadPart' hb, wpAny_forIn_list _ (fun rest b s' => b.1 = none ∧ s' = ⟨hp, g, d, tk, os⟩ ∧ ∃ (vs ws : List Value) (ns' ms' : List Int), rest = vs.zip ws ∧
      IntsAre vs ns' ∧ IntsAre ws ms' ∧ ns'.length + items2.size = ms'.length + items.size ∧ R (.ok (.ret (.bool (lexLt ns' ms')))) ⟨hp, g, d, tk, os⟩) _
    case turn =>
      rintro ⟨y, x⟩ rest b s' ⟨hb', rfl, vs, ws, ns', ms', hz, hvi, hwi, hlen, hR⟩
      cases hvi with
      | nil => rw [List.zip_nil_left] at hz; cases hz
      | cons a t hvi' =>
        cases hwi with
        | nil => rw [List.zip_nil_right] at hz; cases hz
        | cons c u hwi' =>
          rw [List.zip_cons_cons] at hz
          injection hz with hyx hrest
          injection hyx with hy hx
          subst hy hx
          rw [lexLt_cons] at hR
          simp only [List.length_cons] at hlen
          obtain ⟨e, he, hiff⟩ := eqAt_int A.in1 ⟨hp, g, d, tk, os⟩ a t c u
          refine wpAny_bind (he prog w _ _ ?_)
          cases e with
          | true =>
            rw [if_pos (hiff.mp rfl)] at hR
            wp_walk
            exact ⟨rfl, rfl, _, _, _, _, hrest, hvi', hwi', by omega, hR⟩
          | false =>
            rw [if_neg (fun q => absurd (hiff.mpr q) Bool.false_ne_true)] at hR
            have hri := rcLt_int A.in1 ⟨hp, g, d, tk, os⟩ a t c u prog w
            wp_walk using hri
            exact ⟨_, rfl, by simpa using hR⟩
    case fin =>
      rintro ⟨b1, b2⟩ s' ⟨hb', rfl, vs, ws, ns', ms', hz, hvi, hwi, hlen, hR⟩
      simp only at hb'
      subst hb'
      have hv : lexLt ns' ms' = decide (items.size < items2.size) := by
        cases hvi with
        | nil =>
          cases hwi with
          | nil =>
            simp only [List.length_nil] at hlen
            rw [lexLt_nil_nil]
            exact (decide_eq_false (by omega)).symm
          | cons c u hw =>
            simp only [List.length_nil, List.length_cons] at hlen
            rw [lexLt_nil_cons]
            exact (decide_eq_true (by omega)).symm
        | cons a t hv =>
          cases hwi with
          | nil =>
            simp only [List.length_nil, List.length_cons] at hlen
            rw [lexLt_cons_nil]
            exact (decide_eq_false (by omega)).symm
          | cons c u hw =>
            rw [List.zip_cons_cons] at hz
            cases hz
      rw [hv] at hR
      wp_walk
      exact ⟨_, rfl, by simpa [Builtin.Tuple.tupleCompareSizes] using hR⟩
    case h =>
      exact ⟨rfl, rfl, items.toList, items2.toList, ns, ms, rfl, hi, hj, by omega, h⟩
end

section
variable {prog : Program} {w : World} {A : Around} {E : Value → Shared → Prop} {s : Shared}

theorem lt_tupInts {l b : Addr} {items items2 : Array Value} {ns ms : List Int} {Q : Value → Shared → Prop} (hl : IsTup s.heap l items) (hb : IsTup s.heap b items2) (hi : IntsAre items.toList ns) (hj : IntsAre items2.toList ms)
    (hu : A.units < cLine) (h : Q (.bool (lexLt ns ms)) s) : wpAny (model prog w) A (compareOp .Lt (.ref l) (.ref b)) Q E s := by
  obtain ⟨⟨cls, dd, data, sl⟩, ho, hc, n, hd⟩ := id hl
  obtain ⟨⟨cls2, dd2, data2, sl2⟩, ho2, hc2, n2, hd2⟩ := id hb
  simp only at hc hd hc2 hd2
  subst hc hd hc2 hd2
  exact richCompare_meets_room (op := .Lt) ⟨_, ho, rfl⟩ ⟨_, ho2, rfl⟩ PySem.F.slot_tuple_lt PySem.F.entry_tuple_lt (PySem.F.args_tuple_lt_2 _ _) (tuple_lt_ints l b items items2 n n2 dd dd2 sl sl2 ns ms hi hj)
    ⟨ho, ho2, show Value.bool (lexLt ns ms) ≠ Value.notImplemented ∧ Q (.bool (lexLt ns ms)) s from ⟨(fun x => nomatch x), h⟩⟩ hu

/-- t + u, t not empty -/
theorem cat_tup {t b : Addr} {vs ws : List Value} {Q : Value → Shared → Prop} (ht : IsTup s.heap t vs.toArray) (hb : IsTup s.heap b ws.toArray) (hv : vs ≠ [])
    (h1 : ws = [] → Q (.ref t) s) (h2 : ws ≠ [] → Q (.ref s.heap.objs.size) { s with heap := s.heap.push { cls := .type "tuple", data := .seq (vs ++ ws).toArray } })
    (hsz : vs.length + ws.length ≤ sizeLine) : wpAny (model prog w) A (binaryOp .Add (.ref t) (.ref b)) Q E s := by
  obtain ⟨⟨cls, dd, data, sl⟩, ho, hc, n, hd⟩ := id ht
  obtain ⟨⟨cls2, dd2, data2, sl2⟩, ho2, hc2, n2, hd2⟩ := id hb
  simp only at hc hd hc2 hd2
  subst hc hd hc2 hd2
  have e : vs.toArray ++ ws.toArray = (vs ++ ws).toArray := by simp
  by_cases hw : ws = []
  · exact concat_meets ⟨_, ho, rfl⟩ ⟨_, ho2, rfl⟩ noFill_tuple_add seq_tuple_add PySem.F.slot_tuple_add PySem.F.entry_tuple_add (PySem.F.args_tuple_add_2 _ _)
      (tuple_addW1 t b vs.toArray ws.toArray n n2 dd dd2 sl sl2 (by simpa using hv) (by simp [hw])) ⟨ho, ho2, h1 hw⟩
  · refine concat_meets ⟨_, ho, rfl⟩ ⟨_, ho2, rfl⟩ noFill_tuple_add seq_tuple_add PySem.F.slot_tuple_add PySem.F.entry_tuple_add (PySem.F.args_tuple_add_2 _ _)
      (tuple_addW2 t b vs.toArray ws.toArray n n2 dd dd2 sl sl2 (by simpa using hv) (by simpa using hw) (by rw [List.size_toArray, List.size_toArray]; exact hsz)) ⟨ho, ho2, ?_⟩
    rw [e]
    exact h2 hw

/-! ### t[a:b], not the whole -/
/-- a slice's bound as a place among n (d where it is left out) -/
def sIx (n d : Nat) : Option Int → Nat
  | none => d
  | some v => if v < 0 then (v + (n : Int)).toNat else min v.toNat n
theorem sIx_none (n d : Nat) : sIx n d none = d := rfl
theorem sIx_nat (n d k : Nat) : sIx n d (some (k : Int)) = min k n := by
  show (if (k : Int) < 0 then ((k : Int) + (n : Int)).toNat else min (k : Int).toNat n) = min k n
  rw [if_neg (by omega), Int.toNat_natCast]
theorem sIx_le (n d : Nat) (hd : d ≤ n) (o : Option Int) : sIx n d o ≤ n := by
  cases o with
  | none => exact hd
  | some v =>
    show (if v < 0 then (v + (n : Int)).toNat else min v.toNat n) ≤ n
    by_cases hv : v < 0
    · rw [if_pos hv]; omega
    · rw [if_neg hv]; exact Nat.min_le_right _ _
theorem clip_eq (v : Int) (n d : Nat) : (if v < 0 then max (v + (n : Int)) 0 else min v (n : Int)) = ((sIx n d (some v) : Nat) : Int) := by
  show (if v < 0 then max (v + (n : Int)) 0 else min v (n : Int)) = (((if v < 0 then (v + (n : Int)).toNat else min v.toNat n) : Nat) : Int)
  by_cases hv : v < 0
  · simp only [if_pos hv]; omega
  · simp only [if_neg hv]; omega
theorem adjust_gen (lo hi : Option Int) (n : Nat) : Builtin.Slice.sliceAdjust lo hi 1 (n : Int) = (((sIx n 0 lo : Nat) : Int), ((sIx n n hi : Nat) : Int)) := by
  have h1 : ¬ ((1 : Int) < 0) := by omega
  unfold Builtin.Slice.sliceAdjust
  simp only [h1, if_false]
  refine Prod.ext ?_ ?_
  · cases lo with
    | none => rfl
    | some v => exact clip_eq v n 0
  · cases hi with
    | none => rfl
    | some v => exact clip_eq v n n
theorem places_gen (i j : Nat) : Builtin.Slice.slicePlaces (i : Int) (j : Int) 1 = j - i := by
  unfold Builtin.Slice.slicePlaces
  have h1 : (1 : Int) > 0 := by omega
  simp only [h1, if_true, Int.ediv_one]
  split <;> omega
theorem slicePart_ {v : Value} {o : Option Int} {Q : Option Int → Shared → Prop} (p : IsPart v o) (h : Q o s) : wpAny (model prog w) A (Builtin.Slice.slicePartIndex v) Q E s := by
  cases p with
  | none => exact slicePart_none h
  | int i t => exact slicePart_int h
theorem sliceApplied_gen {sl : Addr} {vl vu : Value} {lo hi : Option Int} {n : Nat} {Q : Int × Int × Nat → Shared → Prop} (hs : s.heap.IsSliceOf sl vl vu .none) (pl : IsPart vl lo) (pu : IsPart vu hi)
    (h : Q (((sIx n 0 lo : Nat) : Int), 1, sIx n n hi - sIx n 0 lo) s) : wpAny (model prog w) A (Builtin.Slice.sliceApplied (.ref sl) (pure (n : Int))) Q E s := by
  obtain ⟨os, hos, hcs, hds⟩ := id hs
  unfold Builtin.Slice.sliceApplied Builtin.Slice.sliceFields
  refine wpAny_bind (wpAny_bind (wpAny_field hos hds (x := vl) rfl (wpAny_bind (wpAny_field hos hds (x := vu) rfl (wpAny_bind (wpAny_field hos hds (x := .none) rfl (wpAny_pure ?_)))))))
  refine wpAny_bind (slicePart_none ?_)
  show wpAny _ _ (if ((1 : Int) == 0) = true then _ else _) _ _ s
  rw [if_neg (by decide)]
  refine wpAny_bind (slicePart_ pl (wpAny_bind (slicePart_ pu (wpAny_bind (wpAny_pure ?_)))))
  show wpAny _ _ (match Builtin.Slice.sliceAdjust lo hi 1 (n : Int) with | (lo, hi) => pure (lo, (1 : Int), Builtin.Slice.slicePlaces lo hi 1)) _ _ s
  rw [adjust_gen lo hi n]
  show wpAny _ _ (pure (((sIx n 0 lo : Nat) : Int), (1 : Int), Builtin.Slice.slicePlaces ((sIx n 0 lo : Nat) : Int) ((sIx n n hi : Nat) : Int) 1)) _ _ s
  rw [places_gen]
  exact wpAny_pure h
theorem pick_gen (xs : Array Value) (i k : Nat) : ((List.range k).filterMap fun (m : Nat) => xs[((i : Int) + (m : Int) * 1).toNat]?).toArray = ((xs.toList.drop i).take k).toArray := by
  have e : (fun (m : Nat) => xs[((i : Int) + (m : Int) * 1).toNat]?) = fun m => xs[i + m]? := by
    funext m
    have : ((i : Int) + (m : Int) * 1).toNat = i + m := by omega
    rw [this]
  rw [e]
  have := pick_run xs i k
  rw [List.filterMap_map] at this
  have e2 : ((fun x => xs[x]?) ∘ fun x => i + x) = fun m => xs[i + m]? := rfl
  rw [e2] at this
  rw [this]

theorem getItem_tuple_cut {t sl : Addr} {items : Array Value} {vl vu : Value} {lo hi : Option Int} {Q : Value → Shared → Prop} (ht : IsTup s.heap t items) (hs : s.heap.IsSliceOf sl vl vu .none) (pl : IsPart vl lo) (pu : IsPart vu hi)
    (hw : ¬ (sIx items.size 0 lo = 0 ∧ sIx items.size items.size hi = items.size))
    (h : Q (.ref s.heap.objs.size) { s with heap := s.heap.push { cls := .type "tuple", data := .seq ((items.toList.drop (sIx items.size 0 lo)).take (sIx items.size items.size hi - sIx items.size 0 lo)).toArray } })
    (hsz : items.size ≤ sizeLine) : wpAny (model prog w) A (getItem (.ref t) (.ref sl)) Q E s := by
  have htake : sizeOk (.seq ((items.toList.drop (sIx items.size 0 lo)).take (sIx items.size items.size hi - sIx items.size 0 lo)).toArray) := by
    show ((items.toList.drop (sIx items.size 0 lo)).take (sIx items.size items.size hi - sIx items.size 0 lo)).toArray.size ≤ sizeLine
    rw [List.size_toArray, List.length_take, List.length_drop, Array.length_toList]
    omega
  have hj : sIx items.size items.size hi ≤ items.size := sIx_le _ _ (Nat.le_refl _) hi
  obtain ⟨os, hos, hcs, hds⟩ := id hs
  have hTs : s.TypeIs (.ref sl) "slice" := ⟨os, hos, hcs⟩
  unfold getItem
  try with_reducible refine wpAny_holding ?_
  first | refine wpAny_bind (wpAny_pure ?_) | skip
  refine wpAny_bind (wpAny_sequenceKey ht.typeIs (by decide) ?_)
  refine wpAny_bind (wpAny_callSpecial?_slot (name := Str.ofString "__getitem__") ht.typeIs PyProof.Rows.slot_tuple_getitem
    (wpAny_call_entry PyProof.Rows.slot_tuple_getitem ht.typeIs entry_tuple_getitem ?_ (args_tuple_getitem _ _)))
  show wpAny _ _ (Builtin.Tuple.tupleItemsOf (.ref t) >>= _) _ _ s
  refine wpAny_bind (tupleItemsOf_ ht ?_)
  refine wpAny_bind (wpAny_typeOf hTs ?_)
  rw [if_pos (by decide)]
  refine wpAny_bind (sliceApplied_gen hs pl pu ?_)
  have hno : ¬ ((((sIx items.size 0 lo : Nat) : Int) == 0 && (1 : Int) == 1 && (sIx items.size items.size hi - sIx items.size 0 lo) == items.size) = true) := by
    intro q
    rw [Bool.and_eq_true, Bool.and_eq_true] at q
    have q1 : ((sIx items.size 0 lo : Nat) : Int) = 0 := eq_of_beq q.1.1
    have q2 : sIx items.size items.size hi - sIx items.size 0 lo = items.size := eq_of_beq q.2
    exact hw ⟨by omega, by omega⟩
  show wpAny _ _ (if (((sIx items.size 0 lo : Nat) : Int) == 0 && (1 : Int) == 1 && (sIx items.size items.size hi - sIx items.size 0 lo) == items.size) = true then _ else _) _ _ s
  rw [if_neg hno, pick_gen]
  first
    | exact wpAny_bind (m := Builtin.Tuple.tupleExact _) (wpAny_newObj_type (wpAny_pure ⟨_, rfl, wpAny_pure h⟩) htake)
    | exact wpAny_bind (m := Builtin.Tuple.tupleExact _) (wpAny_newObj_type (wpAny_bind (wpAny_pure (wpAny_pure ⟨_, rfl, wpAny_pure h⟩))) htake)
    | exact wpAny_bind (wpAny_bind (m := Builtin.Tuple.tupleExact _) (wpAny_newObj_type (wpAny_pure (wpAny_pure ⟨_, rfl, wpAny_pure h⟩)) htake))
    | exact wpAny_bind (wpAny_bind (m := Builtin.Tuple.tupleExact _) (wpAny_newObj_type (wpAny_pure ⟨_, rfl, wpAny_pure h⟩) htake))
end
end HT

namespace L2
open PySem PySem.Spec PyProof.Rows

/-! ### the parts of a slice -/
abbrev TO := St → Hp → (Option Int → Hp → Prop) → Prop
/-- a slice's part (left out, or an int) -/
def PO (X : Cx) (e : Option Expr) (t : TO) : Prop :=
  ∀ (pins : List (Addr × Obj)) (s : Shared) (σ : St) (H : Hp) (Q : Option Int → Hp → Prop), Inv X pins σ H s → t σ H Q →
    wpAny (model X.prog X.w) X.A (evalPart e X.env) (fun u s' => ∃ o H', Inv X pins σ H' s' ∧ IsPart u o ∧ Q o H') X.xe s
def tNoPart : TO := fun _ H Q => Q none H
def tPart (t : TE) : TO := fun σ H Q => t σ H fun x H1 => ∃ i, x = .int i ∧ Q (some i) H1

theorem intsAre_of {ns : List Int} : ∀ {us : List Value}, Vals (ns.map V.int) us → IntsAre us ns := by
  induction ns with
  | nil => intro us r; rw [List.map_nil] at r; cases r; exact .nil
  | cons n ns ih =>
    intro us r
    rw [List.map_cons] at r
    cases r with
    | cons r1 r2 =>
      obtain ⟨t, e⟩ := r1
      subst e
      exact .cons n t (ih r2)

section
variable {X : Cx} {e : Expr} {te : TE} {lo hi : Option Expr} {tl th : TO} {pos p2 : Pos}

theorem po_none : PO X none tNoPart := by
  intro pins s σ H Q I h
  rw [evalPart_none]
  exact wpAny_pure ⟨none, H, I, .none, h⟩
theorem po_some (h : PE X e te) : PO X (some e) (tPart te) := by
  intro pins s σ H Q I hw
  rw [evalPart_some]
  refine thn (h pins s σ H _ I hw) fun u s1 ⟨x, H1, I1, r1, q1⟩ => ?_
  obtain ⟨i, rfl, q⟩ := q1
  obtain ⟨t, rfl⟩ := r1
  exact ⟨some i, H1, I1, .int i t, q⟩

/-- what a slice of a value is, by values: the slice object stands at sl -/
def SlR (X : Cx) (r : V → Option Int → Option Int → Hp → VK → Prop) : Prop :=
  ∀ (pins : List (Addr × Obj)) (s : Shared) (σ : St) (H : Hp) (x : V) (v vl vu : Value) (lo hi : Option Int) (sl : Addr) (Q : VK), Inv X pins σ H s → RelV x v → s.heap.IsSliceOf sl vl vu .none → IsPart vl lo → IsPart vu hi → r x lo hi H Q →
    ∃ T id, typeLookup (.type T) "__getitem__" = pure (some (.builtin id)) ∧ s.TypeIs v T ∧ wpAny (model X.prog X.w) X.A (getItem v (.ref sl)) (EP X pins σ Q) X.xe s
theorem SlR.or {r r' : V → Option Int → Option Int → Hp → VK → Prop} (h : SlR X r) (h' : SlR X r') : SlR X (fun x lo hi H Q => r x lo hi H Q ∨ r' x lo hi H Q) := by
  intro pins s σ H x v vl vu lo hi sl Q I rx hs pl pu q
  rcases q with q | q
  · exact h pins s σ H x v vl vu lo hi sl Q I rx hs pl pu q
  · exact h' pins s σ H x v vl vu lo hi sl Q I rx hs pl pu q
def tSl (r : V → Option Int → Option Int → Hp → VK → Prop) (te : TE) (tl th : TO) : TE := fun σ H Q => te σ H fun x H1 => tl σ H1 fun l H2 => th σ H2 fun u H3 => r x l u H3 Q
/-- a[lo:hi], any a -/
theorem pe_slice {r : V → Option Int → Option Int → Hp → VK → Prop} (hr : SlR X r) (he : PE X e te) (hl : PO X lo tl) (hu : PO X hi th) : PE X (.Subscript e (.Slice lo hi none p2) pos) (tSl r te tl th) := by
  intro pins s σ H Q I h
  refine Subscript_ (thn (he pins s σ H _ I h) fun v s1 ⟨x, H1, I1, r1, q1⟩ => ?_)
  refine wpAny_Slice (thn (hl pins s1 σ H1 _ I1 q1) fun vl s2 ⟨l, H2, I2, pl, q2⟩ => thn (hu pins s2 σ H2 _ I2 q2) fun vu s3 ⟨u, H3, I3, pu, q3⟩ => ?_)
  rw [evalPart_none]
  refine wpAny_pure ?_
  have I4 : Inv X pins σ H3 { s3 with heap := s3.heap.push { cls := .type "slice", data := .fields #[vl, vu, .none] } } := I3.kept (t' := s3.toks) fun b ob q => Heap.get?_push_of_some _ q
  obtain ⟨T, id, hT, ht, hg⟩ := hr pins { s3 with heap := s3.heap.push { cls := .type "slice", data := .fields #[vl, vu, .none] } } σ H3 x v vl vu l u s3.heap.objs.size Q I4 r1 (Heap.IsSliceOf.new ..) pl pu q3
  show wpAny (model X.prog X.w) X.A (subscriptTail e (.Slice lo hi none p2) v (.ref s3.heap.objs.size)) (EP X pins σ Q) X.xe { s3 with heap := s3.heap.push { cls := .type "slice", data := .fields #[vl, vu, .none] } }
  exact tail_any (ops := [.ref s3.heap.objs.size, v]) ht hT hg (by with_unfolding_all rfl)

/-- the items of xs[lo:hi] -/
def cutV (xs : List V) (lo hi : Option Int) : List V := (xs.drop (HT.sIx xs.length 0 lo)).take (HT.sIx xs.length xs.length hi - HT.sIx xs.length 0 lo)
theorem cutV_length (xs : List V) (lo hi : Option Int) : (cutV xs lo hi).length ≤ xs.length := by
  unfold cutV
  rw [List.length_take, List.length_drop]
  omega
/-- t[lo:hi], not the whole of it (the whole would be t itself) -/
def rSlT (K : PySem.W.Frag) : V → Option Int → Option Int → Hp → VK → Prop := fun x lo hi H Q => ∃ a xs, x = .ref a ∧ SqT K H a xs ∧
  ¬ (HT.sIx xs.length 0 lo = 0 ∧ HT.sIx xs.length xs.length hi = xs.length) ∧ ∀ p, H p = none → Q (.ref p) (upd H p (.tup (cutV xs lo hi)))
theorem sl_tup : SlR X (rSlT X.K) := by
  intro pins s σ H x v vl vu lo hi sl Q I rx hs pl pu h
  obtain ⟨a, xs, rfl, hx, hw, q⟩ := h
  cases rx
  obtain ⟨its, r, ht, hz⟩ := I.tuple hx
  have hlen : its.toArray.size = xs.length := by rw [List.size_toArray]; exact r.length.symm
  refine ⟨"tuple", _, PyProof.Rows.slot_tuple_getitem.lookup, ht.typeIs, ?_⟩
  refine HT.getItem_tuple_cut ht hs pl pu (by rw [hlen]; exact hw) ?_ (by rw [hlen]; exact hz)
  rw [hlen]
  refine ⟨.ref s.heap.objs.size, _, I.laid (t' := s.toks) (o := .tup (cutV xs lo hi)) (fun b ob q => Heap.get?_push_of_some _ q) (Nat.le_refl _) ?_, rfl, q _ (I.hok.fresh (Nat.le_refl _))⟩
  exact ⟨Nat.le_trans (cutV_length xs lo hi) hz, _, (r.drop (HT.sIx xs.length 0 lo)).take (HT.sIx xs.length xs.length hi - HT.sIx xs.length 0 lo), IsTup.new _ _⟩

/-! ### t < u, t + u -/
def rLtT (K : PySem.W.Frag) : R2 := fun x y H Q => ∃ a b ns ms, x = .ref a ∧ y = .ref b ∧ SqT K H a (ns.map V.int) ∧ SqT K H b (ms.map V.int) ∧ Q (.bl (HT.lexLt ns ms)) H
theorem op_ltT (hu : X.A.units < cLine) : OpR X (compareOp .Lt) (rLtT X.K) := by
  intro pins s σ H x y v u Q I rx ry h
  obtain ⟨a, b, ns, ms, rfl, rfl, ha, hb, q⟩ := h
  cases rx
  cases ry
  obtain ⟨its, r1, p1, _⟩ := I.tuple ha
  obtain ⟨its2, r2, p2, _⟩ := I.tuple hb
  have i1 : IntsAre its.toArray.toList ns := intsAre_of r1
  have i2 : IntsAre its2.toArray.toList ms := intsAre_of r2
  exact HT.lt_tupInts p1 p2 i1 i2 hu ⟨.bl (HT.lexLt ns ms), H, I, rfl, q⟩
/-- t + u, t not empty: u empty gives t itself -/
def rCatT (K : PySem.W.Frag) : R2 := fun x y H Q => ∃ a b xs ys, x = .ref a ∧ y = .ref b ∧ SqT K H a xs ∧ SqT K H b ys ∧ xs ≠ [] ∧ xs.length + ys.length ≤ sizeLine ∧
  (ys = [] → Q (.ref a) H) ∧ (ys ≠ [] → ∀ p, H p = none → Q (.ref p) (upd H p (.tup (xs ++ ys))))
theorem Vals.nil_iff {xs : List V} {us : List Value} (r : Vals xs us) : us = [] ↔ xs = [] := by
  cases r with
  | nil => simp
  | cons _ _ => simp
theorem op_catT : OpR X (binaryOp .Add) (rCatT X.K) := by
  intro pins s σ H x y v u Q I rx ry h
  obtain ⟨a, b, xs, ys, rfl, rfl, ha, hb, hx, hz, q1, q2⟩ := h
  cases rx
  cases ry
  obtain ⟨its, r1, p1, _⟩ := I.tuple ha
  obtain ⟨its2, r2, p2, _⟩ := I.tuple hb
  refine HT.cat_tup p1 p2 (fun z => hx (r1.nil_iff.mp z)) (fun z => ⟨.ref a, H, I, rfl, q1 (r2.nil_iff.mp z)⟩) (fun z => ?_) (by rw [← r1.length, ← r2.length]; exact hz)
  refine ⟨.ref s.heap.objs.size, _, I.laid (t' := s.toks) (o := .tup (xs ++ ys)) (fun b ob q => Heap.get?_push_of_some _ q) (Nat.le_refl _) ?_, rfl, q2 (fun w => z (r2.nil_iff.mpr w)) _ (I.hok.fresh (Nat.le_refl _))⟩
  exact ⟨by rw [List.length_append]; exact hz, _, r1.append r2, IsTup.new _ _⟩
/-- tuple(t) -/
theorem call_tupleT : CallR X (.type "tuple") (fun xs H Q => ∃ a ys, xs = [.ref a] ∧ SqT X.K H a ys ∧ Q (.ref a) H) := by
  intro pins s σ H xs us Q I r h
  obtain ⟨a, ys, rfl, ha, q⟩ := h
  obtain ⟨u, rfl, ru⟩ := vals1 r
  cases ru
  obtain ⟨its, _, p1, _⟩ := I.tuple ha
  exact call_tuple_same (items := its.toArray) p1 ⟨.ref a, H, I, rfl, q⟩
end
end L2

namespace L2
open PySem PySem.Spec PyProof.Rows

/-! ### places -/
/-- the place that an index of any sign means -/
def ixN (n : Nat) (i : Int) : Option Nat := if 0 ≤ i then (if i < n then some i.toNat else none) else if -(n : Int) ≤ i then some (i + n).toNat else none
def atI {α : Type} (xs : List α) (i : Int) : Option α := (ixN xs.length i).bind fun j => xs[j]?
theorem ixN_seq {n : Nat} {i : Int} {j : Nat} (h : ixN n i = some j) : seqIndex? i n = some j ∧ j < n ∧ -(n : Int) ≤ i ∧ i < n := by
  unfold ixN at h
  by_cases h0 : 0 ≤ i
  · rw [if_pos h0] at h
    by_cases h1 : i < n
    · rw [if_pos h1] at h
      have e : i.toNat = j := Option.some.inj h
      exact ⟨by rw [seqIndex_of h0 h1, e], by omega, by omega, h1⟩
    · rw [if_neg h1] at h; cases h
  · rw [if_neg h0] at h
    by_cases h1 : -(n : Int) ≤ i
    · rw [if_pos h1] at h
      have e : (i + n).toNat = j := Option.some.inj h
      exact ⟨by rw [seqIndex_neg (by omega) h1, e], by omega, h1, by omega⟩
    · rw [if_neg h1] at h; cases h
theorem atI_get {α : Type} {xs : List α} {i : Int} {v : α} (h : atI xs i = some v) : ∃ j, seqIndex? i xs.length = some j ∧ xs[j]? = some v ∧ j < xs.length ∧ -(xs.length : Int) ≤ i ∧ i < xs.length := by
  unfold atI at h
  cases e : ixN xs.length i with
  | none => rw [e] at h; cases h
  | some j =>
    rw [e] at h
    obtain ⟨h1, h2, h3, h4⟩ := ixN_seq e
    exact ⟨j, h1, h, h2, h3, h4⟩
theorem atI_nat {α : Type} {xs : List α} {j : Nat} {v : α} (h : xs[j]? = some v) : atI xs (j : Int) = some v := by
  have hj : j < xs.length := (List.getElem?_eq_some_iff.mp h).1
  have e : ixN xs.length (j : Int) = some j := by
    unfold ixN
    rw [if_pos (by omega), if_pos (by omega)]; simp
  unfold atI; rw [e]; exact h
theorem atI_last {α : Type} (xs : List α) (v : α) : atI (xs ++ [v]) (-1) = some v := by
  have hl : (xs ++ [v]).length = xs.length + 1 := by simp
  have e : ixN (xs ++ [v]).length (-1) = some xs.length := by
    unfold ixN
    rw [hl, if_neg (by decide), if_pos (by omega)]
    congr 1
    omega
  unfold atI
  rw [e]
  show (xs ++ [v])[xs.length]? = some v
  simp

/-! ### what may be subscripted -/
/-- what stands as an index of a plain subscript -/
def PlainIx (b : Expr) : Prop := ∀ o i, subscripted b false o i = operate [o, i] (getItem o i)
/-- a subscript by values -/
def IxR (X : Cx) (r : R2) : Prop :=
  ∀ (value slice : Expr) (pins : List (Addr × Obj)) (s : Shared) (σ : St) (H : Hp) (x y : V) (v u : Value) (Q : VK), Inv X pins σ H s → RelV x v → RelV y u → r x y H Q →
    subscripted slice false v u = operate [v, u] (getItem v u) → wpAny (model X.prog X.w) X.A (subscriptTail value slice v u) (EP X pins σ Q) X.xe s
/-- a call of a builtin's method by values: the receiver, the arguments -/
def MtR (X : Cx) (id : String) (r : V → List V → Hp → VK → Prop) : Prop :=
  ∀ (pins : List (Addr × Obj)) (s : Shared) (σ : St) (H : Hp) (x : V) (xs : List V) (v : Value) (us : List Value) (Q : VK), Inv X pins σ H s → RelV x v → Vals xs us → r x xs H Q →
    wpAny (model X.prog X.w) X.A (call (.builtin id) (v :: us)) (EP X pins σ Q) X.xe s
section
variable {X : Cx} {a b : Expr} {ta tb : TE} {pos : Pos}
theorem IxR.or {r r' : R2} (h : IxR X r) (h' : IxR X r') : IxR X (fun x y H Q => r x y H Q ∨ r' x y H Q) := by
  intro value slice pins s σ H x y v u Q I rx ry q hs
  rcases q with q | q
  · exact h value slice pins s σ H x y v u Q I rx ry q hs
  · exact h' value slice pins s σ H x y v u Q I rx ry q hs
theorem MtR.or {id : String} {r r' : V → List V → Hp → VK → Prop} (h : MtR X id r) (h' : MtR X id r') : MtR X id (fun x xs H Q => r x xs H Q ∨ r' x xs H Q) := by
  intro pins s σ H x xs v us Q I rx rs q
  rcases q with q | q
  · exact h pins s σ H x xs v us Q I rx rs q
  · exact h' pins s σ H x xs v us Q I rx rs q
/-- a[b] -/
theorem pe_ix {r : R2} (hr : IxR X r) (ha : PE X a ta) (hb : PE X b tb) (hs : PlainIx b) : PE X (.Subscript a b pos) (tOp r ta tb) := by
  intro pins s σ H Q I h
  exact Subscript_ (binT ha hb I h fun v u s2 x y H2 I2 rx ry q => hr a b pins s2 σ H2 x y v u Q I2 rx ry q (hs _ _))

def rIxL (K : PySem.W.Frag) : R2 := fun x y H Q => ∃ p xs i v, x = .ref p ∧ y = .int i ∧ SqL K H p xs ∧ atI xs i = some v ∧ Q v H
def rIxT (K : PySem.W.Frag) : R2 := fun x y H Q => ∃ p xs i v, x = .ref p ∧ y = .int i ∧ SqT K H p xs ∧ atI xs i = some v ∧ Q v H
def rIxS : R2 := fun x y H Q => ∃ z i c, x = .str z ∧ y = .int i ∧ z.length ≤ sizeLine ∧ atI z.cps.toList i = some c ∧ Q (.str ⟨#[c]⟩) H
theorem ix_list : IxR X (rIxL X.K) := by
  intro value slice pins s σ H x y v u Q I rx ry h hs
  obtain ⟨p, xs, i, z, rfl, rfl, hq, he, q⟩ := h
  cases rx
  obtain ⟨t, rfl⟩ := ry
  obtain ⟨its, r, pl, hz⟩ := I.list hq
  obtain ⟨j, h1, h2, h3, h4, h5⟩ := atI_get he
  obtain ⟨w, ew, rw'⟩ := r.get h2
  have hl := r.length
  have hn := line63
  have fin : EP X pins σ Q w s := ⟨z, H, I, rw', q⟩
  by_cases h0 : 0 ≤ i
  · have hj : i.toNat = j := by
      rw [seqIndex_of h0 h5] at h1
      exact Option.some.inj h1
    exact item_listR pl.isList h0 (by omega) (by rw [hj]; simpa using ew) fin hs
  · have hj : (i + (its.toArray.size : Int)).toNat = j := by
      rw [seqIndex_neg (by omega) h4] at h1
      rw [List.size_toArray, ← hl]
      exact Option.some.inj h1
    exact subscriptTail_builtinR (x := w) pl.isList.typeIs slot_list_getitem.lookup
      (wpAny_getItem_list_neg (Q := fun r s' => r = w ∧ EP X pins σ Q r s') pl.isList (by omega) (by rw [List.size_toArray] <;> omega) (by omega) (by rw [hj]; simpa using ew) ⟨rfl, fin⟩) hs
theorem ix_tup : IxR X (rIxT X.K) := by
  intro value slice pins s σ H x y v u Q I rx ry h hs
  obtain ⟨p, xs, i, z, rfl, rfl, hq, he, q⟩ := h
  cases rx
  obtain ⟨t, rfl⟩ := ry
  obtain ⟨its, r, pl, hz⟩ := I.tuple hq
  obtain ⟨j, h1, h2, h3, h4, h5⟩ := atI_get he
  obtain ⟨w, ew, rw'⟩ := r.get h2
  have hl := r.length
  have hn := line63
  have fin : EP X pins σ Q w s := ⟨z, H, I, rw', q⟩
  exact subscriptTail_builtinR (x := w) pl.typeIs slot_tuple_getitem.lookup
    (getItem_tuple (j := j) (Q := fun r s' => r = w ∧ EP X pins σ Q r s') pl (by omega) (by omega) (by rw [List.size_toArray, ← hl]; exact h1) (by simpa using ew) ⟨rfl, fin⟩) hs
theorem ix_str : IxR X rIxS := by
  intro value slice pins s σ H x y v u Q I rx ry h hs
  obtain ⟨z, i, c, rfl, rfl, hz, he, q⟩ := h
  obtain ⟨t, rfl⟩ := rx
  obtain ⟨t', rfl⟩ := ry
  obtain ⟨j, h1, h2, h3, h4, h5⟩ := atI_get he
  have hl : z.cps.toList.length = z.length := by simp [Str.length]
  rw [hl] at h1 h4 h5
  have hn := line63
  exact tail_any (typeIs_str s z t) slot_str_getitem.lookup (getItem_str (c := c) (by
    have e1 : decide (i < -(2 ^ 63 : Int)) = false := decide_eq_false (by omega)
    have e2 : decide (i ≥ 2 ^ 63) = false := decide_eq_false (by omega)
    rw [e1, e2, Bool.or_false]) (by rw [h1]; simpa using h2) ⟨.str ⟨#[c]⟩, H, I.tok _, ⟨_, rfl⟩, q⟩) hs
/-- list, tuple or str -/
def rIx (K : PySem.W.Frag) : R2 := fun x y H Q => rIxL K x y H Q ∨ rIxT K x y H Q ∨ rIxS x y H Q
theorem ix_seq : IxR X (rIx X.K) := ix_list.or (ix_tup.or ix_str)

/-! ### xs[i] = v, any sign -/
/-- the list's object behind a store -/
theorem mapSeq_set (its : List Value) (n j : Nat) (u : Value) : Obj.mapSeq (·.setIfInBounds j u) { cls := .type "list", data := .seq its.toArray n } = { cls := .type "list", data := .seq (its.set j u).toArray n } := by
  simp [Obj.mapSeq]
theorem Inv.lst {pins : List (Addr × Obj)} {σ : St} {H : Hp} {s : Shared} {p : Addr} {xs : List V} (I : Inv X pins σ H s) (h : H p = some (.lst xs)) :
    ∃ (its : List Value) (n : Nat), Vals xs its ∧ s.heap.get? p = some { cls := .type "list", data := .seq its.toArray n } ∧ xs.length ≤ sizeLine := by
  obtain ⟨z, its, n, r, e⟩ := I.hok p _ h
  exact ⟨its, n, r, e, z⟩
/-- the list at p is written by an update of its object -/
theorem Inv.lstUpd {pins : List (Addr × Obj)} {σ : St} {H : Hp} {s : Shared} {p : Addr} {xs ys : List V} {its its' : List Value} {n n' : Nat} {f : Obj → Obj} (I : Inv X pins σ H s) (h : H p = some (.lst xs))
    (ho : s.heap.get? p = some { cls := .type "list", data := .seq its.toArray n }) (hf : f { cls := .type "list", data := .seq its.toArray n } = { cls := .type "list", data := .seq its'.toArray n' }) (r : Vals ys its') (hz : ys.length ≤ sizeLine) (t : Nat) :
    Inv X pins σ (upd H p (.lst ys)) { s with heap := s.heap.update p f, toks := t } := by
  have e : (s.heap.update p f).get? p = some { cls := .type "list", data := .seq its'.toArray n' } := by
    rw [Heap.get?_update_self f ho (by rw [hf] <;> rfl), hf]
  refine I.write (x := p) (e := p) (by rw [h]; trivial) (.inl rfl) (fun b u hb q => (Heap.get?_update_other _ _ (Ne.symm hb)).trans q) ⟨_, e⟩ ?_
  exact ⟨hz, its', n', r, e⟩
def rSetL : V → V → V → Hp → (Hp → Prop) → Prop := fun o i v H Q => ∃ p xs k j, o = .ref p ∧ i = .int k ∧ H p = some (.lst xs) ∧ ixN xs.length k = some j ∧ Q (upd H p (.lst (xs.set j v)))
theorem set_list : PSet X rSetL := by
  intro pins s σ H o i v ov iv u Q I ro ri rv h
  obtain ⟨p, xs, k, j, rfl, rfl, hp, hj, q⟩ := h
  cases ro
  obtain ⟨t, rfl⟩ := ri
  obtain ⟨its, n, r, ho, hz⟩ := I.lst hp
  obtain ⟨h1, h2, h3, h4⟩ := ixN_seq hj
  have hl := r.length
  have hn := line63
  have I' : Inv X pins σ (upd H p (.lst (xs.set j v))) { s with heap := s.heap.update p (Obj.mapSeq (·.setIfInBounds j u)) } :=
    I.lstUpd hp ho (mapSeq_set its n j u) (r.set rv j) (by rw [List.length_set]; exact hz) s.toks
  by_cases h0 : 0 ≤ k
  · have hk : k.toNat = j := by
      rw [seqIndex_of h0 h4] at h1
      exact Option.some.inj h1
    exact PySem.W.ki_setAt ho h0 (by omega) (by rw [List.size_toArray, ← hl]; exact h4) (by rw [hk]; exact ⟨_, I', q⟩)
  · have hk : (k + (its.toArray.size : Int)).toNat = j := by
      rw [seqIndex_neg (by omega) h3] at h1
      rw [List.size_toArray, ← hl]
      exact Option.some.inj h1
    exact PySem.W.ki_setBack ho (by omega) (by rw [List.size_toArray, ← hl]; exact h3) (by omega) (by rw [hk]; exact ⟨_, I', q⟩)

/-! ### slices -/
theorem slice_bounds (lo hi : Option Int) (n : Nat) : (sliceBounds lo hi none n).1 = ((HT.sIx n 0 lo : Nat) : Int) ∧ (sliceBounds lo hi none n).2.1 = ((HT.sIx n n hi : Nat) : Int) ∧ (sliceBounds lo hi none n).2.2 = 1 := by
  refine ⟨?_, ?_, rfl⟩
  · cases lo with
    | none => simp [sliceBounds, HT.sIx]
    | some i =>
      simp only [sliceBounds, HT.sIx, Option.getD_none, show (1 : Int) > 0 by decide, if_true]
      by_cases h : i < 0
      · simp only [h, if_true] <;> omega
      · simp only [h, if_false] <;> omega
  · cases hi with
    | none => simp [sliceBounds, HT.sIx]
    | some i =>
      simp only [sliceBounds, HT.sIx, Option.getD_none, show (1 : Int) > 0 by decide, if_true]
      by_cases h : i < 0
      · simp only [h, if_true] <;> omega
      · simp only [h, if_false] <;> omega
theorem slicePick_cut (its : List Value) (lo hi : Option Int) : slicePick its.toArray lo hi none = ((its.drop (HT.sIx its.length 0 lo)).take (HT.sIx its.length its.length hi - HT.sIx its.length 0 lo)).toArray := by
  obtain ⟨h1, h2, h3⟩ := slice_bounds lo hi its.toArray.size
  unfold slicePick
  rw [h1, h2, h3]
  simp only [sliceRange_one, pick_run, List.size_toArray] <;> rfl
/-- xs[lo:hi] of a list: a new list -/
def rSlL (K : PySem.W.Frag) : V → Option Int → Option Int → Hp → VK → Prop := fun x lo hi H Q => ∃ a xs, x = .ref a ∧ SqL K H a xs ∧ ∀ p, H p = none → Q (.ref p) (upd H p (.lst (cutV xs lo hi)))
theorem sl_list : SlR X (rSlL X.K) := by
  intro pins s σ H x v vl vu lo hi sl Q I rx hs pl pu h
  obtain ⟨a, xs, rfl, hx, q⟩ := h
  cases rx
  obtain ⟨its, r, ht, hz⟩ := I.list hx
  have hlen := r.length
  refine ⟨"list", _, slot_list_getitem.lookup, ht.isList.typeIs, ?_⟩
  refine wpAny_getItem_list_slice ht.isList hs pl pu .none (by simp) ?_ (by rw [List.size_toArray] <;> omega)
  rw [slicePick_cut, ← hlen]
  refine ⟨.ref s.heap.objs.size, _, I.laid (t' := s.toks) (o := .lst (cutV xs lo hi)) (fun b ob q => Heap.get?_push_of_some _ q) (Nat.le_refl _) ?_, rfl, q _ (I.hok.fresh (Nat.le_refl _))⟩
  exact ⟨Nat.le_trans (cutV_length xs lo hi) hz, _, 0, (r.drop (HT.sIx xs.length 0 lo)).take (HT.sIx xs.length xs.length hi - HT.sIx xs.length 0 lo), Heap.get?_push_size _ rfl⟩

/-! ### in, not in: flat items -/
def flatV : V → Bool
  | .non => true
  | .bl _ => true
  | .int _ => true
  | .str _ => true
  | _ => false
/-- == of flat values -/
def eqV : V → V → Bool
  | .non, .non => true
  | .bl a, .bl b => a == b
  | .bl a, .int b => (if a then 1 else 0) == b
  | .int a, .bl b => a == (if b then 1 else 0)
  | .int a, .int b => a == b
  | .str a, .str b => a == b
  | _, _ => false
theorem eqAt_V {A : Around} {s : Shared} {y x : V} {u v : Value} (ry : RelV y u) (rx : RelV x v) (fy : flatV y = true) (fx : flatV x = true) : SeqAt.EqAt A s u v (eqV y x) := by
  cases y with
  | non =>
    cases ry
    cases x with
    | non => cases rx; exact SeqAt.EqAt.same _
    | bl b => cases rx; exact SeqAt.EqAt.none_bool b
    | int b => obtain ⟨t, rfl⟩ := rx; exact SeqAt.EqAt.none_int b t
    | str b => obtain ⟨t, rfl⟩ := rx; exact SeqAt.EqAt.none_str b t
    | _ => exact absurd (show false = true from fx) Bool.false_ne_true
  | bl a =>
    cases ry
    cases x with
    | non => cases rx; exact SeqAt.EqAt.bool_none a
    | bl b => cases rx; exact SeqAt.EqAt.bool_bool a b
    | int b => obtain ⟨t, rfl⟩ := rx; exact SeqAt.EqAt.bool_int a b t
    | str b => obtain ⟨t, rfl⟩ := rx; exact SeqAt.EqAt.bool_str a b t
    | _ => exact absurd (show false = true from fx) Bool.false_ne_true
  | int a =>
    obtain ⟨t', rfl⟩ := ry
    cases x with
    | non => cases rx; exact SeqAt.EqAt.int_none a t'
    | bl b => cases rx; exact SeqAt.EqAt.int_bool a t' b
    | int b => obtain ⟨t, rfl⟩ := rx; exact SeqAt.EqAt.int_int a t' b t
    | str b => obtain ⟨t, rfl⟩ := rx; exact SeqAt.EqAt.int_str a t' b t
    | _ => exact absurd (show false = true from fx) Bool.false_ne_true
  | str a =>
    obtain ⟨t', rfl⟩ := ry
    cases x with
    | non => cases rx; exact SeqAt.EqAt.str_none a t'
    | bl b => cases rx; exact SeqAt.EqAt.str_bool a t' b
    | int b => obtain ⟨t, rfl⟩ := rx; exact SeqAt.EqAt.str_int a t' b t
    | str b => obtain ⟨t, rfl⟩ := rx; exact SeqAt.EqAt.str_str a t' b t
    | _ => exact absurd (show false = true from fx) Bool.false_ne_true
  | _ => exact absurd (show false = true from fy) Bool.false_ne_true
/-- the items' answers, read off the values (a value's own answer does not lean on its token) -/
def eqU (x : V) (u : Value) : Bool := match u with
  | .none => eqV .non x
  | .bool b => eqV (.bl b) x
  | .int i _ => eqV (.int i) x
  | .str z _ => eqV (.str z) x
  | _ => false
theorem eqU_of {x y : V} {u : Value} (r : RelV y u) (f : flatV y = true) : eqU x u = eqV y x := by
  cases y with
  | non => cases r; rfl
  | bl b => cases r; rfl
  | int i => obtain ⟨t, rfl⟩ := r; rfl
  | str z => obtain ⟨t, rfl⟩ := r; rfl
  | _ => exact absurd (show false = true from f) Bool.false_ne_true
theorem any_eqU {x : V} : ∀ {xs : List V} {us : List Value}, Vals xs us → xs.all flatV = true → us.any (eqU x) = xs.any fun y => eqV y x
  | _, _, .nil, _ => rfl
  | y :: xs, u :: us, .cons r t, f => by
    rw [List.all_cons, Bool.and_eq_true] at f
    rw [List.any_cons, List.any_cons, eqU_of r f.1, any_eqU t f.2]
theorem mem_eqAt {A : Around} {s : Shared} {x : V} {v : Value} (rx : RelV x v) (fx : flatV x = true) : ∀ {xs : List V} {us : List Value}, Vals xs us → xs.all flatV = true → ∀ u ∈ us, SeqAt.EqAt A s u v (eqU x u)
  | _, _, .nil, _ => fun u hu => by cases hu
  | y :: xs, u :: us, .cons r t, f => fun u' hu => by
    rw [List.all_cons, Bool.and_eq_true] at f
    rcases List.mem_cons.mp hu with rfl | hu
    · rw [eqU_of r f.1]; exact eqAt_V r rx f.1 fx
    · exact mem_eqAt rx fx t f.2 u' hu
def inV (x : V) (xs : List V) : Bool := xs.any fun y => eqV y x
/-- x in a list or tuple of flat items -/
def rIn (K : PySem.W.Frag) (neg : Bool) : R2 := fun x y H Q => ∃ p xs, y = .ref p ∧ (SqL K H p xs ∨ SqT K H p xs) ∧ flatV x = true ∧ xs.all flatV = true ∧ Q (.bl (if neg then !inV x xs else inV x xs)) H
theorem op_in_seq : OpR X (compareOp .In) (rIn X.K false) := by
  intro pins s σ H x y v u Q I rx ry h
  obtain ⟨p, xs, rfl, hq, fx, fs, q⟩ := h
  cases ry
  rcases hq with hq | hq
  · obtain ⟨its, r, pl, hz⟩ := I.list hq
    refine SeqAt.in_listAt (eqU x) pl.isList (fun w hw => mem_eqAt rx fx r fs w (by simpa using hw)) ⟨.bl _, H, I, rfl, ?_⟩
    rw [show its.toArray.any (eqU x) = its.any (eqU x) by simp, any_eqU r fs]
    exact q
  · obtain ⟨its, r, pl, hz⟩ := I.tuple hq
    refine SeqAt.in_tupleAt (eqU x) pl (fun w hw => mem_eqAt rx fx r fs w (by simpa using hw)) ⟨.bl _, H, I, rfl, ?_⟩
    rw [show its.toArray.any (eqU x) = its.any (eqU x) by simp, any_eqU r fs]
    exact q
theorem op_notIn_seq : OpR X (compareOp .NotIn) (rIn X.K true) := by
  intro pins s σ H x y v u Q I rx ry h
  obtain ⟨p, xs, rfl, hq, fx, fs, q⟩ := h
  cases ry
  rcases hq with hq | hq
  · obtain ⟨its, r, pl, hz⟩ := I.list hq
    refine SeqAt.notIn_listAt (eqU x) pl.isList (fun w hw => mem_eqAt rx fx r fs w (by simpa using hw)) ⟨.bl _, H, I, rfl, ?_⟩
    rw [show its.toArray.any (eqU x) = its.any (eqU x) by simp, any_eqU r fs]
    exact q
  · obtain ⟨its, r, pl, hz⟩ := I.tuple hq
    refine SeqAt.notIn_tupleAt (eqU x) pl (fun w hw => mem_eqAt rx fx r fs w (by simpa using hw)) ⟨.bl _, H, I, rfl, ?_⟩
    rw [show its.toArray.any (eqU x) = its.any (eqU x) by simp, any_eqU r fs]
    exact q
theorem op_notIn_str : OpR X (compareOp .NotIn) (fun x y H Q => ∃ i j, x = .str i ∧ y = .str j ∧ Q (.bl (!(!(Builtin.Str.occurrences j i 0 j.length 1).isEmpty))) H) := by
  intro pins s σ H x y v u Q I rx ry h
  obtain ⟨i, j, rfl, rfl, q⟩ := h
  obtain ⟨t, rfl⟩ := rx
  obtain ⟨t', rfl⟩ := ry
  exact notIn_str ⟨.bl _, H, I, rfl, q⟩

/-! ### len, list(x), tuple(x) of any list or tuple that is read -/
theorem call_len_seq : CallR X (.builtin "len") (fun xs H Q => ∃ p ys, xs = [.ref p] ∧ (SqL X.K H p ys ∨ SqT X.K H p ys) ∧ Q (.int ys.length) H) := by
  intro pins s σ H xs us Q I r h
  obtain ⟨p, ys, rfl, hq, q⟩ := h
  obtain ⟨u, rfl, rx⟩ := vals1 r
  cases rx
  have hn := line63
  rcases hq with hq | hq
  · obtain ⟨its, r', pl, hz⟩ := I.list hq
    have hlen := r'.length
    exact Calls.call_len_list pl.isList (by simp only [List.size_toArray] <;> omega) ⟨.int ys.length, H, I.tok _, ⟨s.toks + 1, by rw [List.size_toArray, hlen]⟩, q⟩
  · obtain ⟨its, r', pl, hz⟩ := I.tuple hq
    have hlen := r'.length
    exact len_tuple pl (by simp only [List.size_toArray] <;> omega) ⟨.int ys.length, H, I.tok _, ⟨s.toks + 1, by rw [List.size_toArray, hlen]⟩, q⟩
theorem call_len_str : CallR X (.builtin "len") (fun xs H Q => ∃ z, xs = [.str z] ∧ z.length ≤ sizeLine ∧ Q (.int z.length) H) := by
  intro pins s σ H xs us Q I r h
  obtain ⟨z, rfl, hz, q⟩ := h
  obtain ⟨u, rfl, t, rfl⟩ := vals1 r
  have hn := line63
  exact len_str (by omega) ⟨.int z.length, H, I.tok _, ⟨_, rfl⟩, q⟩
theorem CallR.or {f : Value} {r r' : List V → Hp → VK → Prop} (h : CallR X f r) (h' : CallR X f r') : CallR X f (fun xs H Q => r xs H Q ∨ r' xs H Q) := by
  intro pins s σ H xs us Q I rs q
  rcases q with q | q
  · exact h pins s σ H xs us Q I rs q
  · exact h' pins s σ H xs us Q I rs q
theorem call_list_of : CallR X (.type "list") (fun xs H Q => ∃ p ys, xs = [.ref p] ∧ (SqL X.K H p ys ∨ SqT X.K H p ys) ∧ ∀ l, H l = none → Q (.ref l) (upd H l (.lst ys))) := by
  intro pins s σ H xs us Q I r h
  obtain ⟨p, ys, rfl, hq, q⟩ := h
  obtain ⟨u, rfl, rx⟩ := vals1 r
  cases rx
  have fin : ∀ (its : List Value), Vals ys its → ys.length ≤ sizeLine → ∀ (h' : Heap) (c' : Nat), (∀ b o', s.heap.get? b = some o' → h'.get? b = some o') →
      h'.get? s.heap.objs.size = some { cls := .type "list", dict := none, data := .seq its.toArray c', slots := #[] } → EP X pins σ Q (.ref s.heap.objs.size) { s with heap := h' } := fun its r' hz h' c' kp e =>
    ⟨.ref s.heap.objs.size, _, I.laid (t' := s.toks) kp (Nat.le_refl _) (show ObjOk X.prog X.w _ h' _ (.lst ys) from ⟨hz, its, c', r', e⟩), rfl, q _ (I.hok.fresh (Nat.le_refl _))⟩
  rcases hq with hq | hq
  · obtain ⟨its, r', pl, hz⟩ := I.list hq
    have hlen := r'.length
    obtain ⟨o, ho, hc, n, hd⟩ := pl.isList
    exact call_list_seq p (.inl rfl) ho hc hd (fun h' c' kp e => fin its r' hz h' c' kp e) (by simp only [List.size_toArray] <;> omega)
  · obtain ⟨its, r', pl, hz⟩ := I.tuple hq
    have hlen := r'.length
    obtain ⟨o, ho, hc, n, hd⟩ := pl
    exact call_list_seq p (.inr rfl) ho hc hd (fun h' c' kp e => fin its r' hz h' c' kp e) (by simp only [List.size_toArray] <;> omega)
theorem call_tuple_of : CallR X (.type "tuple") (fun xs H Q => ∃ p ys, xs = [.ref p] ∧ ((SqL X.K H p ys ∧ ∀ l, H l = none → Q (.ref l) (upd H l (.tup ys))) ∨ (SqT X.K H p ys ∧ Q (.ref p) H))) := by
  intro pins s σ H xs us Q I r h
  obtain ⟨p, ys, rfl, h⟩ := h
  obtain ⟨u, rfl, rx⟩ := vals1 r
  cases rx
  rcases h with ⟨hq, q⟩ | ⟨hq, q⟩
  · obtain ⟨its, r', pl, hz⟩ := I.list hq
    have hlen := r'.length
    refine call_tuple_list pl.isList (fun h' kp => ?_) (by simp only [List.size_toArray] <;> omega)
    have I1 : Inv X pins σ H { s with heap := h' } := I.kept (t' := s.toks) kp
    have I2 : Inv X pins σ (upd H h'.objs.size (.tup ys)) { s with heap := h'.push { cls := .type "tuple", data := .seq its.toArray } } :=
      I1.laid (t' := s.toks) (fun b o e => Heap.get?_push_of_some _ e) (Nat.le_refl _) (show ObjOk X.prog X.w _ _ _ (.tup ys) from ⟨hz, its, r', IsTup.new _ _⟩)
    exact ⟨.ref h'.objs.size, _, I2, rfl, q _ (I1.hok.fresh (Nat.le_refl _))⟩
  · obtain ⟨its, r', pl, hz⟩ := I.tuple hq
    exact call_tuple_same pl ⟨.ref p, H, I, rfl, q⟩

/-! ### the call of a builtin's method: o.m(..) -/
/-- the value is of that builtin type -/
def tyV (K : PySem.W.Frag) (T : String) (x : V) (H : Hp) : Prop := match x with
  | .str _ => T = "str"
  | .int _ => T = "int"
  | .ref p => (T = "list" ∧ ∃ xs, SqL K H p xs) ∨ (T = "tuple" ∧ ∃ o, K.lookup p = some o ∧ o.cls = .type "tuple" ∧ o.dict = none) ∨
      (T = "dict" ∧ ((∃ kvs, H p = some (.dK kvs)) ∨ ∃ kvs, H p = some (.dT kvs))) ∨ (T = "set" ∧ ∃ S n, H p = some (.set S n))
  | _ => False
theorem tyV_is {pins : List (Addr × Obj)} {σ : St} {H : Hp} {s : Shared} {T : String} {x : V} {v : Value} (I : Inv X pins σ H s) (r : RelV x v) (ty : tyV X.K T x H) :
    s.TypeIs v T ∧ ∀ a, v = .ref a → ∃ ob, s.heap.get? a = some ob ∧ ob.dict = none := by
  cases x with
  | str z =>
    obtain ⟨t, rfl⟩ := r
    cases (show T = "str" from ty)
    exact ⟨typeIs_str s z t, fun _ e => nomatch e⟩
  | int i =>
    obtain ⟨t, rfl⟩ := r
    cases (show T = "int" from ty)
    exact ⟨typeIs_int s i t, fun _ e => nomatch e⟩
  | ref p =>
    cases r
    rcases ty with ⟨rfl, xs, hq⟩ | ⟨rfl, o, hk, hc, hd⟩ | ⟨rfl, hk⟩ | ⟨rfl, S, n, hk⟩
    · obtain ⟨its, _, pl, _⟩ := I.list hq
      refine ⟨pl.isList.typeIs, fun a e => ?_⟩
      cases e
      obtain ⟨o, n, e, c, hd, _⟩ := pl
      exact ⟨o, e, hd⟩
    · refine ⟨⟨o, I.kIn p o hk, hc⟩, fun a e => ?_⟩
      cases e
      exact ⟨o, I.kIn _ o hk, hd⟩
    · have z : ∃ o, s.heap.get? p = some o ∧ o.ExactDict := by
        rcases hk with ⟨kvs, hk⟩ | ⟨kvs, hk⟩
        · obtain ⟨_, _, _, _, o, _, _, e, ex, _⟩ := I.hok p _ hk
          exact ⟨o, e, ex⟩
        · obtain ⟨_, _, _, _, o, _, _, e, ex, _⟩ := I.hok p _ hk
          exact ⟨o, e, ex⟩
      obtain ⟨o, e, ex⟩ := z
      refine ⟨⟨o, e, ex.1⟩, fun a e2 => ?_⟩
      cases e2
      exact ⟨o, e, ex.2.1⟩
    · obtain ⟨o, _, _, _, e, ex, _⟩ := I.hok p _ hk
      refine ⟨⟨o, e, ex.1⟩, fun a e2 => ?_⟩
      cases e2
      exact ⟨o, e, ex.2.1⟩
  | _ => exact False.elim ty
def tBM0 (K : PySem.W.Frag) (T : String) (r : V → List V → Hp → VK → Prop) (to : TE) : TE := fun σ H Q => to σ H fun x H1 => tyV K T x H1 ∧ r x [] H1 Q
def tBM (K : PySem.W.Frag) (T : String) (r : V → List V → Hp → VK → Prop) (to : TE) (t : TA) : TE := fun σ H Q => to σ H fun x H1 => tyV K T x H1 ∧ t σ H1 fun xs H2 => r x xs H2 Q
variable {o e : Expr} {es : List Expr} {to : TE} {t : TA} {name : Str} {apos cpos : Pos} {T id : String} {r : V → List V → Hp → VK → Prop}
theorem pe_bm0 (pa : PlainAttrs T) (slot : Slot T name id) (hty : typeOf (.builtin id) = pure (.type "method_descriptor")) (hm : MtR X id r) (ho : PE X o to)
    (hbase : attributeBase o name X.env (eval o X.env) = eval o X.env := by rfl) (hline : (apos.endLine == cpos.line) = true := by rfl) : PE X (.Call (.Attribute o name apos) [] [] cpos) (tBM0 X.K T r to) := by
  intro pins s σ H Q I h
  refine wpAny_Call_method0_late hbase hline (thn (ho pins s σ H _ I h) fun v s1 ⟨x, H1, I1, r1, ty, q1⟩ => ?_)
  obtain ⟨h1, h2⟩ := tyV_is I1 r1 ty
  exact ⟨T, id, pa, slot, hty, h1, h2, Calls.callWith_builtin rfl (PySem.evalArgs_none (hm pins s1 σ H1 x [] v [] Q I1 r1 .nil q1))⟩
theorem pe_bm (pa : PlainAttrs T) (slot : Slot T name id) (hty : typeOf (.builtin id) = pure (.type "method_descriptor")) (hm : MtR X id r) (ho : PE X o to) (ha : PA X (e :: es) t)
    (hbase : attributeBase o name X.env (eval o X.env) = eval o X.env := by rfl)
    (hfew : ((backTo cpos (starEach (e :: es) X.env)).all (fun x => !x.1) && (backToKw cpos (keywordEach [] X.env)).all (fun x => x.1.isSome)
      && decide ((e :: es).length + ([] : List Keyword).length + (if ([] : List Keyword).isEmpty then 0 else 1) < 30)) = true := by rfl)
    (hline : (apos.endLine == cpos.line) = true := by rfl) (hs : starEach (e :: es) X.env = (false, eval e X.env) :: starEach es X.env := by rfl) (hplain : (backTo cpos (starEach es X.env)).any (·.1) = false := by rfl) :
    PE X (.Call (.Attribute o name apos) (e :: es) [] cpos) (tBM X.K T r to t) := by
  intro pins s σ H Q I h
  refine wpAny_Call_method_late hbase hfew hline rfl (thn (ho pins s σ H _ I h) fun v s1 ⟨x, H1, I1, r1, ty, q1⟩ => ?_)
  obtain ⟨h1, h2⟩ := tyV_is I1 r1 ty
  refine ⟨T, id, pa, slot, hty, h1, h2, ?_⟩
  have hA := ha cpos pins s1 σ H1 _ I1 q1
  rw [hs] at hA ⊢
  refine Calls.callWith_builtin (by show (false || (backTo cpos (starEach es X.env)).any (·.1)) = false; rw [hplain] <;> rfl) (Calls.evalArgs_plain ?_)
  exact thn hA fun us s2 ⟨vs, H2, I2, r2, q2⟩ => hm pins s2 σ H2 x vs v us Q I2 r1 r2 q2
/- xs.append(e), list.index on a module's tuple .. are MtR facts of 06m -/
end
end L2

namespace L2
open PySem PySem.Spec PyProof.Rows

def MtM (X : Cx) (id : String) (r : V → List V → Hp → VK → Prop) : Prop :=
  ∀ (pins : List (Addr × Obj)) (s : Shared) (σ : St) (H : Hp) (x : V) (xs : List V) (v : Value) (us : List Value) (Q : VK), Inv X pins σ H s → RelV x v → Vals xs us → r x xs H Q →
    wpAny (model X.prog X.w) X.A (call (.builtin id) (v :: us)) (EP X pins σ Q) X.xe s

/-! ### lists of values -/
theorem Vals.one : ∀ {x : V} {us : List Value}, Vals [x] us → ∃ u, us = [u] ∧ RelV x u
  | _, _, .cons r .nil => ⟨_, rfl, r⟩
theorem Vals.two : ∀ {x y : V} {us : List Value}, Vals [x, y] us → ∃ u v, us = [u, v] ∧ RelV x u ∧ RelV y v
  | _, _, _, .cons r (.cons q .nil) => ⟨_, _, rfl, r, q⟩
theorem Vals.zero : ∀ {us : List Value}, Vals [] us → us = []
  | _, .nil => rfl
theorem Vals.dropLast {xs : List V} {us : List Value} (h : Vals xs us) : Vals xs.dropLast us.dropLast := by
  induction h with
  | nil => exact .nil
  | cons r t ih =>
    cases t with
    | nil => exact .nil
    | cons q t' => exact .cons r ih
theorem Vals.eraseIdx : ∀ {xs : List V} {us : List Value} (i : Nat), Vals xs us → Vals (xs.eraseIdx i) (us.eraseIdx i)
  | _, _, _, .nil => .nil
  | _, _, 0, .cons _ t => t
  | _, _, i + 1, .cons r t => .cons r (Vals.eraseIdx i t)
theorem Vals.reverse {xs : List V} {us : List Value} (h : Vals xs us) : Vals xs.reverse us.reverse := by
  induction h with
  | nil => exact .nil
  | cons r t ih => rw [List.reverse_cons, List.reverse_cons]; exact Vals.append ih (.cons r .nil)
theorem Vals.rep {xs : List V} {us : List Value} (h : Vals xs us) : ∀ k : Nat, Vals (List.replicate k xs).flatten (List.replicate k us).flatten
  | 0 => .nil
  | k + 1 => by
    rw [List.replicate_succ, List.replicate_succ, List.flatten_cons, List.flatten_cons]
    exact Vals.append h (Vals.rep h k)
theorem erase_last {α : Type} (l : List α) : l.eraseIdx (l.length - 1) = l.dropLast := by
  induction l with
  | nil => rfl
  | cons a r ih =>
    cases r with
    | nil => rfl
    | cons b r =>
      have e : (a :: b :: r).length - 1 = ((b :: r).length - 1) + 1 := by
        have h1 : (a :: b :: r).length = r.length + 2 := rfl
        have h2 : (b :: r).length = r.length + 1 := rfl
        omega
      rw [e, List.eraseIdx_cons_succ, ih]
      all_goals rfl
theorem len_erase {α : Type} : ∀ (l : List α) (i : Nat), (l.eraseIdx i).length ≤ l.length
  | [], _ => Nat.le_refl _
  | _ :: _, 0 => Nat.le_succ _
  | _ :: r, i + 1 => Nat.succ_le_succ (len_erase r i)
theorem foldl_rep (its : List Value) : ∀ (k : Nat) (acc : List Value),
    List.foldl (fun x1 x2 => x1 ++ x2) acc.toArray (List.replicate k its.toArray) = (acc ++ (List.replicate k its).flatten).toArray
  | 0, acc => by simp
  | k + 1, acc => by
    have e : acc.toArray ++ its.toArray = (acc ++ its).toArray := by simp
    have e2 : (acc ++ its) ++ (List.replicate k its).flatten = acc ++ (List.replicate (k + 1) its).flatten := by
      rw [List.replicate_succ, List.flatten_cons, List.append_assoc]
    rw [← e2, ← foldl_rep its k (acc ++ its), ← e, List.replicate_succ, List.foldl_cons]

section
variable {X : Cx} {pins : List (Addr × Obj)} {σ : St} {H : Hp} {s : Shared} {l b : Addr} {xs ys zs : List V}

/-! ### the two steps: a tracked list is rewritten, a new list is laid -/
theorem Inv.lset {its its' : List Value} {n : Nat} {f : Array Value → Array Value} {t' : Nat} (I : Inv X pins σ H s) (hH : H l = some (.lst xs))
    (e : s.heap.get? l = some { cls := .type "list", data := .seq its.toArray n }) (hf : f its.toArray = its'.toArray) (hv : Vals ys its') (hz : ys.length ≤ sizeLine) :
    Inv X pins σ (upd H l (.lst ys)) { s with heap := s.heap.update l (Obj.mapSeq f), toks := t' } := by
  have q := PySem.IsL.update e f
  rw [hf] at q
  refine I.write (x := l) (e := l) (by rw [hH]; exact trivial) (.inl rfl) (fun b' u hb hu => (Heap.get?_update_other s.heap (Obj.mapSeq f) (Ne.symm hb)).trans hu) ⟨_, q⟩ ?_
  exact ⟨hz, its', _, hv, q⟩
theorem Inv.lnew {its : List Value} {t' : Nat} (I : Inv X pins σ H s) (hv : Vals ys its) (hz : ys.length ≤ sizeLine) :
    Inv X pins σ (upd H s.heap.objs.size (.lst ys)) { s with heap := s.heap.push { cls := .type "list", data := .seq its.toArray }, toks := t' } :=
  I.laid (fun _ _ q => Heap.get?_push_of_some _ q) (Nat.le_refl _) ⟨hz, its, 0, hv, Heap.get?_push_size _ rfl⟩
theorem Inv.fresh (I : Inv X pins σ H s) : H s.heap.objs.size = none := I.hok.fresh (Nat.le_refl _)
theorem Inv.lstM (I : Inv X pins σ H s) (hH : H l = some (.lst xs)) : xs.length ≤ sizeLine ∧ ∃ (its : List Value) (n : Nat), Vals xs its ∧ xs.length = its.length ∧ s.heap.get? l = some { cls := .type "list", data := .seq its.toArray n } := by
  obtain ⟨z, its, n, r, e⟩ := I.hok l _ hH
  exact ⟨z, its, n, r, r.length, e⟩

theorem notLongL {n : Nat} (h : n ≤ sizeLine) : Builtin.List.listTooLong n = false := by
  unfold Builtin.List.listTooLong
  exact decide_eq_false (by omega)
end

section
variable {X : Cx}

/-! ### methods -/
def rAppend : V → List V → Hp → VK → Prop := fun x vs H Q => ∃ l xs y, x = .ref l ∧ vs = [y] ∧ H l = some (.lst xs) ∧ xs.length < sizeLine ∧ Q .non (upd H l (.lst (xs ++ [y])))
theorem mt_append : MtM X "list.append" rAppend := by
  intro pins s σ H x vs v us Q I rx rv h
  obtain ⟨l, xs, y, rfl, rfl, hH, hz, q⟩ := h
  cases rx
  obtain ⟨u, rfl, ru⟩ := rv.one
  obtain ⟨z, its, n, r, hl, e⟩ := I.lstM hH
  refine call_meets F.slot_list_append ⟨_, e, rfl⟩ F.entry_list_append (F.args_list_append_2 _ _) (PySem.list_append l its.toArray n u (by rw [List.size_toArray]; omega)) ⟨e, ?_⟩
  refine ⟨.non, _, I.lset (its' := its ++ [u]) hH e (by simp) (r.append (.cons ru .nil)) ?_, rfl, q⟩
  rw [List.length_append, List.length_singleton]
  omega

def rExtend : V → List V → Hp → VK → Prop := fun x vs H Q => ∃ l b xs zs, x = .ref l ∧ vs = [.ref b] ∧ H l = some (.lst xs) ∧ H b = some (.lst zs) ∧ xs.length + zs.length ≤ sizeLine ∧ Q .non (upd H l (.lst (xs ++ zs)))
theorem mt_extend : MtM X "list.extend" rExtend := by
  intro pins s σ H x vs v us Q I rx rv h
  obtain ⟨l, b, xs, zs, rfl, rfl, hH, hB, hz, q⟩ := h
  cases rx
  obtain ⟨u, rfl, ru⟩ := rv.one
  cases ru
  obtain ⟨z, its, n, r, hl, e⟩ := I.lstM hH
  obtain ⟨z2, its2, n2, r2, hl2, e2⟩ := I.lstM hB
  have hsz : its.toArray.size + its2.toArray.size ≤ sizeLine := by rw [List.size_toArray, List.size_toArray]; omega
  have hlong : ¬ (!its.toArray.isEmpty && Builtin.List.listTooLong (its.toArray.size + its2.toArray.size)) = true := by
    rw [notLongL hsz, Bool.and_false]
    exact Bool.false_ne_true
  refine call_meets F.slot_list_extend ⟨_, e, rfl⟩ F.entry_list_extend (F.args_list_extend_2 _ _)
    (AutoSeq1.list_extend_list_list_0 l its.toArray n b its2.toArray n2 hlong (by rw [List.size_toArray]; omega) (by omega)) ⟨e, e2, ?_⟩
  refine ⟨.non, _, I.lset (its' := its ++ its2) hH e (by simp) (r.append r2) ?_, rfl, q⟩
  rw [List.length_append]
  omega

def rPop : V → List V → Hp → VK → Prop := fun x vs H Q => ∃ l xs y, x = .ref l ∧ vs = [] ∧ H l = some (.lst xs) ∧ xs[xs.length - 1]? = some y ∧ Q y (upd H l (.lst xs.dropLast))
theorem mt_pop : MtM X "list.pop" rPop := by
  intro pins s σ H x vs v us Q I rx rv h
  obtain ⟨l, xs, y, rfl, rfl, hH, hy, q⟩ := h
  cases rx
  have hus := rv.zero
  subst hus
  obtain ⟨z, its, n, r, hl, e⟩ := I.lstM hH
  obtain ⟨u, hu, ru⟩ := r.get hy
  have hy' : its.toArray[its.toArray.size - 1]? = some u := by
    show its.toArray[its.length - 1]? = some u
    rw [← Array.getElem?_toList, ← hl]
    exact hu
  refine call_meets F.slot_list_pop ⟨_, e, rfl⟩ F.entry_list_pop (F.args_list_pop_1 _) (MeetsSeq.list_pop_last l its.toArray n u hy' (by rw [List.size_toArray]; omega)) ⟨e, ?_⟩
  refine ⟨y, _, I.lset (its' := its.dropLast) hH e ?_ r.dropLast ?_, ru, q⟩
  · show its.toArray.eraseIdxIfInBounds (its.toArray.size - 1) = its.dropLast.toArray
    rw [List.size_toArray, List.eraseIdxIfInBounds_toArray, erase_last]
  · rw [List.length_dropLast]
    omega

def rPopAt : V → List V → Hp → VK → Prop := fun x vs H Q => ∃ l xs i k y, x = .ref l ∧ vs = [.int i] ∧ H l = some (.lst xs) ∧ -(2 ^ 63) ≤ i ∧ i < 2 ^ 63 ∧ seqIndex? i xs.length = some k ∧ xs[k]? = some y ∧ Q y (upd H l (.lst (xs.eraseIdx k)))
theorem mt_popAt : MtM X "list.pop" rPopAt := by
  intro pins s σ H x vs v us Q I rx rv h
  obtain ⟨l, xs, i, k, y, rfl, rfl, hH, h1, h2, hk, hy, q⟩ := h
  cases rx
  obtain ⟨u, rfl, ru⟩ := rv.one
  obtain ⟨t, rfl⟩ := ru
  obtain ⟨z, its, n, r, hl, e⟩ := I.lstM hH
  obtain ⟨w, hw, rw'⟩ := r.get hy
  refine call_meets F.slot_list_pop ⟨_, e, rfl⟩ F.entry_list_pop (F.args_list_pop_2 _ _)
    (MeetsSeq.list_pop_at l its.toArray n i t k w (fitsIndex_both h1 h2) (by rw [List.size_toArray, ← hl]; exact hk) (by rw [← Array.getElem?_toList]; exact hw) (by rw [List.size_toArray]; omega)) ⟨e, ?_⟩
  refine ⟨y, _, I.lset (its' := its.eraseIdx k) hH e ?_ (r.eraseIdx k) ?_, rw', q⟩
  · show its.toArray.eraseIdxIfInBounds k = (its.eraseIdx k).toArray
    rw [List.eraseIdxIfInBounds_toArray]
  · have := len_erase xs k
    omega

def rReverse : V → List V → Hp → VK → Prop := fun x vs H Q => ∃ l xs, x = .ref l ∧ vs = [] ∧ H l = some (.lst xs) ∧ Q .non (upd H l (.lst xs.reverse))
theorem mt_reverse : MtM X "list.reverse" rReverse := by
  intro pins s σ H x vs v us Q I rx rv h
  obtain ⟨l, xs, rfl, rfl, hH, q⟩ := h
  cases rx
  have hus := rv.zero
  subst hus
  obtain ⟨z, its, n, r, hl, e⟩ := I.lstM hH
  refine call_meets F.slot_list_reverse ⟨_, e, rfl⟩ F.entry_list_reverse (F.args_list_reverse_1 _) (AutoSeq1.list_reverse_list_0 l its.toArray n (by rw [List.size_toArray]; omega)) ⟨e, ?_⟩
  refine ⟨.non, _, I.lset (its' := its.reverse) hH e (by simp) r.reverse ?_, rfl, q⟩
  rw [List.length_reverse]
  omega

def rClear : V → List V → Hp → VK → Prop := fun x vs H Q => ∃ l xs, x = .ref l ∧ vs = [] ∧ H l = some (.lst xs) ∧ Q .non (upd H l (.lst []))
theorem mt_clear : MtM X "list.clear" rClear := by
  intro pins s σ H x vs v us Q I rx rv h
  obtain ⟨l, xs, rfl, rfl, hH, q⟩ := h
  cases rx
  have hus := rv.zero
  subst hus
  obtain ⟨z, its, n, r, hl, e⟩ := I.lstM hH
  refine call_meets F.slot_list_clear ⟨_, e, rfl⟩ F.entry_list_clear (F.args_list_clear_1 _) (AutoSeq1.list_clear_list_0 l its.toArray n (by rw [List.size_toArray]; omega)) ⟨e, ?_⟩
  exact ⟨.non, _, I.lset (its' := []) (ys := []) hH e rfl .nil (Nat.zero_le _), rfl, q⟩

/-! ### list + list, list += list, list * int -/
def rCat : R2 := fun x y H Q => ∃ l b xs zs, x = .ref l ∧ y = .ref b ∧ H l = some (.lst xs) ∧ H b = some (.lst zs) ∧ xs.length + zs.length ≤ sizeLine ∧ ∀ p, H p = none → Q (.ref p) (upd H p (.lst (xs ++ zs)))
theorem op_cat : OpR X (binaryOp .Add) rCat := by
  intro pins s σ H x y v u Q I rx ry h
  obtain ⟨l, b, xs, zs, rfl, rfl, hH, hB, hz, q⟩ := h
  cases rx
  cases ry
  obtain ⟨z, its, n, r, hl, e⟩ := I.lstM hH
  obtain ⟨z2, its2, n2, r2, hl2, e2⟩ := I.lstM hB
  refine PySem.P.add_list e e2 ?_ (by rw [List.size_toArray, List.size_toArray]; omega)
  have ea : its.toArray ++ its2.toArray = (its ++ its2).toArray := by simp
  rw [ea]
  exact ⟨.ref _, _, I.lnew (t' := s.toks) (r.append r2) (by rw [List.length_append]; omega), rfl, q _ I.fresh⟩
/-- a list times an int (a negative one is nothing) -/
def rRep : R2 := fun x y H Q => ∃ l k xs, x = .ref l ∧ y = .int k ∧ H l = some (.lst xs) ∧ -(2 ^ 63) ≤ k ∧ k < 2 ^ 63 ∧ xs.length * k.toNat ≤ sizeLine ∧
  ∀ p, H p = none → Q (.ref p) (upd H p (.lst (List.replicate k.toNat xs).flatten))
theorem len_rep {α : Type} (xs : List α) (k : Nat) : (List.replicate k xs).flatten.length = k * xs.length := by
  induction k with
  | zero => simp
  | succ k ih => rw [List.replicate_succ, List.flatten_cons, List.length_append, ih, Nat.succ_mul, Nat.add_comm]
theorem op_rep : OpR X (binaryOp .Mult) rRep := by
  intro pins s σ H x y v u Q I rx ry h
  obtain ⟨l, k, xs, rfl, rfl, hH, h1, h2, hz, q⟩ := h
  cases rx
  obtain ⟨t, rfl⟩ := ry
  obtain ⟨z, its, n, r, hl, e⟩ := I.lstM hH
  have hlen : its.toArray.size * k.toNat ≤ sizeLine := by rw [List.size_toArray, ← hl]; exact hz
  have hcap : ¬ its.toArray.size * k.toNat > (2 ^ 63 - 1) / 8 := by
    have : (sizeLine : Nat) ≤ (2 ^ 63 - 1) / 8 := by decide
    omega
  have hfit : ¬ (!Builtin.List.listFitsIndex k) = true := by
    rw [fitsIndex_both h1 h2]
    exact Bool.false_ne_true
  have hlong : ¬ Builtin.List.listTooLong (its.toArray.size * k.toNat) = true := by
    rw [notLongL hlen]
    exact Bool.false_ne_true
  have hnew : List.foldl (fun x1 x2 => x1 ++ x2) #[] (List.replicate (if its.toArray.isEmpty = true then 0 else k.toNat) its.toArray) = (List.replicate k.toNat its).flatten.toArray := by
    have f0 : ∀ m : Nat, List.foldl (fun x1 x2 => x1 ++ x2) #[] (List.replicate m its.toArray) = (List.replicate m its).flatten.toArray := fun m => by
      have := foldl_rep its m []
      rw [List.nil_append] at this
      exact this
    rw [f0]
    cases its with
    | nil => simp
    | cons a r' => rw [if_neg (by simp)]
  refine wpAny_binaryOp_repeat_ref (T := "list") (U := "int") (by decide) ⟨_, e, rfl⟩ (fun s' => typeIs_int s' k t) noFill_list_mul F.fills_int_mul F.slot_int_rmul repeat_list F.slot_int_index.lookup
    (call_meets F.slot_int_rmul (typeIs_int s k t) F.entry_int_rmul (F.args_int_rmul_2 _ _) (int___rmul___int_list k t l its.toArray n)
      ⟨e, rfl, ⟨_, e, rfl⟩, call_meets F.slot_list_mul ⟨_, e, rfl⟩ F.entry_list_mul (F.args_list_mul_2 _ _) (AutoListH.list___mul___list_int_3 l its.toArray n k t hfit hcap hlong) ⟨e, ?_⟩⟩)
  rw [hnew]
  exact ⟨.ref _, _, I.lnew (t' := s.toks) (r.rep k.toNat) (by rw [len_rep, Nat.mul_comm]; exact hz), rfl, q _ I.fresh⟩

/-! ### del xs[i] -/
theorem del_list {pins : List (Addr × Obj)} {s : Shared} {σ : St} {H : Hp} {l : Addr} {xs : List V} {i : Int} {t : Tok} {k : Nat} {Q : Unit → Shared → Prop} (I : Inv X pins σ H s) (hH : H l = some (.lst xs))
    (h1 : -(2 ^ 63) ≤ i) (h2 : i < 2 ^ 63) (hk : seqIndex? i xs.length = some k) (h : ∀ s', Inv X pins σ (upd H l (.lst (xs.eraseIdx k))) s' → Q () s') :
    wpAny (model X.prog X.w) X.A (delItem (.ref l) (.int i t)) Q X.xe s := by
  obtain ⟨z, its, n, r, hl, e⟩ := I.lstM hH
  refine PySem.P.delItem_list (k := k) e (fitsIndex_both h1 h2) (by rw [List.size_toArray, ← hl]; exact hk) (h _ ?_) (by rw [List.size_toArray]; omega)
  refine I.lset (its' := its.eraseIdx k) (t' := s.toks) hH e ?_ (r.eraseIdx k) ?_
  · show its.toArray.eraseIdxIfInBounds k = (its.eraseIdx k).toArray
    rw [List.eraseIdxIfInBounds_toArray]
  · have := len_erase xs k
    omega
end

/-! ### xs[a:b] = ys -/
section
variable {prog : Program} {w : World} {A : Around} {E : Value → Shared → Prop} {s : Shared}
theorem splice_eq (its its2 : List Value) (a c : Nat) : its.toArray.extract 0 a ++ its2.toArray ++ its.toArray.extract c its.toArray.size = (its.take a ++ its2 ++ its.drop c).toArray := by
  apply Array.toList_inj.mp
  first
    | (simp
       exact List.take_of_length_le (by simp))
    | simp [List.take_of_length_le]
    | simp
theorem bounds_run {a c n : Nat} (hac : a ≤ c) (hc : c ≤ n) : sliceBounds (some (a : Int)) (some (c : Int)) none n = ((a : Int), (c : Int), 1) := by
  simp only [sliceBounds, Option.getD_none]
  have h1 : ¬ ((a : Int) < 0) := by omega
  have h2 : ¬ ((c : Int) < 0) := by omega
  simp only [h1, h2, if_false, show (1 : Int) > 0 by decide, if_true]
  congr 1
  · omega
  · congr 1; omega
set_option maxRecDepth 100000 in
/-- list.__setitem__ with a slice of step one and another list -/
theorem setItem_slice {l b sl : Addr} {items new : Array Value} {n n2 : Nat} {vl vu : Value} {a c : Nat} {Q : Unit → Shared → Prop}
    (e : s.heap.get? l = some { cls := .type "list", data := .seq items n }) (e2 : s.heap.get? b = some { cls := .type "list", data := .seq new n2 }) (hne : l ≠ b)
    (hs : s.heap.IsSliceOf sl vl vu .none) (pl : IsPart vl (some (a : Int))) (pu : IsPart vu (some (c : Int))) (hac : a ≤ c) (hc : c ≤ items.size)
    (hsz : items.size + new.size ≤ sizeLine) (h : Q () { s with heap := s.heap.update l (Obj.mapSeq fun xs => xs.extract 0 a ++ new ++ xs.extract c xs.size) }) :
    wpAny (model prog w) A (setItem (.ref l) (.ref sl) (.ref b)) Q E s := by
  have hl : s.heap.IsList l items := PySem.IsL.isList e
  have hb : s.heap.IsList b new := PySem.IsL.isList e2
  obtain ⟨os, hos, hcs, hds⟩ := id hs
  have hTs : s.TypeIs (.ref sl) "slice" := ⟨os, hos, hcs⟩
  have hstep : ¬ ((rawPart none == rawInt 0) = true) := Bool.false_ne_true
  have hsame : Builtin.List.listSameRef (.ref l) (.ref b) = false := by
    unfold Builtin.List.listSameRef
    exact beq_eq_false_iff_ne.mpr hne
  have hmax : (max (a : Int) (c : Int)).toNat = c := by omega
  have hz' : ((fun xs : Array Value => xs.extract 0 a ++ new ++ xs.extract c xs.size) items).size ≤ sizeLine + 1 := by
    simp only [Array.size_append, Array.size_extract]
    omega
  unfold setItem
  try with_reducible refine wpAny_holding ?_
  first | refine wpAny_bind (wpAny_pure ?_) | skip
  refine wpAny_bind (wpAny_sequenceKey hl.typeIs (by decide) ?_)
  refine wpAny_bind (wpAny_callSpecial?_slot (name := Str.ofString "__setitem__") hl.typeIs slot_list_setitem
    (wpAny_call_entry slot_list_setitem hl.typeIs entry_list_setitem ?_ (args_list_setitem _ _ _)))
  show wpAny _ _ (Builtin.List.listSubscript? (.ref sl) >>= _) _ _ s
  refine wpAny_bind ?_
  unfold Builtin.List.listSubscript?
  refine wpAny_bind (wpAny_specialOf hTs slice_no_index ?_)
  simp only [Option.isNone_none, if_true]
  refine wpAny_pure ?_
  show wpAny _ _ (typeOf (.ref sl) >>= _) _ _ s
  refine wpAny_bind (wpAny_typeOf hTs ?_)
  first
    | rw [if_neg (by decide)]
    | refine PySem.W.KFB.if_not (by decide) ?_
  rw [listSliceParts_eq]
  refine wpAny_bind (wpAny_bind (wpAny_field hos hds (x := .none) rfl (wpAny_bind (wpAny_listPart .none ?_))))
  rw [if_neg hstep]
  refine wpAny_bind (wpAny_field hos hds (x := vl) rfl (wpAny_bind (wpAny_listPart pl ?_)))
  refine wpAny_bind (wpAny_field hos hds (x := vu) rfl (wpAny_bind (wpAny_listPart pu (wpAny_pure ?_))))
  first
    | simp only [hsame, Bool.false_eq_true, if_false]
    | refine PySem.W.KFB.if_not hsame ?_
    | (dsimp only
       rw [if_neg (by rw [hsame]; exact Bool.false_ne_true)])
  refine wpAny_bind (m := Builtin.List.listAllItems (.ref b) "must assign iterable to extended slice") ?_
  unfold Builtin.List.listAllItems
  refine wpAny_bind (wpAny_typeOf hb.typeIs ?_)
  first
    | refine PySem.W.KFB.if_so (by decide) ?_
    | rw [if_pos (by decide)]
    | simp only [beq_self_eq_true, Bool.true_or, if_true]
  unfold Builtin.List.listItems
  refine wpAny_bind (wpAny_seqItems e2 rfl (wpAny_pure ?_))
  refine wpAny_bind (wpAny_bind (wpAny_seqItems e rfl (wpAny_pure ?_)))
  refine wpAny_bind (wpAny_of_eq ((sliceIndices_raw (some (a : Int)) (some (c : Int)) none items.size (by simp)).trans (congrArg (pure : Int × Int × Int → Sem (Int × Int × Int)) (bounds_run hac hc))) ?_)
  show wpAny _ _ (if ((1 : Int) == 1) = true then _ else _) _ _ s
  rw [if_pos (by decide)]
  refine wpAny_bind (wpAny_rule ?_)
  first
    | simp only [notLongL hsz, Bool.false_eq_true, if_false]
    | refine PySem.W.KFB.if_not (notLongL hsz) ?_
  first | refine wpAny_bind (wpAny_pure ?_) | skip
  show wpAny _ _ (updateSeq l (fun xs => xs.extract 0 ((a : Int)).toNat ++ new ++ xs.extract (max (a : Int) (c : Int)).toNat xs.size) >>= _) _ _ s
  rw [hmax, Int.toNat_natCast]
  refine wpAny_bind (wpAny_updateSeq (hz := Nat.le_trans (Nat.le_add_right _ _) hsz) (_hz' := hz') e rfl ?_)
  refine wpAny_bind (wpAny_letGo ?_)
  first
    | exact wpAny_bind (wpAny_pure (wpAny_pure ⟨.none, rfl, wpAny_pure h⟩))
    | exact wpAny_pure ⟨.none, rfl, wpAny_pure h⟩
end

section
variable {X : Cx}
/-- xs[a:c] = ys of another list, at the value level: sl is the slice object that was just made -/
theorem set_slice {pins : List (Addr × Obj)} {s : Shared} {σ : St} {H : Hp} {l b sl : Addr} {xs ys : List V} {a c : Int} {vl vu : Value} {Q : Unit → Shared → Prop} (I : Inv X pins σ H s)
    (hH : H l = some (.lst xs)) (hB : H b = some (.lst ys)) (hne : l ≠ b) (hs : s.heap.IsSliceOf sl vl vu .none) (ra : RelV (.int a) vl) (rc : RelV (.int c) vu) (h0 : 0 ≤ a) (hac : a ≤ c) (hc : c ≤ xs.length)
    (hz : xs.length + ys.length ≤ sizeLine) (h : ∀ s', Inv X pins σ (upd H l (.lst (xs.take a.toNat ++ ys ++ xs.drop c.toNat))) s' → Q () s') :
    wpAny (model X.prog X.w) X.A (setItem (.ref l) (.ref sl) (.ref b)) Q X.xe s := by
  obtain ⟨ta, rfl⟩ := ra
  obtain ⟨tc, rfl⟩ := rc
  obtain ⟨z, its, n, r, hl, e⟩ := I.lstM hH
  obtain ⟨z2, its2, n2, r2, hl2, e2⟩ := I.lstM hB
  obtain ⟨a', rfl⟩ := Int.eq_ofNat_of_zero_le h0
  obtain ⟨c', rfl⟩ := Int.eq_ofNat_of_zero_le (Int.le_trans h0 hac)
  simp only [Int.toNat_natCast] at h
  refine setItem_slice (a := a') (c := c') e e2 hne hs (.int _ _) (.int _ _) (by omega) (by rw [List.size_toArray]; omega) (by rw [List.size_toArray, List.size_toArray]; omega) (h _ ?_)
  refine I.lset (its' := its.take a' ++ its2 ++ its.drop c') (t' := s.toks) hH e ?_ (Vals.append (Vals.append (r.take _) r2) (r.drop _)) ?_
  · exact splice_eq its its2 a' c'
  · rw [List.length_append, List.length_append, List.length_take, List.length_drop]
    omega
end
end L2

namespace Att
open PySem PySem.W PySem.Calls PyProof.Rows

/-! ### the script -/
theorem ints_of_wellAll {P : Params} {h : Heap} : ∀ (ns : List Int) (vs : List Value), WellAll P h vs (ns.map WData.int) → IntsAre vs ns := by
  intro ns
  induction ns with
  | nil =>
    intro vs w
    rw [List.map_nil] at w
    cases w
    exact .nil
  | cons n ns ih =>
    intro vs w
    rw [List.map_cons] at w
    cases w with
    | cons a b =>
      cases a
      exact .cons _ _ (ih _ b)

theorem script_of {l : OpenLaw} {n : Nat} (hn : l.most = some n) {P : Params} {h : Heap} {args : List WData} {vals : List Value}
    (hpre : l.row.toRowW.claim.pre args = true) (hwl : WellAll P h vals args) :
    ∃ a vs ns, vals = [Value.ref a] ∧ args = [WData.list (ns.map WData.int)] ∧ h.get? a = some { cls := .type "list", data := .seq vs.toArray } ∧ IntsAre vs ns ∧ ns.length ≤ n := by
  have hsh : WShape.hasAll [] args [.list .int] = true := (pre_splitW hpre).1
  have hc : l.pre.holds [] { args := args } = true := (pre_splitW hpre).2
  obtain ⟨d, r, rfl, h1, h2⟩ := hasAllW_cons hsh
  obtain rfl := hasAllW_nil h2
  obtain ⟨xs, rfl, h3⟩ := hasW_list h1
  obtain ⟨ns, rfl⟩ := items_int h3
  have hlen : ns.length ≤ n := by
    unfold OpenLaw.pre at hc
    have h4 : (WTm.not (.lt (.lit (.int (n : Int))) (.len (.arg 0)))).holds [] { args := [.list (ns.map .int)] } = true := by
      have h4 := (holds_andW hc).1
      rw [hn] at h4
      exact h4
    have h5 := condW_of h4 (w_not (w_lt w_lit (w_len_list (w_arg rfl))))
    rw [List.length_map] at h5
    refine Nat.le_of_not_lt fun q => ?_
    have q' : (n : Int) < ((ns.length : Nat) : Int) := by omega
    first
      | (rw [decide_eq_true q'] at h5; exact absurd h5 (by decide))
      | (simp at h5; omega)
  cases hwl with
  | cons w1 w2 =>
    cases w2
    cases w1 with
    | list ho hall => exact ⟨_, _, ns, rfl, rfl, ho, ints_of_wellAll ns _ hall, hlen⟩

theorem post_true (l : OpenLaw) (args : List WData) : l.row.toRowW.claim.post args (.bool true) args = true :=
  postW_of (r := l.row.toRowW) (X := (true == true))
    (show WShape.has [] (.bool true) .bool = true by first | rfl | decide | simp [WShape.has, WShape.arms, WShape.armsAll])
    (show (WTm.eq .res (.lit (.bool true))).value [] { args := args, res := some (.bool true), after := args } = some (.bool (true == true)) from w_eq_bool (w_res rfl) w_lit) rfl

/-! ### the attachment: holds_open's last premise (the goal 'hc' behind k_head) from a wpAny of the law's body -/
theorem attach {l : OpenLaw} {n : Nat} {q : Program} {loose : List Str} {XP : (Str → Option Value) → Heap → Prop} {YP : World → Heap → Prop} {d : DefRec} {x : Str}
    (hn : l.most = some n) (hdf : d.params.defaults = [])
    (hbind : ∀ pm cd doc v : Value, bindArgs (docDef d.name d.params d.body d.scope pm cd doc) ⟨[v], []⟩ = pure [(x, v)])
    (hx : d.scope.names.lookup x = some .local ∨ d.scope.names.lookup x = some .cell)
    (hk : d.scope.kind = .function) (hco : d.scope.isCoroutine = false) (hgen : d.scope.isGenerator = false)
    (body : ∀ (w : World) (s₀ s₁ s : Shared) (mg mb : Str → Option Value) (fa : Addr) (o : Obj) (pm cd doc : Value) (a : Addr) (vs : List Value) (ns : List Int),
      Ground q loose [] XP w s₀ mg mb s₁.heap → YP w s₁.heap →
      s₁.heap.get? fa = some o → o.data = .func (docDef d.name d.params d.body d.scope pm cd doc) → s₁.heap.CodeRec cd d.name → mg d.name = some (.ref fa) →
      s₁.heap.get? a = some { cls := .type "list", data := .seq vs.toArray } → IntsAre vs ns → ns.length ≤ n →
      s.gens = #[] → s.os = s₁.os →
      Fr s₁.heap s₁.heap.objs.size s.heap (bindL (envOfC d.name d.scope s₁.heap.objs.size fa cd).kindOf [(x, .ref a)] fun _ => none) →
      Cl s₁.heap.objs.size (cellsFrom (s₁.heap.objs.size + 1) d.scope.names []) s.heap (bindC (envOfC d.name d.scope s₁.heap.objs.size fa cd).kindOf [(x, .ref a)] fun _ => none) →
      wpAny (model l.prog w) (callerA.deeper (envOfC d.name d.scope s₁.heap.objs.size fa cd)) (execs d.body (envOfC d.name d.scope s₁.heap.objs.size fa cd))
        (fun f s' => f = .ret (.bool true) ∧ OldK s₁.heap s'.heap ∧ s'.os = s₁.os ∧ AllBare s'.gens) (fun _ _ => False) s) :
    WalkO q loose XP YP l.row.toRowW d [] (fun f vs => PySem.call f vs) := by
  intro w s₀ s₁ mg mb G Y fa o pm cd doc dV kV ho hd hcd hD hmg hg args vals as hpre hlay hrd hwl hlo
  obtain rfl : dV = .none := Dflts.none hD hdf
  obtain rfl : kV = .none := Dflts.noKw hD
  obtain ⟨a, vs, ns, rfl, rfl, hobj, hints, hlen⟩ := script_of hn hpre hwl
  refine enter_call ?_
  refine call_cells_ret (o := o) (by rw [depth_caller]; decide) ho (fd_plain hd) G.T.nolimit hcd (hbind pm cd doc (.ref a)) (fun y hy => ?_) (fun h₁ tk F X => ?_) hco hgen hk
  · obtain rfl : y = (x, Value.ref a) := List.mem_singleton.mp hy
    rcases hx with e | e
    · exact .inl e
    · exact .inr ⟨e, cellsFrom_some _ _ _ (.inl e)⟩
  · refine wpAny_mono (body w s₀ s₁ { s₁ with heap := h₁, toks := tk } mg mb fa o pm cd doc a vs ns G Y ho (fd_plain hd) hcd hmg hobj hints hlen hg rfl F X) (fun f s' hq => ?_) (fun _ _ hq => hq)
    obtain ⟨rfl, h2, h3, h4⟩ := hq
    exact ⟨.inl ⟨.bool true, .bool true, [], rfl, fun _ => rfl, .bool true, post_true l _, fun _ => ⟨List.Pairwise.nil, fun _ hm => (nomatch hm)⟩⟩, h2, h3, h4⟩

/-- the same from a codeAny of the CALL (for a layer whose function contracts speak of calls) -/
theorem attach_call {l : OpenLaw} {n : Nat} {q : Program} {loose : List Str} {XP : (Str → Option Value) → Heap → Prop} {YP : World → Heap → Prop} {d : DefRec}
    (hn : l.most = some n) (hdf : d.params.defaults = [])
    (call : ∀ (w : World) (s₀ s₁ : Shared) (mg mb : Str → Option Value) (fa : Addr) (o : Obj) (pm cd doc : Value) (a : Addr) (vs : List Value) (ns : List Int),
      Ground q loose [] XP w s₀ mg mb s₁.heap → YP w s₁.heap →
      s₁.heap.get? fa = some o → o.data = .func (docDef d.name d.params d.body d.scope pm cd doc) → s₁.heap.CodeRec cd d.name → mg d.name = some (.ref fa) →
      s₁.heap.get? a = some { cls := .type "list", data := .seq vs.toArray } → IntsAre vs ns → ns.length ≤ n → s₁.gens = #[] →
      codeAny (model l.prog w) callerA (.call (.ref fa) ⟨[.ref a], []⟩) (fun r s' => r = .ok (.ret (.bool true)) ∧ OldK s₁.heap s'.heap ∧ s'.os = s₁.os ∧ AllBare s'.gens) s₁) :
    WalkO q loose XP YP l.row.toRowW d [] (fun f vs => PySem.call f vs) := by
  intro w s₀ s₁ mg mb G Y fa o pm cd doc dV kV ho hd hcd hD hmg hg args vals as hpre hlay hrd hwl hlo
  obtain rfl : dV = .none := Dflts.none hD hdf
  obtain rfl : kV = .none := Dflts.noKw hD
  obtain ⟨a, vs, ns, rfl, rfl, hobj, hints, hlen⟩ := script_of hn hpre hwl
  refine enter_call (codeAny_mono (call w s₀ s₁ mg mb fa o pm cd doc a vs ns G Y ho (fd_plain hd) hcd hmg hobj hints hlen hg) fun r s' hq => ?_)
  obtain ⟨rfl, h2, h3, h4⟩ := hq
  exact ⟨.inl ⟨.bool true, .bool true, [], rfl, fun _ => rfl, .bool true, post_true l _, fun _ => ⟨List.Pairwise.nil, fun _ hm => (nomatch hm)⟩⟩, h2, h3, h4⟩

/-- the same where the top left finished generators (o_head chose holds_openN): nothing may have changed at all and no generator may be left -/
theorem attachN {l : OpenLaw} {n : Nat} {q : Program} {loose : List Str} {XP : (Str → Option Value) → Heap → Prop} {YP : World → Heap → Prop} {d : DefRec} {x : Str}
    (hn : l.most = some n) (hdf : d.params.defaults = [])
    (hbind : ∀ pm cd doc v : Value, bindArgs (docDef d.name d.params d.body d.scope pm cd doc) ⟨[v], []⟩ = pure [(x, v)])
    (hx : d.scope.names.lookup x = some .local ∨ d.scope.names.lookup x = some .cell)
    (hk : d.scope.kind = .function) (hco : d.scope.isCoroutine = false) (hgen : d.scope.isGenerator = false)
    (body : ∀ (w : World) (s₀ s₁ s : Shared) (mg mb : Str → Option Value) (fa : Addr) (o : Obj) (pm cd doc : Value) (a : Addr) (vs : List Value) (ns : List Int),
      Ground q loose [] XP w s₀ mg mb s₁.heap → YP w s₁.heap →
      s₁.heap.get? fa = some o → o.data = .func (docDef d.name d.params d.body d.scope pm cd doc) → s₁.heap.CodeRec cd d.name → mg d.name = some (.ref fa) →
      s₁.heap.get? a = some { cls := .type "list", data := .seq vs.toArray } → IntsAre vs ns → ns.length ≤ n →
      s.gens = #[] → s.os = s₁.os →
      Fr s₁.heap s₁.heap.objs.size s.heap (bindL (envOfC d.name d.scope s₁.heap.objs.size fa cd).kindOf [(x, .ref a)] fun _ => none) →
      Cl s₁.heap.objs.size (cellsFrom (s₁.heap.objs.size + 1) d.scope.names []) s.heap (bindC (envOfC d.name d.scope s₁.heap.objs.size fa cd).kindOf [(x, .ref a)] fun _ => none) →
      wpAny (model l.prog w) (callerA.deeper (envOfC d.name d.scope s₁.heap.objs.size fa cd)) (execs d.body (envOfC d.name d.scope s₁.heap.objs.size fa cd))
        (fun f s' => f = .ret (.bool true) ∧ (∀ b o, s₁.heap.get? b = some o → s'.heap.get? b = some o) ∧ s'.os = s₁.os ∧ s'.gens = #[]) (fun _ _ => False) s) :
    WalkN q loose XP YP l.row.toRowW d [] (fun f vs => PySem.call f vs) := by
  intro w s₀ s₁ mg mb G Y fa o pm cd doc dV kV ho hd hcd hD hmg hg args vals as hpre hlay hrd hwl hlo
  obtain rfl : dV = .none := Dflts.none hD hdf
  obtain rfl : kV = .none := Dflts.noKw hD
  obtain ⟨a, vs, ns, rfl, rfl, hobj, hints, hlen⟩ := script_of hn hpre hwl
  refine enter_callW ?_
  refine call_cells_ret (o := o) (by rw [depth_caller]; decide) ho (fd_plain hd) G.T.nolimit hcd (hbind pm cd doc (.ref a)) (fun y hy => ?_) (fun h₁ tk F X => ?_) hco hgen hk
  · obtain rfl : y = (x, Value.ref a) := List.mem_singleton.mp hy
    rcases hx with e | e
    · exact .inl e
    · exact .inr ⟨e, cellsFrom_some _ _ _ (.inl e)⟩
  · refine wpAny_mono (body w s₀ s₁ { s₁ with heap := h₁, toks := tk } mg mb fa o pm cd doc a vs ns G Y ho (fd_plain hd) hcd hmg hobj hints hlen hg rfl F X) (fun f s' hq => ?_) (fun _ _ hq => hq)
    obtain ⟨rfl, h2, h3, h4⟩ := hq
    exact ⟨.inl ⟨.bool true, .bool true, [], rfl, fun _ => rfl, .bool true, post_true l _, fun _ => ⟨List.Pairwise.nil, fun _ hm => (nomatch hm)⟩⟩, h2, h3, h4⟩

/-! ### rules over ANY heap (no ledger) from facts about the written part K: the library's own take a ledger (News) for what they write -/
section
variable {prog : Program} {w : World} {A : Around} {E : Value → Shared → Prop} {s : Shared} {K : Frag}

/-- a def of the module, or a method (qual 'C.m'), entered: the frame is the next address; cells behind it -/
theorem call_fn {R : Result → Shared → Prop} {name qual : Str} {params : Arguments} {body : List Stmt} {scope : Scope} {dV kV doc pm cdv ct oc : Value} {an od : Option Addr} {osl : Array (Option Value)} {f : Addr} {args : Args} {binds : List (Str × Value)}
    (X : K.In s.heap) (hlim : s.heap.NoLimit) (ho : K.lookup f = some ⟨oc, od, .func (fnOf name qual params body scope dV kV doc pm an cdv ct), osl⟩) (hcd : codeIn K cdv qual = true) (hroom : A.depth < recursionLimit)
    (hbind : BindsTo s (fnOf name qual params body scope dV kV doc pm an cdv ct) args binds)
    (hkind : (binds.all fun y => scope.names.lookup y.1 == some .local || scope.names.lookup y.1 == some .cell) = true)
    (h : ∀ s₁, InCallC s s.heap.objs.size (bindL (envOfC qual scope s.heap.objs.size f cdv).kindOf binds fun _ => none) (cellsFrom (s.heap.objs.size + 1) scope.names [])
        (bindC (envOfC qual scope s.heap.objs.size f cdv).kindOf binds fun _ => none) s₁ →
      wpAny (model prog w) (A.deeper (envOfC qual scope s.heap.objs.size f cdv)) (execs body (envOfC qual scope s.heap.objs.size f cdv))
        (fun fl s' => R (.ok (.ret (match fl with | .ret v => v | _ => .none))) s')
        (fun e s' => wpAny (model prog w) (A.deeper (envOfC qual scope s.heap.objs.size f cdv)) (leaving (envOfC qual scope s.heap.objs.size f cdv) e) (fun _ s'' => R (.error e) s'') (fun e' s'' => R (.error e') s'') s') s₁)
    (hco : scope.isCoroutine = false) (hgen : scope.isGenerator = false) (hk : scope.kind = .function) : codeAny (model prog w) A (.call (.ref f) args) R s := by
  refine codeAny_call_function hroom (X _ _ ho) rfl hco hgen rfl (codeRec_of X hcd) (hbind _ _ _ _ ?_)
  refine wpAny_newFunctionEnv_cells hk (kindsX hkind _) fun env he s₁ x => ?_
  subst he
  exact ⟨hlim.keeps x.toInCall.keep, codeAny_func (h s₁ x)⟩

/-- C(..): dict at size, instance at size + 1, then __init__ -/
theorem make_obj {R : Result → Shared → Prop} {C fI : Addr} {rest : List Value} {kw : List (Str × Value)}
    (X : K.In s.heap) (hm : makesIn K C = true) (hi : findIn K (.ref C) "__init__" = some (some (.ref fI))) (hf : isFn K (.ref fI) = true)
    (h : codeAny (model prog w) (A.under (.builtin "type.__call__" ⟨.ref C :: rest, kw⟩)) (.call (.ref fI) ⟨.ref (s.heap.objs.size + 1) :: rest, kw⟩) (InitBack (s.heap.objs.size + 1) R)
      { s with heap := (s.heap.push emptyDict).push (instObj C s.heap.objs.size) }) : codeAny (model prog w) A (.call (.ref C) ⟨rest, kw⟩) R s := by
  obtain ⟨hh, g, d, t, os⟩ := s
  exact make_core (makes_of X hm) (looks_findIn X hi) (fun self => bind_fn X self (beq_iff_eq.mp hf)) (.inl rfl) h

/-- x.name where the instance's dict holds the name and the class does not -/
theorem get_field {x C : Addr} {ox : Obj} {es : List DictEntry} {n : Nat} {name : Str} {expr : Bool} {v : Value} {Q : Value → Shared → Prop}
    (X : K.In s.heap) (I : PySem.W.InstAt s.heap x ox C (some (dictOf es n))) (hg : plainGet K C name = true) (hh : hasDictIn K C = true) (ha : findIn K (.ref C) name = some none)
    (hl : getL name es = some (some v)) (hv : handedIn v = true) (h : Q v { s with toks := s.toks + 1 }) : wpAny (model prog w) A (getAttr (.ref x) name expr) Q E s :=
  get_value X I (plainGet_of hg).1 (findObj_own hh ha rfl hl) hv h

/-- x.m(..): the method found in the class -/
theorem get_method {x C f : Addr} {ox : Obj} {es : List DictEntry} {n : Nat} {name : Str} {pl : Sem Bool} {Q : Value × List Value → Shared → Prop}
    (X : K.In s.heap) (I : PySem.W.InstAt s.heap x ox C (some (dictOf es n))) (hg : plainGet K C name = true) (hf : findIn K (.ref C) name = some (some (.ref f))) (ht : isFn K (.ref f) = true)
    (hl : getL name es = some none) (h : Q (.ref f, [.ref x]) s) : wpAny (model prog w) A (getMethod (.ref x) name pl) Q E s :=
  method_fn X I (plainGet_of hg).1 (plainGet_of hg).2 hf (beq_iff_eq.mp ht) (by show (lookIn name (dictOf es n)).map _ = _; rw [lookIn_dict, hl]; rfl) h

/-! the whole heap as the ledger: makes every rule that writes through a ledger a rule over any heap -/
def noObjs (h : Heap) : Heap := { h with objs := #[] }
theorem noObjs_get (h : Heap) (b : Addr) : (noObjs h).get? b = none := by
  cases e : (noObjs h).get? b with
  | none => rfl
  | some o => exact absurd (Heap.lt_size e) (Nat.not_lt_zero _)
def ledger (h : Heap) (L d : Addr) : List (Addr × Obj) := (List.range h.objs.size).filterMap fun a => if a = L ∨ a = d then none else (h.get? a).map fun o => (a, o)
theorem mem_ledger {h : Heap} {L d a : Addr} {o : Obj} : (a, o) ∈ ledger h L d ↔ a ≠ L ∧ a ≠ d ∧ h.get? a = some o := by
  unfold ledger
  rw [List.mem_filterMap]
  constructor
  · rintro ⟨b, _, e⟩
    split at e
    · cases e
    · rename_i hb
      obtain ⟨o', ho, e'⟩ := Option.map_eq_some_iff.mp e
      cases e'
      exact ⟨fun q => hb (.inl q), fun q => hb (.inr q), ho⟩
  · rintro ⟨n1, n2, ho⟩
    refine ⟨a, List.mem_range.mpr (Heap.lt_size ho), ?_⟩
    rw [if_neg (show ¬ (a = L ∨ a = d) from fun q => q.elim n1 n2), ho] <;> rfl
theorem news_ledger {h : Heap} {L d : Addr} {od : Obj} (hne : d ≠ L) (ho : h.get? d = some od) : News (noObjs h) L h ([] ++ (d, od) :: ledger h L d) := by
  rintro ⟨a, o⟩ hp
  rcases List.mem_cons.mp hp with e | hp
  · cases e
    exact ⟨ho, hne, noObjs_get _ _⟩
  · obtain ⟨n1, n2, e⟩ := mem_ledger.mp hp
    exact ⟨e, n1, noObjs_get _ _⟩
theorem fr_all {h : Heap} {L : Addr} {m : Str → Option Value} (n : h.Ns L m) : Fr (noObjs h) L h m :=
  ⟨n, fun b o e => (by rw [noObjs_get] at e; cases e), Nat.zero_le _⟩
/-- Upd of the head entry (for append_K, setItem_K ..) -/
theorem upd_ledger {h : Heap} {L d : Addr} {o o' : Obj} : Upd d o o' ((d, o) :: ledger h L d) ((d, o') :: ledger h L d) :=
  .head fun ⟨_, _⟩ hp => (mem_ledger.mp hp).2.1

/-- x.name = v over any heap: L is any namespace of the heap (the frame's, say): its map stays, its object is not told; all else but the dict stays -/
theorem set_field {x C dx L : Addr} {ox : Obj} {m : Str → Option Value} {es es' : List DictEntry} {n n' : Nat} {name : Str} {v : Value} {Q : Unit → Shared → Prop}
    (X : K.In s.heap) (I : PySem.W.InstAt s.heap x ox C (some (dictOf es n))) (hd : ox.dict = some dx) (hL : s.heap.Ns L m) (hne : dx ≠ L)
    (hs : findIn K (.ref C) "__setattr__" = some (some (.builtin "object.__setattr__"))) (hp : plainOver K C = true) (ht : takerIn K C name = some none) (hh : hasDictIn K C = true) (hl : (getL name es).isSome = true)
    (e : (putL name (PyData.keyHash w.params name) (.str name (s.toks + 1)) v es, putN name es n) = (es', n')) (hz : es'.length ≤ 1000)
    (h : ∀ h' : Heap, h'.Ns L m → h'.get? dx = some (dictOf es' n') → (∀ b o, b ≠ dx → b ≠ L → s.heap.get? b = some o → h'.get? b = some o) → Q () { s with heap := h', toks := s.toks + 2 }) :
    wpAny (model prog w) A (setAttr (.ref x) name v) Q E s := by
  obtain ⟨e1, e2⟩ := Prod.mk.inj e
  have hdx : s.heap.get? dx = some (dictOf es n) := by
    have := I.dict
    rw [hd] at this
    exact this
  refine set_plain X I hs (osa_dict (s := { s with toks := s.toks + 1 }) (h₀ := noObjs s.heap) (L := L) (m := m) (od := dictOf es n) (od' := dictOf es' n') (es := es') (n := n') (pre := []) (post := ledger s.heap L dx)
    (fr_all hL) (news_ledger hne hdx) X I hd hp ht hh hl (fun _ q => nomatch q) (fun ⟨_, _⟩ q => (mem_ledger.mp q).2.1) (by rw [putName_dict, e1, e2]) rfl hz fun h' F' N' => ?_)
  exact h h' F'.ns (N'.get (List.Mem.head _)) fun b o n1 n2 ho => N'.get (List.Mem.tail _ (mem_ledger.mpr ⟨n2, n1, ho⟩))
end
end Att

namespace L2
open PySem PySem.Spec PyProof.Rows

theorem vals_ints : ∀ {vs : List Value} {ns : List Int}, IntsAre vs ns → Vals (ns.map V.int) vs
  | _, _, .nil => .nil
  | _, _, .cons n t h => .cons ⟨t, rfl⟩ (vals_ints h)

/-- nothing is tracked but the script, known to the object (or it is an object of the module) -/
def Only (H : Hp) : Prop := ∀ b, H b = none ∨ ∃ o xs, H b = some (.frz o (.lst xs))

/-- THE HEAD: the law's promise, at the heap behind the top. F, the promise of the law's def, may use that base is part of the heap (so K.In base, base.Ns mainGlobals mg stand in Mod) -/
theorem law_call {P : Program} {w : World} {K : PySem.W.Frag} {mg mb : Str → Option Value} {CX : CXT} {k : Nat} {fa a : Addr} {fd : FuncData} {x : Str} {sp : Sp} {s₁ : Shared} {vs : List Value} {ns : List Int}
    (KX : K.In s₁.heap) (hns : s₁.heap.Ns mainGlobals mg) (hb : s₁.heap.Ns builtinsNs mb) (hbb : ∀ x : Str, x ≠ "__name__" → mb x = bootBuiltins x) (hlim : s₁.heap.NoLimit) (hg : s₁.gens = #[])
    (ha : s₁.heap.get? a = some { cls := .type "list", data := .seq vs.toArray }) (hi : IntsAre vs ns) (hl : ns.length ≤ sizeLine) (hr : Room k callerA)
    (F : ∀ base : Heap, K.In base → base.Ns mainGlobals mg → FnOk P w K mg base CX k fa fd [x] sp) (hbind : ∀ (s : Shared) (u : Value), BindsTo s fd ⟨[u], []⟩ [(x, u)])
    (hsp : ∀ H : Hp, Only H → SqL K H a (ns.map V.int) → sp [.ref a] H (fun v _ => v = .bl true) fun _ _ _ => False)
    (hCX : ∀ H e s', CX [] H s₁ (fun _ _ _ => False) e s' → False) :
    codeAny (model P w) callerA (.call (.ref fa) ⟨[.ref a], []⟩) (fun r s' => r = .ok (.ret (.bool true)) ∧ OldK s₁.heap s'.heap ∧ s'.os = s₁.os ∧ AllBare s'.gens) s₁ := by
  have rv := vals_ints hi
  have lenV := hi.length
  -- from an abstract heap in which nothing but the script may be tracked
  have core : ∀ H : Hp, Only H → SqL K H a (ns.map V.int) → HOk P w H s₁.heap → (∀ b, H b ≠ none → b = a) → (H a ≠ none → K.lookup a = none) →
      codeAny (model P w) callerA (.call (.ref fa) ⟨[.ref a], []⟩) (fun r s' => r = .ok (.ret (.bool true)) ∧ OldK s₁.heap s'.heap ∧ s'.os = s₁.os ∧ AllBare s'.gens) s₁ := by
    intro H hO hS hok hA hK
    have base_of : ∀ {b : Addr} {o : Obj}, s₁.heap.get? b = some o → H b = none → (hidT s₁.heap H).get? b = some o := fun e n => hidT_get e n
    have noA : ∀ {b : Addr} {o : Obj} {es : Array DictEntry} {ep : Nat}, s₁.heap.get? b = some o → o.data = .dict es ep → H b = none := fun {b o es ep} e d => by
      cases q : H b with
      | none => rfl
      | some u =>
        have e' : b = a := hA b (by rw [q]; simp)
        subst e'
        rw [ha] at e; cases e
        have d' : Data.seq vs.toArray _ = Data.dict es ep := d
        cases d'
    have nsK : ∀ {b : Addr} {m : Str → Option Value}, s₁.heap.Ns b m → (hidT s₁.heap H).Ns b m := fun {b m} ⟨o, es, ep, e, d, r⟩ => ⟨o, es, ep, base_of e (noA e d), d, r⟩
    have hKb : K.In (hidT s₁.heap H) := fun b o e => base_of (KX b o e) (by
      cases q : H b with
      | none => rfl
      | some u =>
        have e' : b = a := hA b (by rw [q]; simp)
        subst e'
        rw [hK (by rw [q]; simp)] at e; cases e)
    have hM : Mod K mg (hidT s₁.heap H) := ⟨hKb, nsK hns, ⟨mb, nsK hb, hbb⟩, let ⟨mc, h1, h2⟩ := hlim; ⟨mc, nsK h1, h2⟩⟩
    have e0 : Env0 P w K mg (hidT s₁.heap H) callerA [] s₁ H := ⟨rfl, hM, fun b o e => of_hidT e, Nat.le_of_eq (hidT_size _ _), trivial, fun b hb => absurd (show b ∈ ([] : List Addr) from hb) (by simp), hok, .of_eq hg⟩
    refine codeAny_mono ((F _ hKb (nsK hns)).run callerA [] s₁ H ⟨[.ref a], []⟩ [.ref a] [.ref a] _ _ hr e0 (hbind s₁ (.ref a)) (.cons rfl .nil) (hsp H hO hS)) fun r s' h => ?_
    cases r with
    | error e => exact (hCX H e s' h).elim
    | ok fl =>
      cases fl with
      | next => exact False.elim h
      | brk => exact False.elim h
      | cont => exact False.elim h
      | ret u =>
        obtain ⟨v, H', os, bare, un, hok', r', q⟩ := h
        have q' : v = .bl true := q
        subst q'
        obtain rfl : u = Value.bool true := r'
        refine ⟨rfl, OldK.of_keep fun b o e => ?_, os, bare⟩
        cases q : H b with
        | none => exact un.keep b o e q (by intro z; exact absurd (show b ∈ ([] : List Addr) from z) (by simp)) (by simp)
        | some u =>
          rcases hO b with z | ⟨ob, xs, z⟩
          · rw [q] at z; cases z
          · have z2 := un.frzs b ob _ z
            obtain ⟨e1, _⟩ := hok b _ z
            obtain ⟨e2, _⟩ := hok' b _ z2
            rw [e] at e1; cases e1
            exact e2
  cases hk : K.lookup a with
  | some o =>
    -- the script is one of the module's own objects
    have e := KX a o hk
    rw [ha] at e
    cases e
    refine core (fun _ => none) (fun _ => .inl rfl) (.inr ⟨_, vs.toArray, _, hk, rfl, rfl, rfl, by rw [List.size_toArray, lenV]; exact hl, by simpa using rv⟩) (fun b u z => by have z' : (none : Option HO) = some u := z; cases z') (fun b z => absurd rfl z) fun z => absurd rfl z
  | none =>
    refine core (fun b => if b = a then some (.frz { cls := .type "list", data := .seq vs.toArray } (.lst (ns.map V.int))) else none) (fun b => ?_) (.inl (.inr ⟨{ cls := .type "list", data := .seq vs.toArray }, if_pos rfl⟩)) (fun b u z => ?_) (fun b z => ?_) fun _ => hk
    · by_cases hb : b = a
      · exact .inr ⟨_, _, if_pos hb⟩
      · exact .inl (if_neg hb)
    · by_cases hb : b = a
      · have z' := (if_pos hb).symm.trans z
        cases z'
        subst hb
        exact ⟨ha, by rw [List.length_map]; exact hl, vs, _, rv, ha⟩
      · have z' := (if_neg hb).symm.trans z
        cases z'
    · by_cases hb : b = a
      · exact hb
      · exact absurd (if_neg hb) z
end L2

namespace L2
open PySem PySem.Spec PyProof.Rows

abbrev KOf {K : PySem.W.Frag} {h : Heap} (_ : K.In h) : PySem.W.Frag := K

/-- the goal that k_head leaves (case hc), from the law's promise. F gives the function object fd (K's own) once, then the promise over every base -/
theorem walk_of {l : PySem.W.OpenLaw} {n k : Nat} {q : Program} {loose : List Str} {XP : (Str → Option Value) → Heap → Prop} {YP : World → Heap → Prop} {d : DefRec} {K : Params → PySem.W.Frag} {CX : World → CXT} {sp : World → Sp} {x : Str}
    (hn : l.most = some n) (hn2 : n ≤ sizeLine) (hdf : d.params.defaults = []) (hr : Room k callerA)
    (hY : ∀ (w : World) (h : Heap), YP w h → (K w.params).In h)
    (F : ∀ (w : World) (mg : Str → Option Value) (fa : Addr) (h : Heap), (K w.params).In h → h.Ns mainGlobals mg → mg d.name = some (.ref fa) →
      ∃ fd : FuncData, (∀ (s : Shared) (u : Value), BindsTo s fd ⟨[u], []⟩ [(x, u)]) ∧
        ∀ base : Heap, (K w.params).In base → base.Ns mainGlobals mg → FnOk l.prog w (K w.params) mg base (CX w) k fa fd [x] (sp w))
    (hsp : ∀ (w : World) (H : Hp) (a : Addr) (ns : List Int), ns.length ≤ n → Only H → SqL (K w.params) H a (ns.map V.int) → sp w [.ref a] H (fun v _ => v = .bl true) fun _ _ _ => False)
    (hCX : ∀ (w : World) (H : Hp) (s : Shared) (e : Value) (s' : Shared), CX w [] H s (fun _ _ _ => False) e s' → False) :
    PySem.W.WalkO q loose XP YP l.row.toRowW d [] (fun f vs => PySem.call f vs) := by
  refine Att.attach_call hn hdf fun w s₀ s₁ mg mb fa o pm cd doc a vs ns G Y ho hd hcd hmg hobj hints hlen hg => ?_
  have KX := hY w _ Y
  obtain ⟨fd, hb, hF⟩ := F w mg fa _ KX G.T.g hmg
  exact law_call KX G.T.g G.T.b G.T.builtins G.T.nolimit hg hobj hints (Nat.le_trans hlen hn2) hr hF hb (fun H hO hS => hsp w H a ns hlen hO hS) fun H e s' => hCX w H s₁ e s'
/-- the same where the promise hangs on the written part alone: (sp := My.sp_law), no hole under a binder -/
theorem walk_ofK {l : PySem.W.OpenLaw} {n k : Nat} {q : Program} {loose : List Str} {XP : (Str → Option Value) → Heap → Prop} {YP : World → Heap → Prop} {d : DefRec} {K : Params → PySem.W.Frag} {CX : CXT} {sp : PySem.W.Frag → Sp} {x : Str}
    (hn : l.most = some n) (hn2 : n ≤ sizeLine) (hdf : d.params.defaults = []) (hr : Room k callerA)
    (hY : ∀ (w : World) (h : Heap), YP w h → (K w.params).In h)
    (F : ∀ (w : World) (mg : Str → Option Value) (fa : Addr) (h : Heap), (K w.params).In h → h.Ns mainGlobals mg → mg d.name = some (.ref fa) →
      ∃ fd : FuncData, (∀ (s : Shared) (u : Value), BindsTo s fd ⟨[u], []⟩ [(x, u)]) ∧
        ∀ base : Heap, (K w.params).In base → base.Ns mainGlobals mg → FnOk l.prog w (K w.params) mg base CX k fa fd [x] (sp (K w.params)))
    (hsp : ∀ (K : PySem.W.Frag) (H : Hp) (a : Addr) (ns : List Int), ns.length ≤ n → Only H → SqL K H a (ns.map V.int) → sp K [.ref a] H (fun v _ => v = .bl true) fun _ _ _ => False)
    (hCX : ∀ (H : Hp) (s : Shared) (e : Value) (s' : Shared), CX [] H s (fun _ _ _ => False) e s' → False) :
    PySem.W.WalkO q loose XP YP l.row.toRowW d [] (fun f vs => PySem.call f vs) :=
  walk_of (K := K) (CX := fun _ => CX) (sp := fun w => sp (K w.params)) hn hn2 hdf hr hY F (fun w H a ns h1 h2 h3 => hsp (K w.params) H a ns h1 h2 h3) fun _ H s e s' => hCX H s e s'
end L2

/- THE LAST THEOREM (shape; LID, My.* are yours):
   My.Adr: a structure of the addresses that your layer names (classes, functions); My.Txt K t: a structure (Prop) of the equations over K;
   My.txt_mk : {K} {implicit addresses ..} (e1 : nsIn K mainGlobals "law" = some (some (.ref f))) (e2 : K.lookup f = some ⟨oc, od, .func (fnOf "law" "law" params body scope dV kV doc pm an cdv ct), sl⟩) (e3 : codeIn K cdv "law" = true) .. : ∃ t, My.Txt K t

set_option maxRecDepth 100000 in
set_option maxHeartbeats 0 in
theorem PySem.Challenge.cw_LID_holds : PySem.Challenge.rw_LID.Holds := by
  w_on; o_law; k_head; (case hw => w_witness2)
  k_fill
  refine L2.walk_of (l := PySem.Challenge.rw_LID) (n := 63) (k := 40) (x := "script") (CX := fun w => ..) (sp := fun _ => My.sp_law) rfl (by decide) rfl ⟨rfl, by decide, by decide⟩ (fun w h Y => PySem.W.kIn_of Y) ?F ?S ?C
  case F =>
    intro w mg fa h KX G hmg
    have T : ∃ t, My.Txt (L2.KOf KX) t := by
      dsimp only [L2.KOf]                          -- K must stand as «<heap const> w.params» for k_is
      refine' My.txt_mk ?e1 ?e2 ?e3 ..
      (case e1 => PySem.W.k_is)                    -- in the order: a name -> its address -> its object -> its parts
      (case e2 => PySem.W.k_is)
      ..
    obtain ⟨t, T⟩ := T
    have e0 := hmg.symm.trans (PySem.W.mg_of KX G T.law)
    cases e0                                       -- fa is the law's own address
    exact ⟨_, fun s u => .of_eq rfl, fun base kb nb => My.law_fn T kb nb⟩     -- if «.of_eq rfl» comes too early: refine' ⟨_, ?b, fun base kb nb => My.law_fn T kb nb⟩; exact fun s u => .of_eq rfl
  case S => exact fun w H a ns hl hO hS => ..
  case C => exact ..
(the tactic k_is has no namespace: write k_is) -/

/-! SHORT WORDS over the layer: a def of the text, its body, what a loop and a test want. -/
namespace L2
open PySem PySem.Spec PyProof.Rows

/-! ### the text by places -/
/-- the j-th statement of a class's body -/
def inClass (s : Stmt) (j : Nat) : Stmt := match s with
  | .ClassDef _ _ _ body _ _ _ _ _ _ _ => body.getD j (.Pass ⟨0, 0, 0, 0⟩)
  | _ => .Pass ⟨0, 0, 0, 0⟩
def defArgs (s : Stmt) : Arguments := match s with
  | .FunctionDef _ a _ _ _ _ _ _ _ _ => a
  | _ => { posonlyargs := [], args := [], vararg := none, kwonlyargs := [], kw_defaults := [], kwarg := none, defaults := [] }
def defBody (s : Stmt) : List Stmt := match s with
  | .FunctionDef _ _ b _ _ _ _ _ _ _ => b
  | _ => []
def defScope (s : Stmt) : Scope := match s with
  | .FunctionDef _ _ _ _ _ _ sc _ _ _ => sc
  | _ => { kind := .function, names := [], isGenerator := false, isCoroutine := false }

/-! ### no exception leaves a def -/
abbrev CX0 : CXT := fun _ _ _ _ _ _ => False
abbrev E0 : XK := fun _ _ _ => False
theorem pass0 {X : Cx} : Passes CX0 X E0 := fun _ _ _ _ _ _ _ h => h.elim

/-! ### a def (or method) of the text as it stands behind the top -/
structure Fun (K : PySem.W.Frag) (x qual : Str) (st : Stmt) (f : Addr) (fd : FuncData) : Prop where
  ex : ∃ (oc : Value) (od : Option Addr) (kV doc pm : Value) (an : Option Addr) (cdv ct : Value) (osl : Array (Option Value)),
    fd = PySem.W.fnOf x qual (defArgs st) (defBody st) (defScope st) .none kV doc pm an cdv ct ∧ K.lookup f = some ⟨oc, od, .func fd, osl⟩ ∧ PySem.W.codeIn K cdv qual = true
  kp : PySem.W.keepIn K (.ref f) = true
section
variable {P : Program} {w : World} {K : PySem.W.Frag} {mg : Str → Option Value} {base : Heap}
/-- THE RULE for a def: its body as a term of rules, and the reading of that term -/
theorem Fun.ok {x qual : Str} {st : Stmt} {f : Addr} {fd : FuncData} {N ps : List Str} {k : Nat} {sp : Sp} (F : Fun K x qual st f fd) (S : FnScope N ps (defScope st)) (len : ∀ vs H Q E, sp vs H Q E → vs.length = ps.length)
    (hbody : ∀ (cdv : Value) (A : Around) (outer : List Env) (s : Shared) (H : Hp) (vs : List V) (Q : VK) (E : XK), Room k (A.deeper (envOfC qual (defScope st) s.heap.objs.size f cdv)) → sp vs H Q E →
      ∃ t, PSs (cxOf CX0 P w K mg base N qual (defScope st) f cdv A outer s H E).nox (defBody st) t ∧ t { nx := fun _ H' => Q .non H', rt := Q } (start N vs) H) : FnOk P w K mg base CX0 (k + 1) f fd ps sp := by
  obtain ⟨oc, od, kV, doc, pm, an, cdv, ct, osl, rfl, lk, hcd⟩ := F.ex
  refine fn_of lk hcd S len fun A outer s H vs Q E hr hsp => ?_
  obtain ⟨t, h, q⟩ := hbody cdv A outer s H vs Q E hr hsp
  exact ⟨t, h.nox, q⟩
/-- how its arguments bind (no defaults): h is «fun _ _ _ _ _ _ us hl => match us, hl with | [_, _], _ => rfl», one _ a parameter -/
theorem Fun.binds {x qual : Str} {st : Stmt} {f : Addr} {fd : FuncData} {ps : List Str} (F : Fun K x qual st f fd)
    (h : ∀ (kV doc pm : Value) (an : Option Addr) (cdv ct : Value) (us : List Value), us.length = ps.length → bindArgs (PySem.W.fnOf x qual (defArgs st) (defBody st) (defScope st) .none kV doc pm an cdv ct) ⟨us, []⟩ = pure (ps.zip us)) : Binds K fd ps [] := by
  obtain ⟨oc, od, kV, doc, pm, an, cdv, ct, osl, rfl, lk, hcd⟩ := F.ex
  exact .all (h kV doc pm an cdv ct)
theorem fun_mk {x qual : Str} {st : Stmt} {f : Addr} {oc : Value} {od an : Option Addr} {osl : Array (Option Value)} {kV doc pm cdv ct : Value} (l : K.lookup f = some ⟨oc, od, .func (PySem.W.fnOf x qual (defArgs st) (defBody st) (defScope st) .none kV doc pm an cdv ct), osl⟩)
    (c : PySem.W.codeIn K cdv qual = true) (k : PySem.W.keepIn K (.ref f) = true) : Fun K x qual st f (PySem.W.fnOf x qual (defArgs st) (defBody st) (defScope st) .none kV doc pm an cdv ct) := ⟨⟨oc, od, kV, doc, pm, an, cdv, ct, osl, rfl, l, c⟩, k⟩
end
theorem hu_of {A : Around} {k : Nat} (hr : Room k A) : A.units + 1 < cLine := Nat.lt_of_le_of_lt (Nat.add_le_add_left (by decide : 1 ≤ 64) _) hr.units
theorem small1000 {n : Nat} (h : n ≤ 1000) : n < sizeLine := Nat.lt_of_le_of_lt h (by decide)

/-! ### expressions in short: the name that stands in the i-th slot -/
section
variable {X : Cx}
theorem pv (i : Nat) {x : Str} {pos : Pos} (hN : X.N[i]? = some x := by rfl) (hv : Vis X.env.scope x := by first | exact Or.inl rfl | exact Or.inr (Or.inl rfl) | exact Or.inr (Or.inr rfl)) (hd : (x == ("__debug__" : Str)) = false := by decide)
    (hcd : (x == ("__classdict__" : Str)) = false := by decide) : PE X (.Name x pos) (tVar i) := pe_var hN hv hd hcd
end

/-! ### tests -/
theorem iteF {A B : Prop} (h : B) : if false = true then A else B := by
  rw [if_neg Bool.false_ne_true]
  exact h
theorem iteT {A B : Prop} (h : A) : if true = true then A else B := by
  rw [if_pos rfl]
  exact h
theorem ite2 {c A B : Prop} [Decidable c] (h1 : c → A) (h2 : ¬ c → B) : if c then A else B := by
  by_cases h : c
  · rw [if_pos h]
    exact h1 h
  · rw [if_neg h]
    exact h2 h
theorem iteNS {c A B : Prop} [Decidable c] (hc : c) (h : B) : if (!decide c) = true then A else B := by
  rw [decide_eq_true hc]
  exact iteF h

/-! ### heaps -/
/-- all that was tracked is as it was -/
def Same (H H' : Hp) : Prop := ∀ b o, H b = some o → H' b = some o
theorem Same.refl (H : Hp) : Same H H := fun _ _ h => h
theorem Same.trans {H H1 H2 : Hp} (a : Same H H1) (b : Same H1 H2) : Same H H2 := fun c o h => b c o (a c o h)
theorem Same.free {H H' : Hp} (e : Same H H') {l : Addr} (h : H' l = Option.none) : H l = Option.none := by
  cases q : H l with
  | none => rfl
  | some o =>
    rw [e l o q] at h
    cases h
theorem Same.seq {K : PySem.W.Frag} {H H' : Hp} {a : Addr} {xs : List V} (e : Same H H') (h : SqL K H a xs) : SqL K H' a xs := by
  rcases h with (h | ⟨o, h⟩) | h
  · exact .inl (.inl (e _ _ h))
  · exact .inl (.inr ⟨o, e _ _ h⟩)
  · exact .inr h

end L2

set_option Elab.async false
set_option linter.all false
set_option maxRecDepth 100000
/-! EXCEPTIONS over the hand layer: how one lies behind a call; raise; leaving a frame; try .. except -/
namespace L2
open PySem PySem.Spec PyProof.Rows

theorem hok_tracked {P : Program} {w : World} {H : Hp} {h h' : Heap} (x : HOk P w H h) (k : ∀ b o u, H b = some o → h.get? b = some u → h'.get? b = some u) : HOk P w H h' :=
  fun b u e => (x b u e).stay (fun c v hc q => by
    rcases hc with z | z
    · subst z; exact k _ _ _ e q
    · exact k _ _ _ z q) (fun _ q => q) fun _ _ q => q

/-- B holds all that stood, but the frames; the tracked things are in it -/
structure Keeps (B : Heap) (l : List Env) (H H' : Hp) (h : Heap) : Prop where
  tr : ∀ b o, H' b = some o → ∃ ob, B.get? b = some ob
  un : ∀ b o, h.get? b = some o → H b = none → b ∉ frs l → B.get? b = some o
  th : ∀ b o, h.get? b = some o → b ∉ frs l → ∃ ob, B.get? b = some ob

structure Fly (P : Program) (w : World) (l : List Env) (H H' : Hp) (s s' : Shared) (a : Addr) (C : Value) : Prop where
  os : s'.os = s.os
  bare : AllBare s'.gens
  un : Un (frs l) [] H H' s.heap s'.heap
  hok : HOk P w H' s'.heap
  fl : ∃ (B : Heap) (a0 : Value), Heap.FlyingW B l a C a0 s'.heap ∧ Keeps B l H H' s.heap

def CXK (P : Program) (w : World) : CXT := fun outer H s E e s' => ∃ (a : Addr) (C : Value) (H' : Hp), e = .ref a ∧ Fly P w outer H H' s s' a C ∧ E C none H'

theorem un_on {l : List Env} {H H' : Hp} {h h' h'' B : Heap} {a : Addr} {C a0 : Value} (u : Un (frs l) [] H H' h h') (fl : Heap.FlyingW B l a C a0 h') (k : Keeps B l H H' h) (st : B.StaysIn h'') (up : h'.UpToSlots h'') : Un (frs l) [] H H' h h'' where
  keep := fun b o q n hb _ => st b o (k.un b o q n hb)
  slot := fun b o q n hb hx => by
    obtain ⟨sl, e1⟩ := u.slot b o q n hb hx
    obtain ⟨_, o', ho', hd⟩ := fl.2.2.1.mem hb
    rw [e1] at ho'
    cases ho'
    obtain ⟨sl', e2⟩ := up b _ e1 hd
    exact ⟨sl', e2⟩
  free := u.free
  there := fun b o q hx => by
    by_cases hb : b ∈ frs l
    · obtain ⟨_, o', ho', hd⟩ := fl.2.2.1.mem hb
      obtain ⟨sl', e2⟩ := up b _ ho' hd
      exact ⟨_, e2⟩
    · obtain ⟨ob, e⟩ := k.th b o q hb
      exact ⟨ob, st b ob e⟩
  tups := u.tups
  frzs := u.frzs
  tbls := u.tbls

theorem hok_on {P : Program} {w : World} {l : List Env} {H H' : Hp} {h h' h'' B : Heap} {a : Addr} {C a0 : Value} (x : HOk P w H' h') (fl : Heap.FlyingW B l a C a0 h') (k : Keeps B l H H' h) (st : B.StaysIn h'') : HOk P w H' h'' :=
  hok_tracked x fun b o u e q => by
    obtain ⟨ob, e1⟩ := k.tr b o e
    have e2 := fl.1 b ob e1
    rw [q] at e2
    cases e2
    exact st b _ e1

/-! from the entry of a body to the state at a raising point, and on: the frame of the body is left -/
section
variable {X : Cx} {pins : List (Addr × Obj)} {σ : St} {H H' : Hp} {s : Shared} {h' h'' B : Heap} {a : Addr} {C a0 : Value}
theorem Inv.left (I : Inv X pins σ H s) (hex : X.ex = []) (hst : X.stack = X.env :: X.outer) (u : Un (frs X.stack) [] H H' s.heap h') (fl : Heap.FlyingW B X.stack a C a0 h') (k : Keeps B X.stack H H' s.heap)
    (st : B.StaysIn h'') (up : h'.UpToSlots h'') : Un X.fs [] X.H₀ H' X.s₀.heap h'' ∧ Keeps B X.outer X.H₀ H' X.s₀.heap := by
  have u2 := un_on u fl k st up
  have nx : ∀ b : Addr, b ∉ X.ex := fun b z => by rw [hex] at z; cases z
  have sub : ∀ b o, X.s₀.heap.get? b = some o → b ∉ X.fs → b ∉ frs X.stack := fun b o e hb z => by
    rcases List.mem_cons.mp (I.stkSub b z) with y | y
    · exact absurd (Nat.lt_of_lt_of_le (Heap.lt_size e) I.ok.above) (by rw [y]; exact Nat.lt_irrefl _)
    · exact hb y
  have infs : ∀ b, b ∈ X.fs → b ∈ frs X.stack := fun b hb => by
    rw [hst]
    obtain ⟨env, he, hf⟩ := List.mem_filterMap.mp hb
    exact List.mem_filterMap.mpr ⟨env, List.mem_cons_of_mem _ he, hf⟩
  refine ⟨⟨fun b o q n hb _ => ?_, fun b o q n hb _ => ?_, fun b o q n _ => ?_, fun b o q _ => ?_, fun b xs q => u2.tups b xs (I.base.tups b xs q), fun b o xs q => u2.frzs b o xs (I.base.frzs b o xs q), fun b ps q => ?_⟩, ⟨k.tr, fun b o q n hb => ?_, fun b o q hb => ?_⟩⟩
  · exact u2.keep b o (I.base.keep b o q n hb (nx b)) (I.base.free b o q n (nx b)) (sub b o q hb) (by simp)
  · obtain ⟨sl, e1⟩ := I.base.slot b o q n hb (nx b)
    obtain ⟨sl', e2⟩ := u2.slot b _ e1 (I.base.free b o q n (nx b)) (infs b hb) (by simp)
    exact ⟨sl', e2⟩
  · obtain ⟨o', e1⟩ := I.base.there b o q (nx b)
    exact u2.free b o' e1 (I.base.free b o q n (nx b)) (by simp)
  · obtain ⟨o', e1⟩ := I.base.there b o q (nx b)
    exact u2.there b o' e1 (by simp)
  · obtain ⟨m1, e1⟩ := I.base.tbls b ps q
    obtain ⟨m2, e2⟩ := u2.tbls b _ e1
    exact ⟨m1 ++ m2, by rw [e2, Array.append_assoc]⟩
  · exact k.un b o (I.base.keep b o q n hb (nx b)) (I.base.free b o q n (nx b)) (sub b o q hb)
  · obtain ⟨o', e1⟩ := I.base.there b o q (nx b)
    exact k.th b o' e1 (sub b o q hb)

/-- what stands at a raising point is kept by the heap without the frames -/
theorem Inv.keeps0 (I : Inv X pins σ H s) : Keeps (PySem.W.hideAll s.heap (frs X.stack)) X.stack H H s.heap where
  tr := fun b o e => by
    obtain ⟨ob, q⟩ := Option.isSome_iff_exists.mp (show (s.heap.get? b).isSome = true by
      have := I.hok.lt e
      cases z : s.heap.get? b with
      | some _ => rfl
      | none => exact absurd z (by
          obtain ⟨u, hu⟩ : ∃ u, s.heap.get? b = some u := by
            have x := I.hok b o e
            cases o with
            | lst xs => obtain ⟨_, _, _, _, q⟩ := (show _ ∧ _ from x); exact ⟨_, q⟩
            | tup xs => obtain ⟨_, _, _, o, q, _⟩ := (show _ ∧ _ from x); exact ⟨_, q⟩
            | dK kvs => obtain ⟨_, _, _, _, o, _, _, q, _⟩ := (show _ ∧ _ from x); exact ⟨_, q⟩
            | dT kvs => obtain ⟨_, _, _, _, o, _, _, q, _⟩ := (show _ ∧ _ from x); exact ⟨_, q⟩
            | set S n => obtain ⟨o, _, _, _, q, _⟩ := (show Heap.SetOf _ _ _ _ _ from x); exact ⟨_, q⟩
            | ins C dx fs => obtain ⟨_, _, _, q, _⟩ := (show _ ∧ _ from x); exact ⟨_, q⟩
            | own y => obtain ⟨o, q⟩ := (show ∃ o, _ from x); exact ⟨_, q⟩
            | xd fs => obtain ⟨mA, n, _⟩ := (show ∃ mA, _ from x); obtain ⟨o, _, _, q, _⟩ := n; exact ⟨_, q⟩
            | rng lo hi => obtain ⟨_, _, _, q⟩ := (show ∃ _ _ _, _ from x); exact ⟨_, q⟩
            | frz o u => obtain ⟨q, _⟩ := (show _ ∧ _ from x); exact ⟨_, q⟩
            | tbl ps => exact ⟨_, x⟩
            | met f y => exact ⟨_, x⟩
            | ext φ => obtain ⟨_, ⟨o, q⟩, _⟩ := (show _ ∧ _ from x); exact ⟨_, q⟩
          rw [hu]; simp))
    refine ⟨ob, PySem.W.hideAll_get _ q fun z => ?_⟩
    rw [I.stkFree b z] at e
    cases e
  un := fun b o q _ hb => PySem.W.hideAll_get _ q hb
  th := fun b o q hb => ⟨o, PySem.W.hideAll_get _ q hb⟩
end

section
variable {P : Program} {w : World} {K : PySem.W.Frag} {mg : Str → Option Value} {base : Heap} {N : List Str} {qual : Str} {scope : Scope} {f : Addr} {cd : Value} {A : Around} {outer : List Env} {s₀ : Shared} {H₀ : Hp} {E₀ : XK}
/-- raise in a def's body -/
theorem raise_leaves {pins : List (Addr × Obj)} {σ : St} {H : Hp} {s : Shared} {h' : Heap} {e : Addr} {C : Value} {vs : List Value} (I : Inv (cxOf (CXK P w) P w K mg base N qual scope f cd A outer s₀ H₀ E₀) pins σ H s)
    (hx : Heap.MadeExcOf s.heap h' e C vs) (q : E₀ C none H) : (cxOf (CXK P w) P w K mg base N qual scope f cd A outer s₀ H₀ E₀).xe (.ref e) { s with heap := h' } := by
  have hin : ∀ env ∈ (cxOf (CXK P w) P w K mg base N qual scope f cd A outer s₀ H₀ E₀).stack, ∀ b, env.frame = some b → b ∈ frs (cxOf (CXK P w) P w K mg base N qual scope f cd A outer s₀ H₀ E₀).stack := fun env he b hb => List.mem_filterMap.mpr ⟨env, he, hb⟩
  have FF := PySem.W.funFrames_hide I.stack hin
  have k0 := I.keeps0
  refine wpAny_leaves_madeW (base := PySem.W.hideAll s.heap (frs (cxOf (CXK P w) P w K mg base N qual scope f cd A outer s₀ H₀ E₀).stack)) (h := s.heap) I.ok.frames rfl (fun b o z => PySem.W.of_hideAll _ z) FF hx fun h'' t x1 x2 x3 x4 => ?_
  have up : s.heap.UpToSlots h'' := (Heap.UpToSlots.of_keeps hx.keeps).trans x4
  have FW : ∀ b ∈ frs (cxOf (CXK P w) P w K mg base N qual scope f cd A outer s₀ H₀ E₀).stack, ∃ o, s.heap.get? b = some o ∧ ∀ vs, o.data ≠ .fields vs := fun b hb => (I.stack.mem hb).2
  -- the frame was left: as in Inv.left, but the flight begins here
  have nx : ∀ b : Addr, b ∉ (cxOf (CXK P w) P w K mg base N qual scope f cd A outer s₀ H₀ E₀).ex := fun b z => by cases z
  have sub : ∀ b o, s₀.heap.get? b = some o → b ∉ frs outer → b ∉ frs (cxOf (CXK P w) P w K mg base N qual scope f cd A outer s₀ H₀ E₀).stack := fun b o e' hb z => by
    rcases List.mem_cons.mp (I.stkSub b z) with y | y
    · exact absurd (Nat.lt_of_lt_of_le (Heap.lt_size e') I.ok.above) (by rw [y]; exact Nat.lt_irrefl _)
    · exact hb y
  have infs : ∀ b, b ∈ frs outer → b ∈ frs (cxOf (CXK P w) P w K mg base N qual scope f cd A outer s₀ H₀ E₀).stack := fun b hb => by
    obtain ⟨env, he, hf⟩ := List.mem_filterMap.mp hb
    exact List.mem_filterMap.mpr ⟨env, List.mem_cons_of_mem _ he, hf⟩
  refine ⟨e, C, H, rfl, ⟨I.os, I.bare, ⟨fun b o z n hb _ => ?_, fun b o z n hb _ => ?_, fun b o z n _ => I.base.free b o z n (nx b), fun b o z _ => ?_, I.base.tups, I.base.frzs, I.base.tbls⟩, ?_, ⟨_, _, x1, ⟨k0.tr, fun b o z n hb => ?_, fun b o z hb => ?_⟩⟩⟩, q⟩
  · exact x1.1 b o (k0.un b o (I.base.keep b o z n hb (nx b)) (I.base.free b o z n (nx b)) (sub b o z hb))
  · obtain ⟨sl, e1⟩ := I.base.slot b o z n hb (nx b)
    obtain ⟨o', e2, hd⟩ := FW b (infs b hb)
    rw [e1] at e2
    cases e2
    obtain ⟨sl', e3⟩ := up b _ e1 hd
    exact ⟨sl', e3⟩
  · obtain ⟨o', e1⟩ := I.base.there b o z (nx b)
    by_cases hb : b ∈ frs outer
    · obtain ⟨o'', e2, hd⟩ := FW b (infs b hb)
      obtain ⟨sl', e3⟩ := up b _ e2 hd
      exact ⟨_, e3⟩
    · obtain ⟨ob, e2⟩ := k0.th b o' e1 (sub b o z hb)
      exact ⟨ob, x1.1 b ob e2⟩
  · refine hok_tracked I.hok fun b o u z y => ?_
    obtain ⟨ob, e1⟩ := k0.tr b o z
    have e2 := PySem.W.of_hideAll _ e1
    rw [y] at e2
    cases e2
    exact x1.1 b _ e1
  · exact k0.un b o (I.base.keep b o z n hb (nx b)) (I.base.free b o z n (nx b)) (sub b o z hb)
  · obtain ⟨o', e1⟩ := I.base.there b o z (nx b)
    exact k0.th b o' e1 (sub b o z hb)
/-- a callee's exception leaves this body too -/
theorem passX : Passes (CXK P w) (cxOf (CXK P w) P w K mg base N qual scope f cd A outer s₀ H₀ E₀) E₀ := by
  intro pins σ H s e s' I h
  obtain ⟨a, C, H', rfl, F, q⟩ := h
  obtain ⟨B, a0, fl, k⟩ := F.fl
  refine wpAny_leaves_onW (base := B) I.ok.frames rfl fl fun h'' x1 x2 => ?_
  obtain ⟨u, k'⟩ := I.left rfl rfl F.un fl k x1.1 x2
  exact ⟨a, C, H', rfl, ⟨F.os.trans I.os, F.bare, u, hok_on F.hok fl k x1.1, ⟨B, a0, x1, k'⟩⟩, q⟩
theorem passOwnX : PassesOwn (model (cxOf (CXK P w) P w K mg base N qual scope f cd A outer s₀ H₀ E₀).prog (cxOf (CXK P w) P w K mg base N qual scope f cd A outer s₀ H₀ E₀).w) (cxOf (CXK P w) P w K mg base N qual scope f cd A outer s₀ H₀ E₀).A (cxOf (CXK P w) P w K mg base N qual scope f cd A outer s₀ H₀ E₀).env (cxOf (CXK P w) P w K mg base N qual scope f cd A outer s₀ H₀ E₀).xe := PassesOwn.leaving
end
end L2

set_option Elab.async false
set_option linter.all false
set_option maxRecDepth 100000
namespace L2
open PySem PySem.Spec PyProof.Rows

/-! ### another context for the same body -/
theorem Cx.Ok.re {X : Cx} {A' : Around} {calm' : Bool} {pn' : List (Addr × Obj)} {xe' : Value → Shared → Prop} (ok : X.Ok) (hA : A'.frames = X.A.frames) (hc : calm' = true → A'.handled = none) : ({ X with A := A', calm := calm', pn := pn', xe := xe' } : Cx).Ok :=
  ⟨ok.mod, ok.kind, ok.glob, ok.blt, ok.above, ok.inj, ok.has, ok.cab, hc, hA.trans ok.frames, ok.stk, ok.exf, ok.bs, ok.bsz, ok.noex, ok.exfs, ok.funs, ok.frf⟩
theorem Inv.re {X : Cx} {pins pins' : List (Addr × Obj)} {σ : St} {H : Hp} {s : Shared} {A' : Around} {calm' : Bool} {pn' : List (Addr × Obj)} {xe' : Value → Shared → Prop} (I : Inv X pins σ H s) (hA : A'.frames = X.A.frames) (hc : calm' = true → A'.handled = none)
    (hp : ∀ p ∈ pn' ++ pins', p ∈ X.pn ++ pins) : Inv ({ X with A := A', calm := calm', pn := pn', xe := xe' } : Cx) pins' σ H s :=
  ⟨I.ok.re hA hc, I.os, I.bare, I.base, I.loc, I.cell, I.free, I.freeC, fun p h => I.pin p (hp p h), I.hok, I.len⟩

abbrev Cx.tryX (X : Cx) (pn' : List (Addr × Obj)) (E : Value → Shared → Prop) : Cx := { X with pn := pn', xe := E }
abbrev Cx.inH (X : Cx) (pn' : List (Addr × Obj)) (a : Addr) : Cx := { X with A := X.A.mark (some (.ref a)), calm := false, pn := pn', xe := fun _ _ => False }

/-! ### raise -/
theorem exc_obj {K : PySem.W.Frag} {h : Heap} {C : Addr} {bmB : List Value} {newId : String} (X : K.In h) (q : PySem.W.excIn K C bmB newId = true) :
    ∃ bm N nm qn bs hdct sn sub ab col dd k0 k1 k2 k3 k5 mN, h.get? C = some (excClassObj nm qn C N bs bm hdct sn sub ab col dd k0 k1 k2 k3 k5 newId) ∧ h.Ns N mN ∧ mN "__init__" = none ∧ OwnTail h bmB bm := by
  unfold PySem.W.excIn at q
  split at q
  case h_2 => cases q
  case h_1 dd cd sl ho =>
    split at q
    case h_2 => cases q
    case h_1 C' bm k0 k1 k2 k3 n k5 hm hs =>
      simp only [Bool.and_eq_true, beq_iff_eq, Bool.not_eq_true'] at q
      obtain ⟨⟨⟨⟨⟨q1, q2⟩, q3⟩, q4⟩, q5⟩, q6⟩ := q
      obtain ⟨nm, bs, mro, ns, qn, hd, sn, sub, ab, col, del⟩ := cd
      dsimp only at hm q3 q5 q6
      subst q1 q2 hm q3
      obtain ⟨l⟩ := sl
      dsimp only at hs
      subst hs
      exact ⟨bm, ns, nm, qn, bs, hd, sn, sub, ab, col, dd, k0, k1, k2, k3, k5, _, X _ _ ho, .of_isNs (PySem.W.isNs_of_in X q5), PySem.W.nsMap_none_of_in X q5 q6, PySem.W.tail_of_in X q4⟩

abbrev vErr : List Value := [.type "ValueError", .type "Exception", .type "BaseException", .type "object"]
/-- an own class of errors, straight or not under ValueError, without an __init__ -/
def ExcC (K : PySem.W.Frag) (C : Addr) : Prop := PySem.W.excIn K C vErr "ValueError.__new__" = true

def RaisesX (X : Cx) (C : Addr) (E : XK) : Prop := ∀ (pins : List (Addr × Obj)) (σ : St) (H : Hp) (s : Shared) (h' : Heap) (e : Addr) (vs : List Value), Inv X pins σ H s → Heap.MadeExcOf s.heap h' e (.ref C) vs → E (.ref C) none H → X.xe (.ref e) { s with heap := h' }
def tRaise (C : Addr) (E : XK) (t : TA) : TS := fun _ σ H => t σ H fun vs H1 => vs.length ≤ sizeLine ∧ E (.ref C) none H1
section
variable {X : Cx}
theorem ps_raise {x : Str} {C : Addr} {E : XK} {np cpos pos : Pos} {e₀ : Expr} {rest : List Expr} {t : TA} (hc : X.calm = true) (hg : Gl X x) (hm : X.mg x = some (.ref C)) (hC : ExcC X.K C) (hx : RaisesX X C E) (ha : PA X (e₀ :: rest) t)
    (hd : (x == ("__debug__" : Str)) = false := by decide) (he : starEach (e₀ :: rest) X.env = (false, eval e₀ X.env) :: starEach rest X.env := by rfl) (hpl : (backTo cpos (starEach rest X.env)).any (·.1) = false := by rfl) :
    PS X (.Raise (some (.Call (.Name x np) (e₀ :: rest) [] cpos)) none pos) (tRaise C E t) := by
  intro pins s σ H D I h
  obtain ⟨bm, N, nm, qn, bs, hdct, sn, sub, ab, col, dd, k0, k1, k2, k3, k5, mN, gC, gN, gi, gT⟩ := exc_obj I.ok.mod.kin hC
  refine wpAny_Raise_call_subT (C := C) (nm := nm) (q := qn) (N := N) (bs := bs) (bm := bm) (hdct := hdct) (sn := sn) (sub := sub) (ab := ab) (col := col) (dd := dd) (k0 := k0) (k1 := k1) (k2 := k2) (k3 := k3) (k5 := k5)
    PySem.F.excBase_ValueError (mN := mN) (gT.hasType (by decide)) (I.ok.hd hc) (by rw [he]; show (false || (backTo cpos (starEach rest X.env)).any (·.1)) = false; rw [hpl]; rfl) gi (ld_glob I hg hm ⟨rfl, ?_⟩ hd)
  have hp := ha cpos pins s σ H _ I h
  rw [he] at hp ⊢
  refine Calls.evalArgs_plain (thn hp fun us s1 ⟨vs, H1, I1, r, z, q⟩ => ?_)
  exact ⟨rfl, by rw [← r.length]; exact z, I1.bk _ _ gC, gN.keeps I1.bk, gT.keeps I1.bk, fun h' e hm' => hx pins σ H1 s1 h' e us I1 hm' q⟩
end

/-! ### a call whose exception is wanted by the state at the call -/
def PassesJ (X : Cx) (J : St → XK) : Prop := ∀ (pins : List (Addr × Obj)) (σ : St) (H : Hp) (s : Shared) (e : Value) (s' : Shared), Inv X pins σ H s → CXK X.prog X.w X.stack H s (J σ) e s' → X.xe e s'
def tCallJ (sp : Sp) (J : St → XK) (t : TA) : TE := fun σ H Q => t σ H fun vs H1 => sp vs H1 Q (J σ)
section
variable {X : Cx} {k : Nat} {f : Addr} {fd : FuncData} {ps : List Str} {sp : Sp} {J : St → XK} {x : Str} {p pos : Pos} {e : Expr} {es : List Expr} {t : TA}
theorem pe_callJ (F : FnOk X.prog X.w X.K X.mg X.base (CXK X.prog X.w) k f fd ps sp) (hr : Room k X.A) (hg : Gl X x) (hm : X.mg x = some (.ref f)) (hk : PySem.W.keepIn X.K (.ref f) = true) (hb : Binds X.K fd ps []) (hx : PassesJ X J)
    (ha : PA X (e :: es) t) (hdb : (x == ("__debug__" : Str)) = false := by decide) (he : starEach (e :: es) X.env = (false, eval e X.env) :: starEach es X.env := by rfl) (hpl : (backTo pos (starEach es X.env)).any (·.1) = false := by rfl) :
    PE X (.Call (.Name x p) (e :: es) [] pos) (tCallJ sp J t) := by
  intro pins s σ H Q I h
  refine wpAny_Call_Name_kw (ld_glob I hg hm ?_ hdb)
  refine PySem.W.callWith_K (h₀ := X.base) I.ok.mod.kin hk (thn (ha pos pins s σ H _ I h) fun us s1 ⟨vs, H1, I1, r, q⟩ => ⟨I1.kIn, ?_⟩) he hpl
  have hl : us.length = ps.length := by rw [← r.length]; exact F.len _ _ _ _ q
  have hbd := hb s1 us I1.kIn (by rw [List.append_nil]; exact hl)
  rw [List.append_nil] at hbd
  refine wpAny_call (codeAny_mono (F.run X.A X.stack s1 H1 ⟨us, []⟩ us vs Q (J σ) hr I1.env0 hbd r q) fun r' s' hq => ?_)
  cases r' with
  | error e => exact hx pins σ H1 s1 e s' I1 hq
  | ok fl =>
    cases fl with
    | ret u => exact I1.after hq
    | next => exact False.elim hq
    | brk => exact False.elim hq
    | cont => exact False.elim hq
end

/-! ### try .. except -/
/-- an exception that was caught, by its class -/
def excO (a : Addr) (C : Value) : HO := .ext fun h => ∃ o, h.get? a = some o ∧ o.cls = C
theorem un_exc {fs : List Addr} {H H' : Hp} {h h' : Heap} {a : Addr} {o : HO} (u : Un fs [] H H' h h') (hn : h.get? a = none) (hf : H' a = none) : Un fs [] H (upd H' a o) h h' where
  keep := u.keep
  slot := u.slot
  free := fun b ob q n hx => by
    have : b ≠ a := fun z => by rw [z, hn] at q; cases q
    rw [upd_ne this]
    exact u.free b ob q n hx
  there := u.there
  tups := fun b xs q => by
    have z := u.tups b xs q
    rw [upd_ne (ne_of_none z hf)]
    exact z
  frzs := fun b ob xs q => by
    have z := u.frzs b ob xs q
    rw [upd_ne (ne_of_none z hf)]
    exact z
  tbls := fun b ps q => by
    obtain ⟨m, z⟩ := u.tbls b ps q
    refine ⟨m, ?_⟩
    rw [upd_ne (ne_of_none z hf)]
    exact z
theorem hok_exc {P : Program} {w : World} {H : Hp} {h : Heap} {a : Addr} {C : Value} (x : HOk P w H h) (hf : H a = none) (he : ∃ o, h.get? a = some o ∧ o.cls = C) : HOk P w (upd H a (excO a C)) h := fun b u e => by
  by_cases hb : b = a
  · subst hb
    rw [upd_same] at e
    cases e
    obtain ⟨o, h1, h2⟩ := he
    exact ⟨⟨o, h1, h2⟩, ⟨o, h1⟩, fun _ _ ⟨o, q1, q2⟩ k => ⟨o, k o q1, q2⟩⟩
  · rw [upd_ne hb] at e
    exact (x b u e).stay (fun c v _ q => q) (fun c q => by rw [upd_ne (ne_of_none q hf)]; exact q) fun c xs q => by rw [upd_ne (ne_of_none q hf)]; exact q

/-- the name of the clause goes -/
theorem Inv.unname {X : Cx} {pins : List (Addr × Obj)} {σ : St} {H : Hp} {s : Shared} {i t : Nat} {x : Str} {m : Str → Option Value} {v : Option Value} {h' : Heap} (I : Inv X pins σ H s) (hN : X.N.Nodup) (hi : X.N[i]? = some x)
    (hl : ∀ (j : Nat) (y : Str) (v : V), X.N[j]? = some y → σ[j]? = some (some v) → Vis X.env.scope y → ∃ u, RelV v u ∧ Look X.env s.heap m y u)
    (hn' : h'.Ns X.env.locals (fun y => if y = x then v else m y)) (hs : Heap.SameBut X.env.locals s.heap h') : Inv X pins (σ.set i none) H { s with heap := h', toks := t } := by
  have ne : ∀ b o, X.s₀.heap.get? b = some o → b ≠ X.env.locals := fun b o e => Nat.ne_of_lt (Nat.lt_of_lt_of_le (Heap.lt_size e) I.ok.above)
  refine ⟨I.ok, I.os, I.bare, ⟨fun b o e n hb hx => ?_, fun b o e n hb hx => ?_, I.base.free, fun b o e hx => ?_, I.base.tups, I.base.frzs, I.base.tbls⟩, ⟨_, hn', fun j y v' e1 e2 e3 => ?_⟩, fun y c e => ?_, I.free, I.freeC, fun p hp => ?_, ?_, by simpa using I.len⟩
  · exact (hs.2 b (ne b o e)).trans (I.base.keep b o e n hb hx)
  · obtain ⟨sl, e1⟩ := I.base.slot b o e n hb hx
    exact ⟨sl, (hs.2 b (ne b o e)).trans e1⟩
  · obtain ⟨o', e1⟩ := I.base.there b o e hx
    exact ⟨o', (hs.2 b (ne b o e)).trans e1⟩
  · have hj : j ≠ i := fun z => by
      subst z
      by_cases hlt : j < σ.length
      · rw [List.getElem?_set_self hlt] at e2; cases e2
      · rw [List.getElem?_eq_none_iff.mpr (by rw [List.length_set]; omega)] at e2; cases e2
    rw [List.getElem?_set_ne (Ne.symm hj)] at e2
    obtain ⟨u', r', q⟩ := hl j y v' e1 e2 e3
    refine ⟨u', r', ?_⟩
    rcases q with ⟨k, e⟩ | ⟨k, c, e, z⟩
    · refine .inl ⟨k, ?_⟩
      have : y ≠ x := fun e => hj (nodup_ix hN e1 (e ▸ hi))
      simp [this, e]
    · exact .inr ⟨k, c, e, z.sameBut hs (I.cne y c e)⟩
  · obtain ⟨w', z⟩ := I.cell y c e
    exact ⟨w', z.sameBut hs (I.cne y c e)⟩
  · obtain ⟨e, n, ne, nf, d⟩ := I.pin p hp
    exact ⟨(hs.2 p.1 ne).trans e, n, ne, nf, d⟩
  · exact hok_tracked I.hok fun b o u e q => (hs.2 b (fun z => by rw [z, I.free] at e; cases e)).trans q

def Ends.unset (D : Ends) (i : Nat) : Ends := ⟨fun σ H => D.nx (σ.set i none) H, D.rt, fun σ H => D.bk (σ.set i none) H, fun σ H => D.ct (σ.set i none) H⟩
def tTry (K : PySem.W.Frag) (c : Addr) (tb : (St → XK) → TS) (th : TS) : TS := fun D σ H => tb (fun σ1 C _ H' => PySem.W.exmOne K C (.ref c) = some true ∧ th D σ1 H') D σ H
def tTryAs (K : PySem.W.Frag) (c : Addr) (i : Nat) (tb : (St → XK) → TS) (th : TS) : TS := fun D σ H =>
  tb (fun σ1 C _ H' => PySem.W.exmOne K C (.ref c) = some true ∧ ∀ a, H' a = none → th (D.unset i) (σ1.set i (some (.ref a))) (upd H' a (excO a C))) D σ H

section
variable {X : Cx} {body suite : List Stmt} {b₀ : Stmt} {x n : Str} {np hpos pos : Pos} {c : Addr} {i : Nat} {tb : (St → XK) → TS} {th : TS}
theorem Fly.caught {pins : List (Addr × Obj)} {σ : St} {H H' : Hp} {s s' : Shared} {a : Addr} {C : Value} {B h'' : Heap} {a0 : Value} (I : Inv X pins σ H s) (F : Fly X.prog X.w X.stack H H' s s' a C) (fl : Heap.FlyingW B X.stack a C a0 s'.heap) (k : Keeps B X.stack H H' s.heap)
    (st : B.StaysIn h'') (up : s'.heap.UpToSlots h'') : Inv X pins σ H' { s' with heap := h'' } :=
  I.call' (s' := { s' with heap := h'' }) (ch := []) F.os (un_on F.un fl k st up) (hok_on F.hok fl k st) F.bare (fun _ z => nomatch z)
theorem Fly.caughtAs {pins : List (Addr × Obj)} {σ : St} {H H' : Hp} {s s' : Shared} {a : Addr} {C : Value} {B h'' : Heap} {a0 : Value} (I : Inv X pins σ H s) (F : Fly X.prog X.w X.stack H H' s s' a C) (fl : Heap.FlyingW B X.stack a C a0 s'.heap) (k : Keeps B X.stack H H' s.heap)
    (fl2 : Heap.FlyingW B X.stack a C a0 h'') (up : s'.heap.UpToSlots h'') : H' a = none ∧ Inv X pins σ (upd H' a (excO a C)) { s' with heap := h'' } := by
  have hn : H' a = none := by
    cases q : H' a with
    | none => rfl
    | some o =>
      obtain ⟨ob, e⟩ := k.tr a o q
      rw [fl.2.1] at e
      cases e
  have ha : s.heap.get? a = none := by
    cases q : s.heap.get? a with
    | none => rfl
    | some o =>
      by_cases hb : a ∈ frs X.stack
      · obtain ⟨_, o', h1, h2⟩ := fl.2.2.1.mem hb
        obtain ⟨oe, vs, h3, _, h4, _⟩ := fl.first
        rw [h1] at h3
        cases h3
        exact absurd h4 (h2 vs)
      · obtain ⟨ob, e⟩ := k.th a o q hb
        rw [fl.2.1] at e
        cases e
  refine ⟨hn, I.call' (s' := { s' with heap := h'' }) (ch := []) F.os (un_exc (un_on F.un fl k fl2.1 up) ha hn) (hok_exc (hok_on F.hok fl k fl2.1) hn fl2.there) F.bare (fun _ z => nomatch z)⟩

theorem ps_tryAs (hcal : X.calm = true) (hst : X.stack = X.env :: X.outer) (hfr : X.env.frame = some X.env.locals) (hg : Gl X x) (hm : X.mg x = some (.ref c)) (hN : X.N.Nodup) (hi : X.N[i]? = some n) (hk : X.env.scope.names.lookup n = some .local)
    (hb : ∀ pn' E J, PassesJ (X.tryX pn' E) J → PSs (X.tryX pn' E) body (tb J)) (hh : ∀ pn' a, PSs (X.inH pn' a) (b₀ :: suite) th) (hd : (x == ("__debug__" : Str)) = false := by decide) :
    PS X (.Try body [.ExceptHandler (some (.Name x np)) (some n) (b₀ :: suite) hpos] [] [] pos) (tTryAs X.K c i tb th) := by
  intro pins s σ H D I h
  have hcl : X.calm = true → X.A.handled = none := I.ok.hd
  have hp : PassesJ (X.tryX (X.pn ++ pins) (fun e s' => ∃ pins' σ1 H1 s1, Inv (X.tryX (X.pn ++ pins) X.xe) pins' σ1 H1 s1 ∧ CXK X.prog X.w X.stack H1 s1 ((fun σ1 C _ H' => PySem.W.exmOne X.K C (.ref c) = some true ∧ ∀ a, H' a = none → th (D.unset i) (σ1.set i (some (.ref a))) (upd H' a (excO a C)) : St → XK) σ1) e s'))
      (fun σ1 C _ H' => PySem.W.exmOne X.K C (.ref c) = some true ∧ ∀ a, H' a = none → th (D.unset i) (σ1.set i (some (.ref a))) (upd H' a (excO a C))) :=
    fun pins' σ1 H1 s1 e s' I1 q => ⟨pins', σ1, H1, s1, I1.re rfl hcl (fun p z => z), q⟩
  have back : ∀ {A' : Around} {c' : Bool} {xe' : Value → Shared → Prop} {pins' : List (Addr × Obj)} {σ1 : St} {H1 : Hp} {s1 : Shared}, X.A.frames = A'.frames → Inv ({ X with A := A', calm := c', pn := X.pn ++ pins, xe := xe' } : Cx) pins' σ1 H1 s1 → Inv X pins σ1 H1 s1 :=
    fun hA I1 => I1.re (pn' := X.pn) (calm' := X.calm) (A' := X.A) (xe' := X.xe) hA hcl (fun p z => List.mem_append_left _ z)
  refine wpAny_Try_except (wpAny_mono (hb _ _ _ hp [] s σ H D (I.re rfl hcl (fun p z => by simpa using z)) h) (fun f s1 q => ?_) fun e s1 q => ?_)
  · cases f with
    | next => obtain ⟨σ', H', I', q⟩ := q; exact wpAny_execs_nil ⟨σ', H', back rfl I', q⟩
    | brk => obtain ⟨σ', H', I', q⟩ := q; exact ⟨σ', H', back rfl I', q⟩
    | cont => obtain ⟨σ', H', I', q⟩ := q; exact ⟨σ', H', back rfl I', q⟩
    | ret u => obtain ⟨v, σ', H', I', r, q⟩ := q; exact ⟨v, σ', H', back rfl I', r, q⟩
  · obtain ⟨pins', σ1, H1, s2, I1, a, C, H', rfl, F, hx, hq⟩ := q
    have I1 : Inv X pins σ1 H1 s2 := back rfl I1
    obtain ⟨B, a0, fl, k⟩ := F.fl
    have hs : X.A.frames = some (X.env :: X.outer) := by rw [← hst]; exact I1.ok.frames
    refine wpAny_looks_onW (base := B) hs hfr (by rw [← hst]; exact fl) fun h4 hh4 up4 => ?_
    refine wpAny_landsW hh4 fun h5 fl5 up5 => ?_
    have fl5' : Heap.FlyingW B X.stack a C a0 h5 := by rw [hst]; exact fl5
    have up : s1.heap.UpToSlots h5 := up4.trans up5
    have I5 := F.caught I1 fl k fl5'.1 up
    refine wpAny_handleBy_cons (codeAny_handlers_test ?_) (by intro q; cases q)
    have I5h : Inv (X.inH (X.pn ++ pins) a) [] σ1 H' { s1 with heap := h5 } := I5.re rfl (fun z => nomatch z) (fun p z => by simpa using z)
    refine ld_glob (X := X.inH (X.pn ++ pins) a) I5h hg hm ?_ hd
    have LT : PySem.W.Looks (model X.prog X.w) h5 (typeOf (.ref a)) C := by
      obtain ⟨ob, hob, hc⟩ := fl5'.there
      subst hc
      exact (PySem.W.Looks.ld hob).andThen .now
    refine (PySem.W.exm_one (K := X.K) (h := h5) I5.kIn LT hx).here ?_
    refine codeAny_handlers_suite_as ?_
    refine lands_againW fl5' fun h6 fl6 up6 => ?_
    obtain ⟨hn, I6⟩ := F.caughtAs I1 fl k fl6 (up.trans up6)
    have I6h : Inv (X.inH (X.pn ++ pins) a) [] σ1 (upd H' a (excO a C)) { s1 with heap := h6 } := I6.re rfl (fun z => nomatch z) (fun p z => by simpa using z)
    refine store_ok (X := X.inH (X.pn ++ pins) a) (v := .ref a) I6h hN hi (Or.inl hk) rfl (fun s7 I7 => ?_) (Or.inr hk)
    refine wpAny_mono (hh (X.pn ++ pins) a [] s7 _ _ _ I7 (hq a hn)) (fun f s8 q8 => ?_) (fun _ _ z => z.elim)
    have goes : ∀ {σ' : St} {H2 : Hp} {R : Unit → Shared → Prop}, Inv (X.inH (X.pn ++ pins) a) [] σ' H2 s8 → (∀ s9, Inv X pins (σ'.set i none) H2 s9 → R () s9) → wpAny (model X.prog X.w) X.A (do bindName X.env n .none; unbindBehindTheSuite X.env n hpos) R X.xe s8 := fun {σ' H2 R} I8 k8 => by
      have I8 : Inv X pins σ' H2 s8 := back (A' := X.A.mark (some (.ref a))) rfl I8
      obtain ⟨m, hn8, hl8⟩ := id I8.loc
      refine wpAny_nameGoes_keeps hk hn8 (by rw [I8.ok.kind]; rfl) fun h9 v hn9 hs9 => k8 _ (I8.unname hN hi hl8 hn9 hs9)
    cases f with
    | next => obtain ⟨σ', H2, I8, q8⟩ := q8; exact goes I8 fun s9 I9 => ⟨_, H2, I9, q8⟩
    | brk => obtain ⟨σ', H2, I8, q8⟩ := q8; exact goes I8 fun s9 I9 => ⟨_, H2, I9, q8⟩
    | cont => obtain ⟨σ', H2, I8, q8⟩ := q8; exact goes I8 fun s9 I9 => ⟨_, H2, I9, q8⟩
    | ret u => obtain ⟨v, σ', H2, I8, r, q8⟩ := q8; exact goes I8 fun s9 I9 => ⟨v, _, H2, I9, r, q8⟩

theorem ps_try (hcal : X.calm = true) (hst : X.stack = X.env :: X.outer) (hfr : X.env.frame = some X.env.locals) (hg : Gl X x) (hm : X.mg x = some (.ref c))
    (hb : ∀ pn' E J, PassesJ (X.tryX pn' E) J → PSs (X.tryX pn' E) body (tb J)) (hh : ∀ pn' a, PSs (X.inH pn' a) (b₀ :: suite) th) (hd : (x == ("__debug__" : Str)) = false := by decide) :
    PS X (.Try body [.ExceptHandler (some (.Name x np)) none (b₀ :: suite) hpos] [] [] pos) (tTry X.K c tb th) := by
  intro pins s σ H D I h
  have hcl : X.calm = true → X.A.handled = none := I.ok.hd
  have hp : PassesJ (X.tryX (X.pn ++ pins) (fun e s' => ∃ pins' σ1 H1 s1, Inv (X.tryX (X.pn ++ pins) X.xe) pins' σ1 H1 s1 ∧ CXK X.prog X.w X.stack H1 s1 ((fun σ1 C _ H' => PySem.W.exmOne X.K C (.ref c) = some true ∧ th D σ1 H' : St → XK) σ1) e s'))
      (fun σ1 C _ H' => PySem.W.exmOne X.K C (.ref c) = some true ∧ th D σ1 H') :=
    fun pins' σ1 H1 s1 e s' I1 q => ⟨pins', σ1, H1, s1, I1.re rfl hcl (fun p z => z), q⟩
  have back : ∀ {A' : Around} {c' : Bool} {xe' : Value → Shared → Prop} {pins' : List (Addr × Obj)} {σ1 : St} {H1 : Hp} {s1 : Shared}, X.A.frames = A'.frames → Inv ({ X with A := A', calm := c', pn := X.pn ++ pins, xe := xe' } : Cx) pins' σ1 H1 s1 → Inv X pins σ1 H1 s1 :=
    fun hA I1 => I1.re (pn' := X.pn) (calm' := X.calm) (A' := X.A) (xe' := X.xe) hA hcl (fun p z => List.mem_append_left _ z)
  refine wpAny_Try_except (wpAny_mono (hb _ _ _ hp [] s σ H D (I.re rfl hcl (fun p z => by simpa using z)) h) (fun f s1 q => ?_) fun e s1 q => ?_)
  · cases f with
    | next => obtain ⟨σ', H', I', q⟩ := q; exact wpAny_execs_nil ⟨σ', H', back rfl I', q⟩
    | brk => obtain ⟨σ', H', I', q⟩ := q; exact ⟨σ', H', back rfl I', q⟩
    | cont => obtain ⟨σ', H', I', q⟩ := q; exact ⟨σ', H', back rfl I', q⟩
    | ret u => obtain ⟨v, σ', H', I', r, q⟩ := q; exact ⟨v, σ', H', back rfl I', r, q⟩
  · obtain ⟨pins', σ1, H1, s2, I1, a, C, H', rfl, F, hx, hq⟩ := q
    have I1 : Inv X pins σ1 H1 s2 := back rfl I1
    obtain ⟨B, a0, fl, k⟩ := F.fl
    have hs : X.A.frames = some (X.env :: X.outer) := by rw [← hst]; exact I1.ok.frames
    refine wpAny_looks_onW (base := B) hs hfr (by rw [← hst]; exact fl) fun h4 hh4 up4 => ?_
    refine wpAny_landsW hh4 fun h5 fl5 up5 => ?_
    have fl5' : Heap.FlyingW B X.stack a C a0 h5 := by rw [hst]; exact fl5
    have up : s1.heap.UpToSlots h5 := up4.trans up5
    have I5 := F.caught I1 fl k fl5'.1 up
    refine wpAny_handleBy_cons (codeAny_handlers_test ?_) (by intro q; cases q)
    have I5h : Inv (X.inH (X.pn ++ pins) a) [] σ1 H' { s1 with heap := h5 } := I5.re rfl (fun z => nomatch z) (fun p z => by simpa using z)
    refine ld_glob (X := X.inH (X.pn ++ pins) a) I5h hg hm ?_ hd
    have LT : PySem.W.Looks (model X.prog X.w) h5 (typeOf (.ref a)) C := by
      obtain ⟨ob, hob, hc⟩ := fl5'.there
      subst hc
      exact (PySem.W.Looks.ld hob).andThen .now
    refine (PySem.W.exm_one (K := X.K) (h := h5) I5.kIn LT hx).here ?_
    refine codeAny_handlers_suite ?_
    refine lands_againW fl5' fun h6 fl6 up6 => ?_
    have I6 := F.caught I1 fl k fl6.1 (up.trans up6)
    have I6h : Inv (X.inH (X.pn ++ pins) a) [] σ1 H' { s1 with heap := h6 } := I6.re rfl (fun z => nomatch z) (fun p z => by simpa using z)
    refine wpAny_mono (hh (X.pn ++ pins) a [] _ _ _ _ I6h hq) (fun f s8 q8 => ?_) (fun _ _ z => z.elim)
    cases f with
    | next => obtain ⟨σ', H2, I8, q8⟩ := q8; exact ⟨_, H2, back (A' := X.A.mark (some (.ref a))) rfl I8, q8⟩
    | brk => obtain ⟨σ', H2, I8, q8⟩ := q8; exact ⟨_, H2, back (A' := X.A.mark (some (.ref a))) rfl I8, q8⟩
    | cont => obtain ⟨σ', H2, I8, q8⟩ := q8; exact ⟨_, H2, back (A' := X.A.mark (some (.ref a))) rfl I8, q8⟩
    | ret u => obtain ⟨v, σ', H2, I8, r, q8⟩ := q8; exact ⟨v, _, H2, back (A' := X.A.mark (some (.ref a))) rfl I8, r, q8⟩
end
end L2

set_option Elab.async false
set_option linter.all false
set_option maxRecDepth 100000
namespace L2
open PySem PySem.Spec PyProof.Rows Builtin Builtin.ObjectAttr Builtin.Getset_descriptor

/-- an own class of errors, as the written part tells it -/
structure ExK (K : PySem.W.Frag) (C : Addr) : Prop where
  ex : ExcC K C
  ga : PySem.W.findIn K (.ref C) "__getattribute__" = some (some (.builtin "BaseException.__getattribute__"))
  gn : PySem.W.findIn K (.ref C) "__getattr__" = some none
  cl : PySem.W.findIn K (.ref C) "__class__" = some (some (.builtin "object.__class__"))
  mb : PySem.W.mroIn K C (.type "BaseException") = some true
  mo : PySem.W.mroIn K C (.type "object") = some true
  ic : (PySem.W.clsIn K C).isSome = true
  sg : PySem.W.specialIn K (.builtin "object.__class__") "__get__" = some (some (.builtin "getset_descriptor.__get__"))
  tk : PySem.W.takesIn K (.builtin "object.__class__") = some true

section
variable {prog : Program} {w : World} {A : Around} {E : Value → Shared → Prop} {R : Result → Shared → Prop} {K : PySem.W.Frag} {C x : Addr} {s : Shared}
theorem xc_get (X : K.In s.heap) (L0 : PySem.W.Looks (model prog w) s.heap (typeOf (.ref x)) (.ref C)) (hm : PySem.W.mroIn K C (.type "object") = some true) (h : R (.ok (.ret (.ref C))) s) :
    codeAny (model prog w) A (.call (.builtin "getset_descriptor.__get__") ⟨[.builtin "object.__class__", .ref x, .ref C], []⟩) R s := by
  obtain ⟨hh, g, dr, t, os⟩ := s
  have L1 := PySem.W.looks_mroIn (M := model prog w) X hm
  have pl := PySem.W.KF.slot_gs.plain
  refine codeAny_call_builtin pl PySem.W.KF.entry_gs (PySem.W.KF.slot_gs.check _ _ _ _ _ _ _ _ PySem.W.KF.type_class (PySem.W.KF.args_gs _ _ _) ?_)
  unfold Builtin.«getset_descriptor.__get__» descrGet
  rw [PySem.W.dga_obj]
  refine wpAny_bind (wpAny_pure ?_)
  unfold descrGetter descrCheckInstance descrNameAndClass isInstance
  simp only [PySem.W.KF.owner_class]
  repeat lk
  refine ⟨Code.quiet_builtin _ (by decide +kernel), codeAny_builtin PySem.W.KF.entry_class ?_⟩
  unfold Builtin.«object.__class__» shownTypeOf
  repeat lk
  exact h

theorem xc_find (X : K.In s.heap) (k : ExK K C) : PySem.W.Looks (model prog w) s.heap (find (.ref x) (.ref C) "__class__") (.bind (.builtin "getset_descriptor.__get__") (.builtin "object.__class__")) := by
  have L1 := PySem.W.looks_findIn (M := model prog w) X k.cl
  have L2 : PySem.W.Looks (model prog w) s.heap (getOf (some (.builtin "object.__class__"))) (some (.builtin "getset_descriptor.__get__")) := PySem.W.looks_specialIn X k.sg
  have L3 := PySem.W.looks_takesIn (M := model prog w) X k.tk
  refine L1.andThen (L2.andThen ?_)
  have L4 : PySem.W.Looks (model prog w) s.heap (dataDescriptor? (some (.builtin "object.__class__")) (some (.builtin "getset_descriptor.__get__"))) (some (.builtin "getset_descriptor.__get__", .builtin "object.__class__")) := L3.andThen .now
  exact L4.andThen (PySem.W.Looks.tag .now)

theorem xc_entry {tk : Tok} {Q : Fin → Shared → Prop} (X : K.In s.heap) (k : ExK K C) (L0 : PySem.W.Looks (model prog w) s.heap (typeOf (.ref x)) (.ref C)) (h : Q (.done (.ret (.ref C))) s) :
    wpAny (model prog w) A (Builtin.«object.__getattribute__» ⟨[.ref x, .str "__class__" tk], []⟩) Q E s := by
  obtain ⟨hh, g, dr, t, os⟩ := s
  have L1 := xc_find (prog := prog) (w := w) (x := x) X k
  unfold Builtin.«object.__getattribute__» slotArgs attrName
  repeat lk
  show wpAny _ _ (run (.call (.builtin "getset_descriptor.__get__") ⟨[.builtin "object.__class__", .ref x, .ref C], []⟩) none) _ _ _
  refine wpAny_run (A := A) (xc_get X L0 k.mo ?_)
  show wpAny _ _ (pure (Value.ref C)) _ _ _
  exact wpAny_pure (wpAny_pure h)

theorem xc_check {nameV : Value} {Q : Unit → Shared → Prop} (X : K.In s.heap) (k : ExK K C) (L0 : PySem.W.Looks (model prog w) s.heap (typeOf (.ref x)) (.ref C)) (h : Q () s) :
    wpAny (model prog w) A (checkBuiltinCall "BaseException.__getattribute__" ⟨[.ref x, nameV], []⟩) Q E s := by
  obtain ⟨hh, g, dr, t, os⟩ := s
  have e1 : builtinKind "BaseException.__getattribute__" = some .slot := by decide +kernel
  have e2 : splitId "BaseException.__getattribute__" = some ("BaseException", "__getattribute__") := by decide +kernel
  have L1 := PySem.W.looks_mroIn (M := model prog w) X k.mb
  have hz := F.args_bexc_ga (.ref x) nameV
  have L2 : PySem.W.Looks (model prog w) hh (isInstance (.ref x) (.type "BaseException")) true := L0.andThen L1
  simp only [checkBuiltinCall, e1, e2]
  refine wpAny_bind (L2.at ?_)
  repeat (first | assumption | wp_step)
  all_goals exact h

theorem xc_by {tk : Tok} {fill : Bool} {Q : Value → Shared → Prop} (X : K.In s.heap) (k : ExK K C) (L0 : PySem.W.Looks (model prog w) s.heap (typeOf (.ref x)) (.ref C)) (h : Q (.ref C) s) :
    wpAny (model prog w) A (getAttrBy (.ref x) (.str "__class__" tk) fill) Q E s := by
  obtain ⟨hh, g, dr, t, os⟩ := s
  have L1 := PySem.W.looks_findIn (M := model prog w) X k.ga
  have L2 := PySem.W.looks_findIn (M := model prog w) X k.gn
  have hb := F.attr_ValueError.ga.bind (.ref x)
  unfold getAttrBy
  refine wpAny_holding (wpAny_bind (L0.at (wpAny_bind (L1.at ?_))))
  dsimp only
  have ne : (Value.builtin "BaseException.__getattribute__" == Value.builtin "object.__getattribute__") = false := by decide +kernel
  have oh : onTheHeap (Value.ref C) = true := rfl
  rw [ne, Bool.and_false, if_neg Bool.false_ne_true]
  unfold getAttrByItsOwn hookBefore
  rw [if_pos oh]
  refine wpAny_bind (L2.at (wpAny_bind (wpAny_attempt (wpAny_holding ?_))))
  unfold callGetattribute
  rw [Bool.false_and, if_neg Bool.false_ne_true]
  unfold boundAndCalled
  rw [hb]
  refine wpAny_bind (wpAny_pure ?_)
  refine wpAny_call (codeAny_call_builtin F.attr_ValueError.ga.plain F.entry_bexc_ga (xc_check X k L0 (xc_entry X k L0 ?_)))
  exact wpAny_pure h

theorem xc_attr {Q : Option Value → Shared → Prop} (X : K.In s.heap) (k : ExK K C) (L0 : PySem.W.Looks (model prog w) s.heap (typeOf (.ref x)) (.ref C)) (h : Q (some (.ref C)) { s with toks := s.toks + 1 }) :
    wpAny (model prog w) A (getAttr? (.ref x) "__class__") Q E s := by
  obtain ⟨hh, g, dr, t, os⟩ := s
  unfold getAttr? getAttrBy?
  exact wpAny_bind (wpAny_mkText (wpAny_bind (wpAny_attempt (xc_by X k L0 (wpAny_pure h)))))
end

def ExAt (a C : Addr) (h : Heap) : Prop := ∃ o, h.get? a = some o ∧ o.cls = .ref C
theorem ExAt.ty {a C : Addr} {h : Heap} (M : Model) (p : ExAt a C h) : PySem.W.Looks M h (typeOf (.ref a)) (.ref C) := by
  obtain ⟨o, h1, h2⟩ := p
  exact h2 ▸ (PySem.W.Looks.ld h1).andThen .now
theorem kitx_exc {K : PySem.W.Frag} {a C : Addr} (k : ExK K C) : PySem.W.KitX K (.ref a) (.ref C) (ExAt a C) where
  ty := fun M h _ p => p.ty M
  it := fun M h X _ => by
    obtain ⟨cd, hc⟩ := Option.isSome_iff_exists.mp k.ic
    unfold PySem.W.clsIn at hc
    split at hc
    case h_2 => cases hc
    case h_1 c' d' cd' sl' ho =>
      intro A' Q' E' s' kk q
      unfold isType loadHead
      exact wpAny_bind (wpAny_loadPart (kk _ _ (X _ _ ho)) (wpAny_pure q))
  ne := fun h tp dd its n sl X htp => by
    obtain ⟨cd, hc⟩ := Option.isSome_iff_exists.mp k.ic
    cases hb : (Value.ref C == Value.ref tp) with
    | false => rfl
    | true =>
      have e : C = tp := Value.ref.inj (beq_iff_eq.mp hb)
      subst e
      unfold PySem.W.clsIn at hc
      split at hc
      case h_2 => cases hc
      case h_1 c' d' cd' sl' ho =>
        have z := (X _ _ ho).symm.trans htp
        cases z
  ca := fun X p h => xc_attr X k (p.ty _) h

/-! ### isinstance -/
inductive TyX (K : PySem.W.Frag) (H : Hp) : V → Value → Prop where
  | ty {x : V} {t : Value} (h : TyOf K H x t) : TyX K H x t
  | exc {a C : Addr} (e : H a = some (excO a (.ref C))) (k : ExK K C) : TyX K H (.ref a) (.ref C)
def clsV : V → Option Value
  | .ref a => some (.ref a)
  | .ty n => some (.type n)
  | _ => none
theorem clsV_rel {c : V} {cv u : Value} (h : clsV c = some cv) (r : RelV c u) : u = cv := by
  cases c with
  | ref a => cases h; exact r
  | ty n => cases h; exact r
  | _ => cases h
theorem clsVs_rel : ∀ {cs : List V} {cvs us : List Value}, cs.map clsV = cvs.map some → Vals cs us → us = cvs
  | [], [], _, _, .nil => rfl
  | [], _ :: _, _, h, _ => by cases h
  | _ :: _, [], _, h, _ => by cases h
  | c :: cs, cv :: cvs, _, h, .cons r t => by
    have h1 : clsV c = some cv := List.head_eq_of_cons_eq h
    have h2 : cs.map clsV = cvs.map some := List.tail_eq_of_cons_eq h
    rw [clsV_rel h1 r, clsVs_rel h2 t]
section
variable {X : Cx}
theorem call_isi : CallR X (.builtin "isinstance") (fun xs H Q => ∃ x c t cv b, xs = [x, c] ∧ TyX X.K H x t ∧ clsV c = some cv ∧ PySem.W.kitOne X.K t cv = some b ∧ Q (.bl b) H) := by
  intro pins s σ H xs us Q I r h
  obtain ⟨x, c, t, cv, b, rfl, ty, hc, hk, q⟩ := h
  obtain ⟨u, us', rfl, rx, r2⟩ : ∃ u us', us = u :: us' ∧ RelV x u ∧ Vals [c] us' := by cases r with | cons a b => exact ⟨_, _, rfl, a, b⟩
  obtain ⟨v, rfl, rc⟩ : ∃ v, us' = [v] ∧ RelV c v := by cases r2 with | cons a b => cases b; exact ⟨_, rfl, a⟩
  have e := clsV_rel hc rc
  subst e
  cases ty with
  | ty ty => exact isinst_ok I rx ty hk fun tk => ⟨.bl b, H, I.tok tk, rfl, q⟩
  | @exc a C ea k =>
    cases (show u = Value.ref a from rx)
    obtain ⟨p, _⟩ := (show ObjOk X.prog X.w H s.heap a (excO a (.ref C)) from I.hok a _ ea)
    exact PySem.W.kia_one (kitx_exc k) I.kIn p hk (fun z => nomatch z) fun tk => ⟨.bl b, H, I.tok tk, rfl, q⟩
theorem call_isiT : CallR X (.builtin "isinstance") (fun xs H Q => ∃ a C tp cs cvs b, xs = [.ref a, .ref tp] ∧ H a = some (excO a (.ref C)) ∧ ExK X.K C ∧ H tp = some (.tup cs) ∧ cs.map clsV = cvs.map some ∧ PySem.W.kitAny X.K (.ref C) cvs = some b ∧ Q (.bl b) H) := by
  intro pins s σ H xs us Q I r h
  obtain ⟨a, C, tp, cs, cvs, b, rfl, ea, k, et, hc, hk, q⟩ := h
  obtain ⟨u, us', rfl, rx, r2⟩ : ∃ u us', us = u :: us' ∧ RelV (.ref a) u ∧ Vals [.ref tp] us' := by cases r with | cons a b => exact ⟨_, _, rfl, a, b⟩
  obtain ⟨v, rfl, rc⟩ : ∃ v, us' = [v] ∧ RelV (.ref tp) v := by cases r2 with | cons a b => cases b; exact ⟨_, rfl, a⟩
  cases (show u = Value.ref a from rx)
  cases (show v = Value.ref tp from rc)
  obtain ⟨p, _⟩ := (show ObjOk X.prog X.w H s.heap a (excO a (.ref C)) from I.hok a _ ea)
  obtain ⟨_, its, rt, o, h1, h2, n, h3⟩ := (show ObjOk X.prog X.w H s.heap tp (.tup cs) from I.hok tp _ et)
  have e := clsVs_rel hc rt
  subst e
  obtain ⟨oc, od, oda, osl⟩ := o
  dsimp only at h2 h3
  subst h2 h3
  exact PySem.W.kia_tup (kitx_exc k) I.kIn p h1 hk (fun z => nomatch z) fun tk => ⟨.bl b, H, I.tok tk, rfl, q⟩
end
end L2

set_option Elab.async false
set_option linter.all false
set_option maxRecDepth 100000
namespace L2
open PySem PySem.Spec PyProof.Rows

/-! ### == and != of lists and tuples -/
inductive EqD (K : PySem.W.Frag) (H : Hp) : Nat → V → V → Bool → Prop where
  | flat {n : Nat} {x y : V} (fx : flatV x = true) (fy : flatV y = true) : EqD K H n x y (eqV x y)
  | lst {n : Nat} {p q : Addr} {xs ys : List V} {e : Nat → Bool} (ne : p ≠ q) (hp : SqL K H p xs) (hq : SqL K H q ys) (hl : xs.length = ys.length)
      (h : ∀ (j : Nat) (x y : V), xs[j]? = some x → ys[j]? = some y → EqD K H n x y (e j)) : EqD K H (n + 1) (.ref p) (.ref q) ((List.range xs.length).all e)
  | lstN {n : Nat} {p q : Addr} {xs ys : List V} (ne : p ≠ q) (hp : SqL K H p xs) (hq : SqL K H q ys) (hl : xs.length ≠ ys.length) : EqD K H (n + 1) (.ref p) (.ref q) false
  | tup {n : Nat} {p q : Addr} {xs ys : List V} {e : Nat → Bool} (ne : p ≠ q) (hp : SqT K H p xs) (hq : SqT K H q ys)
      (h : ∀ (j : Nat) (x y : V), xs[j]? = some x → ys[j]? = some y → EqD K H n x y (e j)) : EqD K H (n + 1) (.ref p) (.ref q) ((List.range (min xs.length ys.length)).all e && xs.length == ys.length)

theorem Vals.at {xs : List V} {us : List Value} (r : Vals xs us) {j : Nat} (h : j < us.toArray.size) : ∃ x, xs[j]? = some x ∧ RelV x us.toArray[j] := by
  have hl : j < xs.length := by rw [r.length]; simpa using h
  obtain ⟨u, e, q⟩ := r.get (List.getElem?_eq_getElem hl)
  refine ⟨xs[j], List.getElem?_eq_getElem hl, ?_⟩
  have : us.toArray[j] = u := by
    simp only [List.getElem_toArray]
    have := List.getElem?_eq_some_iff.mp e
    exact this.2
  rw [this]; exact q

section
variable {X : Cx} {pins : List (Addr × Obj)} {σ : St} {H : Hp} {s : Shared}
theorem eqd_at (I : Inv X pins σ H s) {n : Nat} {x y : V} {b : Bool} (d : EqD X.K H n x y b) : ∀ {A : Around} {u v : Value}, RelV x u → RelV y v → A.units + n < cLine → SeqAt.EqAt A s u v b := by
  induction d with
  | flat fx fy => intro A u v rx ry hu; exact eqAt_V rx ry fx fy
  | @lst n p q xs ys e ne hp hq hl h ih =>
    intro A u v rx ry hu
    cases rx; cases ry
    obtain ⟨i1, r1, p1, z1⟩ := I.list hp
    obtain ⟨i2, r2, p2, z2⟩ := I.list hq
    have e1 := r1.length
    have e2 := r2.length
    rw [show xs.length = i1.toArray.size by simpa using e1]
    refine SeqAt.EqAt.of_refs ne (SeqAt.RcAt.lists p1.isList p2.isList (by simp only [List.size_toArray]; omega) (by omega) fun j h1 h2 => ?_)
    obtain ⟨a, ea, ra⟩ := r1.at h1
    obtain ⟨c, ec, rc⟩ := r2.at h2
    exact ih j a c ea ec ra rc (by show A.units + 1 + n < cLine; omega)
  | @lstN n p q xs ys ne hp hq hl =>
    intro A u v rx ry hu
    cases rx; cases ry
    obtain ⟨i1, r1, p1, z1⟩ := I.list hp
    obtain ⟨i2, r2, p2, z2⟩ := I.list hq
    have e1 := r1.length
    have e2 := r2.length
    exact SeqAt.EqAt.of_refs ne (SeqAt.RcAt.lists_lengths p1.isList p2.isList (by simp only [List.size_toArray, bne_iff_ne]; omega) (by omega))
  | @tup n p q xs ys e ne hp hq h ih =>
    intro A u v rx ry hu
    cases rx; cases ry
    obtain ⟨i1, r1, p1, z1⟩ := I.tuple hp
    obtain ⟨i2, r2, p2, z2⟩ := I.tuple hq
    have e1 := r1.length
    have e2 := r2.length
    rw [show xs.length = i1.toArray.size by simpa using e1, show ys.length = i2.toArray.size by simpa using e2]
    refine SeqAt.EqAt.of_refs ne (SeqAt.RcAt.tuples p1 p2 (by omega) fun j h1 h2 => ?_)
    obtain ⟨a, ea, ra⟩ := r1.at h1
    obtain ⟨c, ec, rc⟩ := r2.at h2
    exact ih j a c ea ec ra rc (by show A.units + 1 + n < cLine; omega)
theorem op_eqD {n : Nat} (hu : X.A.units + (n + 1) < cLine) : OpR X (compareOp .Eq) (fun x y H Q => ∃ p q b, x = .ref p ∧ y = .ref q ∧ EqD X.K H (n + 1) x y b ∧ Q (.bl b) H) := by
  intro pins s σ H x y v u Q I rx ry h
  obtain ⟨p, q, b, rfl, rfl, d, hq⟩ := h
  cases rx; cases ry
  cases d with
  | flat fx fy => cases fx
  | @lst _ _ _ xs ys e ne h1 h2 hl h =>
    obtain ⟨i1, r1, p1, z1⟩ := I.list h1
    obtain ⟨i2, r2, p2, z2⟩ := I.list h2
    have e1 := r1.length
    have e2 := r2.length
    rw [show xs.length = i1.toArray.size by simpa using e1] at hq
    refine SeqAt.RcAt.lists p1.isList p2.isList (by simp only [List.size_toArray]; omega) (by omega) (fun j h1 h2 => ?_) _ _ _ _ ⟨.bl _, H, I, rfl, hq⟩
    obtain ⟨a, ea, ra⟩ := r1.at h1
    obtain ⟨c, ec, rc⟩ := r2.at h2
    exact eqd_at I (h j a c ea ec) ra rc (by show X.A.units + 1 + n < cLine; omega)
  | @lstN _ _ _ xs ys ne h1 h2 hl =>
    obtain ⟨i1, r1, p1, z1⟩ := I.list h1
    obtain ⟨i2, r2, p2, z2⟩ := I.list h2
    have e1 := r1.length
    have e2 := r2.length
    exact SeqAt.RcAt.lists_lengths p1.isList p2.isList (by simp only [List.size_toArray, bne_iff_ne]; omega) (by omega) _ _ _ _ ⟨.bl _, H, I, rfl, hq⟩
  | @tup _ _ _ xs ys e ne h1 h2 h =>
    obtain ⟨i1, r1, p1, z1⟩ := I.tuple h1
    obtain ⟨i2, r2, p2, z2⟩ := I.tuple h2
    have e1 := r1.length
    have e2 := r2.length
    rw [show xs.length = i1.toArray.size by simpa using e1, show ys.length = i2.toArray.size by simpa using e2] at hq
    refine SeqAt.RcAt.tuples p1 p2 (by omega) (fun j h1 h2 => ?_) _ _ _ _ ⟨.bl _, H, I, rfl, hq⟩
    obtain ⟨a, ea, ra⟩ := r1.at h1
    obtain ⟨c, ec, rc⟩ := r2.at h2
    exact eqd_at I (h j a c ea ec) ra rc (by show X.A.units + 1 + n < cLine; omega)
theorem op_neD {n : Nat} (hu : X.A.units + (n + 1) < cLine) : OpR X (compareOp .NotEq) (fun x y H Q => ∃ p q b, x = .ref p ∧ y = .ref q ∧ EqD X.K H (n + 1) x y b ∧ Q (.bl (!b)) H) := by
  intro pins s σ H x y v u Q I rx ry h
  obtain ⟨p, q, b, rfl, rfl, d, hq⟩ := h
  cases rx; cases ry
  cases d with
  | flat fx fy => cases fx
  | @lst _ _ _ xs ys e ne h1 h2 hl h =>
    obtain ⟨i1, r1, p1, z1⟩ := I.list h1
    obtain ⟨i2, r2, p2, z2⟩ := I.list h2
    have e1 := r1.length
    have e2 := r2.length
    rw [show xs.length = i1.toArray.size by simpa using e1] at hq
    refine SeqAt.RcNeAt.lists p1.isList p2.isList (by simp only [List.size_toArray]; omega) (by omega) (fun j h1 h2 => ?_) _ _ _ _ ⟨.bl _, H, I, rfl, hq⟩
    obtain ⟨a, ea, ra⟩ := r1.at h1
    obtain ⟨c, ec, rc⟩ := r2.at h2
    exact eqd_at I (h j a c ea ec) ra rc (by show X.A.units + 1 + n < cLine; omega)
  | @lstN _ _ _ xs ys ne h1 h2 hl =>
    obtain ⟨i1, r1, p1, z1⟩ := I.list h1
    obtain ⟨i2, r2, p2, z2⟩ := I.list h2
    have e1 := r1.length
    have e2 := r2.length
    exact SeqAt.RcNeAt.lists_lengths p1.isList p2.isList (by simp only [List.size_toArray, bne_iff_ne]; omega) (by omega) _ _ _ _ ⟨.bl _, H, I, rfl, hq⟩
  | @tup _ _ _ xs ys e ne h1 h2 h =>
    obtain ⟨i1, r1, p1, z1⟩ := I.tuple h1
    obtain ⟨i2, r2, p2, z2⟩ := I.tuple h2
    have e1 := r1.length
    have e2 := r2.length
    rw [show xs.length = i1.toArray.size by simpa using e1, show ys.length = i2.toArray.size by simpa using e2] at hq
    refine SeqAt.RcNeAt.tuples p1 p2 (by omega) (fun j h1 h2 => ?_) _ _ _ _ ⟨.bl _, H, I, rfl, hq⟩
    obtain ⟨a, ea, ra⟩ := r1.at h1
    obtain ⟨c, ec, rc⟩ := r2.at h2
    exact eqd_at I (h j a c ea ec) ra rc (by show X.A.units + 1 + n < cLine; omega)
end
/-- two lists of flat things -/
def eqL : List V → List V → Bool
  | [], [] => true
  | x :: xs, y :: ys => eqV x y && eqL xs ys
  | _, _ => false
theorem eqL_len : ∀ {xs ys : List V}, xs.length ≠ ys.length → eqL xs ys = false
  | [], [], h => absurd rfl h
  | [], _ :: _, _ => rfl
  | _ :: _, [], _ => rfl
  | x :: xs, y :: ys, h => by
    show (eqV x y && eqL xs ys) = false
    rw [eqL_len (fun e => h (by simp [e])), Bool.and_false]
theorem range_succ_all (e : Nat → Bool) (n : Nat) : (List.range (n + 1)).all e = (e 0 && (List.range n).all fun j => e (j + 1)) := by
  rw [List.range_succ_eq_map, List.all_cons, List.all_map]
  rfl
theorem eqL_range : ∀ {xs ys : List V}, xs.length = ys.length → (List.range xs.length).all (fun j => eqV (xs.getD j .non) (ys.getD j .non)) = eqL xs ys
  | [], [], _ => rfl
  | [], _ :: _, h => by cases h
  | _ :: _, [], h => by cases h
  | x :: xs, y :: ys, h => by
    have h' : xs.length = ys.length := by simpa using h
    rw [List.length_cons, range_succ_all]
    have e := eqL_range h'
    simp only [List.getD_cons_zero, List.getD_cons_succ]
    rw [e]
    rfl
theorem eqd_flat {K : PySem.W.Frag} {H : Hp} {p q : Addr} {xs ys : List V} (ne : p ≠ q) (hp : SqL K H p xs) (hq : SqL K H q ys) (fx : xs.all flatV = true) (fy : ys.all flatV = true) : EqD K H 1 (.ref p) (.ref q) (eqL xs ys) := by
  by_cases h : xs.length = ys.length
  · rw [← eqL_range h]
    refine EqD.lst ne hp hq h fun j x y hx hy => ?_
    have e1 : xs.getD j .non = x := by rw [List.getD_eq_getElem?_getD, hx]; rfl
    have e2 : ys.getD j .non = y := by rw [List.getD_eq_getElem?_getD, hy]; rfl
    show EqD K H 0 x y (eqV (xs.getD j .non) (ys.getD j .non))
    rw [e1, e2]
    exact EqD.flat (List.all_eq_true.mp fx x (List.mem_of_getElem? hx)) (List.all_eq_true.mp fy y (List.mem_of_getElem? hy))
  · rw [eqL_len h]
    exact EqD.lstN ne hp hq h
theorem eqL_ints : ∀ (ns ms : List Int), eqL (ns.map V.int) (ms.map V.int) = decide (ns = ms)
  | [], [] => by simp [eqL]
  | [], _ :: _ => by simp [eqL]
  | _ :: _, [] => by simp [eqL]
  | n :: ns, m :: ms => by
    show (eqV (.int n) (.int m) && eqL (ns.map V.int) (ms.map V.int)) = _
    rw [eqL_ints ns ms]
    show ((n == m) && decide (ns = ms)) = _
    by_cases h : n = m
    · subst h; simp
    · simp [h]
theorem eqL_bls : ∀ (ns ms : List Bool), eqL (ns.map V.bl) (ms.map V.bl) = decide (ns = ms)
  | [], [] => by simp [eqL]
  | [], _ :: _ => by simp [eqL]
  | _ :: _, [] => by simp [eqL]
  | n :: ns, m :: ms => by
    show (eqV (.bl n) (.bl m) && eqL (ns.map V.bl) (ms.map V.bl)) = _
    rw [eqL_bls ns ms]
    show ((n == m) && decide (ns = ms)) = _
    by_cases h : n = m
    · subst h; simp
    · simp [h]
theorem flat_ints (ns : List Int) : (ns.map V.int).all flatV = true := by simp [flatV]
theorem flat_bls (ns : List Bool) : (ns.map V.bl).all flatV = true := by simp [flatV]
end L2

set_option Elab.async false
set_option linter.all false
set_option maxRecDepth 100000
namespace L2
open PySem PySem.Spec PyProof.Rows

/-! ### list comprehensions of one clause -/
def compX (X : Cx) (N : List Str) (scope : Scope) (cl : List (Str × Addr)) (C : Addr) (s : Shared) (H : Hp) (ex : List Addr) (pn : List (Addr × Obj)) : Cx :=
  { prog := X.prog, w := X.w, K := X.K, mg := X.mg, base := X.base, A := X.A, N := N, s₀ := s, H₀ := H, env := compEnvC scope cl C X.env, outer := X.stack, stack := X.stack, ex := ex, fn := fun _ => false, calm := X.calm, pn := pn, xe := fun _ _ => False }
def compSt (nt : Nat) (fr : List Nat) (σ : St) : St := List.replicate nt none ++ fr.map fun j => (σ[j]?).join
def tComp (wi : TI) (nt : Nat) (fr : List Nat) (g : TG) (te : TE) : TE := fun σ H Q => wi σ H fun J H1 => ∀ D, H1 D = none → ∃ (n : Nat) (W : Nat → List V → Hp → Prop), W 0 [] (upd H1 D (.lst [])) ∧
  ∀ i acc H, W i acc H → H D = some (.lst acc) ∧ acc.length < sizeLine ∧
    ((J.stop i H ∧ Q (.ref D) H) ∨ (i < n ∧ J.go i H ∧ ∀ x H', J.yld i H x H' → g x (compSt nt fr σ) H' fun σ2 H2 => te σ2 H2 fun y H3 => H3 D = some (.lst acc) ∧ W (i + 1) (acc ++ [y]) (upd H3 D (.lst (acc ++ [y])))))

/-- the targets are the first names of the block: the others stay -/
def GKeeps (nt : Nat) (g : TG) : Prop := ∀ (x : V) (σ : St) (H : Hp) (Q : St → Hp → Prop), g x σ H Q → g x σ H fun σ2 H2 => (∀ j, nt ≤ j → σ2[j]? = σ[j]?) ∧ Q σ2 H2
theorem gk_name {i nt : Nat} (h : i < nt) : GKeeps nt (gName i) := fun x σ H Q q => ⟨fun j hj => List.getElem?_set_ne (by omega), q⟩
/-- what the block's names are -/
structure CompOk (X : Cx) (N : List Str) (scope : Scope) (cl : List (Str × Addr)) (nt : Nat) (fr : List Nat) : Prop where
  clos : closureFor scope X.env = pure cl
  kind : scope.kind = .function
  cell : ∀ y ∈ scope.names, y.2 ≠ .cell
  names : ∀ y ∈ scope.names, y.2 = .local → scope.names.lookup y.1 = some .local
  sub : ∀ p ∈ cl, X.env.cells.lookup p.1 = some p.2
  has : ((relabel scope X.env).names.all fun y => !(y.2 == .cell || y.2 == .free) || (cl.lookup y.1).isSome) = true
  len : N.length = nt + fr.length
  frn : ∀ (j i : Nat), fr[j]? = some i → ∃ x, N[nt + j]? = some x ∧ X.N[i]? = some x ∧ (X.env.kindOf x = some .cell ∨ X.env.kindOf x = some .free) ∧ ((relabel scope X.env).names.lookup x = some .cell ∨ (relabel scope X.env).names.lookup x = some .free)

section
variable {X : Cx} {pins : List (Addr × Obj)} {σ : St} {H : Hp} {s : Shared} {N : List Str} {scope : Scope} {cl : List (Str × Addr)} {nt : Nat} {fr : List Nat}
theorem CompOk.cl_at (k : CompOk X N scope cl nt fr) {x : Str} {c : Addr} (h : cl.lookup x = some c) : X.env.cells.lookup x = some c := k.sub (x, c) (PySem.mem_of_lookup h)
/-- the block begins: its dict stands at C, younger than s -/
theorem CompOk.start (k : CompOk X N scope cl nt fr) (I : Inv X pins σ H s) {C : Addr} {h' : Heap} {t' : Nat} {ex : List Addr} (hex : ∀ b ∈ ex, FpOk X pins H b ∧ b < s.heap.objs.size) (hC : s.heap.objs.size ≤ C) (hn : h'.Ns C fun _ => none) (hk : ∀ b o, s.heap.get? b = some o → h'.get? b = some o) :
    Inv (compX X N scope cl C s H ex (X.pn ++ pins)) [] (compSt nt fr σ) H { s with heap := h', toks := t' } := by
  have ncell : ∀ x c, cl.lookup x = some c → c < s.heap.objs.size := fun x c e => by
    obtain ⟨v, z⟩ := I.cell x c (k.cl_at e)
    exact z.lt
  refine ⟨⟨I.ok.mod, ?_, I.ok.glob, I.ok.blt, hC, fun x y c h1 h2 => I.ok.inj x y c (k.cl_at h1) (k.cl_at h2), fun x hx => ?_, fun x c hf _ => (nomatch hf), I.ok.hd, I.ok.frames, .inl rfl, fun b hb => ⟨?_, fun x c e => ?_⟩, I.bs, ?_, fun b o e hb => ?_, fun b hb z => ?_, I.stack, I.stkFree⟩,
    rfl, I.bare, Un.kept hk, ⟨_, hn, fun i x v e1 e2 e3 => ?_⟩, fun x c e => ?_, I.hok.fresh hC, fun x c e => I.freeC x c (k.cl_at e), fun p hp => ?_, I.hok.kept hk, ?_⟩
  · show (relabel scope X.env).kind = .function
    exact k.kind
  · have hx : (relabel scope X.env).names.lookup x = some .cell ∨ (relabel scope X.env).names.lookup x = some .free := hx
    have hall := List.all_eq_true.mp k.has
    rcases hx with hx | hx
    · have := hall _ (PySem.mem_of_lookup hx)
      simp only [beq_self_eq_true, Bool.true_or, Bool.not_true, Bool.false_or] at this
      exact Option.isSome_iff_exists.mp this
    · have := hall _ (PySem.mem_of_lookup hx)
      simp only [beq_self_eq_true, Bool.or_true, Bool.not_true, Bool.false_or] at this
      exact Option.isSome_iff_exists.mp this
  · exact Nat.ne_of_lt (Nat.lt_of_lt_of_le (hex b hb).2 hC)
  · exact (hex b hb).1.2.2.2.2.1 x c (k.cl_at e)
  · exact Nat.le_trans I.ok.bsz I.sz
  · obtain ⟨_, _, _, h4, _⟩ := (hex b hb).1
    have hs := (I.ok.bs b o e).1
    rcases h4 with z | z
    · exact I.ok.noex b o e z
    · exact absurd (Nat.lt_of_lt_of_le (Heap.lt_size hs) z) (Nat.lt_irrefl _)
  · rcases List.mem_cons.mp (I.stkSub b z) with y | y
    · exact (hex b hb).1.2.1 y
    · exact (hex b hb).1.2.2.1 y
  · have hi : ¬ i < nt := fun hi => by
      unfold compSt at e2
      rw [List.getElem?_append_left (by simpa using hi), List.getElem?_replicate] at e2
      split at e2 <;> cases e2
    obtain ⟨j, rfl⟩ : ∃ j, i = nt + j := ⟨i - nt, by omega⟩
    unfold compSt at e2
    rw [List.getElem?_append_right (by simp), List.length_replicate, Nat.add_sub_cancel_left, List.getElem?_map] at e2
    cases hj : fr[j]? with
    | none => rw [hj] at e2; cases e2
    | some i' =>
      rw [hj] at e2
      have e2 : (σ[i']?).join = some v := Option.some.inj e2
      have e4 : σ[i']? = some (some v) := by
        cases z : σ[i']? with
        | none => rw [z] at e2; cases e2
        | some y => rw [z] at e2; rw [show y = some v from e2]
      obtain ⟨x', n1, n2, n3, n4⟩ := k.frn j i' hj
      have e1 : N[nt + j]? = some x := e1
      rw [n1] at e1; cases e1
      obtain ⟨m, hm, hl⟩ := I.loc
      obtain ⟨u, r, l⟩ := hl i' x v n2 e4 (n3.elim (fun z => .inr (.inl z)) fun z => .inr (.inr z))
      refine ⟨u, r, .inr ⟨n4, ?_⟩⟩
      rcases l with ⟨z, _⟩ | ⟨_, c, hc, hcell⟩
      · rcases n3 with y | y <;> (rw [z] at y; cases y)
      · have hall := List.all_eq_true.mp k.has
        have hs : (cl.lookup x).isSome = true := by
          rcases n4 with y | y
          · have := hall _ (PySem.mem_of_lookup y)
            simpa using this
          · have := hall _ (PySem.mem_of_lookup y)
            simpa using this
        obtain ⟨c', hc'⟩ := Option.isSome_iff_exists.mp hs
        have z := k.cl_at hc'
        rw [hc] at z; cases z
        exact ⟨c, hc', hcell.elim fun o ho => ⟨o, hk _ _ ho.1, ho.2⟩⟩
  · obtain ⟨v, o, ho, hd⟩ := I.cell x c (k.cl_at e)
    exact ⟨v, o, hk _ _ ho, hd⟩
  · obtain ⟨e, n, ne, nf, d⟩ := I.pin p (by have hp : p ∈ (X.pn ++ pins) ++ [] := hp; rw [List.append_nil] at hp; exact hp)
    refine ⟨hk _ _ e, n, Nat.ne_of_lt (Nat.lt_of_lt_of_le (Heap.lt_size e) hC), fun z => ?_, d⟩
    rcases List.mem_cons.mp (I.stkSub _ z) with y | y
    · exact ne y
    · exact nf y
  · show (compSt nt fr σ).length = N.length
    unfold compSt
    rw [List.length_append, List.length_replicate, List.length_map, k.len]
/-- the block is over -/
theorem Inv.blockEnd {ex : List Addr} {C : Addr} {σ' : St} {H H' : Hp} {s' : Shared} {h'' : Heap} {pn' pins' : List (Addr × Obj)} (I : Inv X pins σ H s) (hex : ∀ b ∈ ex, FpOk X pins H b) (J : Inv (compX X N scope cl C s H ex pn') pins' σ' H' s') (hC : s.heap.objs.size ≤ C)
    (hs : Heap.SameBut C s'.heap h'') : Inv X pins σ H' { s' with heap := h'' } := by
  have ne : ∀ b o, s.heap.get? b = some o → b ≠ C := fun b o e => Nat.ne_of_lt (Nat.lt_of_lt_of_le (Heap.lt_size e) hC)
  refine I.call' (s' := { s' with heap := h'' }) (ch := ex) J.os ⟨fun b o e n hb hx => ?_, fun b o e n hb hx => ?_, J.base.free, fun b o e hx => ?_, J.base.tups, J.base.frzs, J.base.tbls⟩ ?_ J.bare fun b hb => ⟨(hex b hb).2.2.2.1, (hex b hb).2.1, (hex b hb).2.2.2.2.1, (hex b hb).2.2.2.2.2⟩
  · exact (hs.2 b (ne b o e)).trans (J.base.keep b o e n hb hx)
  · obtain ⟨sl, e1⟩ := J.base.slot b o e n hb hx
    exact ⟨sl, (hs.2 b (ne b o e)).trans e1⟩
  · obtain ⟨o', e1⟩ := J.base.there b o e hx
    exact ⟨o', (hs.2 b (ne b o e)).trans e1⟩
  · exact hok_tracked J.hok fun b o u e q => (hs.2 b (fun z => by
      have := J.free
      rw [show (compX X N scope cl C s H ex pn').env.locals = C from rfl, ← z, e] at this
      cases this)).trans q

theorem pe_comp {elt iter tg : Expr} {pos : Pos} {wi : TI} {g : TG} {te : TE} (hc : X.calm = true) (k : CompOk X N scope cl nt fr) (hi : PI X tg iter wi) (gk : GKeeps nt g)
    (hg : ∀ C s H ex pn', PG (compX X N scope cl C s H ex pn') tg g) (he : ∀ C s H ex pn', PE (compX X N scope cl C s H ex pn') elt te) (hs : ∀ x, foldedSetIterable iter X.env x = pure x := by intro _; rfl) :
    PE X (.ListComp elt [⟨tg, iter, [], 0⟩] scope pos) (tComp wi nt fr g te) := by
  intro pins s σ H Q I h
  rw [eval_ListComp]
  refine wpAny_comprehension_free (use := none) rfl hs k.clos k.kind k.names (thn (hi pins s σ H _ I h) fun xv s1 h1 => thn h1 fun itv s2 h2 => ?_)
  obtain ⟨it, fp, tn, J, H2, rfl, I2, T, st2, f2, R2⟩ := h2
  have hfD : H2 s2.heap.objs.size = none := I2.fresh
  obtain ⟨n, W, w0, turn⟩ := R2 _ hfD
  have I3 : Inv X pins σ (upd H2 s2.heap.objs.size (.lst [])) { s2 with heap := s2.heap.push { cls := .type "list", data := .seq ([] : List Value).toArray } } := I2.lnew (its := []) (t' := s2.toks) .nil (Nat.zero_le _)
  have fp2 : ∀ b ∈ fp, b < s2.heap.objs.size := fun b hb => by
    obtain ⟨o, e, _⟩ := T.obj _ _ st2 b hb
    exact Heap.lt_size e
  have f3 : ∀ b ∈ fp, FpOk X pins (upd H2 s2.heap.objs.size (.lst [])) b := fun b hb => ⟨by rw [upd_ne (Nat.ne_of_lt (fp2 b hb))]; exact (f2 b hb).1, (f2 b hb).2⟩
  refine wpAny_newObj_type (hd := by show (0 : Nat) ≤ _; exact Nat.zero_le _) ?_
  refine wpAny_newFunctionEnv k.cell (by intro y hy; cases hy) (fun h4 hns hsb => ?_) k.kind
  have hsz : (s2.heap.push { cls := .type "list", data := .seq ([] : List Value).toArray }).objs.size = s2.heap.objs.size + 1 := Heap.size_push _ _
  have keep4 : ∀ b o, (s2.heap.push { cls := .type "list", data := .seq ([] : List Value).toArray }).get? b = some o → h4.get? b = some o := fun b o e =>
    (hsb.2 b (Nat.ne_of_lt (Heap.lt_size e))).trans (Heap.get?_push_of_some _ e)
  have I4 := k.start I3 (C := (s2.heap.push { cls := .type "list", data := .seq ([] : List Value).toArray }).objs.size) (h' := h4) (t' := s2.toks) (ex := fp) (fun b hb => ⟨f3 b hb, by rw [hsz]; exact Nat.lt_succ_of_lt (fp2 b hb)⟩) (Nat.le_refl _) hns keep4
  have st4 : tn 0 h4 := T.keep _ _ _ st2 fun b hb o e => keep4 b o (Heap.get?_push_of_some _ e)
  generalize hC : (s2.heap.push { cls := .type "list", data := .seq ([] : List Value).toArray }).objs.size = C at I4 hns
  have hC3 : ({ s2 with heap := s2.heap.push { cls := .type "list", data := .seq ([] : List Value).toArray } } : Shared).heap.objs.size ≤ C := by rw [← hC]; exact Nat.le_refl _
  have stat : ∀ {H' : Hp}, (∀ b ∈ fp, H' b = none) → ∀ b ∈ fp, FpOk (compX X N scope cl C { s2 with heap := s2.heap.push { cls := .type "list", data := .seq ([] : List Value).toArray } } (upd H2 s2.heap.objs.size (.lst [])) fp (X.pn ++ pins)) [] H' b := fun {H'} hn b hb => by
    refine ⟨hn b hb, ?_, fun z => ?_, .inl hb, fun x c e => (f2 b hb).2.2.2.2.1 x c (k.cl_at e), fun p hp => (f2 b hb).2.2.2.2.2 p (by have hp : p ∈ (X.pn ++ pins) ++ [] := hp; rw [List.append_nil] at hp; exact hp)⟩
    · rw [show (compX X N scope cl C { s2 with heap := s2.heap.push { cls := .type "list", data := .seq ([] : List Value).toArray } } (upd H2 s2.heap.objs.size (.lst [])) fp (X.pn ++ pins)).env.locals = C from rfl, ← hC, hsz]
      exact Nat.ne_of_lt (Nat.lt_succ_of_lt (fp2 b hb))
    · rcases List.mem_cons.mp (I2.stkSub b z) with y | y
      · exact (f2 b hb).2.1 y
      · exact (f2 b hb).2.2.1 y
  have loop : ∀ s5 : Shared, s5 = { s2 with heap := h4, toks := s2.toks } → codeAny (model X.prog X.w) X.A (.compLoop (.ListComp elt [⟨tg, iter, [], 0⟩] scope pos) 0 (.ref it) (.ref s2.heap.objs.size) (compEnvC scope cl C X.env))
      (compPost (model X.prog X.w) X.A X.xe none (EP X pins σ Q) (.ref s2.heap.objs.size) C) s5 := by
    rintro s5 rfl
    refine codeAny_loop rfl (fun m s' => ∃ i acc H', m = n - i ∧ Inv (compX X N scope cl C { s2 with heap := s2.heap.push { cls := .type "list", data := .seq ([] : List Value).toArray } } (upd H2 s2.heap.objs.size (.lst [])) fp (X.pn ++ pins)) [] (compSt nt fr σ) H' s' ∧ tn i s'.heap ∧ (∀ b ∈ fp, H' b = none) ∧ W i acc H') ?_ n ⟨0, [], _, rfl, I4, st4, fun b hb => (f3 b hb).1, w0⟩
    rintro m s6 ⟨i, acc, H6, rfl, I6, st6, fr6, w6⟩
    show wpAny _ _ ((compTurn (.ListComp elt [⟨tg, iter, [], 0⟩] scope pos) 0 (.ref it) (.ref s2.heap.objs.size) (compEnvC scope cl C X.env)).onRaise (fun x => do noteFrame x (compEnvC scope cl C X.env); theTreesLotGoes x)) _ _ s6
    refine wpAny_noted ?_
    rw [compTurn_list1]
    refine wpAny_bind (wpAny_standAt (wpAny_bind ?_))
    obtain ⟨hD6, hz6, alt⟩ := turn i acc H6 w6
    rcases alt with ⟨stop, qn⟩ | ⟨hin, go, step⟩
    · refine wpAny_mono (T.done (compX X N scope cl C { s2 with heap := s2.heap.push { cls := .type "list", data := .seq ([] : List Value).toArray } } (upd H2 s2.heap.objs.size (.lst [])) fp (X.pn ++ pins)) rfl rfl rfl hc i [] s6 (compSt nt fr σ) H6 (fun _ _ => False) I6 (stat fr6) st6 stop) (fun r s7 ⟨hr, I7⟩ => ?_) (fun _ _ z => z.elim)
      subst hr
      refine wpAny_pure ?_
      obtain ⟨m7, hn7, _⟩ := id I7.loc
      exact ⟨m7, hn7, fun h8 hs8 => ⟨.ref s2.heap.objs.size, H6, I3.blockEnd f3 I7 hC3 hs8, rfl, qn⟩⟩
    · refine wpAny_mono (T.item (compX X N scope cl C { s2 with heap := s2.heap.push { cls := .type "list", data := .seq ([] : List Value).toArray } } (upd H2 s2.heap.objs.size (.lst [])) fp (X.pn ++ pins)) rfl rfl rfl hc i [] s6 (compSt nt fr σ) H6 (fun _ _ => False) I6 (stat fr6) st6 go) (fun r s7 ⟨u, hr, h7⟩ => ?_) (fun _ _ z => z.elim)
      subst hr
      refine wpAny_bind (wpAny_mono h7 (fun _ s8 ⟨x, H8, I8, r8, y8, st8, fr8⟩ => ?_) (fun _ _ z => z.elim))
      have I8' := I8.pinned (stat fr8) (T.obj _ _ st8)
      refine wpAny_bind (wpAny_mono (hg _ _ _ _ _ _ s8 _ H8 x u _ I8' r8 (gk _ _ _ _ (step x H8 y8))) (fun _ s9 ⟨σ9, H9, I9, k9, q9⟩ => ?_) (fun _ _ z => z.elim))
      refine wpAny_bind (wpAny_bind (wpAny_mono (he _ _ _ _ _ _ s9 σ9 H9 _ I9 q9) (fun v s10 ⟨y, H10, I10, r10, hD10, q10⟩ => ?_) (fun _ _ z => z.elim)))
      refine wpAny_bind (wpAny_mono (mt_append (X := compX X N scope cl C { s2 with heap := s2.heap.push { cls := .type "list", data := .seq ([] : List Value).toArray } } (upd H2 s2.heap.objs.size (.lst [])) fp (X.pn ++ pins)) _ s10 σ9 H10 (.ref s2.heap.objs.size) [y] (.ref s2.heap.objs.size) [v] (fun v' H' => v' = .non ∧ H' = upd H10 s2.heap.objs.size (.lst (acc ++ [y]))) I10 rfl (.cons r10 .nil) ⟨_, acc, y, rfl, rfl, hD10, hz6, rfl, rfl⟩) (fun v' s11 ⟨_, H11, I11, _, _, e11⟩ => ?_) (fun _ _ z => z.elim))
      subst e11
      refine wpAny_pure (wpAny_pure ⟨rfl, n - (i + 1), by omega, i + 1, acc ++ [y], _, rfl, ?_, ?_, fun b hb => ?_, q10⟩)
      · refine (I11.unpinned (pins := [])).weak ?_ fun j v' e => ?_
        · rw [I11.len, ← I4.len]
        · by_cases hj : nt ≤ j
          · rw [k9 j hj]; exact e
          · unfold compSt at e
            rw [List.getElem?_append_left (by rw [List.length_replicate]; omega), List.getElem?_replicate] at e
            split at e <;> cases e
      · exact T.keep _ _ _ st8 fun b hb o e => (I11.pin (b, o) (List.mem_append_right _ (List.mem_append_right _ (mem_pinsAt hb e)))).1
      · obtain ⟨o, e, d⟩ := T.obj _ _ st8 b hb
        exact (I11.pin (b, o) (List.mem_append_right _ (List.mem_append_right _ (mem_pinsAt hb e)))).2.1
  refine codeAny_compStart_list (loop _ rfl) (T.self _ 0 _ _ _ st4 (loop _ rfl))
end
end L2

set_option Elab.async false
set_option linter.all false
set_option maxRecDepth 100000
namespace L2
open PySem PySem.Spec PyProof.Rows

/-! ### a def of the text, by its name -/
structure FnT (P : Program) (w : World) (K : PySem.W.Frag) (mg : Str → Option Value) (base : Heap) (x : Str) (k : Nat) (ps : List Str) (sp : Sp) : Prop where
  ex : ∃ (f : Addr) (fd : FuncData), FnOk P w K mg base (CXK P w) k f fd ps sp ∧ mg x = some (.ref f) ∧ PySem.W.keepIn K (.ref f) = true ∧ Binds K fd ps []
theorem Fun.okX {P : Program} {w : World} {K : PySem.W.Frag} {mg : Str → Option Value} {base : Heap} {x qual : Str} {st : Stmt} {f : Addr} {fd : FuncData} {N ps : List Str} {k : Nat} {sp : Sp} (F : Fun K x qual st f fd) (S : FnScope N ps (defScope st))
    (len : ∀ vs H Q E, sp vs H Q E → vs.length = ps.length)
    (hbody : ∀ (cdv : Value) (A : Around) (outer : List Env) (s : Shared) (H : Hp) (vs : List V) (Q : VK) (E : XK), Room k (A.deeper (envOfC qual (defScope st) s.heap.objs.size f cdv)) → sp vs H Q E →
      ∃ t, PSs (cxOf (CXK P w) P w K mg base N qual (defScope st) f cdv A outer s H E) (defBody st) t ∧ t { nx := fun _ H' => Q .non H', rt := Q } (start N vs) H) : FnOk P w K mg base (CXK P w) (k + 1) f fd ps sp := by
  obtain ⟨oc, od, kV, doc, pm, an, cdv, ct, osl, rfl, lk, hcd⟩ := F.ex
  exact fn_of lk hcd S len fun A outer s H vs Q E hr hsp => hbody cdv A outer s H vs Q E hr hsp
/-- a def as the top has left it -/
structure DefT (K : PySem.W.Frag) (mg : Str → Option Value) (x : Str) (st : Stmt) (ps : List Str) : Prop where
  ex : ∃ (f : Addr) (fd : FuncData), Fun K x x st f fd ∧ mg x = some (.ref f) ∧ Binds K fd ps []
theorem DefT.fn {P : Program} {w : World} {K : PySem.W.Frag} {mg : Str → Option Value} {base : Heap} {x : Str} {st : Stmt} {N ps : List Str} {k : Nat} {sp : Sp} (D : DefT K mg x st ps) (S : FnScope N ps (defScope st)) (len : ∀ vs H Q E, sp vs H Q E → vs.length = ps.length)
    (hbody : ∀ (f : Addr) (cdv : Value) (A : Around) (outer : List Env) (s : Shared) (H : Hp) (vs : List V) (Q : VK) (E : XK), Room k (A.deeper (envOfC x (defScope st) s.heap.objs.size f cdv)) → sp vs H Q E →
      ∃ t, PSs (cxOf (CXK P w) P w K mg base N x (defScope st) f cdv A outer s H E) (defBody st) t ∧ t { nx := fun _ H' => Q .non H', rt := Q } (start N vs) H) : FnT P w K mg base x (k + 1) ps sp := by
  obtain ⟨f, fd, F, hm, hb⟩ := D.ex
  exact ⟨f, fd, F.okX S len (hbody f), hm, F.kp, hb⟩
theorem DefT.mk' {K : PySem.W.Frag} {h : Heap} {mg : Str → Option Value} {x : Str} {st : Stmt} {ps : List Str} {f : Addr} {oc : Value} {od an : Option Addr} {osl : Array (Option Value)} {kV doc pm cdv ct : Value} (X : K.In h) (G : h.Ns mainGlobals mg)
    (a : PySem.W.nsIn K mainGlobals x = some (some (.ref f))) (l : K.lookup f = some ⟨oc, od, .func (PySem.W.fnOf x x (defArgs st) (defBody st) (defScope st) .none kV doc pm an cdv ct), osl⟩) (c : PySem.W.codeIn K cdv x = true) (k : PySem.W.keepIn K (.ref f) = true)
    (hb : ∀ (kV doc pm : Value) (an : Option Addr) (cdv ct : Value) (us : List Value), us.length = ps.length → bindArgs (PySem.W.fnOf x x (defArgs st) (defBody st) (defScope st) .none kV doc pm an cdv ct) ⟨us, []⟩ = pure (ps.zip us)) : DefT K mg x st ps :=
  have F := fun_mk (st := st) (x := x) (qual := x) l c k
  ⟨_, _, F, PySem.W.mg_of X G a, F.binds hb⟩

def tFn (sp : Sp) (E : XK) (t : TA) : TE := fun σ H Q => t σ H fun vs H1 => sp vs H1 Q E
section
variable {X : Cx} {k j : Nat} {ps : List Str} {sp : Sp} {E : XK} {J : St → XK} {x : Str} {p pos : Pos} {e : Expr} {es : List Expr} {t : TA}
theorem pe_fn (G : FnT X.prog X.w X.K X.mg X.base x k ps sp) (hr : Room j X.A) (hj : k ≤ j) (hg : Gl X x) (hx : Passes (CXK X.prog X.w) X E) (ha : PA X (e :: es) t) (hdb : (x == ("__debug__" : Str)) = false := by decide)
    (he : starEach (e :: es) X.env = (false, eval e X.env) :: starEach es X.env := by rfl) (hpl : (backTo pos (starEach es X.env)).any (·.1) = false := by rfl) : PE X (.Call (.Name x p) (e :: es) [] pos) (tFn sp E t) := by
  obtain ⟨f, fd, F, hm, hk, hb⟩ := G.ex
  intro pins s σ H Q I h
  refine pe_call F (hr.mono hj) hg hm hk hb .nil hx ha hdb he hpl pins s σ H Q I ?_
  show t σ H fun vs H1 => sp (vs ++ []) H1 Q E
  simp only [List.append_nil]
  exact h
theorem pe_fnJ (G : FnT X.prog X.w X.K X.mg X.base x k ps sp) (hr : Room j X.A) (hj : k ≤ j) (hg : Gl X x) (hx : PassesJ X J) (ha : PA X (e :: es) t) (hdb : (x == ("__debug__" : Str)) = false := by decide)
    (he : starEach (e :: es) X.env = (false, eval e X.env) :: starEach es X.env := by rfl) (hpl : (backTo pos (starEach es X.env)).any (·.1) = false := by rfl) : PE X (.Call (.Name x p) (e :: es) [] pos) (tCallJ sp J t) := by
  obtain ⟨f, fd, F, hm, hk, hb⟩ := G.ex
  exact pe_callJ F (hr.mono hj) hg hm hk hb hx ha hdb he hpl
/-- nothing is raised in a block -/
theorem passC {N : List Str} {scope : Scope} {cl : List (Str × Addr)} {C : Addr} {s : Shared} {H : Hp} {ex : List Addr} {pn' : List (Addr × Obj)} : Passes (CXK X.prog X.w) (compX X N scope cl C s H ex pn') E0 := by
  intro pins σ H' s' e s'' I h
  obtain ⟨_, _, _, _, _, q⟩ := h
  exact q.elim
end
/-- an own class of errors, by its name -/
structure ExT (K : PySem.W.Frag) (mg : Str → Option Value) (x : Str) (C : Addr) : Prop where
  k : ExK K C
  m : mg x = some (.ref C)

section
variable {X : Cx}
theorem raiseX {P : Program} {w : World} {K : PySem.W.Frag} {mg : Str → Option Value} {base : Heap} {N : List Str} {qual : Str} {scope : Scope} {f : Addr} {cd : Value} {A : Around} {outer : List Env} {s₀ : Shared} {H₀ : Hp} {E₀ : XK} {C : Addr} :
    RaisesX (cxOf (CXK P w) P w K mg base N qual scope f cd A outer s₀ H₀ E₀) C E₀ := fun pins σ H s h' e vs I hx q => raise_leaves I hx q

theorem pe_gint {x : Str} {n : Int} {pos : Pos} (hm : ∃ t, X.mg x = some (.int n t)) (hg : Gl X x) (hd : (x == ("__debug__" : Str)) = false := by decide) : PE X (.Name x pos) (tC (.int n)) := by
  obtain ⟨t, h⟩ := hm
  exact pe_glob hg h ⟨t, rfl⟩ hd
theorem pe_gcls {x : Str} {C : Addr} {pos : Pos} (T : ExT X.K X.mg x C) (hg : Gl X x) (hd : (x == ("__debug__" : Str)) = false := by decide) : PE X (.Name x pos) (tC (.ref C)) := pe_glob hg T.m rfl hd
theorem pe_gty {x : Str} {n : String} {pos : Pos} (hm : X.mg x = none) (hv : bootBuiltins x = some (.type n)) (hg : Gl X x) (hn : x ≠ "__name__" := by decide) (hd : (x == ("__debug__" : Str)) = false := by decide) : PE X (.Name x pos) (tC (.ty n)) := pe_bltn hg hm hv rfl hn hd
theorem ps_raiseT {x : Str} {C : Addr} {E : XK} {np cpos pos : Pos} {e₀ : Expr} {rest : List Expr} {t : TA} (T : ExT X.K X.mg x C) (hc : X.calm = true) (hg : Gl X x) (hx : RaisesX X C E) (ha : PA X (e₀ :: rest) t)
    (hd : (x == ("__debug__" : Str)) = false := by decide) (he : starEach (e₀ :: rest) X.env = (false, eval e₀ X.env) :: starEach rest X.env := by rfl) (hpl : (backTo cpos (starEach rest X.env)).any (·.1) = false := by rfl) :
    PS X (.Raise (some (.Call (.Name x np) (e₀ :: rest) [] cpos)) none pos) (tRaise C E t) := ps_raise hc hg T.m T.k.ex hx ha hd he hpl
theorem pe_append {o e : Expr} {to : TE} {t : TA} {apos cpos : Pos} (ho : PE X o to) (ha : PA X [e] t) (hbase : attributeBase o "append" X.env (eval o X.env) = eval o X.env := by rfl)
    (hfew : ((backTo cpos (starEach [e] X.env)).all (fun x => !x.1) && (backToKw cpos (keywordEach [] X.env)).all (fun x => x.1.isSome) && decide ([e].length + ([] : List Keyword).length + (if ([] : List Keyword).isEmpty then 0 else 1) < 30)) = true := by rfl)
    (hline : (apos.endLine == cpos.line) = true := by rfl) (hs : starEach [e] X.env = (false, eval e X.env) :: starEach [] X.env := by rfl) (hplain : (backTo cpos (starEach [] X.env)).any (·.1) = false := by rfl) :
    PE X (.Call (.Attribute o "append" apos) [e] [] cpos) (tBM X.K "list" rAppend to t) :=
  pe_bm PySem.F.plainAttrs_list PySem.F.slot_list_append PySem.F.type_list_append (fun pins s σ H x xs v us Q I rx rs q => mt_append pins s σ H x xs v us Q I rx rs q) ho ha hbase hfew hline hs hplain
/-! ### all, big divisors -/
theorem call_allB (hc : X.calm = true) : CallR X (.builtin "all") (fun xs H Q => ∃ (p : Addr) (bs : List Bool), xs = [.ref p] ∧ SqL X.K H p (bs.map V.bl) ∧ Q (.bl (bs.all id)) H) := by
  intro pins s σ H xs us Q I r h
  obtain ⟨p, bs, rfl, hq, q⟩ := h
  obtain ⟨u, rfl, rx⟩ := r.one
  cases rx
  obtain ⟨its, ri, pl, hz⟩ := I.list hq
  have hl := pl.isList
  have hlt : p < s.heap.objs.size := by obtain ⟨_, e, _⟩ := hl; exact Heap.lt_size e
  have hn : its.toArray.size = bs.length := by have := ri.length; simpa using this.symm
  have wl := Walks.list (prog := X.prog) (w := X.w) (A := X.A.in1) (I.ok.hd hc) s.heap.objs.size p (Nat.ne_of_lt hlt) its.toArray
  refine call_all_walk (wpAny_pyIter_list hl ⟨_, _, _, _, _, _, (fun i => (bs[i]?).getD true), rfl, wl, ⟨⟨_, Heap.get?_push_size _ rfl, rfl, rfl⟩, hl.push _⟩, ?_, ?_⟩)
  · intro i v s' Q' E' hP hQ
    have hP : its.toArray[i]? = some v := hP
    have hP : its[i]? = some v := by simpa using hP
    have hi : i < (bs.map V.bl).length := by
      have := (List.getElem?_eq_some_iff.mp hP).1
      rw [ri.length]; exact this
    obtain ⟨u, e, q'⟩ := ri.get (List.getElem?_eq_getElem hi)
    rw [hP] at e
    cases e
    have hi' : i < bs.length := by simpa using hi
    have e2 : (bs.map V.bl)[i] = V.bl bs[i] := List.getElem_map _
    rw [e2] at q'
    cases (show v = Value.bool bs[i] from q')
    simp only [List.getElem?_eq_getElem hi', Option.getD_some] at hQ
    exact wpAny_truthy_bool hQ
  · intro h' tk hk
    have e : ((List.range its.toArray.size).all fun i => (bs[i]?).getD true) = bs.all id := by rw [hn]; exact LSm.range_all bs
    rw [e]
    exact ⟨.bl _, H, I.kept (t' := tk) (LSm.kept_iter hk), rfl, q⟩
def CDivB (_ j : Int) : Prop := 0 < j ∧ j.natAbs.log2 < 9000
theorem op_fdivB : OpR X (binaryOp .FloorDiv) (rI CDivB fun i j => .int (i / j)) := opI fun i j _ _ _ _ _ hc q => by
  have e : i / j = i.fdiv j := (Int.fdiv_eq_ediv_of_nonneg i (Int.le_of_lt hc.1)).symm
  rw [e] at q
  exact floordiv_int (by have := hc.1; omega) q (.inl (PyProof.noPylong_of_log2 hc.2))
/-! ### the same rules, where the reading must not name the context -/
theorem ix_listK {K : PySem.W.Frag} (h : X.K = K := by rfl) : IxR X (rIxL K) := h ▸ ix_list
theorem ix_tupK {K : PySem.W.Frag} (h : X.K = K := by rfl) : IxR X (rIxT K) := h ▸ ix_tup
theorem sl_listK {K : PySem.W.Frag} (h : X.K = K := by rfl) : SlR X (rSlL K) := h ▸ sl_list
theorem op_inK {K : PySem.W.Frag} (h : X.K = K := by rfl) : OpR X (compareOp .In) (rIn K false) := h ▸ op_in_seq
theorem op_notInK {K : PySem.W.Frag} (h : X.K = K := by rfl) : OpR X (compareOp .NotIn) (rIn K true) := h ▸ op_notIn_seq
def rEqD (K : PySem.W.Frag) (n : Nat) : R2 := fun x y H Q => ∃ p q b, x = .ref p ∧ y = .ref q ∧ EqD K H (n + 1) x y b ∧ Q (.bl b) H
def rNeD (K : PySem.W.Frag) (n : Nat) : R2 := fun x y H Q => ∃ p q b, x = .ref p ∧ y = .ref q ∧ EqD K H (n + 1) x y b ∧ Q (.bl (!b)) H
theorem op_eqK {K : PySem.W.Frag} {n : Nat} (hu : X.A.units + (n + 1) < cLine) (h : X.K = K := by rfl) : OpR X (compareOp .Eq) (rEqD K n) := h ▸ op_eqD hu
theorem op_neK {K : PySem.W.Frag} {n : Nat} (hu : X.A.units + (n + 1) < cLine) (h : X.K = K := by rfl) : OpR X (compareOp .NotEq) (rNeD K n) := h ▸ op_neD hu
def rIsi (K : PySem.W.Frag) : List V → Hp → VK → Prop := fun xs H Q => ∃ x c t cv b, xs = [x, c] ∧ TyX K H x t ∧ clsV c = some cv ∧ PySem.W.kitOne K t cv = some b ∧ Q (.bl b) H
def rIsiT (K : PySem.W.Frag) : List V → Hp → VK → Prop := fun xs H Q => ∃ a C tp cs cvs b, xs = [.ref a, .ref tp] ∧ H a = some (excO a (.ref C)) ∧ ExK K C ∧ H tp = some (.tup cs) ∧ cs.map clsV = cvs.map some ∧ PySem.W.kitAny K (.ref C) cvs = some b ∧ Q (.bl b) H
def rLen (K : PySem.W.Frag) : List V → Hp → VK → Prop := fun xs H Q => ∃ p ys, xs = [.ref p] ∧ (SqL K H p ys ∨ SqT K H p ys) ∧ Q (.int ys.length) H
def rListOf (K : PySem.W.Frag) : List V → Hp → VK → Prop := fun xs H Q => ∃ p ys, xs = [.ref p] ∧ (SqL K H p ys ∨ SqT K H p ys) ∧ ∀ l, H l = none → Q (.ref l) (upd H l (.lst ys))
def rAll (K : PySem.W.Frag) : List V → Hp → VK → Prop := fun xs H Q => ∃ (p : Addr) (bs : List Bool), xs = [.ref p] ∧ SqL K H p (bs.map V.bl) ∧ Q (.bl (bs.all id)) H
theorem call_isiK {K : PySem.W.Frag} (h : X.K = K := by rfl) : CallR X (.builtin "isinstance") (rIsi K) := h ▸ call_isi
theorem call_isiTK {K : PySem.W.Frag} (h : X.K = K := by rfl) : CallR X (.builtin "isinstance") (rIsiT K) := h ▸ call_isiT
theorem call_lenK {K : PySem.W.Frag} (h : X.K = K := by rfl) : CallR X (.builtin "len") (rLen K) := h ▸ call_len_seq
theorem call_listK {K : PySem.W.Frag} (h : X.K = K := by rfl) : CallR X (.type "list") (rListOf K) := h ▸ call_list_of
theorem call_allK {K : PySem.W.Frag} (hc : X.calm = true) (h : X.K = K := by rfl) : CallR X (.builtin "all") (rAll K) := h ▸ call_allB hc
theorem pi_listK {K : PySem.W.Frag} {tg l : Expr} {tl : TE} (hl : PE X l tl) (h : X.K = K := by rfl) : PI X tg l (iList K tl) := h ▸ pi_list hl
theorem pe_appendK {K : PySem.W.Frag} {o e : Expr} {to : TE} {t : TA} {apos cpos : Pos} (ho : PE X o to) (ha : PA X [e] t) (hK : X.K = K := by rfl) (hbase : attributeBase o "append" X.env (eval o X.env) = eval o X.env := by rfl)
    (hfew : ((backTo cpos (starEach [e] X.env)).all (fun x => !x.1) && (backToKw cpos (keywordEach [] X.env)).all (fun x => x.1.isSome) && decide ([e].length + ([] : List Keyword).length + (if ([] : List Keyword).isEmpty then 0 else 1) < 30)) = true := by rfl)
    (hline : (apos.endLine == cpos.line) = true := by rfl) (hs : starEach [e] X.env = (false, eval e X.env) :: starEach [] X.env := by rfl) (hplain : (backTo cpos (starEach [] X.env)).any (·.1) = false := by rfl) :
    PE X (.Call (.Attribute o "append" apos) [e] [] cpos) (tBM K "list" rAppend to t) := hK ▸ pe_append ho ha hbase hfew hline hs hplain
theorem comp_ok0 {N : List Str} {scope : Scope} {nt : Nat} (clos : closureFor scope X.env = pure []) (kind : scope.kind = .function) (cell : ∀ y ∈ scope.names, y.2 ≠ .cell) (names : ∀ y ∈ scope.names, y.2 = .local → scope.names.lookup y.1 = some .local)
    (has : ((relabel scope X.env).names.all fun y => !(y.2 == .cell || y.2 == .free) || (([] : List (Str × Addr)).lookup y.1).isSome) = true) (len : N.length = nt) : CompOk X N scope [] nt [] :=
  ⟨clos, kind, cell, names, fun p hp => (nomatch hp), has, len, fun j i h => by simp at h⟩
end
/-! ### words for readings -/
theorem ifNB {b : Bool} {A B : Prop} (h : b = false) (q : B) : if b = true then A else B := by
  rw [h]
  exact iteF q
theorem ifYB {b : Bool} {A B : Prop} (h : b = true) (q : A) : if b = true then A else B := by
  rw [h]
  exact iteT q
theorem huN {k : Nat} {A : Around} (hr : Room k A) (n : Nat) (h : n ≤ 100 := by decide) : A.units + n < cLine := by
  have := hr.un
  omega
/-- a comprehension over a list, whose element changes nothing -/
theorem comp_list {K : PySem.W.Frag} {a : Addr} {xs : List V} {f : V → V} {nt : Nat} {fr : List Nat} {g : TG} {te : TE} {σ : St} {H : Hp} {Q : Addr → Hp → Prop} (hs : SqL K H a xs) (hz : xs.length < sizeLine) (ha : ∃ o, H a = some o)
    (he : ∀ (i : Nat) (x : V) (H' : Hp) (k : VK), xs[i]? = some x → Same H H' → k (f x) H' → g x (compSt nt fr σ) H' fun σ2 H2 => te σ2 H2 k) (hq : ∀ D, H D = none → Q D (upd H D (.lst (xs.map f)))) :
    ∀ D, H D = none → ∃ (n : Nat) (W : Nat → List V → Hp → Prop), W 0 [] (upd H D (.lst [])) ∧ ∀ i acc H', W i acc H' → H' D = some (.lst acc) ∧ acc.length < sizeLine ∧
      (((Itl K a).stop i H' ∧ Q D H') ∨ (i < n ∧ (Itl K a).go i H' ∧ ∀ x H2, (Itl K a).yld i H' x H2 → g x (compSt nt fr σ) H2 fun σ2 H3 => te σ2 H3 fun y H4 => H4 D = some (.lst acc) ∧ W (i + 1) (acc ++ [y]) (upd H4 D (.lst (acc ++ [y]))))) := by
  intro D hD
  have sm : ∀ o, Same H (upd H D o) := fun o b u e => by rw [upd_ne (ne_of_none e hD)]; exact e
  refine ⟨xs.length, fun i acc H' => i ≤ xs.length ∧ acc = (xs.take i).map f ∧ H' = upd H D (.lst acc), ⟨Nat.zero_le _, rfl, rfl⟩, ?_⟩
  rintro i acc H' ⟨hi, rfl, rfl⟩
  have hl : ((xs.take i).map f).length = i := by rw [List.length_map, List.length_take]; omega
  refine ⟨upd_same, by omega, ?_⟩
  by_cases h : i < xs.length
  · refine .inr ⟨h, ⟨xs, xs[i], (sm _).seq hs, List.getElem?_eq_getElem h⟩, ?_⟩
    rintro x H2 ⟨rfl, hy⟩
    have hx := hy xs ((sm _).seq hs)
    refine he i x _ _ hx (sm _) ⟨upd_same, by omega, ?_, by rw [upd_upd]⟩
    have e : xs.take (i + 1) = xs.take i ++ [x] := by
      rw [List.take_succ, hx]; rfl
    rw [e, List.map_append]
    rfl
  · have e : i = xs.length := by omega
    subst e
    refine .inl ⟨⟨xs, (sm _).seq hs, Nat.le_refl _⟩, ?_⟩
    rw [List.take_length]
    exact hq D hD
end L2

set_option Elab.async false
set_option linter.all false
set_option maxRecDepth 100000
namespace L2
open PySem PySem.Spec PyProof.Rows
section
variable {X : Cx} {pins : List (Addr × Obj)} {σ : St} {H : Hp} {s : Shared} {N : List Str} {scope : Scope} {cl : List (Str × Addr)} {nt : Nat} {fr : List Nat}
theorem ps_setComp {elt iter tg : Expr} {pos py spos : Pos} {y : Str} {ix : Nat} {wi : TI} {g : TG} {te : TE} (hc : X.calm = true) (k : CompOk X N scope cl nt fr) (hi : PI X tg iter wi) (gk : GKeeps nt g)
    (hg : ∀ C s H ex pn', PG (compX X N scope cl C s H ex pn') tg g) (he : ∀ C s H ex pn', PE (compX X N scope cl C s H ex pn') elt te) (hN : X.N.Nodup) (hi2 : X.N[ix]? = some y) (hy : X.env.scope.names.lookup y = some .local) (hsw : swapsWith (.ListComp elt [⟨tg, iter, [], 0⟩] scope pos) (some (.Name y py)) spos.line X.env = pure true := by rfl)
    (hs : ∀ x, foldedSetIterable iter X.env x = pure x := by intro _; rfl) :
    PS X (.Assign [.Name y py] (.ListComp elt [⟨tg, iter, [], 0⟩] scope pos) spos) (tAsg (tComp wi nt fr g te) (gName ix)) := by
  intro pins s σ H DD I h
  rw [exec_Assign_Name_used _ _ _ _ hsw]
  refine wpAny_bind (wpAny_standAt (wpAny_bind ?_))
  show wpAny _ X.A (do let _ ← comprehension (.ListComp elt [⟨tg, iter, [], 0⟩] scope pos) scope X.env _ (newList []) false (eval iter X.env) (some (assign (.Name y py) X.env))) _ _ s
  refine wpAny_bind (wpAny_mono (wpAny_comprehension_free (use := some (assign (.Name y py) X.env)) (Q := fun _ s' => SP X pins DD .next s') rfl hs k.clos k.kind k.names (thn (hi pins s σ H _ I h) fun xv s1 h1 => thn h1 fun itv s2 h2 => ?_)) (fun _ s' hq => wpAny_pure (wpAny_pure hq)) fun _ _ e => e)
  obtain ⟨it, fp, tn, J, H2, rfl, I2, T, st2, f2, R2⟩ := h2
  have hfD : H2 s2.heap.objs.size = none := I2.fresh
  obtain ⟨n, W, w0, turn⟩ := R2 _ hfD
  have I3 : Inv X pins σ (upd H2 s2.heap.objs.size (.lst [])) { s2 with heap := s2.heap.push { cls := .type "list", data := .seq ([] : List Value).toArray } } := I2.lnew (its := []) (t' := s2.toks) .nil (Nat.zero_le _)
  have fp2 : ∀ b ∈ fp, b < s2.heap.objs.size := fun b hb => by
    obtain ⟨o, e, _⟩ := T.obj _ _ st2 b hb
    exact Heap.lt_size e
  have f3 : ∀ b ∈ fp, FpOk X pins (upd H2 s2.heap.objs.size (.lst [])) b := fun b hb => ⟨by rw [upd_ne (Nat.ne_of_lt (fp2 b hb))]; exact (f2 b hb).1, (f2 b hb).2⟩
  refine wpAny_newObj_type (hd := by show (0 : Nat) ≤ _; exact Nat.zero_le _) ?_
  refine wpAny_newFunctionEnv k.cell (by intro y hy; cases hy) (fun h4 hns hsb => ?_) k.kind
  have hsz : (s2.heap.push { cls := .type "list", data := .seq ([] : List Value).toArray }).objs.size = s2.heap.objs.size + 1 := Heap.size_push _ _
  have keep4 : ∀ b o, (s2.heap.push { cls := .type "list", data := .seq ([] : List Value).toArray }).get? b = some o → h4.get? b = some o := fun b o e =>
    (hsb.2 b (Nat.ne_of_lt (Heap.lt_size e))).trans (Heap.get?_push_of_some _ e)
  have I4 := k.start I3 (C := (s2.heap.push { cls := .type "list", data := .seq ([] : List Value).toArray }).objs.size) (h' := h4) (t' := s2.toks) (ex := fp) (fun b hb => ⟨f3 b hb, by rw [hsz]; exact Nat.lt_succ_of_lt (fp2 b hb)⟩) (Nat.le_refl _) hns keep4
  have st4 : tn 0 h4 := T.keep _ _ _ st2 fun b hb o e => keep4 b o (Heap.get?_push_of_some _ e)
  generalize hC : (s2.heap.push { cls := .type "list", data := .seq ([] : List Value).toArray }).objs.size = C at I4 hns
  have hC3 : ({ s2 with heap := s2.heap.push { cls := .type "list", data := .seq ([] : List Value).toArray } } : Shared).heap.objs.size ≤ C := by rw [← hC]; exact Nat.le_refl _
  have stat : ∀ {H' : Hp}, (∀ b ∈ fp, H' b = none) → ∀ b ∈ fp, FpOk (compX X N scope cl C { s2 with heap := s2.heap.push { cls := .type "list", data := .seq ([] : List Value).toArray } } (upd H2 s2.heap.objs.size (.lst [])) fp (X.pn ++ pins)) [] H' b := fun {H'} hn b hb => by
    refine ⟨hn b hb, ?_, fun z => ?_, .inl hb, fun x c e => (f2 b hb).2.2.2.2.1 x c (k.cl_at e), fun p hp => (f2 b hb).2.2.2.2.2 p (by have hp : p ∈ (X.pn ++ pins) ++ [] := hp; rw [List.append_nil] at hp; exact hp)⟩
    · rw [show (compX X N scope cl C { s2 with heap := s2.heap.push { cls := .type "list", data := .seq ([] : List Value).toArray } } (upd H2 s2.heap.objs.size (.lst [])) fp (X.pn ++ pins)).env.locals = C from rfl, ← hC, hsz]
      exact Nat.ne_of_lt (Nat.lt_succ_of_lt (fp2 b hb))
    · rcases List.mem_cons.mp (I2.stkSub b z) with y | y
      · exact (f2 b hb).2.1 y
      · exact (f2 b hb).2.2.1 y
  have loop : ∀ s5 : Shared, s5 = { s2 with heap := h4, toks := s2.toks } → codeAny (model X.prog X.w) X.A (.compLoop (.ListComp elt [⟨tg, iter, [], 0⟩] scope pos) 0 (.ref it) (.ref s2.heap.objs.size) (compEnvC scope cl C X.env))
      (compPost (model X.prog X.w) X.A X.xe (some (assign (.Name y py) X.env)) (fun _ s' => SP X pins DD .next s') (.ref s2.heap.objs.size) C) s5 := by
    rintro s5 rfl
    refine codeAny_loop rfl (fun m s' => ∃ i acc H', m = n - i ∧ Inv (compX X N scope cl C { s2 with heap := s2.heap.push { cls := .type "list", data := .seq ([] : List Value).toArray } } (upd H2 s2.heap.objs.size (.lst [])) fp (X.pn ++ pins)) [] (compSt nt fr σ) H' s' ∧ tn i s'.heap ∧ (∀ b ∈ fp, H' b = none) ∧ W i acc H') ?_ n ⟨0, [], _, rfl, I4, st4, fun b hb => (f3 b hb).1, w0⟩
    rintro m s6 ⟨i, acc, H6, rfl, I6, st6, fr6, w6⟩
    show wpAny _ _ ((compTurn (.ListComp elt [⟨tg, iter, [], 0⟩] scope pos) 0 (.ref it) (.ref s2.heap.objs.size) (compEnvC scope cl C X.env)).onRaise (fun x => do noteFrame x (compEnvC scope cl C X.env); theTreesLotGoes x)) _ _ s6
    refine wpAny_noted ?_
    rw [compTurn_list1]
    refine wpAny_bind (wpAny_standAt (wpAny_bind ?_))
    obtain ⟨hD6, hz6, alt⟩ := turn i acc H6 w6
    rcases alt with ⟨stop, qn⟩ | ⟨hin, go, step⟩
    · refine wpAny_mono (T.done (compX X N scope cl C { s2 with heap := s2.heap.push { cls := .type "list", data := .seq ([] : List Value).toArray } } (upd H2 s2.heap.objs.size (.lst [])) fp (X.pn ++ pins)) rfl rfl rfl hc i [] s6 (compSt nt fr σ) H6 (fun _ _ => False) I6 (stat fr6) st6 stop) (fun r s7 ⟨hr, I7⟩ => ?_) (fun _ _ z => z.elim)
      subst hr
      refine wpAny_pure ?_
      obtain ⟨m7, hn7, _⟩ := id I7.loc
      have I7x : Inv X pins σ H6 s7 := I3.blockEnd (h'' := s7.heap) f3 I7 hC3 (.refl ..)
      show wpAny _ X.A (assign (.Name y py) X.env (.ref s2.heap.objs.size)) _ _ _
      refine wpAny_assign_Name (store_ok2 (v := .ref s2.heap.objs.size) I7x hN hi2 (Or.inl hy) rfl (fun s8 I8 ⟨a8, sb8, or8⟩ => ?_) (Or.inr hy))
      have ne8 : C ≠ a8 := fun z => by
        rcases or8 with q | q
        · have hL := I3.lt
          rw [← q, ← z] at hL
          exact absurd (Nat.lt_of_lt_of_le hL hC3) (Nat.lt_irrefl _)
        · obtain ⟨v8, q8⟩ := I3.cell _ _ q
          have hL := q8.lt
          rw [← z] at hL
          exact absurd (Nat.lt_of_lt_of_le hL hC3) (Nat.lt_irrefl _)
      refine ⟨m7, hn7.sameBut sb8 ne8, fun h9 hs9 => ⟨_, H6, ?_, qn⟩⟩
      refine I8.turned (it := C) (t' := s8.toks) (fun b o hb e => (hs9.2 b hb).trans e) I7.free (Nat.ne_of_gt (Nat.lt_of_lt_of_le I3.lt hC3)) (.inr (Nat.le_trans I3.sz hC3)) (fun x c e z => ?_) (fun p hp z => ?_)
      · obtain ⟨v8, q8⟩ := I3.cell x c e
        have hL := q8.lt
        rw [z] at hL
        exact absurd (Nat.lt_of_lt_of_le hL hC3) (Nat.lt_irrefl _)
      · have hL := Heap.lt_size (I3.pin p hp).1
        rw [z] at hL
        exact absurd (Nat.lt_of_lt_of_le hL hC3) (Nat.lt_irrefl _)
    · refine wpAny_mono (T.item (compX X N scope cl C { s2 with heap := s2.heap.push { cls := .type "list", data := .seq ([] : List Value).toArray } } (upd H2 s2.heap.objs.size (.lst [])) fp (X.pn ++ pins)) rfl rfl rfl hc i [] s6 (compSt nt fr σ) H6 (fun _ _ => False) I6 (stat fr6) st6 go) (fun r s7 ⟨u, hr, h7⟩ => ?_) (fun _ _ z => z.elim)
      subst hr
      refine wpAny_bind (wpAny_mono h7 (fun _ s8 ⟨x, H8, I8, r8, y8, st8, fr8⟩ => ?_) (fun _ _ z => z.elim))
      have I8' := I8.pinned (stat fr8) (T.obj _ _ st8)
      refine wpAny_bind (wpAny_mono (hg _ _ _ _ _ _ s8 _ H8 x u _ I8' r8 (gk _ _ _ _ (step x H8 y8))) (fun _ s9 ⟨σ9, H9, I9, k9, q9⟩ => ?_) (fun _ _ z => z.elim))
      refine wpAny_bind (wpAny_bind (wpAny_mono (he _ _ _ _ _ _ s9 σ9 H9 _ I9 q9) (fun v s10 ⟨y, H10, I10, r10, hD10, q10⟩ => ?_) (fun _ _ z => z.elim)))
      refine wpAny_bind (wpAny_mono (mt_append (X := compX X N scope cl C { s2 with heap := s2.heap.push { cls := .type "list", data := .seq ([] : List Value).toArray } } (upd H2 s2.heap.objs.size (.lst [])) fp (X.pn ++ pins)) _ s10 σ9 H10 (.ref s2.heap.objs.size) [y] (.ref s2.heap.objs.size) [v] (fun v' H' => v' = .non ∧ H' = upd H10 s2.heap.objs.size (.lst (acc ++ [y]))) I10 rfl (.cons r10 .nil) ⟨_, acc, y, rfl, rfl, hD10, hz6, rfl, rfl⟩) (fun v' s11 ⟨_, H11, I11, _, _, e11⟩ => ?_) (fun _ _ z => z.elim))
      subst e11
      refine wpAny_pure (wpAny_pure ⟨rfl, n - (i + 1), by omega, i + 1, acc ++ [y], _, rfl, ?_, ?_, fun b hb => ?_, q10⟩)
      · refine (I11.unpinned (pins := [])).weak ?_ fun j v' e => ?_
        · rw [I11.len, ← I4.len]
        · by_cases hj : nt ≤ j
          · rw [k9 j hj]; exact e
          · unfold compSt at e
            rw [List.getElem?_append_left (by rw [List.length_replicate]; omega), List.getElem?_replicate] at e
            split at e <;> cases e
      · exact T.keep _ _ _ st8 fun b hb o e => (I11.pin (b, o) (List.mem_append_right _ (List.mem_append_right _ (mem_pinsAt hb e)))).1
      · obtain ⟨o, e, d⟩ := T.obj _ _ st8 b hb
        exact (I11.pin (b, o) (List.mem_append_right _ (List.mem_append_right _ (mem_pinsAt hb e)))).2.1
  refine codeAny_compStart_list (loop _ rfl) (T.self _ 0 _ _ _ st4 (loop _ rfl))
end
/-! ### x.index(y) of flat things -/
section
variable {X : Cx}
def rIndex : V → List V → Hp → VK → Prop := fun x vs H Q => ∃ l xs y j, x = .ref l ∧ vs = [y] ∧ H l = some (.lst xs) ∧ xs.all flatV = true ∧ flatV y = true ∧ (∃ z, xs[j]? = some z ∧ eqV z y = true) ∧ (∀ m z, m < j → xs[m]? = some z → eqV z y = false) ∧ Q (.int (j : Nat)) H
theorem mt_index : MtM X "list.index" rIndex := by
  intro pins s σ H x vs v us Q I rx rv h
  obtain ⟨l, xs, y, j, rfl, rfl, hH, fx, fy, ⟨z, hz, ez⟩, hno, q⟩ := h
  cases rx
  obtain ⟨u, rfl, ru⟩ := rv.one
  obtain ⟨zl, its, n, r, hl, e⟩ := I.lstM hH
  have hj : j < xs.length := (List.getElem?_eq_some_iff.mp hz).1
  have hj2 : j < its.toArray.size := by simpa [← hl] using hj
  have l63 := line63
  have at' : ∀ m (hm : m < its.toArray.size), ∃ z, xs[m]? = some z ∧ eqU y its.toArray[m] = eqV z y := fun m hm => by
    obtain ⟨z, e1, e2⟩ := r.at hm
    exact ⟨z, e1, eqU_of e2 (List.all_eq_true.mp fx z (List.mem_of_getElem? e1))⟩
  refine call_meets F.slot_list_index ⟨_, e, rfl⟩ F.entry_list_index (F.args_list_index_2 _ _) (SeqAt.list_indexAt l its.toArray n none #[] u (eqU y) j hj2 (by have : xs.length ≤ sizeLine := zl; omega) ?_ ?_) ⟨e, fun w hw => mem_eqAt ru fy r fx w (by simpa using hw), ?_⟩
  · obtain ⟨z', e1, e2⟩ := at' j hj2
    rw [hz] at e1; cases e1
    rw [e2]; exact ez
  · intro m hm hlt
    obtain ⟨z', e1, e2⟩ := at' m hm
    rw [e2]; exact hno m z' hlt e1
  · exact ⟨.int (j : Nat), H, I.tok _, ⟨_, rfl⟩, q⟩
theorem pe_indexK {K : PySem.W.Frag} {o e : Expr} {to : TE} {t : TA} {apos cpos : Pos} (ho : PE X o to) (ha : PA X [e] t) (hK : X.K = K := by rfl) (hbase : attributeBase o "index" X.env (eval o X.env) = eval o X.env := by rfl)
    (hfew : ((backTo cpos (starEach [e] X.env)).all (fun x => !x.1) && (backToKw cpos (keywordEach [] X.env)).all (fun x => x.1.isSome) && decide ([e].length + ([] : List Keyword).length + (if ([] : List Keyword).isEmpty then 0 else 1) < 30)) = true := by rfl)
    (hline : (apos.endLine == cpos.line) = true := by rfl) (hs : starEach [e] X.env = (false, eval e X.env) :: starEach [] X.env := by rfl) (hplain : (backTo cpos (starEach [] X.env)).any (·.1) = false := by rfl) :
    PE X (.Call (.Attribute o "index" apos) [e] [] cpos) (tBM K "list" rIndex to t) :=
  hK ▸ pe_bm PySem.F.plainAttrs_list PySem.F.slot_list_index PySem.F.type_list_index (fun pins s σ H x xs v us Q I rx rs q => mt_index pins s σ H x xs v us Q I rx rs q) ho ha hbase hfew hline hs hplain
end
/-- a comprehension over range(n), by what holds between two turns -/
theorem comp_range {n : Nat} {nt : Nat} {fr : List Nat} {g : TG} {te : TE} {σ : St} {H : Hp} {Q : Addr → Hp → Prop} (hz : n < sizeLine) (Pv : Addr → Nat → List V → Hp → Prop) (h0 : ∀ D, H D = none → Pv D 0 [] (upd H D (.lst [])))
    (hk : ∀ D i acc H', Pv D i acc H' → H' D = some (.lst acc) ∧ acc.length = i)
    (hs : ∀ D i acc H', H D = none → i < n → Pv D i acc H' → g (.int (0 + (i : Int))) (compSt nt fr σ) H' fun σ2 H2 => te σ2 H2 fun y H3 => H3 D = some (.lst acc) ∧ Pv D (i + 1) (acc ++ [y]) (upd H3 D (.lst (acc ++ [y]))))
    (hd : ∀ D acc H', H D = none → Pv D n acc H' → Q D H') :
    ∀ D, H D = none → ∃ (m : Nat) (W : Nat → List V → Hp → Prop), W 0 [] (upd H D (.lst [])) ∧ ∀ i acc H', W i acc H' → H' D = some (.lst acc) ∧ acc.length < sizeLine ∧
      (((Itr 0 n).stop i H' ∧ Q D H') ∨ (i < m ∧ (Itr 0 n).go i H' ∧ ∀ x H2, (Itr 0 n).yld i H' x H2 → g x (compSt nt fr σ) H2 fun σ2 H3 => te σ2 H3 fun y H4 => H4 D = some (.lst acc) ∧ W (i + 1) (acc ++ [y]) (upd H4 D (.lst (acc ++ [y]))))) := by
  intro D hD
  refine ⟨n, fun i acc H' => i ≤ n ∧ Pv D i acc H', ⟨Nat.zero_le _, h0 D hD⟩, ?_⟩
  rintro i acc H' ⟨hi, p⟩
  obtain ⟨k1, k2⟩ := hk D i acc H' p
  refine ⟨k1, by omega, ?_⟩
  by_cases h : i < n
  · refine .inr ⟨h, h, ?_⟩
    rintro x H2 ⟨rfl, rfl⟩
    have key := hs D i acc _ hD h p
    have e : (fun (σ2 : St) (H2 : Hp) => te σ2 H2 fun y H3 => H3 D = some (.lst acc) ∧ Pv D (i + 1) (acc ++ [y]) (upd H3 D (.lst (acc ++ [y])))) = (fun (σ2 : St) (H3 : Hp) => te σ2 H3 fun y H4 => H4 D = some (.lst acc) ∧ i + 1 ≤ n ∧ Pv D (i + 1) (acc ++ [y]) (upd H4 D (.lst (acc ++ [y])))) := by
      funext σ2 H3
      have : (fun (y : V) (H3 : Hp) => H3 D = some (.lst acc) ∧ Pv D (i + 1) (acc ++ [y]) (upd H3 D (.lst (acc ++ [y])))) = (fun (y : V) (H4 : Hp) => H4 D = some (.lst acc) ∧ i + 1 ≤ n ∧ Pv D (i + 1) (acc ++ [y]) (upd H4 D (.lst (acc ++ [y])))) := by
        funext y H4
        have h1 : i + 1 ≤ n := h
        simp [h1]
      rw [this]
    rw [e] at key
    exact key
  · have e : i = n := by omega
    subst e
    exact .inl ⟨Nat.le_refl _, hd D acc H' hD p⟩
/-- one name of the def around is used in the block -/
theorem comp_ok1 {X : Cx} {N : List Str} {scope : Scope} {x : Str} {c : Addr} {nt i : Nat} (clos : closureFor scope X.env = pure [(x, c)]) (kind : scope.kind = .function) (cell : ∀ y ∈ scope.names, y.2 ≠ .cell) (names : ∀ y ∈ scope.names, y.2 = .local → scope.names.lookup y.1 = some .local)
    (sub : X.env.cells.lookup x = some c) (has : ((relabel scope X.env).names.all fun y => !(y.2 == .cell || y.2 == .free) || ([(x, c)].lookup y.1).isSome) = true) (len : N.length = nt + 1) (hN : N[nt]? = some x) (hX : X.N[i]? = some x)
    (hk : X.env.kindOf x = some .cell) (hr : (relabel scope X.env).names.lookup x = some .cell) : CompOk X N scope [(x, c)] nt [i] :=
  ⟨clos, kind, cell, names, fun p hp => (by
    rw [List.mem_singleton] at hp
    subst hp
    exact sub), has, len, fun j i' h => (by
    cases j with
    | zero => cases h; exact ⟨x, hN, hX, .inl hk, .inl hr⟩
    | succ j => cases h)⟩
end L2

set_option Elab.async false
set_option linter.all false
set_option maxRecDepth 100000
namespace L2
open PySem PySem.Spec PyProof.Rows
/-! ### zip of two lists -/
def Itz (K : PySem.W.Frag) (a b : Addr) : It :=
  ⟨fun i H => ∃ xs ys x y, SqL K H a xs ∧ SqL K H b ys ∧ xs[i]? = some x ∧ ys[i]? = some y,
   fun i H v H' => ∃ T, v = .ref T ∧ H T = none ∧ ∀ xs ys x y, SqL K H a xs → SqL K H b ys → xs[i]? = some x → ys[i]? = some y → H' = upd H T (.tup [x, y]),
   fun i H => ∃ xs ys, SqL K H a xs ∧ SqL K H b ys ∧ (xs.length ≤ i ∨ ys.length ≤ i)⟩
def zipSt (z TI TO i1 i2 l1 l2 : Addr) (i : Nat) (h : Heap) : Prop :=
  IsZip h z TI TO .none ∧ IsPair h TI (.ref i1) (.ref i2) ∧ (∃ a b, IsPair h TO a b) ∧ h.IsListIter i1 l1 i ∧ h.IsListIter i2 l2 i
section
variable {X : Cx} {pins : List (Addr × Obj)} {σ : St} {H : Hp} {s : Shared} {h' : Heap}
theorem Inv.turnedL {t' : Nat} {ch : List Addr} (I : Inv X pins σ H s) (hf : ∀ b ∈ ch, FpOk X pins H b) (k : ∀ b o, b ∉ ch → s.heap.get? b = some o → h'.get? b = some o) : Inv X pins σ H { s with heap := h', toks := t' } := by
  have nit : ∀ b u, H b = some u → b ∉ ch := fun b u e z => by rw [(hf b z).1] at e; cases e
  refine I.step (g' := s.gens) (d' := s.drawn) (ch := ch) (fun b hb => ?_) (fun b o _ _ hc e _ => k b o hc e) (fun b o _ _ hc e _ => ⟨o.slots, k b o hc e⟩) (fun _ _ _ _ n => n)
    (fun b o hc e => ⟨o, k b o hc e⟩) (fun _ _ e => e) (fun _ _ _ e => e) (fun b ps e => ⟨#[], by rw [e]; simp⟩) (fun m hm => ?_) (fun b u e => ?_) I.bare
  · obtain ⟨f0, f1, f2, f3, f4, f5⟩ := hf b hb
    exact ⟨f3, f1, f4, f5⟩
  · obtain ⟨o, es, ep, ho, r⟩ := hm
    exact ⟨o, es, ep, k _ o (fun z => (hf _ z).2.1 rfl) ho, r⟩
  · refine (I.hok b u e).stay (fun c v hc q => k c v ?_ q) (fun _ q => q) fun _ _ q => q
    rcases hc with z | z
    · rw [z]; exact nit b u e
    · exact nit c _ z
/-- the same, and a new thing is laid -/
theorem Inv.turnedLay {t' : Nat} {ch : List Addr} {T : Addr} {o : HO} (I : Inv X pins σ H s) (hf : ∀ b ∈ ch, FpOk X pins H b) (hT : s.heap.objs.size ≤ T) (k : ∀ b o, b ∉ ch → s.heap.get? b = some o → h'.get? b = some o) (new : ObjOk X.prog X.w (upd H T o) h' T o) :
    Inv X pins σ (upd H T o) { s with heap := h', toks := t' } := by
  have nit : ∀ b u, H b = some u → b ∉ ch := fun b u e z => by rw [(hf b z).1] at e; cases e
  have hn : H T = none := I.hok.fresh hT
  have lt : ∀ b ob, s.heap.get? b = some ob → b ≠ T := fun b ob e z => by
    have := Heap.lt_size e
    rw [z] at this
    exact absurd (Nat.lt_of_lt_of_le this hT) (Nat.lt_irrefl _)
  refine I.step (g' := s.gens) (d' := s.drawn) (ch := ch) (fun b hb => ?_) (fun b o _ _ hc e _ => k b o hc e) (fun b o _ _ hc e _ => ⟨o.slots, k b o hc e⟩) (fun b o _ e n => by rw [upd_ne (lt b o e)]; exact n)
    (fun b o hc e => ⟨o, k b o hc e⟩) (fun b xs e => by rw [upd_ne (ne_of_none e hn)]; exact e) (fun b _ _ e => by rw [upd_ne (ne_of_none e hn)]; exact e) (fun b ps e => ⟨#[], by rw [upd_ne (ne_of_none e hn), e]; simp⟩) (fun m hm => ?_) (fun b u e => ?_) I.bare
  · obtain ⟨f0, f1, f2, f3, f4, f5⟩ := hf b hb
    exact ⟨f3, f1, f4, f5⟩
  · obtain ⟨o, es, ep, ho, r⟩ := hm
    exact ⟨o, es, ep, k _ o (fun z => (hf _ z).2.1 rfl) ho, r⟩
  · by_cases hb : b = T
    · subst hb
      rw [upd_same] at e
      cases e
      exact new
    · rw [upd_ne hb] at e
      refine (I.hok b u e).stay (fun c v hc q => k c v ?_ q) (fun c q => by rw [upd_ne (ne_of_none q hn)]; exact q) fun c xs q => by rw [upd_ne (ne_of_none q hn)]; exact q
      rcases hc with z | z
      · rw [z]; exact nit b u e
      · exact nit c _ z
end
theorem turn_zip {P : Program} {w : World} {K : PySem.W.Frag} {es : List Expr} {kk : Nat} {pos : Pos} {z TI TO i1 i2 l1 l2 : Addr} (ap : ZipApart z TI TO i1 i2 l1 l2) : Turn P w K (.Tuple es kk pos) (Itz K l1 l2) [z, TI, TO, i1, i2] z (zipSt z TI TO i1 i2 l1 l2) where
  mem := by simp
  obj := fun i h st b hb => by
    obtain ⟨h1, h2, ⟨a, c, h3⟩, h4, h5⟩ := st
    simp only [List.mem_cons, List.not_mem_nil, or_false] at hb
    rcases hb with rfl | rfl | rfl | rfl | rfl
    · exact ⟨_, h1, fun v q => by cases (show Data.fields _ = Data.cell v from q)⟩
    · exact ⟨_, h2, fun v q => by cases (show Data.seq _ = Data.cell v from q)⟩
    · exact ⟨_, h3, fun v q => by cases (show Data.seq _ = Data.cell v from q)⟩
    · obtain ⟨o, e, c, d⟩ := h4
      exact ⟨o, e, fun v q => by rw [d] at q; cases q⟩
    · obtain ⟨o, e, c, d⟩ := h5
      exact ⟨o, e, fun v q => by rw [d] at q; cases q⟩
  keep := fun i h h' st k => by
    obtain ⟨h1, h2, ⟨a, c, h3⟩, h4, h5⟩ := st
    exact ⟨k _ (by simp) _ h1, k _ (by simp) _ h2, ⟨a, c, k _ (by simp) _ h3⟩, h4.at fun o e => k _ (by simp) o e, h5.at fun o e => k _ (by simp) o e⟩
  item := by
    intro X hP hw hK hc i pins s σ H E I hf st hg
    subst hP hw hK
    obtain ⟨xs, ys, x, y, hq1, hq2, hx, hy⟩ := hg
    obtain ⟨its1, rv1, p1, hz1⟩ := I.list hq1
    obtain ⟨its2, rv2, p2, hz2⟩ := I.list hq2
    obtain ⟨u1, hu1, ru1⟩ := rv1.get hx
    obtain ⟨u2, hu2, ru2⟩ := rv2.get hy
    obtain ⟨h1, h2, h3, h4, h5⟩ := st
    have W := WalksT.zip2 (prog := X.prog) (w := X.w) (A := X.A) (I.ok.hd hc) z TI TO i1 i2 l1 l2 ap its1.toArray its2.toArray
    have hi1 : i < its1.length := (List.getElem?_eq_some_iff.mp hu1).1
    have hi2 : i < its2.length := (List.getElem?_eq_some_iff.mp hu2).1
    refine W.item i s _ _ (by simp only [List.size_toArray]; omega) ⟨h1, h2, h3, h4, h5, p1.isList, p2.isList⟩ fun T vals h' tk hv hT ht mid kp => ⟨_, rfl, ?_⟩
    refine W.go es kk pos i T _ _ _ mid fun h'' st'' kp2 => ?_
    obtain ⟨v1, v2, e1, e2, rfl⟩ := hv
    have e1 : its1[i]? = some v1 := by simpa using e1
    have e2 : its2[i]? = some v2 := by simpa using e2
    rw [hu1] at e1; cases e1
    rw [hu2] at e2; cases e2
    have apT := W.apart i T h' mid
    have kk' : ∀ b o, b ∉ [z, TO, i1, i2] → s.heap.get? b = some o → h''.get? b = some o := fun b o hb e => kp2 b o hb (kp b o hb e)
    have ch : ∀ b ∈ [z, TO, i1, i2], FpOk X pins H b := fun b hb => hf b (by
      simp only [List.mem_cons, List.not_mem_nil, or_false] at hb ⊢
      rcases hb with rfl | rfl | rfl | rfl <;> simp)
    have hn : H T = none := I.hok.fresh hT
    have ht2 : IsTup h'' T #[u1, u2] := by
      obtain ⟨o, eo, r⟩ := ht
      exact ⟨o, kp2 T o apT eo, r⟩
    refine ⟨.ref T, upd H T (.tup [x, y]), I.turnedLay (t' := tk) ch hT kk' ⟨(by show 2 ≤ sizeLine; decide), [u1, u2], .cons ru1 (.cons ru2 .nil), ht2⟩, rfl, ⟨T, rfl, hn, ?_⟩, ?_, ?_⟩
    · intro xs' ys' x' y' a1 a2 b1 b2
      rw [I.list_inj a1 hq1] at b1
      rw [I.list_inj a2 hq2] at b2
      rw [hx] at b1; cases b1
      rw [hy] at b2; cases b2
      rfl
    · obtain ⟨g1, g2, g3, g4, g5, _⟩ := st''
      exact ⟨g1, g2, g3, g4, g5⟩
    · intro b hb
      have nb : b ≠ T := fun q => by
        obtain ⟨o, e, _⟩ : ∃ o, s.heap.get? b = some o ∧ True := by
          simp only [List.mem_cons, List.not_mem_nil, or_false] at hb
          rcases hb with rfl | rfl | rfl | rfl | rfl
          · exact ⟨_, h1, trivial⟩
          · exact ⟨_, h2, trivial⟩
          · obtain ⟨_, _, h3⟩ := h3
            exact ⟨_, h3, trivial⟩
          · obtain ⟨o, e, _⟩ := h4
            exact ⟨o, e, trivial⟩
          · obtain ⟨o, e, _⟩ := h5
            exact ⟨o, e, trivial⟩
        have := Heap.lt_size e
        rw [q] at this
        exact absurd (Nat.lt_of_lt_of_le this hT) (Nat.lt_irrefl _)
      rw [upd_ne nb]
      exact (hf b hb).1
  done := by
    intro X hP hw hK hc i pins s σ H E I hf st hg
    subst hP hw hK
    obtain ⟨xs, ys, hq1, hq2, hx⟩ := hg
    obtain ⟨its1, rv1, p1, hz1⟩ := I.list hq1
    obtain ⟨its2, rv2, p2, hz2⟩ := I.list hq2
    obtain ⟨h1, h2, ⟨a, c, h3⟩, h4, h5⟩ := st
    have l1 := rv1.length
    have l2 := rv2.length
    refine wpAny_pyNext_zip_end (I.ok.hd hc) ap h1 h2 h3 h4 h5 p1.isList p2.isList ?_ fun h' kp => ⟨rfl, I.turnedL (t' := s.toks) (ch := [z, TO, i1, i2]) (fun b hb => hf b ?_) fun b o hb e => ?_⟩
    · rcases hx with q | q
      · left; simp; omega
      · right; simp; omega
    · simp only [List.mem_cons, List.not_mem_nil, or_false] at hb ⊢
      rcases hb with rfl | rfl | rfl | rfl <;> simp
    · simp only [List.mem_cons, List.not_mem_nil, or_false, not_or] at hb
      exact kp b o hb.1 hb.2.1 hb.2.2.1 hb.2.2.2 e
  self := fun _ _ _ _ _ st h => wpAny_pyIter_zip st.1 h
theorem apart_of {n l1 l2 : Nat} (h1 : l1 < n) (h2 : l2 < n) : ZipApart (n + 4) (n + 2) (n + 3) n (n + 1) l1 l2 := by
  constructor <;> intro h
  · exact absurd (show n + 2 = n + 4 from h) (by omega)
  · exact absurd (show n + 3 = n + 4 from h) (by omega)
  · exact absurd (show n = n + 4 from h) (by omega)
  · exact absurd (show n + 1 = n + 4 from h) (by omega)
  · exact absurd (show n + 2 = n + 3 from h) (by omega)
  · exact absurd (show n + 2 = n from h) (by omega)
  · exact absurd (show n + 2 = n + 1 from h) (by omega)
  · exact absurd (show n + 3 = n from h) (by omega)
  · exact absurd (show n + 3 = n + 1 from h) (by omega)
  · exact absurd (show n = n + 1 from h) (by omega)
  · exact absurd (show l1 = n + 4 from h) (by omega)
  · exact absurd (show l1 = n + 3 from h) (by omega)
  · exact absurd (show l1 = n from h) (by omega)
  · exact absurd (show l1 = n + 1 from h) (by omega)
  · exact absurd (show l2 = n + 4 from h) (by omega)
  · exact absurd (show l2 = n + 3 from h) (by omega)
  · exact absurd (show l2 = n from h) (by omega)
  · exact absurd (show l2 = n + 1 from h) (by omega)
theorem boot_zip : bootBuiltins "zip" = some (.type "zip") := by decide +kernel
def iZip (K : PySem.W.Frag) (ta : TA) : TI := fun σ H R => ta σ H fun vs H1 => ∃ a b, vs = [.ref a, .ref b] ∧ (∃ xs, SqL K H1 a xs) ∧ (∃ ys, SqL K H1 b ys) ∧ R (Itz K a b) H1
section
variable {X : Cx}
theorem pi_zipK {K : PySem.W.Frag} {es : List Expr} {kk : Nat} {tpos : Pos} {a b : Expr} {ta : TA} {p pos : Pos} (hg : Gl X "zip") (hm : X.mg "zip" = none) (ha : PA X [a, b] ta) (hK : X.K = K := by rfl) (hs : starEach [a, b] X.env = [(false, eval a X.env), (false, eval b X.env)] := by rfl) (hs2 : starEach [b] X.env = [(false, eval b X.env)] := by rfl) :
    PI X (.Tuple es kk tpos) (.Call (.Name "zip" p) [a, b] [] pos) (iZip K ta) := by
  subst hK
  intro pins s σ H R I h
  refine Call_ (ld_blt I hg hm boot_zip (PyProof.Rows.callWith_type1 (thn (ha pos pins s σ H _ I h) fun us s1 ⟨vs, H1, I1, r1, q1⟩ => ?_) (by rw [hs, hs2]) (by rw [hs2]; rfl)))
  obtain ⟨l1, l2, e, ⟨xs, hq1⟩, ⟨ys, hq2⟩, q⟩ := q1
  subst e
  cases r1 with
  | cons r rr =>
    cases rr with
    | cons r' rr' =>
      cases rr'
      cases r
      cases r'
      obtain ⟨its1, rv1, p1, hz1⟩ := I1.list hq1
      obtain ⟨its2, rv2, p2, hz2⟩ := I1.list hq2
      have b1 : l1 < s1.heap.objs.size := by obtain ⟨_, e, _⟩ := p1.isList; exact Heap.lt_size e
      have b2 : l2 < s1.heap.objs.size := by obtain ⟨_, e, _⟩ := p2.isList; exact Heap.lt_size e
      refine call_zip_2 p1.isList p2.isList fun h' z1 z2 z3 z4 z5 zs zk => ?_
      refine wpAny_pyIter_zip z1 ?_
      have I2 : Inv X pins σ H1 { s1 with heap := h' } := I1.kept (t' := s1.toks) zk
      refine ⟨s1.heap.objs.size + 4, _, _, _, H1, rfl, I2, turn_zip (z := s1.heap.objs.size + 4) (TI := s1.heap.objs.size + 2) (TO := s1.heap.objs.size + 3) (i1 := s1.heap.objs.size) (i2 := s1.heap.objs.size + 1) (l1 := l1) (l2 := l2) (apart_of b1 b2), ⟨z1, z2, ⟨_, _, z3⟩, z4, z5⟩, fun b hb => ?_, q⟩
      have hb' : s1.heap.objs.size ≤ b := by
        simp only [List.mem_cons, List.not_mem_nil, or_false] at hb
        rcases hb with rfl | rfl | rfl | rfl | rfl
        · exact Nat.le_add_right _ 4
        · exact Nat.le_add_right _ 2
        · exact Nat.le_add_right _ 3
        · exact Nat.le_refl _
        · exact Nat.le_add_right _ 1
      exact I1.fpOk (H' := H1) hb' (I1.hok.fresh hb')
/-- (a, b) = a tuple of two -/
theorem pg_tupK {K : PySem.W.Frag} {es : List Expr} {k : Nat} {t : TGs} {n : Nat} {pos : Pos} (hc : X.calm = true) (h : PGs X es t) (hK : X.K = K := by rfl)
    (hn : (assignEach es X.env).length = n := by rfl) (hst : (assignEach es X.env).findIdx? (·.1) = none := by rfl) : PG X (.Tuple es k pos) (gTup K n t) := hK ▸ pg_tup hc h hn hst
theorem gk_tup2 {K : PySem.W.Frag} : GKeeps 2 (gTup K 2 (gCons (gName 0) (gCons (gName 1) gNil))) := by
  intro x σ H Q q
  obtain ⟨a, xs, e, hq, hl, v, r, e1, v2, r2, e2, e3, q⟩ := q
  refine ⟨a, xs, e, hq, hl, v, r, e1, v2, r2, e2, e3, fun j hj => ?_, q⟩
  rw [List.getElem?_set_ne (by omega), List.getElem?_set_ne (by omega)]
/-- two names of the def around are used in the block -/
theorem comp_ok2 {N : List Str} {scope : Scope} {x y : Str} {c d : Addr} {nt i j : Nat} (clos : closureFor scope X.env = pure [(x, c), (y, d)]) (kind : scope.kind = .function) (cell : ∀ y ∈ scope.names, y.2 ≠ .cell) (names : ∀ y ∈ scope.names, y.2 = .local → scope.names.lookup y.1 = some .local)
    (sub : X.env.cells.lookup x = some c) (sub2 : X.env.cells.lookup y = some d) (has : ((relabel scope X.env).names.all fun z => !(z.2 == .cell || z.2 == .free) || ([(x, c), (y, d)].lookup z.1).isSome) = true) (len : N.length = nt + 2) (hN : N[nt]? = some x) (hN2 : N[nt + 1]? = some y) (hX : X.N[i]? = some x) (hX2 : X.N[j]? = some y)
    (hk : X.env.kindOf x = some .cell) (hk2 : X.env.kindOf y = some .cell) (hr : (relabel scope X.env).names.lookup x = some .cell) (hr2 : (relabel scope X.env).names.lookup y = some .cell) : CompOk X N scope [(x, c), (y, d)] nt [i, j] :=
  ⟨clos, kind, cell, names, fun p hp => (by
    simp only [List.mem_cons, List.not_mem_nil, or_false] at hp
    rcases hp with rfl | rfl
    · exact sub
    · exact sub2), has, len, fun m i' h => (by
    match m, h with
    | 0, h => cases h; exact ⟨x, hN, hX, .inl hk, .inl hr⟩
    | 1, h => cases h; exact ⟨y, hN2, hX2, .inl hk2, .inl hr2⟩
    | m + 2, h => cases h)⟩
end
/-- a comprehension over zip(a, b), whose element changes nothing -/
theorem comp_zip {K : PySem.W.Frag} {a b : Addr} {xs ys : List V} {f : V → V → V} {nt : Nat} {fr : List Nat} {g : TG} {te : TE} {σ : St} {H : Hp} {Q : Addr → Hp → Prop} (h1 : SqL K H a xs) (h2 : SqL K H b ys) (hl : xs.length = ys.length) (hz : xs.length < sizeLine) (ha : ∃ o, H a = some o) (hb : ∃ o, H b = some o)
    (he : ∀ (i : Nat) (x y : V) (T : Addr) (H' : Hp) (k : VK), xs[i]? = some x → ys[i]? = some y → H' T = some (.tup [x, y]) → k (f x y) H' → g (.ref T) (compSt nt fr σ) H' fun σ2 H2 => te σ2 H2 k) (hq : ∀ D H', H D = none → Same H H' → H' D = some (.lst (List.zipWith f xs ys)) → Q D H') :
    ∀ D, H D = none → ∃ (m : Nat) (W : Nat → List V → Hp → Prop), W 0 [] (upd H D (.lst [])) ∧ ∀ i acc H', W i acc H' → H' D = some (.lst acc) ∧ acc.length < sizeLine ∧
      (((Itz K a b).stop i H' ∧ Q D H') ∨ (i < m ∧ (Itz K a b).go i H' ∧ ∀ x H2, (Itz K a b).yld i H' x H2 → g x (compSt nt fr σ) H2 fun σ2 H3 => te σ2 H3 fun y H4 => H4 D = some (.lst acc) ∧ W (i + 1) (acc ++ [y]) (upd H4 D (.lst (acc ++ [y]))))) := by
  intro D hD
  have sn : ∀ {H : Hp} {p : Addr} {o : HO}, H p = none → Same H (upd H p o) := fun n b u e => by rw [upd_ne (ne_of_none e n)]; exact e
  have zl : (List.zipWith f xs ys).length = xs.length := by rw [List.length_zipWith, ← hl, Nat.min_self]
  refine ⟨xs.length, fun i acc H' => i ≤ xs.length ∧ acc = (List.zipWith f xs ys).take i ∧ Same H H' ∧ H' D = some (.lst acc), ⟨Nat.zero_le _, rfl, sn hD, upd_same⟩, ?_⟩
  rintro i acc H' ⟨hi, rfl, s', e'⟩
  refine ⟨e', by rw [List.length_take, zl]; omega, ?_⟩
  by_cases h : i < xs.length
  · have hx := List.getElem?_eq_getElem h
    have hy := List.getElem?_eq_getElem (show i < ys.length by omega)
    refine .inr ⟨h, ⟨xs, ys, _, _, s'.seq h1, s'.seq h2, hx, hy⟩, ?_⟩
    rintro v H2 ⟨T, rfl, nT, hH⟩
    obtain rfl := hH xs ys _ _ (s'.seq h1) (s'.seq h2) hx hy
    refine he i _ _ T _ _ hx hy upd_same ⟨sn nT _ _ e', h, ?_, ?_, upd_same⟩
    · rw [List.take_add_one, List.getElem?_zipWith, hx, hy]
      rfl
    · intro c o ec
      rw [upd_ne (ne_of_none ec hD)]
      exact sn nT _ _ (s' c o ec)
  · have e : i = xs.length := by omega
    subst e
    refine .inl ⟨⟨xs, ys, s'.seq h1, s'.seq h2, .inl (Nat.le_refl _)⟩, hq D H' hD s' ?_⟩
    rw [e', ← zl, List.take_length]
section
variable {X : Cx}
/-- x is not True, x is True -/
theorem op_isnotB : OpR X (compareOp .IsNot) (fun x y H Q => ∃ a b, x = .bl a ∧ y = .bl b ∧ Q (.bl (a != b)) H) := by
  intro pins s σ H x y v u Q I rx ry h
  obtain ⟨a, b, rfl, rfl, q⟩ := h
  cases rx
  cases ry
  exact PyProof.Rows.isnot_bool (fin_bl I q rfl)
end
end L2

set_option Elab.async false
set_option linter.all false
set_option maxRecDepth 100000
namespace L2
open PySem PySem.Spec PyProof.Rows

/-! ### a def that is called within an except suite -/
structure RoomH (k : Nat) (A : Around) : Prop where
  dp : A.depth + 3 * k + 5 < recursionLimit
  un : A.units + 16 * k + 200 < cLine
theorem RoomH.mono {j k : Nat} {A : Around} (r : RoomH k A) (h : j ≤ k) : RoomH j A := ⟨by have := r.dp; omega, by have := r.un; omega⟩
theorem Room.inH {k : Nat} {A : Around} {v : Option Value} (r : Room k A) : RoomH k (A.mark v) := ⟨r.dp, r.un⟩
structure FnTH (P : Program) (w : World) (K : PySem.W.Frag) (mg : Str → Option Value) (base : Heap) (x : Str) (k : Nat) (ps : List Str) (sp : Sp) : Prop where
  ex : ∃ (f : Addr) (fd : FuncData), (∀ vs H Q E, sp vs H Q E → vs.length = ps.length) ∧ (∀ (A : Around) (outer : List Env) (s : Shared) (H : Hp) (args : Args) (us : List Value) (vs : List V) (Q : VK) (E : XK), RoomH k A → Env0 P w K mg base A outer s H → BindsTo s fd args (ps.zip us) → Vals vs us → sp vs H Q E →
    codeAny (model P w) A (.call (.ref f) args) (CR (CXK P w) outer P w H s Q E) s) ∧ mg x = some (.ref f) ∧ PySem.W.keepIn K (.ref f) = true ∧ Binds K fd ps []
theorem DefT.fnH {P : Program} {w : World} {K : PySem.W.Frag} {mg : Str → Option Value} {base : Heap} {x : Str} {st : Stmt} {N ps : List Str} {k : Nat} {sp : Sp} (D : DefT K mg x st ps) (S : FnScope N ps (defScope st)) (len : ∀ vs H Q E, sp vs H Q E → vs.length = ps.length)
    (hbody : ∀ (f : Addr) (cdv : Value) (A : Around) (outer : List Env) (s : Shared) (H : Hp) (vs : List V) (Q : VK) (E : XK), sp vs H Q E →
      ∃ t, PSs ({ cxOf (CXK P w) P w K mg base N x (defScope st) f cdv A outer s H E with calm := false } : Cx) (defBody st) t ∧ t { nx := fun _ H' => Q .non H', rt := Q } (start N vs) H) : FnTH P w K mg base x (k + 1) ps sp := by
  obtain ⟨f, fd, F, hm, hb⟩ := D.ex
  have kp := F.kp
  obtain ⟨oc, od, kV, doc, pm, an, cdv, ct, osl, rfl, lk, hcd⟩ := F.ex
  refine ⟨f, _, len, fun A outer s H args us vs Q E hr e0 hb r hsp => ?_, hm, kp, hb⟩
  have hl := len _ _ _ _ hsp
  have KX : K.In s.heap := e0.mod.kin.keeps fun b o e => (e0.bs b o e).1
  have lim : s.heap.NoLimit := e0.mod.nolimit.keeps fun b o e => (e0.bs b o e).1
  have hkind : ∀ y ∈ ps.zip us, (defScope st).names.lookup y.1 = some .local ∨ ((defScope st).names.lookup y.1 = some .cell ∧ ((cellsFrom (s.heap.objs.size + 1) (defScope st).names []).lookup y.1).isSome = true) := fun ⟨n, v⟩ hy => by
    rcases S.par n (List.of_mem_zip hy).1 with q | q
    · exact .inl q
    · exact .inr ⟨q, PySem.W.cellsFrom_some _ _ _ (.inl q)⟩
  refine codeAny_call_function (by have := hr.dp; omega) (KX _ _ lk) rfl S.co S.gen rfl (PySem.W.codeRec_of KX hcd) (hb _ _ _ _ ?_)
  refine wpAny_newFunctionEnv_cells S.kind hkind fun env he s1 y => ?_
  subst he
  refine ⟨lim.keeps y.toInCall.keep, codeAny_func ?_⟩
  obtain ⟨t, ht, hq⟩ := hbody f cdv A outer s H vs Q E hsp
  have e0' : Env0 P w K mg base ({ A with handled := none } : Around) outer s H := ⟨e0.frames, e0.mod, e0.bs, e0.bsz, e0.funs, e0.frf, e0.hok, e0.bare⟩
  have I0 : Inv (cxOf (CXK P w) P w K mg base N x (defScope st) f cdv ({ A with handled := none } : Around) outer s H E) [] (start N vs) H s1 := inv_start S rfl e0' hl r y
  have I : Inv ({ cxOf (CXK P w) P w K mg base N x (defScope st) f cdv A outer s H E with calm := false } : Cx) [] (start N vs) H s1 := I0.re (A' := A.deeper (envOfC x (defScope st) s.heap.objs.size f cdv)) (calm' := false) (pn' := []) rfl (fun z => nomatch z) (fun p z => z)
  refine wpAny_mono (ht [] s1 (start N vs) H _ I hq) (fun fl s' hs => ?_) fun e s' hs => hs
  have fin : ∀ {σ' : St} {H' : Hp} {v : V} {u : Value}, Inv ({ cxOf (CXK P w) P w K mg base N x (defScope st) f cdv A outer s H E with calm := false } : Cx) [] σ' H' s' → RelV v u → Q v H' → CE outer P w H s Q u s' :=
    fun {σ' H' v u} J rv q => ⟨v, H', J.os, J.bare, J.base, J.hok, rv, q⟩
  cases fl with
  | ret u =>
    obtain ⟨v, σ', H', J, rv, q⟩ := hs
    exact fin J rv q
  | next =>
    obtain ⟨σ', H', J, q⟩ := hs
    exact fin (v := V.non) (u := Value.none) J rfl q
  | brk =>
    obtain ⟨_, _, _, q⟩ := hs
    exact False.elim q
  | cont =>
    obtain ⟨_, _, _, q⟩ := hs
    exact False.elim q
section
variable {X : Cx} {k j : Nat} {ps : List Str} {sp : Sp} {E : XK} {x : Str} {p pos : Pos} {e : Expr} {es : List Expr} {t : TA}
theorem pe_fnH (G : FnTH X.prog X.w X.K X.mg X.base x k ps sp) (hr : RoomH j X.A) (hj : k ≤ j) (hg : Gl X x) (hx : Passes (CXK X.prog X.w) X E) (ha : PA X (e :: es) t) (hdb : (x == ("__debug__" : Str)) = false := by decide)
    (he : starEach (e :: es) X.env = (false, eval e X.env) :: starEach es X.env := by rfl) (hpl : (backTo pos (starEach es X.env)).any (·.1) = false := by rfl) : PE X (.Call (.Name x p) (e :: es) [] pos) (tFn sp E t) := by
  obtain ⟨f, fd, len, run, hm, hk, hb⟩ := G.ex
  intro pins s σ H Q I h
  refine wpAny_Call_Name_kw (ld_glob I hg hm ?_ hdb)
  refine PySem.W.callWith_K (h₀ := X.base) I.ok.mod.kin hk (thn (ha pos pins s σ H _ I h) fun us s1 ⟨vs, H1, I1, r, q⟩ => ⟨I1.kIn, ?_⟩) he hpl
  have hl : us.length = ps.length := by rw [← r.length]; exact len _ _ _ _ q
  have bb := hb s1 us I1.kIn (by rw [List.append_nil]; exact hl)
  rw [List.append_nil] at bb
  refine wpAny_call (codeAny_mono (run X.A X.stack s1 H1 ⟨us, []⟩ us vs Q E (hr.mono hj) I1.env0 bb r q) fun r s' hq => ?_)
  cases r with
  | error e => exact hx pins σ H1 s1 e s' I1 hq
  | ok fl =>
    cases fl with
    | ret u => exact I1.after hq
    | next => exact False.elim hq
    | brk => exact False.elim hq
    | cont => exact False.elim hq
/-- nothing is raised in the suite -/
theorem passH {pn' : List (Addr × Obj)} {a : Addr} : Passes (CXK X.prog X.w) (X.inH pn' a) E0 := by
  intro pins σ H' s' e s'' I h
  obtain ⟨_, _, _, _, _, q⟩ := h
  exact q.elim
end
/-- a class of the text that nothing raises -/
structure ExM (mg : Str → Option Value) (x : Str) (C : Addr) : Prop where
  m : mg x = some (.ref C)
theorem pe_gclm {X : Cx} {x : Str} {C : Addr} {pos : Pos} (T : ExM X.mg x C) (hg : Gl X x) (hd : (x == ("__debug__" : Str)) = false := by decide) : PE X (.Name x pos) (tC (.ref C)) := pe_glob hg T.m rfl hd
end L2

set_option Elab.async false
set_option linter.all false
set_option maxRecDepth 100000
namespace L2
open PySem PySem.Spec PyProof.Rows

/-! ### a comprehension with a test -/
def tCompIf (wi : TI) (nt : Nat) (fr : List Nat) (g : TG) (tt : TT) (te : TE) : TE := fun σ H Q => wi σ H fun J H1 => ∀ D, H1 D = none → ∃ (n : Nat) (W : Nat → List V → Hp → Prop), W 0 [] (upd H1 D (.lst [])) ∧
  ∀ i acc H, W i acc H → H D = some (.lst acc) ∧ acc.length < sizeLine ∧
    ((J.stop i H ∧ Q (.ref D) H) ∨ (i < n ∧ J.go i H ∧ ∀ x H', J.yld i H x H' → g x (compSt nt fr σ) H' fun σ2 H2 => tt σ2 H2 fun c H3 => if c = true then (te σ2 H3 fun y H4 => H4 D = some (.lst acc) ∧ W (i + 1) (acc ++ [y]) (upd H4 D (.lst (acc ++ [y])))) else W (i + 1) acc H3))
section
variable {X : Cx} {pins : List (Addr × Obj)} {σ : St} {H : Hp} {s : Shared} {N : List Str} {scope : Scope} {cl : List (Str × Addr)} {nt : Nat} {fr : List Nat}
theorem pe_compIf {elt iter tg ce : Expr} {pos : Pos} {wi : TI} {g : TG} {te : TE} {tt : TT} (hc : X.calm = true) (k : CompOk X N scope cl nt fr) (hi : PI X tg iter wi) (gk : GKeeps nt g)
    (hg : ∀ C s H ex pn', PG (compX X N scope cl C s H ex pn') tg g) (ht : ∀ C s H ex pn', PT (compX X N scope cl C s H ex pn') ce tt) (he : ∀ C s H ex pn', PE (compX X N scope cl C s H ex pn') elt te) (hs : ∀ x, foldedSetIterable iter X.env x = pure x := by intro _; rfl) :
    PE X (.ListComp elt [⟨tg, iter, [ce], 0⟩] scope pos) (tCompIf wi nt fr g tt te) := by
  intro pins s σ H Q I h
  rw [eval_ListComp]
  refine wpAny_comprehension_free (use := none) rfl hs k.clos k.kind k.names (thn (hi pins s σ H _ I h) fun xv s1 h1 => thn h1 fun itv s2 h2 => ?_)
  obtain ⟨it, fp, tn, J, H2, rfl, I2, T, st2, f2, R2⟩ := h2
  have hfD : H2 s2.heap.objs.size = none := I2.fresh
  obtain ⟨n, W, w0, turn⟩ := R2 _ hfD
  have I3 : Inv X pins σ (upd H2 s2.heap.objs.size (.lst [])) { s2 with heap := s2.heap.push { cls := .type "list", data := .seq ([] : List Value).toArray } } := I2.lnew (its := []) (t' := s2.toks) .nil (Nat.zero_le _)
  have fp2 : ∀ b ∈ fp, b < s2.heap.objs.size := fun b hb => by
    obtain ⟨o, e, _⟩ := T.obj _ _ st2 b hb
    exact Heap.lt_size e
  have f3 : ∀ b ∈ fp, FpOk X pins (upd H2 s2.heap.objs.size (.lst [])) b := fun b hb => ⟨by rw [upd_ne (Nat.ne_of_lt (fp2 b hb))]; exact (f2 b hb).1, (f2 b hb).2⟩
  refine wpAny_newObj_type (hd := by show (0 : Nat) ≤ _; exact Nat.zero_le _) ?_
  refine wpAny_newFunctionEnv k.cell (by intro y hy; cases hy) (fun h4 hns hsb => ?_) k.kind
  have hsz : (s2.heap.push { cls := .type "list", data := .seq ([] : List Value).toArray }).objs.size = s2.heap.objs.size + 1 := Heap.size_push _ _
  have keep4 : ∀ b o, (s2.heap.push { cls := .type "list", data := .seq ([] : List Value).toArray }).get? b = some o → h4.get? b = some o := fun b o e =>
    (hsb.2 b (Nat.ne_of_lt (Heap.lt_size e))).trans (Heap.get?_push_of_some _ e)
  have I4 := k.start I3 (C := (s2.heap.push { cls := .type "list", data := .seq ([] : List Value).toArray }).objs.size) (h' := h4) (t' := s2.toks) (ex := fp) (fun b hb => ⟨f3 b hb, by rw [hsz]; exact Nat.lt_succ_of_lt (fp2 b hb)⟩) (Nat.le_refl _) hns keep4
  have st4 : tn 0 h4 := T.keep _ _ _ st2 fun b hb o e => keep4 b o (Heap.get?_push_of_some _ e)
  generalize hC : (s2.heap.push { cls := .type "list", data := .seq ([] : List Value).toArray }).objs.size = C at I4 hns
  have hC3 : ({ s2 with heap := s2.heap.push { cls := .type "list", data := .seq ([] : List Value).toArray } } : Shared).heap.objs.size ≤ C := by rw [← hC]; exact Nat.le_refl _
  have stat : ∀ {H' : Hp}, (∀ b ∈ fp, H' b = none) → ∀ b ∈ fp, FpOk (compX X N scope cl C { s2 with heap := s2.heap.push { cls := .type "list", data := .seq ([] : List Value).toArray } } (upd H2 s2.heap.objs.size (.lst [])) fp (X.pn ++ pins)) [] H' b := fun {H'} hn b hb => by
    refine ⟨hn b hb, ?_, fun z => ?_, .inl hb, fun x c e => (f2 b hb).2.2.2.2.1 x c (k.cl_at e), fun p hp => (f2 b hb).2.2.2.2.2 p (by have hp : p ∈ (X.pn ++ pins) ++ [] := hp; rw [List.append_nil] at hp; exact hp)⟩
    · rw [show (compX X N scope cl C { s2 with heap := s2.heap.push { cls := .type "list", data := .seq ([] : List Value).toArray } } (upd H2 s2.heap.objs.size (.lst [])) fp (X.pn ++ pins)).env.locals = C from rfl, ← hC, hsz]
      exact Nat.ne_of_lt (Nat.lt_succ_of_lt (fp2 b hb))
    · rcases List.mem_cons.mp (I2.stkSub b z) with y | y
      · exact (f2 b hb).2.1 y
      · exact (f2 b hb).2.2.1 y
  have loop : ∀ s5 : Shared, s5 = { s2 with heap := h4, toks := s2.toks } → codeAny (model X.prog X.w) X.A (.compLoop (.ListComp elt [⟨tg, iter, [ce], 0⟩] scope pos) 0 (.ref it) (.ref s2.heap.objs.size) (compEnvC scope cl C X.env))
      (compPost (model X.prog X.w) X.A X.xe none (EP X pins σ Q) (.ref s2.heap.objs.size) C) s5 := by
    rintro s5 rfl
    refine codeAny_loop rfl (fun m s' => ∃ i acc H', m = n - i ∧ Inv (compX X N scope cl C { s2 with heap := s2.heap.push { cls := .type "list", data := .seq ([] : List Value).toArray } } (upd H2 s2.heap.objs.size (.lst [])) fp (X.pn ++ pins)) [] (compSt nt fr σ) H' s' ∧ tn i s'.heap ∧ (∀ b ∈ fp, H' b = none) ∧ W i acc H') ?_ n ⟨0, [], _, rfl, I4, st4, fun b hb => (f3 b hb).1, w0⟩
    rintro m s6 ⟨i, acc, H6, rfl, I6, st6, fr6, w6⟩
    show wpAny _ _ ((compTurn (.ListComp elt [⟨tg, iter, [ce], 0⟩] scope pos) 0 (.ref it) (.ref s2.heap.objs.size) (compEnvC scope cl C X.env)).onRaise (fun x => do noteFrame x (compEnvC scope cl C X.env); theTreesLotGoes x)) _ _ s6
    refine wpAny_noted ?_
    rw [compTurn_list]
    refine wpAny_bind (wpAny_standAt (wpAny_bind ?_))
    obtain ⟨hD6, hz6, alt⟩ := turn i acc H6 w6
    rcases alt with ⟨stop, qn⟩ | ⟨hin, go, step⟩
    · refine wpAny_mono (T.done (compX X N scope cl C { s2 with heap := s2.heap.push { cls := .type "list", data := .seq ([] : List Value).toArray } } (upd H2 s2.heap.objs.size (.lst [])) fp (X.pn ++ pins)) rfl rfl rfl hc i [] s6 (compSt nt fr σ) H6 (fun _ _ => False) I6 (stat fr6) st6 stop) (fun r s7 ⟨hr, I7⟩ => ?_) (fun _ _ z => z.elim)
      subst hr
      refine wpAny_pure ?_
      obtain ⟨m7, hn7, _⟩ := id I7.loc
      exact ⟨m7, hn7, fun h8 hs8 => ⟨.ref s2.heap.objs.size, H6, I3.blockEnd f3 I7 hC3 hs8, rfl, qn⟩⟩
    · refine wpAny_mono (T.item (compX X N scope cl C { s2 with heap := s2.heap.push { cls := .type "list", data := .seq ([] : List Value).toArray } } (upd H2 s2.heap.objs.size (.lst [])) fp (X.pn ++ pins)) rfl rfl rfl hc i [] s6 (compSt nt fr σ) H6 (fun _ _ => False) I6 (stat fr6) st6 go) (fun r s7 ⟨u, hr, h7⟩ => ?_) (fun _ _ z => z.elim)
      subst hr
      refine wpAny_bind (wpAny_mono h7 (fun _ s8 ⟨x, H8, I8, r8, y8, st8, fr8⟩ => ?_) (fun _ _ z => z.elim))
      have I8' := I8.pinned (stat fr8) (T.obj _ _ st8)
      refine wpAny_bind (wpAny_mono (hg _ _ _ _ _ _ s8 _ H8 x u _ I8' r8 (gk _ _ _ _ (step x H8 y8))) (fun _ s9 ⟨σ9, H9, I9, k9, q9⟩ => ?_) (fun _ _ z => z.elim))
      refine wpAny_bind (wpAny_mono (wpAny_tests_one (ht _ _ _ _ _ _ s9 σ9 H9 _ I9 q9)) (fun ok s12 ⟨H12, I12, q12⟩ => ?_) (fun _ _ z => z.elim))
      have weak : ∀ {H11 : Hp} {s11 : Shared}, Inv (compX X N scope cl C { s2 with heap := s2.heap.push { cls := .type "list", data := .seq ([] : List Value).toArray } } (upd H2 s2.heap.objs.size (.lst [])) fp (X.pn ++ pins)) ([] ++ pinsAt fp s8.heap) σ9 H11 s11 → Inv (compX X N scope cl C { s2 with heap := s2.heap.push { cls := .type "list", data := .seq ([] : List Value).toArray } } (upd H2 s2.heap.objs.size (.lst [])) fp (X.pn ++ pins)) [] (compSt nt fr σ) H11 s11 ∧ tn (i + 1) s11.heap ∧ ∀ b ∈ fp, H11 b = none := fun {H11 s11} I11 => by
        refine ⟨(I11.unpinned (pins := [])).weak ?_ fun j v' e => ?_, ?_, fun b hb => ?_⟩
        · rw [I11.len, ← I4.len]
        · by_cases hj : nt ≤ j
          · rw [k9 j hj]; exact e
          · unfold compSt at e
            rw [List.getElem?_append_left (by rw [List.length_replicate]; omega), List.getElem?_replicate] at e
            split at e <;> cases e
        · exact T.keep _ _ _ st8 fun b hb o e => (I11.pin (b, o) (List.mem_append_right _ (List.mem_append_right _ (mem_pinsAt hb e)))).1
        · obtain ⟨o, e, d⟩ := T.obj _ _ st8 b hb
          exact (I11.pin (b, o) (List.mem_append_right _ (List.mem_append_right _ (mem_pinsAt hb e)))).2.1
      cases ok with
      | false =>
        rw [if_neg Bool.false_ne_true] at q12
        obtain ⟨z1, z2, z3⟩ := weak I12
        exact wpAny_pure ⟨rfl, n - (i + 1), by omega, i + 1, acc, _, rfl, z1, z2, z3, q12⟩
      | true =>
        rw [if_pos rfl] at q12
        refine wpAny_bind (wpAny_bind (wpAny_mono (he _ _ _ _ _ _ s12 σ9 H12 _ I12 q12) (fun v s10 ⟨y, H10, I10, r10, hD10, q10⟩ => ?_) (fun _ _ z => z.elim)))
        refine wpAny_bind (wpAny_mono (mt_append (X := compX X N scope cl C { s2 with heap := s2.heap.push { cls := .type "list", data := .seq ([] : List Value).toArray } } (upd H2 s2.heap.objs.size (.lst [])) fp (X.pn ++ pins)) _ s10 σ9 H10 (.ref s2.heap.objs.size) [y] (.ref s2.heap.objs.size) [v] (fun v' H' => v' = .non ∧ H' = upd H10 s2.heap.objs.size (.lst (acc ++ [y]))) I10 rfl (.cons r10 .nil) ⟨_, acc, y, rfl, rfl, hD10, hz6, rfl, rfl⟩) (fun v' s11 ⟨_, H11, I11, _, _, e11⟩ => ?_) (fun _ _ z => z.elim))
        subst e11
        obtain ⟨z1, z2, z3⟩ := weak I11
        exact wpAny_pure (wpAny_pure ⟨rfl, n - (i + 1), by omega, i + 1, acc ++ [y], _, rfl, z1, z2, z3, q10⟩)
  refine codeAny_compStart_list (loop _ rfl) (T.self _ 0 _ _ _ st4 (loop _ rfl))
end
theorem comp_filter {K : PySem.W.Frag} {a : Addr} {xs : List V} {p : V → Bool} {nt : Nat} {fr : List Nat} {g : TG} {tt : TT} {te : TE} {σ : St} {H : Hp} {Q : Addr → Hp → Prop} (hs : SqL K H a xs) (hz : xs.length < sizeLine)
    (he : ∀ (i : Nat) (x : V) (H' : Hp) (k1 : VK) (k2 : Hp → Prop), xs[i]? = some x → Same H H' → (p x = true → k1 x H') → (p x = false → k2 H') → g x (compSt nt fr σ) H' fun σ2 H2 => tt σ2 H2 fun c H3 => if c = true then te σ2 H3 k1 else k2 H3) (hq : ∀ D, H D = none → Q D (upd H D (.lst (xs.filter p)))) :
    ∀ D, H D = none → ∃ (n : Nat) (W : Nat → List V → Hp → Prop), W 0 [] (upd H D (.lst [])) ∧ ∀ i acc H', W i acc H' → H' D = some (.lst acc) ∧ acc.length < sizeLine ∧
      (((Itl K a).stop i H' ∧ Q D H') ∨ (i < n ∧ (Itl K a).go i H' ∧ ∀ x H2, (Itl K a).yld i H' x H2 → g x (compSt nt fr σ) H2 fun σ2 H3 => tt σ2 H3 fun c H4 => if c = true then (te σ2 H4 fun y H5 => H5 D = some (.lst acc) ∧ W (i + 1) (acc ++ [y]) (upd H5 D (.lst (acc ++ [y])))) else W (i + 1) acc H4)) := by
  intro D hD
  have sm : ∀ o, Same H (upd H D o) := fun o b u e => by rw [upd_ne (ne_of_none e hD)]; exact e
  refine ⟨xs.length, fun i acc H' => i ≤ xs.length ∧ acc = (xs.take i).filter p ∧ H' = upd H D (.lst acc), ⟨Nat.zero_le _, rfl, rfl⟩, ?_⟩
  rintro i acc H' ⟨hi, rfl, rfl⟩
  have hl : ((xs.take i).filter p).length ≤ i := Nat.le_trans (List.length_filter_le _ _) (by rw [List.length_take]; omega)
  refine ⟨upd_same, by omega, ?_⟩
  by_cases h : i < xs.length
  · refine .inr ⟨h, ⟨xs, xs[i], (sm _).seq hs, List.getElem?_eq_getElem h⟩, ?_⟩
    rintro x H2 ⟨rfl, hy⟩
    have hx := hy xs ((sm _).seq hs)
    have e : xs.take (i + 1) = xs.take i ++ [x] := by
      rw [List.take_succ, hx]; rfl
    refine he i x _ _ _ hx (sm _) (fun q => ⟨upd_same, by omega, ?_, by rw [upd_upd]⟩) (fun q => ⟨by omega, ?_, rfl⟩)
    · rw [e, List.filter_append]
      simp [q]
    · rw [e, List.filter_append]
      simp [q]
  · have e : i = xs.length := by omega
    subst e
    refine .inl ⟨⟨xs, (sm _).seq hs, Nat.le_refl _⟩, ?_⟩
    rw [List.take_length]
    exact hq D hD
theorem pe_clearK {X : Cx} {K : PySem.W.Frag} {o : Expr} {to : TE} {apos cpos : Pos} (ho : PE X o to) (hK : X.K = K := by rfl) (hbase : attributeBase o "clear" X.env (eval o X.env) = eval o X.env := by rfl) (hline : (apos.endLine == cpos.line) = true := by rfl) :
    PE X (.Call (.Attribute o "clear" apos) [] [] cpos) (tBM0 K "list" rClear to) :=
  hK ▸ pe_bm0 PySem.F.plainAttrs_list PySem.F.slot_list_clear PySem.F.type_list_clear (fun pins s σ H x xs v us Q I rx rs q => mt_clear pins s σ H x xs v us Q I rx rs q) ho hbase hline
end L2

set_option Elab.async false
set_option linter.all false
set_option maxRecDepth 100000
set_option maxHeartbeats 4000000
namespace L2
open PySem PySem.Spec PyProof.Rows SeqAt

/-! ### a method of an own class -/
def clsBody (s : Stmt) : List Stmt := match s with
  | .ClassDef _ _ _ b .. => b
  | _ => []
def clsDef (s : Stmt) (j : Nat) : Stmt := (clsBody s).getD j (.Pass ⟨0, 0, 0, 0⟩)
/-- a method by its name: what it promises -/
structure MethT (P : Program) (w : World) (K : PySem.W.Frag) (mg : Str → Option Value) (base : Heap) (C : Addr) (m : Str) (k : Nat) (ps : List Str) (sp : Sp) : Prop where
  ex : ∃ (f : Addr) (fd : FuncData), FnOk P w K mg base (CXK P w) k f fd ps sp ∧ Meth K C m f ∧ Binds K fd ps []
/-- a method as the top has left it -/
structure DefM (K : PySem.W.Frag) (C : Addr) (m qual : Str) (st : Stmt) (ps : List Str) : Prop where
  ex : ∃ (f : Addr) (fd : FuncData), Fun K m qual st f fd ∧ Meth K C m f ∧ Binds K fd ps []
theorem DefM.fn {P : Program} {w : World} {K : PySem.W.Frag} {mg : Str → Option Value} {base : Heap} {C : Addr} {m qual : Str} {st : Stmt} {N ps : List Str} {k : Nat} {sp : Sp} (D : DefM K C m qual st ps) (S : FnScope N ps (defScope st)) (len : ∀ vs H Q E, sp vs H Q E → vs.length = ps.length)
    (hbody : ∀ (f : Addr) (cdv : Value) (A : Around) (outer : List Env) (s : Shared) (H : Hp) (vs : List V) (Q : VK) (E : XK), Room k (A.deeper (envOfC qual (defScope st) s.heap.objs.size f cdv)) → sp vs H Q E →
      ∃ t, PSs (cxOf (CXK P w) P w K mg base N qual (defScope st) f cdv A outer s H E) (defBody st) t ∧ t { nx := fun _ H' => Q .non H', rt := Q } (start N vs) H) : MethT P w K mg base C m (k + 1) ps sp := by
  obtain ⟨f, fd, F, hm, hb⟩ := D.ex
  exact ⟨f, fd, F.okX S len (hbody f), hm, hb⟩
theorem DefM.mk' {K : PySem.W.Frag} {C : Addr} {m qual : Str} {st : Stmt} {ps : List Str} {f : Addr} {oc : Value} {od an : Option Addr} {osl : Array (Option Value)} {kV doc pm cdv ct : Value}
    (a : PySem.W.findIn K (.ref C) m = some (some (.ref f))) (i : PySem.W.isFn K (.ref f) = true) (l : K.lookup f = some ⟨oc, od, .func (PySem.W.fnOf m qual (defArgs st) (defBody st) (defScope st) .none kV doc pm an cdv ct), osl⟩) (c : PySem.W.codeIn K cdv qual = true) (k : PySem.W.keepIn K (.ref f) = true)
    (hb : ∀ (kV doc pm : Value) (an : Option Addr) (cdv ct : Value) (us : List Value), us.length = ps.length → bindArgs (PySem.W.fnOf m qual (defArgs st) (defBody st) (defScope st) .none kV doc pm an cdv ct) ⟨us, []⟩ = pure (ps.zip us)) : DefM K C m qual st ps :=
  have F := fun_mk (st := st) (x := m) (qual := qual) l c k
  ⟨_, _, F, ⟨a, i, k⟩, F.binds hb⟩
/-- a class that is made: its __init__ -/
structure MakeT (P : Program) (w : World) (K : PySem.W.Frag) (mg : Str → Option Value) (base : Heap) (x : Str) (C : Addr) (k : Nat) (ps : List Str) (sp : Sp) : Prop where
  ex : ∃ (f : Addr) (fd : FuncData), FnOk P w K mg base (CXK P w) k f fd ps sp ∧ Mk K C f ∧ mg x = some (.ref C) ∧ Binds K fd ps []
theorem MethT.make {P : Program} {w : World} {K : PySem.W.Frag} {mg : Str → Option Value} {base : Heap} {x : Str} {C : Addr} {k : Nat} {ps : List Str} {sp : Sp} (M : MethT P w K mg base C "__init__" k ps sp) (mk : PySem.W.makesIn K C = true) (kp : PySem.W.keepIn K (.ref C) = true) (hm : mg x = some (.ref C)) :
    MakeT P w K mg base x C k ps sp := by
  obtain ⟨f, fd, F, hM, hb⟩ := M.ex
  exact ⟨f, fd, F, ⟨mk, hM.at_, hM.fn, kp⟩, hm, hb⟩
/-- what of the text a class of objects has -/
structure ObjT (K : PySem.W.Frag) (C : Addr) (fs : List Str) : Prop where
  c : Cls K C
  n : ∀ f ∈ fs, NoAttr K C f
def tMt (C : Addr) (m : Str) (sp : Sp) (E : XK) (ta : TE) (t : TA) : TE := fun σ H Q => ta σ H fun x H1 => ∃ a dx fs, x = .ref a ∧ H1 a = some (.ins C dx fs) ∧ fs.lookup m = none ∧ t σ H1 fun vs H2 => sp (x :: vs) H2 Q E
def tMtJ (C : Addr) (m : Str) (sp : Sp) (J : St → XK) (ta : TE) (t : TA) : TE := fun σ H Q => ta σ H fun x H1 => ∃ a dx fs, x = .ref a ∧ H1 a = some (.ins C dx fs) ∧ fs.lookup m = none ∧ t σ H1 fun vs H2 => sp (x :: vs) H2 Q (J σ)
def tMk (C : Addr) (sp : Sp) (E : XK) (t : TA) : TE := fun σ H Q => t σ H fun vs H1 => ∀ x dx, H1 x = none → H1 dx = none → dx ≠ x →
  sp (.ref x :: vs) (upd (upd H1 dx (.own x)) x (.ins C dx [])) (fun v H2 => v = .non ∧ Q (.ref x) H2) E
def tMkJ (C : Addr) (sp : Sp) (J : St → XK) (t : TA) : TE := fun σ H Q => t σ H fun vs H1 => ∀ x dx, H1 x = none → H1 dx = none → dx ≠ x →
  sp (.ref x :: vs) (upd (upd H1 dx (.own x)) x (.ins C dx [])) (fun v H2 => v = .non ∧ Q (.ref x) H2) (J σ)

section
variable {X : Cx} {k j : Nat} {C : Addr} {ps : List Str} {sp : Sp} {E : XK} {J : St → XK} {x m : Str} {p pos apos : Pos} {e o : Expr} {es : List Expr} {ta : TE} {t : TA} {pl : Sem Bool}
theorem pe_mt (he : PE X o ta) (c : Cls X.K C) (G : MethT X.prog X.w X.K X.mg X.base C m k ps sp) (hr : Room j X.A) (hj : k ≤ j) (hx : Passes (CXK X.prog X.w) X E) (ha : PA X (e :: es) t)
    (hst : starEach (e :: es) X.env = (false, eval e X.env) :: starEach es X.env := by rfl) (hpl : (backTo pos (starEach es X.env)).any (·.1) = false := by rfl)
    (ht : eval (.Call (.Attribute o m apos) (e :: es) [] pos) X.env = (do
      let ov ← eval o X.env
      standAt apos.atName
      let (f, first) ← holding [ov] (getMethod ov m pl)
      callWith pos f first (backTo pos (starEach (e :: es) X.env)) (backToKw pos (keywordEach [] X.env))) := by rfl) :
    PE X (.Call (.Attribute o m apos) (e :: es) [] pos) (tMt C m sp E ta t) := by
  obtain ⟨f, fd, F, hm, hb⟩ := G.ex
  intro pins s σ H Q I h
  refine pe_meth (ds := []) (dvs := []) he c hm F (hr.mono hj) hb .nil hx ha hst hpl ht pins s σ H Q I ?_
  show ta σ H fun x H1 => ∃ a dx fs, x = .ref a ∧ H1 a = some (.ins C dx fs) ∧ fs.lookup m = none ∧ t σ H1 fun vs H2 => sp (x :: (vs ++ [])) H2 Q E
  simp only [List.append_nil]
  exact h
theorem pe_mt0 (he : PE X o ta) (c : Cls X.K C) (G : MethT X.prog X.w X.K X.mg X.base C m k ps sp) (hr : Room j X.A) (hj : k ≤ j) (hx : Passes (CXK X.prog X.w) X E)
    (ht : eval (.Call (.Attribute o m apos) [] [] pos) X.env = (do
      let ov ← eval o X.env
      standAt apos.atName
      let (f, first) ← holding [ov] (getMethod ov m pl)
      callWith pos f first (backTo pos (starEach [] X.env)) (backToKw pos (keywordEach [] X.env))) := by rfl) :
    PE X (.Call (.Attribute o m apos) [] [] pos) (tMt C m sp E ta tNil) := by
  obtain ⟨f, fd, F, hm, hb⟩ := G.ex
  exact pe_meth0 (ds := []) (dvs := []) he c hm F (hr.mono hj) hb .nil hx ht
/-- a call in a try -/
theorem run_J {f : Addr} {fd : FuncData} {pins : List (Addr × Obj)} {σ : St} {H : Hp} {s : Shared} {Q : VK} {us : List Value} {vs : List V} (F : FnOk X.prog X.w X.K X.mg X.base (CXK X.prog X.w) k f fd ps sp) (hr : Room k X.A) (hb : Binds X.K fd ps []) (hx : PassesJ X J)
    (I : Inv X pins σ H s) (r : Vals vs us) (h : sp vs H Q (J σ)) : wpAny (model X.prog X.w) X.A (call (.ref f) us) (EP X pins σ Q) X.xe s := by
  have hl : us.length = ps.length := by rw [← r.length]; exact F.len _ _ _ _ h
  have hbd := hb s us I.kIn (by rw [List.append_nil]; exact hl)
  rw [List.append_nil] at hbd
  refine wpAny_call (codeAny_mono (F.run X.A X.stack s H ⟨us, []⟩ us vs Q (J σ) hr I.env0 hbd r h) fun r' s' hq => ?_)
  cases r' with
  | error e => exact hx pins σ H s e s' I hq
  | ok fl =>
    cases fl with
    | ret u => exact I.after hq
    | next => exact False.elim hq
    | brk => exact False.elim hq
    | cont => exact False.elim hq
theorem pe_mtJ (he : PE X o ta) (c : Cls X.K C) (G : MethT X.prog X.w X.K X.mg X.base C m k ps sp) (hr : Room j X.A) (hj : k ≤ j) (hx : PassesJ X J) (ha : PA X (e :: es) t)
    (hst : starEach (e :: es) X.env = (false, eval e X.env) :: starEach es X.env := by rfl) (hpl : (backTo pos (starEach es X.env)).any (·.1) = false := by rfl)
    (ht : eval (.Call (.Attribute o m apos) (e :: es) [] pos) X.env = (do
      let ov ← eval o X.env
      standAt apos.atName
      let (f, first) ← holding [ov] (getMethod ov m pl)
      callWith pos f first (backTo pos (starEach (e :: es) X.env)) (backToKw pos (keywordEach [] X.env))) := by rfl) :
    PE X (.Call (.Attribute o m apos) (e :: es) [] pos) (tMtJ C m sp J ta t) := by
  obtain ⟨f, fd, F, hm, hb⟩ := G.ex
  intro pins s σ H Q I h
  refine PySem.W.methodCall_KW (pl := pl) (thn (he pins s σ H _ I h) fun u s1 ⟨x, H1, I1, rx, a, dx, fs, ex, ea, l, q⟩ => ?_) ht
  subst ex
  obtain rfl : u = Value.ref a := rx
  refine getmeth_ok I1 ea c hm l ?_
  refine PySem.W.callWith_K (first := [.ref a]) (h₀ := X.base) I.ok.mod.kin hm.kp (thn (ha pos pins s1 σ H1 _ I1 q) fun us s2 ⟨vs, H2, I2, r, q2⟩ => ⟨I2.kIn, ?_⟩) hst hpl
  exact run_J (us := .ref a :: us) (vs := .ref a :: vs) F (hr.mono hj) hb hx I2 (.cons rfl r) q2
theorem pe_mk (G : MakeT X.prog X.w X.K X.mg X.base x C k ps sp) (hr : Room j X.A) (hj : k + 1 ≤ j) (hg : Gl X x) (hx : Passes (CXK X.prog X.w) X E) (ha : PA X (e :: es) t) (hdb : (x == ("__debug__" : Str)) = false := by decide)
    (he : starEach (e :: es) X.env = (false, eval e X.env) :: starEach es X.env := by rfl) (hpl : (backTo pos (starEach es X.env)).any (·.1) = false := by rfl) : PE X (.Call (.Name x p) (e :: es) [] pos) (tMk C sp E t) := by
  obtain ⟨f, fd, F, M, hm, hb⟩ := G.ex
  intro pins s σ H Q I h
  refine pe_make (ds := []) (dvs := []) M F (hr.mono hj) hg hm hb .nil hx ha hdb he hpl pins s σ H Q I ?_
  show t σ H fun vs H1 => ∀ x dx, H1 x = none → H1 dx = none → dx ≠ x → sp (.ref x :: (vs ++ [])) (upd (upd H1 dx (.own x)) x (.ins C dx [])) (fun v H2 => v = .non ∧ Q (.ref x) H2) E
  simp only [List.append_nil]
  exact h
theorem pe_mkJ (G : MakeT X.prog X.w X.K X.mg X.base x C k ps sp) (hr : Room j X.A) (hj : k + 1 ≤ j) (hg : Gl X x) (hx : PassesJ X J) (ha : PA X (e :: es) t) (hdb : (x == ("__debug__" : Str)) = false := by decide)
    (he : starEach (e :: es) X.env = (false, eval e X.env) :: starEach es X.env := by rfl) (hpl : (backTo pos (starEach es X.env)).any (·.1) = false := by rfl) : PE X (.Call (.Name x p) (e :: es) [] pos) (tMkJ C sp J t) := by
  obtain ⟨f, fd, F, M, hm, hb⟩ := G.ex
  intro pins s σ H Q I h
  refine wpAny_Call_Name_kw (ld_glob I hg hm ?_ hdb)
  refine PySem.W.callWith_K (h₀ := X.base) I.ok.mod.kin M.kp (thn (ha pos pins s σ H _ I h) fun us s1 ⟨vs, H1, I1, r, q⟩ => ⟨I1.kIn, ?_⟩) he hpl
  have hq := q (s1.heap.objs.size + 1) s1.heap.objs.size (I1.hok.fresh (Nat.le_succ _)) (I1.hok.fresh (Nat.le_refl _)) (Nat.ne_of_lt (Nat.lt_succ_self _))
  have I2 := Inv.made (C := C) I1
  have r2 : Vals (V.ref (s1.heap.objs.size + 1) :: vs) (Value.ref (s1.heap.objs.size + 1) :: us) := .cons rfl r
  have hl : (Value.ref (s1.heap.objs.size + 1) :: us).length = ps.length := by
    have e := r2.length
    rw [F.len _ _ _ _ hq] at e
    exact e.symm
  have hbd := hb { s1 with heap := (s1.heap.push PySem.W.emptyDict).push (PySem.W.instObj C s1.heap.objs.size) } (Value.ref (s1.heap.objs.size + 1) :: us) I2.kIn (by rw [List.append_nil]; exact hl)
  rw [List.append_nil] at hbd
  refine wpAny_call (make_map (f := f) I1.kIn M.makes M.init (beq_iff_eq.mp M.fn) (codeAny_mono (F.run _ X.stack _ _ ⟨Value.ref (s1.heap.objs.size + 1) :: us, []⟩ (Value.ref (s1.heap.objs.size + 1) :: us) _ _ (J σ) ((hr.mono hj).make C us [])
    (I2.env0.make C us []) hbd r2 hq) fun r s' hq' => ?_))
  cases r with
  | error e => exact hx pins σ _ _ e s' I2 hq'
  | ok fl =>
    cases fl with
    | ret u =>
      obtain ⟨v, H', I3, rv, ev, q3⟩ := I2.after hq'
      subst ev
      exact ⟨rv, ⟨V.ref (s1.heap.objs.size + 1), H', I3, rfl, q3⟩⟩
    | next => exact False.elim hq'
    | brk => exact False.elim hq'
    | cont => exact False.elim hq'
end

/-! ### attributes, over a named K -/
section
variable {X : Cx} {o e value : Expr} {f : Str} {pos pos' tpos : Pos} {ta tv : TE}
theorem pe_fldK {K : PySem.W.Frag} (he : PE X e ta) (hK : X.K = K := by rfl) (hb : attributeBase e f X.env (eval e X.env) = eval e X.env := by rfl) : PE X (.Attribute e f pos) (tFld K ta f) := hK ▸ pe_fld he hb
theorem ps_fldK {K : PySem.W.Frag} (ha : PE X o ta) (hv : PE X value tv) (hK : X.K = K := by rfl) (hs : swapsWith value (some (.Attribute o f pos')) pos.line X.env = pure false := by rfl) : PS X (.Assign [.Attribute o f pos'] value pos) (sFld K ta tv f) := hK ▸ ps_fld ha hv hs
theorem ps_fldaugK {K : PySem.W.Frag} {op : Operator} {rd : V → V → Hp → VK → Prop} (ha : PE X o ta) (hv : PE X value tv) (hop : InOp X op rd) (hK : X.K = K := by rfl) : PS X (.AugAssign (.Attribute o f tpos) op value pos) (sFldAug K ta tv rd f) := hK ▸ ps_fldaug ha hv hop
end

/-! ### a tuple of the text's top -/
def KTup (K : PySem.W.Frag) (p : Addr) (xs : List V) : Prop := ∃ (its : Array Value) (n : Nat) (sl : Array (Option Value)), K.lookup p = some ⟨.type "tuple", none, .seq its n, sl⟩ ∧ its.size ≤ sizeLine ∧ Vals xs its.toList
theorem KTup.sq {K : PySem.W.Frag} {p : Addr} {xs : List V} {H : Hp} (h : KTup K p xs) : SqT K H p xs := let ⟨its, n, sl, a, b, c⟩ := h; .inr ⟨_, its, n, a, rfl, rfl, b, c⟩
theorem KTup.ty {K : PySem.W.Frag} {p : Addr} {xs : List V} {H : Hp} (h : KTup K p xs) : tyV K "tuple" (.ref p) H := let ⟨_, _, _, a, _, _⟩ := h; .inr (.inl ⟨rfl, _, a, rfl, rfl⟩)
theorem pe_gref {X : Cx} {x : Str} {a : Addr} {pos : Pos} (hm : X.mg x = some (.ref a)) (hg : Gl X x) (hd : (x == ("__debug__" : Str)) = false := by decide) : PE X (.Name x pos) (tC (.ref a)) := pe_glob hg hm rfl hd
theorem tuple_index2 (l : Addr) (a b : Value) (n : Nat) (dd : Option Addr) (sl : Array (Option Value)) (x : Value) (e : Value → Bool) (j : Nat) (hj : j = if e a then 0 else 1) (hit : e a = true ∨ e b = true) :
    Meets (Builtin.«tuple.index» ⟨[.ref l, x], []⟩)
      (fun A R s => s.heap.get? l = some { cls := .type "tuple", dict := dd, data := .seq #[a, b] n, slots := sl } ∧ (∀ y, y ∈ #[a, b] → EqAt A.in1 s y x (e y)) ∧ R (.ok (.ret (.int j s.toks))) { s with toks := s.toks + 1 }) := by
  intro prog w A R s h
  obtain ⟨hp, g, d, tk, os⟩ := s; obtain ⟨hl, he, h⟩ := h
  unfold Builtin.«tuple.index»
  simp only [Std.Legacy.Range.forIn_eq_forIn_range']
  wp_walk using wpAny_loadPart' hl
  have e0 : [:min #[a, b].size #[a, b].size].size = 2 := by simp [Std.Legacy.Range.size]
  generalize hL : [:min #[a, b].size #[a, b].size].size = N at e0 ⊢
  subst e0
  change wpAny (model prog w) A.in1 (List.forIn'.loop [0, 1] _ [0, 1] (none, ()) _) _ _ _
  change wpAny (model prog w) A.in1 ((eqBool a x >>= _) >>= _) _ _ _
  refine wpAny_bind ?_
  refine wpAny_bind (he a (by simp) prog w _ _ ?_)
  cases ea : e a with
  | true =>
    rw [ea] at hj
    subst hj
    wp_walk
    exact h
  | false =>
    rw [ea] at hj
    subst hj
    refine wpAny_pure ?_
    change wpAny (model prog w) A.in1 ((eqBool b x >>= _) >>= _) _ _ _
    refine wpAny_bind ?_
    refine wpAny_bind (he b (by simp) prog w _ _ ?_)
    rw [hit.resolve_left (by rw [ea]; exact Bool.false_ne_true)]
    wp_walk
    exact h
def rIndexT (K : PySem.W.Frag) : V → List V → Hp → VK → Prop := fun x vs H Q => ∃ p y z1 z2, x = .ref p ∧ vs = [y] ∧ KTup K p [z1, z2] ∧ flatV z1 = true ∧ flatV z2 = true ∧ flatV y = true ∧ (eqV z1 y = true ∨ eqV z2 y = true) ∧ Q (.int (if eqV z1 y then 0 else 1)) H
section
variable {X : Cx}
theorem mt_indexT : MtM X "tuple.index" (rIndexT X.K) := by
  intro pins s σ H x vs v us Q I rx rv h
  obtain ⟨p, y, z1, z2, rfl, rfl, ⟨its, n, sl, lk, hz, r⟩, f1, f2, fy, hit, q⟩ := h
  cases rx
  obtain ⟨u, rfl, ru⟩ := rv.one
  obtain ⟨u1, u2, eu, r1, r2⟩ := r.two
  have hi : its = #[u1, u2] := by apply Array.toList_inj.mp; rw [eu]
  subst hi
  have e := I.kIn _ _ lk
  have fx : ([z1, z2] : List V).all flatV = true := by simp [f1, f2]
  have h1 : eqU y u1 = eqV z1 y := eqU_of r1 f1
  have h2 : eqU y u2 = eqV z2 y := eqU_of r2 f2
  refine call_meets F.slot_tuple_index ⟨_, e, rfl⟩ F.entry_tuple_index (F.args_tuple_index_2 _ _) (tuple_index2 p u1 u2 n none sl u (eqU y) (if eqU y u1 then 0 else 1) rfl (by rw [h1, h2]; exact hit)) ⟨e, fun w hw => mem_eqAt ru fy r fx w (by simpa using hw), ?_⟩
  rw [h1]
  refine ⟨.int (if eqV z1 y then 0 else 1), H, I.tok _, ?_, q⟩
  by_cases c : eqV z1 y = true
  · rw [if_pos c, if_pos c]; exact ⟨_, rfl⟩
  · rw [if_neg c, if_neg c]; exact ⟨_, rfl⟩
theorem pe_indexTK {K : PySem.W.Frag} {o e : Expr} {to : TE} {t : TA} {apos cpos : Pos} (ho : PE X o to) (ha : PA X [e] t) (hK : X.K = K := by rfl) (hbase : attributeBase o "index" X.env (eval o X.env) = eval o X.env := by rfl)
    (hfew : ((backTo cpos (starEach [e] X.env)).all (fun x => !x.1) && (backToKw cpos (keywordEach [] X.env)).all (fun x => x.1.isSome) && decide ([e].length + ([] : List Keyword).length + (if ([] : List Keyword).isEmpty then 0 else 1) < 30)) = true := by rfl)
    (hline : (apos.endLine == cpos.line) = true := by rfl) (hs : starEach [e] X.env = (false, eval e X.env) :: starEach [] X.env := by rfl) (hplain : (backTo cpos (starEach [] X.env)).any (·.1) = false := by rfl) :
    PE X (.Call (.Attribute o "index" apos) [e] [] cpos) (tBM K "tuple" (rIndexT K) to t) :=
  hK ▸ pe_bm PySem.F.plainAttrs_tuple PySem.F.slot_tuple_index PySem.F.type_tuple_index (fun pins s σ H x xs v us Q I rx rs q => mt_indexT pins s σ H x xs v us Q I rx rs q) ho ha hbase hfew hline hs hplain
/-- == of any two things that are both flat or both lists or tuples -/
def rEqA (K : PySem.W.Frag) (n : Nat) : R2 := fun x y H Q => rEq x y H Q ∨ rEqD K n x y H Q
theorem op_eqAK {K : PySem.W.Frag} {n : Nat} (hu : X.A.units + (n + 1) < cLine) (h : X.K = K := by rfl) : OpR X (compareOp .Eq) (rEqA K n) := by
  intro pins s σ H x y v u Q I rx ry hq
  rcases hq with hq | hq
  · exact op_eq pins s σ H x y v u Q I rx ry hq
  · exact op_eqK hu h pins s σ H x y v u Q I rx ry hq
end
end L2

set_option Elab.async false
set_option linter.all false
set_option maxRecDepth 100000
namespace L2
open PySem PySem.Spec PyProof.Rows

/-! ### readings, rule by rule -/
section
variable {K : PySem.W.Frag} {σ : St} {H : Hp} {Q : VK} {i : Nat} {v x y : V} {r : R2} {ta tb : TE} {nx bk ct : St → Hp → Prop} {rt : VK} {E : XK} {C : Addr} {m : Str} {sp : Sp} {t : TA} {J : St → XK}
theorem g_var (h : σ[i]? = some (some v)) (q : Q v H) : tVar i σ H Q := ⟨v, h, q⟩
theorem g_c (q : Q v H) : tC v σ H Q := q
theorem g_op (q : ta σ H fun x H1 => tb σ H1 fun y H2 => r x y H2 Q) : tOp r ta tb σ H Q := q
theorem g_un {r : V → Hp → VK → Prop} (q : ta σ H fun x H1 => r x H1 Q) : tUn r ta σ H Q := q
theorem g_I0 {g : Int → Int → V} {a b : Int} (q : Q (g a b) H) : rI0 g (.int a) (.int b) H Q := ⟨a, b, rfl, rfl, q⟩
theorem g_I {c : Int → Int → Prop} {g : Int → Int → V} {a b : Int} (h : c a b) (q : Q (g a b) H) : rI c g (.int a) (.int b) H Q := ⟨a, b, rfl, rfl, h, q⟩
theorem g_U {g : Int → V} {a : Int} (q : Q (g a) H) : rU g (.int a) H Q := ⟨a, rfl, q⟩
theorem g_eq (h : scal x y = true) (q : Q (.bl (decide (x = y))) H) : rEq x y H Q := ⟨h, q⟩
theorem g_ne (h : scal x y = true) (q : Q (.bl (!decide (x = y))) H) : rNe x y H Q := ⟨h, q⟩
theorem g_eqD {n : Nat} {p q : Addr} {b : Bool} (h : EqD K H (n + 1) (.ref p) (.ref q) b) (z : Q (.bl b) H) : rEqD K n (.ref p) (.ref q) H Q := ⟨p, q, b, rfl, rfl, h, z⟩
theorem g_neD {n : Nat} {p q : Addr} {b : Bool} (h : EqD K H (n + 1) (.ref p) (.ref q) b) (z : Q (.bl (!b)) H) : rNeD K n (.ref p) (.ref q) H Q := ⟨p, q, b, rfl, rfl, h, z⟩
theorem g_ixL {p : Addr} {xs : List V} {j : Int} (h : H p = some (.lst xs)) (e : atI xs j = some v) (q : Q v H) : rIxL K (.ref p) (.int j) H Q := ⟨p, xs, j, v, rfl, rfl, SqL.of h, e, q⟩
theorem g_ixT {p : Addr} {xs : List V} {j : Int} (h : H p = some (.tup xs)) (e : atI xs j = some v) (q : Q v H) : rIxT K (.ref p) (.int j) H Q := ⟨p, xs, j, v, rfl, rfl, SqT.of h, e, q⟩
theorem g_len {p : Addr} {xs : List V} (h : H p = some (.lst xs)) (q : Q (.int xs.length) H) : rLen K [.ref p] H Q := ⟨p, xs, rfl, .inl (SqL.of h), q⟩
theorem g_list {p : Addr} {xs : List V} (h : H p = some (.lst xs)) (q : ∀ l, H l = none → Q (.ref l) (upd H l (.lst xs))) : rListOf K [.ref p] H Q := ⟨p, xs, rfl, .inl (SqL.of h), q⟩
theorem g_cb {r : List V → Hp → VK → Prop} (q : t σ H fun vs H1 => r vs H1 Q) : tCB r t σ H Q := q
theorem g_nil {Q : List V → Hp → Prop} (q : Q [] H) : tNil σ H Q := q
theorem g_cons {Q : List V → Hp → Prop} (q : ta σ H fun x H1 => t σ H1 fun xs H2 => Q (x :: xs) H2) : tCons ta t σ H Q := q
theorem g_tup (q : t σ H fun xs H1 => xs.length ≤ sizeLine ∧ ∀ p, H1 p = none → Q (.ref p) (upd H1 p (.tup xs))) : tTup t σ H Q := q
theorem g_lst (q : t σ H fun xs H1 => xs.length ≤ sizeLine ∧ ∀ p, H1 p = none → Q (.ref p) (upd H1 p (.lst xs))) : tLst t σ H Q := q
theorem g_fn (q : t σ H fun vs H1 => sp vs H1 Q E) : tFn sp E t σ H Q := q
theorem g_fnJ (q : t σ H fun vs H1 => sp vs H1 Q (J σ)) : tCallJ sp J t σ H Q := q
theorem g_fld {f : Str} (q : ta σ H fun x H1 => ∃ a C dx fs v, x = .ref a ∧ H1 a = some (.ins C dx fs) ∧ Cls K C ∧ NoAttr K C f ∧ fs.lookup f = some v ∧ Q v H1) : tFld K ta f σ H Q := q
theorem g_fld1 {f : Str} {a dx : Addr} {fs : List (Str × V)} {R : V → Prop} (h : H a = some (.ins C dx fs)) (c : Cls K C) (n : NoAttr K C f) (l : fs.lookup f = some v) (q : R v) :
    ∃ a' C dx fs v, V.ref a = .ref a' ∧ H a' = some (.ins C dx fs) ∧ Cls K C ∧ NoAttr K C f ∧ fs.lookup f = some v ∧ R v := ⟨a, C, dx, fs, v, rfl, h, c, n, l, q⟩
theorem g_mt (q : ta σ H fun x H1 => ∃ a dx fs, x = .ref a ∧ H1 a = some (.ins C dx fs) ∧ fs.lookup m = none ∧ t σ H1 fun vs H2 => sp (x :: vs) H2 Q E) : tMt C m sp E ta t σ H Q := q
theorem g_mtJ (q : ta σ H fun x H1 => ∃ a dx fs, x = .ref a ∧ H1 a = some (.ins C dx fs) ∧ fs.lookup m = none ∧ t σ H1 fun vs H2 => sp (x :: vs) H2 Q (J σ)) : tMtJ C m sp J ta t σ H Q := q
theorem g_mt1 {a dx : Addr} {fs : List (Str × V)} {R : Prop} (h : H a = some (.ins C dx fs)) (l : fs.lookup m = none) (q : R) : ∃ a' dx fs, V.ref a = .ref a' ∧ H a' = some (.ins C dx fs) ∧ fs.lookup m = none ∧ R := ⟨a, dx, fs, rfl, h, l, q⟩
theorem g_mk (q : t σ H fun vs H1 => ∀ x dx, H1 x = none → H1 dx = none → dx ≠ x → sp (.ref x :: vs) (upd (upd H1 dx (.own x)) x (.ins C dx [])) (fun v H2 => v = .non ∧ Q (.ref x) H2) E) : tMk C sp E t σ H Q := q
theorem g_mkJ (q : t σ H fun vs H1 => ∀ x dx, H1 x = none → H1 dx = none → dx ≠ x → sp (.ref x :: vs) (upd (upd H1 dx (.own x)) x (.ins C dx [])) (fun v H2 => v = .non ∧ Q (.ref x) H2) (J σ)) : tMkJ C sp J t σ H Q := q
/-! tests -/
theorem g_test {Q : Bool → Hp → Prop} (q : ta σ H fun x H' => ∃ k, x = .bl k ∧ Q k H') : tTest ta σ H Q := q
theorem g_tB {Q : Bool → Hp → Prop} (q : ta σ H fun x H' => ∃ k, x = .bl k ∧ Q k H') : tB ta σ H Q := q
theorem g_bl {Q : Bool → Prop} {b : Bool} (q : Q b) : ∃ k, V.bl b = .bl k ∧ Q k := ⟨b, rfl, q⟩
theorem g_and {u w : TT} {Q : Bool → Hp → Prop} (q : u σ H fun c H1 => if c = true then w σ H1 Q else Q false H1) : tAnd u w σ H Q := q
theorem g_or {u w : TT} {Q : Bool → Hp → Prop} (q : u σ H fun c H1 => if c = true then Q true H1 else w σ H1 Q) : tOr u w σ H Q := q
theorem g_not {u : TT} {Q : Bool → Hp → Prop} (q : u σ H fun c H1 => Q (!c) H1) : tNot u σ H Q := q
theorem g_andV (q : ta σ H fun x H1 => ∃ c, x = .bl c ∧ if c = true then tb σ H1 Q else Q (.bl false) H1) : tAndV ta tb σ H Q := q
theorem g_orV (q : ta σ H fun x H1 => ∃ c, x = .bl c ∧ if c = true then Q (.bl true) H1 else tb σ H1 Q) : tOrV ta tb σ H Q := q
theorem g_notV (q : ta σ H fun x H1 => ∃ c, x = .bl c ∧ Q (.bl (!c)) H1) : tNotV ta σ H Q := q
theorem g_ifE {u : TT} (q : u σ H fun c H1 => if c = true then ta σ H1 Q else tb σ H1 Q) : tIf u ta tb σ H Q := q
/-! rows -/
theorem g_seq {s u : TS} (q : s ⟨u ⟨nx, rt, bk, ct⟩, rt, bk, ct⟩ σ H) : tSeq s u ⟨nx, rt, bk, ct⟩ σ H := q
theorem g_next (q : nx σ H) : tNext ⟨nx, rt, bk, ct⟩ σ H := q
theorem g_drop (q : ta σ H fun _ H1 => nx σ H1) : tDrop ta ⟨nx, rt, bk, ct⟩ σ H := q
theorem g_ret (q : ta σ H rt) : tRet ta ⟨nx, rt, bk, ct⟩ σ H := q
theorem g_retN (q : rt .non H) : tRetN ⟨nx, rt, bk, ct⟩ σ H := q
theorem g_if {c : TT} {s u : TS} {D : Ends} (q : c σ H fun b H1 => if b = true then s D σ H1 else u D σ H1) : tIfS c s u D σ H := q
theorem g_asg {g : TG} (q : ta σ H fun x H1 => g x σ H1 nx) : tAsg ta g ⟨nx, rt, bk, ct⟩ σ H := q
theorem g_name {k : St → Hp → Prop} (q : k (σ.set i (some v)) H) : gName i v σ H k := q
theorem g_sub {ts : TSet} {k : St → Hp → Prop} (q : ta σ H fun o H1 => tb σ H1 fun j H2 => ts o j v H2 fun H3 => k σ H3) : gSub ta tb ts v σ H k := q
theorem g_setL {p : Addr} {xs : List V} {z : Int} {j : Nat} {k : Hp → Prop} (h : H p = some (.lst xs)) (e : ixN xs.length z = some j) (q : k (upd H p (.lst (xs.set j v)))) : rSetL (.ref p) (.int z) v H k := ⟨p, xs, z, j, rfl, rfl, h, e, q⟩
theorem g_sfld {f : Str} (q : tb σ H fun y H1 => ta σ H1 fun x H2 => ∃ a C dx fs, x = .ref a ∧ H2 a = some (.ins C dx fs) ∧ Cls K C ∧ NoAttr K C f ∧ fs.length < 1000 ∧ nx σ (upd H2 a (.ins C dx (putF f y fs)))) : sFld K ta tb f ⟨nx, rt, bk, ct⟩ σ H := q
theorem g_sfld1 {f : Str} {a dx : Addr} {fs : List (Str × V)} {R : Addr → Addr → Addr → List (Str × V) → Prop} (h : H a = some (.ins C dx fs)) (c : Cls K C) (n : NoAttr K C f) (l : fs.length < 1000) (q : R a C dx fs) :
    ∃ a' C dx fs, V.ref a = .ref a' ∧ H a' = some (.ins C dx fs) ∧ Cls K C ∧ NoAttr K C f ∧ fs.length < 1000 ∧ R a' C dx fs := ⟨a, C, dx, fs, rfl, h, c, n, l, q⟩
theorem g_aug {f : Str} {rd : V → V → Hp → VK → Prop} (q : ta σ H fun x H1 => ∃ a C dx fs v, x = .ref a ∧ H1 a = some (.ins C dx fs) ∧ Cls K C ∧ NoAttr K C f ∧ fs.lookup f = some v ∧
    tb σ H1 fun y H2 => rd v y H2 fun z H3 => ∃ dx' fs', H3 a = some (.ins C dx' fs') ∧ fs'.length < 1000 ∧ nx σ (upd H3 a (.ins C dx' (putF f z fs')))) : sFldAug K ta tb rd f ⟨nx, rt, bk, ct⟩ σ H := q
theorem g_aug1 {f : Str} {a dx : Addr} {fs : List (Str × V)} {R : Addr → Addr → V → Prop} (h : H a = some (.ins C dx fs)) (c : Cls K C) (n : NoAttr K C f) (l : fs.lookup f = some v) (q : R a C v) :
    ∃ a' C dx fs v, V.ref a = .ref a' ∧ H a' = some (.ins C dx fs) ∧ Cls K C ∧ NoAttr K C f ∧ fs.lookup f = some v ∧ R a' C v := ⟨a, C, dx, fs, v, rfl, h, c, n, l, q⟩
theorem g_aug2 {a dx : Addr} {fs : List (Str × V)} {R : Addr → List (Str × V) → Prop} (h : H a = some (.ins C dx fs)) (l : fs.length < 1000) (q : R dx fs) :
    ∃ dx' fs', H a = some (.ins C dx' fs') ∧ fs'.length < 1000 ∧ R dx' fs' := ⟨dx, fs, h, l, q⟩
theorem g_rAdd {a b : Int} (q : Q (.int (a + b)) H) : rAdd (.int a) (.int b) H Q := ⟨a, b, rfl, rfl, q⟩
theorem g_tryAs {c : Addr} {tb : (St → XK) → TS} {th : TS} (q : tb (fun σ1 C _ H' => PySem.W.exmOne K C (.ref c) = some true ∧ ∀ a, H' a = none → th ⟨fun σ H => nx (σ.set i none) H, rt, fun σ H => bk (σ.set i none) H, fun σ H => ct (σ.set i none) H⟩ (σ1.set i (some (.ref a))) (upd H' a (excO a C))) ⟨nx, rt, bk, ct⟩ σ H) :
    tTryAs K c i tb th ⟨nx, rt, bk, ct⟩ σ H := q
theorem g_isi {t cv : Value} {c : V} {b : Bool} (ty : TyX K H x t) (hc : clsV c = some cv) (hk : PySem.W.kitOne K t cv = some b) (q : Q (.bl b) H) : rIsi K [x, c] H Q := ⟨x, c, t, cv, b, rfl, ty, hc, hk, q⟩
theorem g_isiT {a C tp : Addr} {cs : List V} {cvs : List Value} {b : Bool} (ha : H a = some (excO a (.ref C))) (hk : ExK K C) (ht : H tp = some (.tup cs)) (hc : cs.map clsV = cvs.map some) (he : PySem.W.kitAny K (.ref C) cvs = some b) (q : Q (.bl b) H) : rIsiT K [.ref a, .ref tp] H Q := ⟨a, C, tp, cs, cvs, b, rfl, ha, hk, ht, hc, he, q⟩
theorem g_raise (q : t σ H fun vs H1 => vs.length ≤ sizeLine ∧ E (.ref C) none H1) {D : Ends} : tRaise C E t D σ H := q
theorem g_bm {T : String} {r : V → List V → Hp → VK → Prop} (q : ta σ H fun x H1 => tyV K T x H1 ∧ t σ H1 fun xs H2 => r x xs H2 Q) : tBM K T r ta t σ H Q := q
theorem g_app {p : Addr} {xs : List V} (h : H p = some (.lst xs)) (l : xs.length < sizeLine) (q : Q .non (upd H p (.lst (xs ++ [y])))) : rAppend (.ref p) [y] H Q := ⟨p, xs, y, rfl, rfl, h, l, q⟩
theorem g_tyL {p : Addr} {xs : List V} {R : Prop} (h : H p = some (.lst xs)) (q : R) : tyV K "list" (.ref p) H ∧ R := ⟨.inl ⟨rfl, xs, SqL.of h⟩, q⟩
theorem g_cat {p q : Addr} {xs ys : List V} (h : H p = some (.lst xs)) (h' : H q = some (.lst ys)) (l : xs.length + ys.length ≤ sizeLine) (k : ∀ z, H z = none → Q (.ref z) (upd H z (.lst (xs ++ ys)))) : rCat (.ref p) (.ref q) H Q := ⟨p, q, xs, ys, rfl, rfl, h, h', l, k⟩
end
/-- a choice by a test over whole numbers -/
theorem g_ite {c : Prop} [Decidable c] {A B : Prop} (h1 : c → A) (h2 : ¬ c → B) : if decide c = true then A else B := by
  by_cases h : c
  · rw [decide_eq_true h]; exact iteT (h1 h)
  · rw [decide_eq_false h]; exact iteF (h2 h)
theorem g_iteN {c : Prop} [Decidable c] {A B : Prop} (h1 : ¬ c → A) (h2 : c → B) : if (!decide c) = true then A else B := by
  by_cases h : c
  · rw [decide_eq_true h]; exact iteF (h2 h)
  · rw [decide_eq_false h]; exact iteT (h1 h)
theorem g_iteB {b : Bool} {A B : Prop} (h1 : b = true → A) (h2 : b = false → B) : if b = true then A else B := by
  cases b
  · exact iteF (h2 rfl)
  · exact iteT (h1 rfl)
end L2

set_option Elab.async false
set_option linter.all false
set_option maxRecDepth 100000
namespace L2
open PySem PySem.Spec PyProof.Rows

/-! ### loops and comprehensions, read -/
section
variable {K : PySem.W.Frag} {σ : St} {H : Hp} {ta : TE} {t : TA}
theorem g_for {wi : TI} {g : TG} {tb : TS} {D : Ends} (q : wi σ H fun J H1 => ∃ W : Nat → Nat → St → Hp → Prop, (∃ m, W 0 m σ H1) ∧ ∀ i m σ H, W i m σ H →
    (J.stop i H ∧ D.nx σ H) ∨ (J.go i H ∧ ∃ N : St → Hp → Prop, (∀ σ' H', N σ' H' → ∃ m', m' < m ∧ W (i + 1) m' σ' H') ∧ ∀ x H', J.yld i H x H' → g x σ H' fun σ2 H2 => tb { D with nx := N, ct := N, bk := D.nx } σ2 H2)) : tFor wi g tb D σ H := q
theorem g_rng1 {R : It → Hp → Prop} (q : t σ H fun vs H1 => ∃ j : Int, vs = [.int j] ∧ -(2 ^ 62) ≤ j ∧ j < 2 ^ 62 ∧ R (Itr 0 j.toNat) H1) : iRng1 t σ H R := q
theorem g_rng2 {R : It → Hp → Prop} (q : t σ H fun vs H1 => ∃ i j : Int, vs = [.int i, .int j] ∧ (-(2 ^ 62) ≤ i ∧ i < 2 ^ 62 ∧ -(2 ^ 62) ≤ j ∧ j < 2 ^ 62) ∧ R (Itr i (j - i).toNat) H1) : iRng2 t σ H R := q
theorem g_rngW {N : Int} {R : Int → Prop} (h1 : -(2 ^ 62) ≤ N) (h2 : N < 2 ^ 62) (q : R N) : ∃ j, [V.int N] = [.int j] ∧ -(2 ^ 62) ≤ j ∧ j < 2 ^ 62 ∧ R j := ⟨N, rfl, h1, h2, q⟩
theorem g_lsti {R : It → Hp → Prop} (q : ta σ H fun x H1 => ∃ a, x = .ref a ∧ (∃ xs, SqL K H1 a xs) ∧ R (Itl K a) H1) : iList K ta σ H R := q
theorem g_lstW {a : Addr} {xs : List V} {R : Addr → Prop} (h : SqL K H a xs) (q : R a) : ∃ a', V.ref a = .ref a' ∧ (∃ xs, SqL K H a' xs) ∧ R a' := ⟨a, rfl, ⟨xs, h⟩, q⟩
theorem g_comp {wi : TI} {nt : Nat} {fr : List Nat} {g : TG} {te : TE} {Q : VK} (q : wi σ H fun J H1 => ∀ D, H1 D = none → ∃ (n : Nat) (W : Nat → List V → Hp → Prop), W 0 [] (upd H1 D (.lst [])) ∧
  ∀ i acc H, W i acc H → H D = some (.lst acc) ∧ acc.length < sizeLine ∧
    ((J.stop i H ∧ Q (.ref D) H) ∨ (i < n ∧ J.go i H ∧ ∀ x H', J.yld i H x H' → g x (compSt nt fr σ) H' fun σ2 H2 => te σ2 H2 fun y H3 => H3 D = some (.lst acc) ∧ W (i + 1) (acc ++ [y]) (upd H3 D (.lst (acc ++ [y])))))) : tComp wi nt fr g te σ H Q := q
theorem seq_cutC {a b : TS} {nx bk ct : St → Hp → Prop} {rt : VK} (M : St → Hp → Prop) (hb : ∀ σ' H', M σ' H' → b ⟨nx, rt, bk, ct⟩ σ' H') (ha : ∀ R : St → Hp → Prop, (∀ σ' H', M σ' H' → R σ' H') → a ⟨R, rt, bk, ct⟩ σ H) : tSeq a b ⟨nx, rt, bk, ct⟩ σ H := ha _ hb
theorem g_bm0 {T : String} {r : V → List V → Hp → VK → Prop} {Q : VK} (q : ta σ H fun x H1 => tyV K T x H1 ∧ r x [] H1 Q) : tBM0 K T r ta σ H Q := q
theorem g_clear {p : Addr} {xs : List V} {Q : VK} (h : H p = some (.lst xs)) (q : Q .non (upd H p (.lst []))) : rClear (.ref p) [] H Q := ⟨p, xs, rfl, rfl, h, q⟩
theorem iteNT {A B : Prop} (h : B) : if (!true) = true then A else B := h
theorem iteNF {A B : Prop} (h : A) : if (!false) = true then A else B := h
/-- over range(n), nothing else being touched -/
theorem comp_rangeF {n : Nat} {nt : Nat} {fr : List Nat} {g : TG} {te : TE} {f : Nat → V} {Q : Addr → Hp → Prop} (hz : n < sizeLine)
    (hs : ∀ (i : Nat) (H' : Hp) (k : VK), i < n → Same H H' → k (f i) H' → g (.int (0 + (i : Int))) (compSt nt fr σ) H' fun σ2 H2 => te σ2 H2 k)
    (hd : ∀ D, H D = none → Q D (upd H D (.lst ((List.range n).map f)))) :
    ∀ D, H D = none → ∃ (m : Nat) (W : Nat → List V → Hp → Prop), W 0 [] (upd H D (.lst [])) ∧ ∀ i acc H', W i acc H' → H' D = some (.lst acc) ∧ acc.length < sizeLine ∧
      (((Itr 0 n).stop i H' ∧ Q D H') ∨ (i < m ∧ (Itr 0 n).go i H' ∧ ∀ x H2, (Itr 0 n).yld i H' x H2 → g x (compSt nt fr σ) H2 fun σ2 H3 => te σ2 H3 fun y H4 => H4 D = some (.lst acc) ∧ W (i + 1) (acc ++ [y]) (upd H4 D (.lst (acc ++ [y]))))) := by
  refine comp_range hz (fun D i acc H' => acc = (List.range i).map f ∧ H' = upd H D (.lst acc)) (fun D hD => ⟨rfl, rfl⟩) ?_ ?_ ?_
  · rintro D i acc H' ⟨rfl, rfl⟩
    exact ⟨upd_same, by rw [List.length_map, List.length_range]⟩
  · rintro D i acc H' hD hi ⟨rfl, rfl⟩
    refine hs i _ _ hi (fun b u e => by rw [upd_ne (ne_of_none e hD)]; exact e) ⟨upd_same, ?_, ?_⟩
    · rw [List.range_succ, List.map_append]; rfl
    · rw [upd_upd]
  · rintro D acc H' hD ⟨rfl, rfl⟩
    exact hd D hD
/-- over a list, by what holds between two turns -/
theorem comp_listP {a : Addr} {xs : List V} {nt : Nat} {fr : List Nat} {g : TG} {te : TE} {Q : Addr → Hp → Prop} (hz : xs.length < sizeLine) (Pv : Addr → Nat → List V → Hp → Prop) (h0 : ∀ D, H D = none → Pv D 0 [] (upd H D (.lst [])))
    (hk : ∀ D i acc H', Pv D i acc H' → H' D = some (.lst acc) ∧ acc.length = i ∧ SqL K H' a xs)
    (hs : ∀ D i x acc H', H D = none → xs[i]? = some x → Pv D i acc H' → g x (compSt nt fr σ) H' fun σ2 H2 => te σ2 H2 fun y H3 => H3 D = some (.lst acc) ∧ Pv D (i + 1) (acc ++ [y]) (upd H3 D (.lst (acc ++ [y]))))
    (hd : ∀ D acc H', H D = none → Pv D xs.length acc H' → Q D H') :
    ∀ D, H D = none → ∃ (m : Nat) (W : Nat → List V → Hp → Prop), W 0 [] (upd H D (.lst [])) ∧ ∀ i acc H', W i acc H' → H' D = some (.lst acc) ∧ acc.length < sizeLine ∧
      (((Itl K a).stop i H' ∧ Q D H') ∨ (i < m ∧ (Itl K a).go i H' ∧ ∀ x H2, (Itl K a).yld i H' x H2 → g x (compSt nt fr σ) H2 fun σ2 H3 => te σ2 H3 fun y H4 => H4 D = some (.lst acc) ∧ W (i + 1) (acc ++ [y]) (upd H4 D (.lst (acc ++ [y]))))) := by
  intro D hD
  refine ⟨xs.length, fun i acc H' => i ≤ xs.length ∧ (i < xs.length → Pv D i acc H') ∧ (i = xs.length → Pv D i acc H'), ⟨Nat.zero_le _, fun _ => h0 D hD, fun _ => h0 D hD⟩, ?_⟩
  rintro i acc H' ⟨hi, p1, p2⟩
  have p : Pv D i acc H' := by
    by_cases h : i < xs.length
    · exact p1 h
    · exact p2 (by omega)
  obtain ⟨k1, k2, k3⟩ := hk D i acc H' p
  refine ⟨k1, by omega, ?_⟩
  by_cases h : i < xs.length
  · refine .inr ⟨h, ⟨xs, xs[i], k3, List.getElem?_eq_getElem h⟩, ?_⟩
    rintro x H2 ⟨rfl, hy⟩
    have ex : xs[i]? = some x := hy xs k3
    have key := hs D i x acc _ hD ex p
    have e : (fun (σ2 : St) (H2 : Hp) => te σ2 H2 fun y H3 => H3 D = some (.lst acc) ∧ Pv D (i + 1) (acc ++ [y]) (upd H3 D (.lst (acc ++ [y])))) = (fun (σ2 : St) (H3 : Hp) => te σ2 H3 fun y H4 => H4 D = some (.lst acc) ∧ i + 1 ≤ xs.length ∧ (i + 1 < xs.length → Pv D (i + 1) (acc ++ [y]) (upd H4 D (.lst (acc ++ [y])))) ∧ (i + 1 = xs.length → Pv D (i + 1) (acc ++ [y]) (upd H4 D (.lst (acc ++ [y]))))) := by
      funext σ2 H3
      have : (fun (y : V) (H3 : Hp) => H3 D = some (.lst acc) ∧ Pv D (i + 1) (acc ++ [y]) (upd H3 D (.lst (acc ++ [y])))) = (fun (y : V) (H4 : Hp) => H4 D = some (.lst acc) ∧ i + 1 ≤ xs.length ∧ (i + 1 < xs.length → Pv D (i + 1) (acc ++ [y]) (upd H4 D (.lst (acc ++ [y])))) ∧ (i + 1 = xs.length → Pv D (i + 1) (acc ++ [y]) (upd H4 D (.lst (acc ++ [y]))))) := by
        funext y H4
        apply propext
        constructor
        · rintro ⟨z1, z2⟩
          exact ⟨z1, h, fun _ => z2, fun _ => z2⟩
        · rintro ⟨z1, z2, z3, z4⟩
          refine ⟨z1, ?_⟩
          by_cases hh : i + 1 < xs.length
          · exact z3 hh
          · exact z4 (by omega)
      rw [this]
    rw [e] at key
    exact key
  · have hi' : i = xs.length := by omega
    subst hi'
    exact .inl ⟨⟨xs, k3, Nat.le_refl _⟩, hd D acc H' hD p⟩
end
end L2

set_option Elab.async false
set_option linter.all false
set_option maxRecDepth 100000
set_option maxHeartbeats 4000000
namespace S
open PySem L2
def top (i : Nat) : Stmt := PySem.Challenge.pw_slipring_k06_boards_touched.main.body.getD i (.Pass ⟨0, 0, 0, 0⟩)
theorem boot_VE : bootBuiltins "ValueError" = some (.type "ValueError") := by decide +kernel
structure Cl where
  RingError : Addr
  BadSize : Addr
  NoTurn : Addr
  BadMark : Addr
  Crooked : Addr
  NoCell : Addr
  BadCells : Addr
  BadOrder : Addr
  NoHand : Addr
  NoWaiting : Addr
  NotSound : Addr
  BadStand : Addr
  TooMany : Addr
  NoName : Addr
  NoText : Addr
  NoRow : Addr
  Board : Addr
  t_HANDS : Addr
structure Txt (K : PySem.W.Frag) (mg : Str → Option Value) (cl : Cl) : Prop where
  c_RingError : ExM mg "RingError" cl.RingError
  c_BadSize : ExT K mg "BadSize" cl.BadSize
  c_NoTurn : ExM mg "NoTurn" cl.NoTurn
  c_BadMark : ExM mg "BadMark" cl.BadMark
  c_Crooked : ExM mg "Crooked" cl.Crooked
  c_NoCell : ExT K mg "NoCell" cl.NoCell
  c_BadCells : ExM mg "BadCells" cl.BadCells
  c_BadOrder : ExM mg "BadOrder" cl.BadOrder
  c_NoHand : ExT K mg "NoHand" cl.NoHand
  c_NoWaiting : ExM mg "NoWaiting" cl.NoWaiting
  c_NotSound : ExM mg "NotSound" cl.NotSound
  c_BadStand : ExM mg "BadStand" cl.BadStand
  c_TooMany : ExM mg "TooMany" cl.TooMany
  c_NoName : ExM mg "NoName" cl.NoName
  c_NoText : ExM mg "NoText" cl.NoText
  c_NoRow : ExM mg "NoRow" cl.NoRow
  c_Board : ExM mg "Board" cl.Board
  m_LEAST_SIZE : ∃ t, mg "LEAST_SIZE" = some (.int (2) t)
  m_MOST_SIZE : ∃ t, mg "MOST_SIZE" = some (.int (8) t)
  m_CELLS_OF_A_PLACE : ∃ t, mg "CELLS_OF_A_PLACE" = some (.int (4) t)
  m_NEW_MARK : ∃ t, mg "NEW_MARK" = some (.int (2) t)
  m_NO_ORDER : ∃ t, mg "NO_ORDER" = some (.int (-1) t)
  m_NO_TURN : ∃ t, mg "NO_TURN" = some (.int (-1) t)
  m_STILL : ∃ t, mg "STILL" = some (.int (0) t)
  r_HANDS : mg "HANDS" = some (.ref cl.t_HANDS)
  kt_HANDS : KTup K cl.t_HANDS [.str "giver", .str "taker"]
  k_Board : Cls K cl.Board
  n_Board_many_touches : NoAttr K cl.Board "many_touches"
  n_Board_newest_touch : NoAttr K cl.Board "newest_touch"
  n_Board_numbers : NoAttr K cl.Board "numbers"
  n_Board_size : NoAttr K cl.Board "size"
  z_len : mg "len" = none
  z_range : mg "range" = none
  z_max : mg "max" = none
  z_min : mg "min" = none
  z_isinstance : mg "isinstance" = none
  z_int : mg "int" = none
  z_bool : mg "bool" = none
  z_list : mg "list" = none
  z_all : mg "all" = none
  z_ValueError : mg "ValueError" = none
local macro_rules | `(tactic| walk_at "at") => `(tactic| first | assumption | exact upd_same | (refine (upd_ne ?_).trans ?_; (walk_at "ne"); (walk_at "at")) | (refine Same.at ?_ ?_; assumption; (walk_at "at")))
local macro_rules | `(tactic| walk_at "ne") => `(tactic| first | assumption | exact Ne.symm (by assumption) | ((refine' ne_of_none ?h ?n); (case n => assumption); (case h => walk_at "at")) | ((refine Ne.symm ?_); (refine' ne_of_none ?h ?n); (case n => assumption); (case h => walk_at "at")))
local macro_rules | `(tactic| walk_at "cond") => `(tactic| first | trivial | exact Or.inl ⟨by decide, by decide⟩ | exact Or.inr ⟨by decide, by decide⟩ | exact Or.inl ⟨by omega, by omega⟩ | exact Or.inr ⟨by omega, by omega⟩ | (show (0 : Int) < _; omega) | (show (0 : Int) < _; decide))
local macro_rules | `(tactic| walk_at "go1") => `(tactic| first
  | ((with_reducible refine' g_var ?h ?_); (case h => exact rfl))
  | with_reducible refine g_c ?_ | with_reducible refine g_op ?_ | with_reducible refine g_un ?_ | with_reducible refine g_I0 ?_ | with_reducible refine g_U ?_
  | ((with_reducible refine' g_I ?h ?_); (case h => walk_at "cond"))
  | ((with_reducible refine' g_eq ?h ?_); (case h => exact rfl)) | ((with_reducible refine' g_ne ?h ?_); (case h => exact rfl))
  | with_reducible refine g_cb ?_ | with_reducible refine g_nil ?_ | with_reducible refine g_cons ?_
  | (with_reducible refine g_tup ?_) | (with_reducible refine g_lst ?_) | with_reducible refine g_fn ?_ | with_reducible refine g_fnJ ?_
  | with_reducible refine g_fld ?_ | with_reducible refine g_mt ?_ | with_reducible refine g_mtJ ?_ | with_reducible refine g_mk ?_ | with_reducible refine g_mkJ ?_
  | with_reducible refine g_test ?_ | with_reducible refine g_tB ?_ | with_reducible refine g_and ?_ | with_reducible refine g_or ?_ | with_reducible refine g_not ?_ | with_reducible refine g_andV ?_ | with_reducible refine g_orV ?_ | with_reducible refine g_notV ?_ | with_reducible refine g_ifE ?_
  | with_reducible refine g_bl ?_ | with_reducible refine iteT ?_ | with_reducible refine iteF ?_ | with_reducible refine iteNT ?_ | with_reducible refine iteNF ?_
  | with_reducible refine g_seq ?_ | with_reducible refine g_next ?_ | with_reducible refine g_drop ?_ | with_reducible refine g_ret ?_ | with_reducible refine g_retN ?_ | with_reducible refine g_if ?_ | with_reducible refine g_asg ?_ | with_reducible refine g_name ?_ | with_reducible refine g_sub ?_ | with_reducible refine g_sfld ?_ | with_reducible refine g_raise ?_ | with_reducible refine g_tryAs ?_
  | ((with_reducible refine' g_fld1 ?h ?c ?n ?l ?_); (case h => walk_at "at"); (case c => walk_at "cls"); (case n => walk_at "nat"); (case l => exact rfl))
  | ((with_reducible refine' g_sfld1 ?h ?c ?n ?l ?_); (case h => walk_at "at"); (case c => walk_at "cls"); (case n => walk_at "nat"); (case l => exact Nat.le_of_ble_eq_true rfl))
  | with_reducible refine g_aug ?_ | with_reducible refine g_rAdd ?_
  | ((with_reducible refine' g_aug1 ?h ?c ?n ?l ?_); (case h => walk_at "at"); (case c => walk_at "cls"); (case n => walk_at "nat"); (case l => exact rfl))
  | ((with_reducible refine' g_aug2 ?h ?l ?_); (case h => walk_at "at"); (case l => exact Nat.le_of_ble_eq_true rfl))
  | ((with_reducible refine' g_mt1 ?h ?l ?_); (case h => walk_at "at"); (case l => exact rfl))
  | ((with_reducible refine' g_ixL ?h ?e ?_); (case h => walk_at "at"); (case e => exact rfl))
  | ((with_reducible refine' g_ixT ?h ?e ?_); (case h => walk_at "at"); (case e => exact rfl))
  | ((with_reducible refine' g_len ?h ?_); (case h => walk_at "at")) | ((with_reducible refine' g_list ?h ?_); (case h => walk_at "at"))
  | with_reducible refine g_for ?_ | with_reducible refine g_rng1 ?_ | with_reducible refine g_rng2 ?_ | with_reducible refine g_lsti ?_ | with_reducible refine g_comp ?_
  | ((with_reducible refine' g_rngW ?h1 ?h2 ?_); (case h1 => omega); (case h2 => omega)) | ((with_reducible refine' g_rngW ?h1 ?h2 ?_); (case h1 => decide); (case h2 => decide))
  | ((with_reducible refine' g_lstW ?h ?_); (case h => exact SqL.of (by walk_at "at")))
  | with_reducible refine g_bm0 ?_ | ((with_reducible refine' g_clear ?h ?_); (case h => walk_at "at"))
  | with_reducible refine g_bm ?_ | ((with_reducible refine' g_tyL ?h ?_); (case h => walk_at "at")) | ((with_reducible refine' g_app ?h ?l ?_); (case h => walk_at "at"); (case l => first | exact Nat.le_of_ble_eq_true rfl | omega)))
local macro_rules | `(tactic| walk_at "go") => `(tactic| repeat (walk_at "go1"))
set_option hygiene false in
local macro_rules | `(tactic| walk_at "cls") => `(tactic| first | assumption | exact T.k_Board)
set_option hygiene false in
local macro_rules | `(tactic| walk_at "nat") => `(tactic| first | assumption | exact T.n_Board_many_touches | exact T.n_Board_newest_touch | exact T.n_Board_numbers | exact T.n_Board_size)
section
variable {P : Program} {w : World} {K : PySem.W.Frag} {mg : Str → Option Value} {base : Heap} {cl : Cl}
theorem one_le_line : 1 ≤ sizeLine := by decide
/-! ### turns -/
def sp_check_size (cl : Cl) : Sp := fun vs H Q E => ∃ n, vs = [.int n] ∧ (if 2 ≤ n ∧ n ≤ 8 then Q .non H else E (.ref cl.BadSize) none H)
def guardT (cl : Cl) (n t : Int) (H : Hp) (E : XK) (k : Prop) : Prop := if 2 ≤ n ∧ n ≤ 8 then (if 0 ≤ t ∧ t < 2 * n then k else E (.ref cl.NoTurn) none H) else E (.ref cl.BadSize) none H
theorem guardT_imp {cl : Cl} {n t : Int} {H : Hp} {E : XK} {k k' : Prop} (h : guardT cl n t H E k) (i : 2 ≤ n → n ≤ 8 → 0 ≤ t → t < 2 * n → k → k') : guardT cl n t H E k' := by
  unfold guardT at h ⊢
  by_cases a : 2 ≤ n ∧ n ≤ 8
  · rw [if_pos a] at h ⊢
    by_cases b : 0 ≤ t ∧ t < 2 * n
    · rw [if_pos b] at h ⊢; exact i a.1 a.2 b.1 b.2 h
    · rw [if_neg b] at h ⊢; exact h
  · rw [if_neg a] at h ⊢; exact h
def sp_check_turn (cl : Cl) : Sp := fun vs H Q E => ∃ n t, vs = [.int n, .int t] ∧ guardT cl n t H E (Q .non H)
def sp_place_of (cl : Cl) : Sp := fun vs H Q E => ∃ n t, vs = [.int n, .int t] ∧ guardT cl n t H E (Q (.int (t % n)) H)
def sp_lap_of (cl : Cl) : Sp := fun vs H Q E => ∃ n t, vs = [.int n, .int t] ∧ guardT cl n t H E (Q (.int (t / n)) H)
def sp_onward (cl : Cl) : Sp := fun vs H Q E => ∃ n t m, vs = [.int n, .int t, .int m] ∧ guardT cl n t H E (Q (.int ((t + m) % (2 * n))) H)
def sp_distance (cl : Cl) : Sp := fun vs H Q E => ∃ n a b, vs = [.int n, .int a, .int b] ∧ guardT cl n a H E (guardT cl n b H E (Q (.int ((b - a) % (2 * n))) H))
abbrev s_check_size : Stmt := top 21
theorem sc_check_size : FnScope ["size"] ["size"] (defScope s_check_size) := ⟨rfl, rfl, rfl, by decide +kernel, rfl, by decide +kernel, by decide +kernel⟩
theorem ok_check_size (D : DefT K mg "check_size" s_check_size ["size"]) (T : Txt K mg cl) : FnT P w K mg base "check_size" 1 ["size"] (sp_check_size cl) := by
  refine D.fn sc_check_size (fun vs H Q E h => ?_) (fun f cdv A outer s H vs Q E hr h => ?_)
  · obtain ⟨n, rfl, _⟩ := h
    rfl
  · obtain ⟨n, rfl, h⟩ := h
    refine ⟨_, (pss_one (ps_if (PW.pt (pw_or (pt_cmpR op_lt (pv 0) (pe_gint T.m_LEAST_SIZE rfl) (nomark _)) (pw_or1 (pt_cmpR op_gt (pv 0) (pe_gint T.m_MOST_SIZE rfl) (nomark _)))))
        (pss_one (ps_raiseT T.c_BadSize rfl rfl raiseX (pa_cons pe_str pa_nil)))
        pss_nil)), ?_⟩
    refine ⟨_, rfl, _, _, rfl, rfl, _, rfl, ite2 (fun c => ?_) (fun c => ⟨_, rfl, _, _, rfl, rfl, _, rfl, ite2 (fun d => ?_) (fun d => ?_)⟩)⟩
    · rw [if_neg (by have := of_decide_eq_true c; omega)] at h
      exact ite2 (fun _ => ⟨one_le_line, h⟩) (fun z => absurd rfl z)
    · rw [if_neg (by have := of_decide_eq_true d; omega)] at h
      exact ⟨one_le_line, h⟩
    · simp only [decide_eq_true_eq] at c d
      rw [if_pos (by omega)] at h
      exact h
theorem nlog (n : Int) (h0 : 0 < n) (h : n < 2 ^ 200) : n.natAbs.log2 < 9000 := by
  have h1 : n.natAbs < 2 ^ 200 := by omega
  have h2 := (Nat.log2_lt (n := n.natAbs) (k := 200) (by omega)).mpr h1
  omega
/-! ### the draws -/
def Well (H : Hp) (w : Addr) : Prop := ∃ a b p, H w = some (.lst [.int a, .int b, .int p]) ∧ 0 < p ∧ p < 2147483648
/-- all but the thing at w is as it was -/
def But (w : Addr) (H H' : Hp) : Prop := ∀ b o, H b = some o → b ≠ w → H' b = some o
theorem But.refl (w : Addr) (H : Hp) : But w H H := fun _ _ e _ => e
theorem But.trans {w : Addr} {H H1 H2 : Hp} (a : But w H H1) (b : But w H1 H2) : But w H H2 := fun c o e n => b c o (a c o e n) n
theorem But.of {w : Addr} {H H' : Hp} (s : Same H H') : But w H H' := fun b o e _ => s b o e
theorem But.upd {w : Addr} {H : Hp} {o : HO} : But w H (upd H w o) := fun b u e n => by rw [upd_ne n]; exact e
theorem same_new {H : Hp} {p : Addr} {o : HO} (n : H p = none) : Same H (upd H p o) := fun b u e => by rw [upd_ne (ne_of_none e n)]; exact e
theorem Well.same {H H' : Hp} {w : Addr} (h : Well H w) (s : Same H H') : Well H' w := let ⟨a, b, p, e, q⟩ := h; ⟨a, b, p, s _ _ e, q⟩
theorem Well.at {H : Hp} {w : Addr} (h : Well H w) : ∃ o, H w = some o := let ⟨_, _, _, e, _⟩ := h; ⟨_, e⟩
def sp_law_take : Sp := fun vs H Q _ => ∃ w m, vs = [.ref w, .int m] ∧ Well H w ∧ 0 < m ∧ m < 2 ^ 200 ∧ ∀ r H', 0 ≤ r → r < m → Well H' w → But w H H' → Q (.int r) H'
abbrev s_law_take : Stmt := top 40
theorem sc_law_take : FnScope ["well", "many", "got"] ["well", "many"] (defScope s_law_take) := ⟨rfl, rfl, rfl, by decide +kernel, rfl, by decide +kernel, by decide +kernel⟩
theorem ok_law_take (D : DefT K mg "_law_take" s_law_take ["well", "many"]) (T : Txt K mg cl) : FnT P w K mg base "_law_take" 1 ["well", "many"] sp_law_take := by
  refine D.fn sc_law_take (fun vs H Q E h => ?_) (fun f cdv A outer s H vs Q E hr h => ?_)
  · obtain ⟨w, m, rfl, _⟩ := h
    rfl
  · obtain ⟨w, m, rfl, ⟨a, b, p, hw, p0, p1⟩, m0, m1, k⟩ := h
    refine ⟨_, (pss_cons (ps_if (pt_cmpR op_gt (pe_ix (ix_listK (K := K)) (pv 0) pe_int (fun _ _ => rfl)) pe_int (nomark _))
         (pss_cons (ps_set (i := 2) sc_law_take.nd rfl (by first | exact Or.inl rfl | exact Or.inr rfl) (pe_op op_mod (pe_ix (ix_listK (K := K)) (pv 0) pe_int (fun _ _ => rfl)) (pv 1)))
          (pss_cons (ps_asg (pe_op op_fdivB (pe_ix (ix_listK (K := K)) (pv 0) pe_int (fun _ _ => rfl)) (pv 1)) (pg_sub (pv 0) pe_int set_list))
          (pss_one (ps_ret (pv 2)))))
         pss_nil)
      (pss_cons (ps_asg (pe_op op_add (pe_op op_mod (pe_op op_mul (pe_ix (ix_listK (K := K)) (pv 0) pe_int (fun _ _ => rfl)) pe_int) (pe_ix (ix_listK (K := K)) (pv 0) pe_int (fun _ _ => rfl))) pe_int) (pg_sub (pv 0) pe_int set_list))
      (pss_one (ps_ret (pe_op op_mod (pe_op op_fdivB (pe_op op_mod (pe_op op_mul (pe_ix (ix_listK (K := K)) (pv 0) pe_int (fun _ _ => rfl)) (pe_ix (ix_listK (K := K)) (pv 0) pe_int (fun _ _ => rfl))) pe_int) pe_int) (pv 1)))))), ?_⟩
    refine ⟨_, rfl, w, _, 0, _, rfl, rfl, SqL.of hw, rfl, _, _, rfl, rfl, _, rfl, ite2 (fun c => ?_) (fun c => ?_)⟩
    · refine ⟨_, rfl, w, _, 0, _, rfl, rfl, SqL.of hw, rfl, _, rfl, _, _, rfl, rfl, m0, ?_⟩
      refine ⟨_, rfl, w, _, 0, _, rfl, rfl, SqL.of hw, rfl, _, rfl, _, _, rfl, rfl, ⟨m0, nlog m m0 m1⟩, _, rfl, w, _, 0, 0, rfl, rfl, hw, rfl, ?_⟩
      exact ⟨_, rfl, k _ _ (Int.emod_nonneg _ (by omega)) (Int.emod_lt_of_pos _ m0) ⟨_, _, _, upd_same, p0, p1⟩ But.upd⟩
    · refine ⟨_, rfl, w, _, 1, _, rfl, rfl, SqL.of hw, rfl, _, _, rfl, rfl, .inr ⟨by decide, by decide⟩, _, rfl, w, _, 2, _, rfl, rfl, SqL.of hw, rfl, _, _, rfl, rfl, p0, _, _, rfl, rfl, _, rfl, w, _, 1, 1, rfl, rfl, hw, rfl, ?_⟩
      have h1 := Int.emod_nonneg (b * 48271) (show p ≠ 0 by omega)
      have h2 := Int.emod_lt_of_pos (b * 48271) p0
      refine ⟨_, rfl, w, _, 1, _, rfl, rfl, SqL.of upd_same, rfl, _, rfl, w, _, 1, _, rfl, rfl, SqL.of upd_same, rfl, _, _, rfl, rfl, .inl ⟨by omega, by omega⟩, _, _, rfl, rfl, (by show (0 : Int) < 2147483423; decide), _, _, rfl, rfl, ⟨by decide, by decide⟩, _, rfl, _, _, rfl, rfl, m0, ?_⟩
      exact k _ _ (Int.emod_nonneg _ (by omega)) (Int.emod_lt_of_pos _ m0) ⟨_, _, _, upd_same, p0, p1⟩ But.upd
theorem atI_map {ns : List Int} {n : Nat} (h : n < ns.length) : atI (ns.map V.int) (n : Int) = some (.int ns[n]) := by
  have hl : (ns.map V.int).length = ns.length := List.length_map _
  unfold atI ixN
  rw [if_pos (by omega), if_pos (by omega)]
  show (ns.map V.int)[(n : Int).toNat]? = _
  rw [show (n : Int).toNat = n by omega, List.getElem?_map, List.getElem?_eq_getElem h]
  rfl
abbrev primesL : List V := [.int 2147483647, .int 2147483629, .int 2147483587, .int 2147483579, .int 2147483563, .int 2147483549, .int 2147483543, .int 2147483497]
theorem primes_at (j : Int) (h0 : 0 ≤ j) (h1 : j < 8) : ∃ v, atI primesL j = some (.int v) ∧ 0 < v ∧ v < 2147483648 := by
  have : j = 0 ∨ j = 1 ∨ j = 2 ∨ j = 3 ∨ j = 4 ∨ j = 5 ∨ j = 6 ∨ j = 7 := by omega
  rcases this with rfl | rfl | rfl | rfl | rfl | rfl | rfl | rfl <;> exact ⟨_, rfl, by decide, by decide⟩
def sp_law_well (K : PySem.W.Frag) : Sp := fun vs H Q _ => ∃ (c : Addr) (ns : List Int) (k : Nat), vs = [.ref c, .int (k : Int)] ∧ SqL K H c (ns.map V.int) ∧ k < 1000 ∧ ∀ w H', H w = none → Same H H' → Well H' w → Q (.ref w) H'
abbrev s_law_well : Stmt := top 39
theorem sc_law_well : FnScope ["script", "k", "cell", "primes", "seed"] ["script", "k"] (defScope s_law_well) := ⟨rfl, rfl, rfl, by decide +kernel, rfl, by decide +kernel, by decide +kernel⟩
theorem ok_law_well (D : DefT K mg "_law_well" s_law_well ["script", "k"]) (T : Txt K mg cl) : FnT P w K mg base "_law_well" 1 ["script", "k"] (sp_law_well K) := by
  refine D.fn sc_law_well (fun vs H Q E h => ?_) (fun f cdv A outer s H vs Q E hr h => ?_)
  · obtain ⟨c, ns, k, rfl, _⟩ := h
    rfl
  · obtain ⟨c, ns, n, rfl, hc, hn, k⟩ := h
    refine ⟨_, (pss_cons (ps_set (i := 2) sc_law_well.nd rfl (by first | exact Or.inl rfl | exact Or.inr rfl) pe_int)
      (pss_cons (ps_if (pt_cmpR op_lt (pv 1) (pe_callB (call_lenK (K := K)) (by rfl) T.z_len PySem.boot_len (pa_cons (pv 0) pa_nil)) (nomark _))
         (pss_one (ps_set (i := 2) sc_law_well.nd rfl (by first | exact Or.inl rfl | exact Or.inr rfl) (pe_ix (ix_listK (K := K)) (pv 0) (pv 1) (fun _ _ => rfl))))
         pss_nil)
      (pss_cons (ps_set (i := 3) sc_law_well.nd rfl (by first | exact Or.inl rfl | exact Or.inr rfl) (pe_lst (pa_cons pe_int (pa_cons pe_int (pa_cons pe_int (pa_cons pe_int (pa_cons pe_int (pa_cons pe_int (pa_cons pe_int (pa_cons pe_int pa_nil))))))))))
      (pss_cons (ps_set (i := 4) sc_law_well.nd rfl (by first | exact Or.inl rfl | exact Or.inr rfl) (pe_op op_mod (pe_op op_mul (pe_op op_add (pe_op op_mod (pv 2) pe_int) pe_int) (pe_op op_add pe_int (pe_op op_mul pe_int (pv 1)))) pe_int))
      (pss_cons (ps_set (i := 4) sc_law_well.nd rfl (by first | exact Or.inl rfl | exact Or.inr rfl) (pe_op op_add (pe_op op_add (pe_op op_mod (pe_op op_mul (pv 4) (pv 4)) pe_int) (pv 1)) pe_int))
      (pss_cons (ps_if (pt_cmpR op_ge (pv 2) (pe_op op_pow pe_int pe_int) (nomark _))
         (pss_one (ps_ret (pe_lst (pa_cons (pv 2) (pa_cons (pv 4) (pa_cons (pe_ix (ix_listK (K := K)) (pv 3) (pe_op op_mod (pv 1) pe_int) (fun _ _ => rfl)) pa_nil))))))
         pss_nil)
      (pss_one (ps_ret (pe_lst (pa_cons pe_int (pa_cons (pv 4) (pa_cons (pe_ix (ix_listK (K := K)) (pv 3) (pe_op op_mod (pv 1) pe_int) (fun _ _ => rfl)) pa_nil)))))))))))), ?_⟩
    refine ⟨_, rfl, _, rfl, c, _, rfl, .inl hc, _, _, rfl, rfl, _, rfl, ite2 (fun a => ⟨_, rfl, _, rfl, c, _, (n : Int), _, rfl, rfl, hc, atI_map (by have := of_decide_eq_true a; rw [List.length_map] at this; omega), ?_⟩) (fun a => ?_)⟩
    all_goals
      refine ⟨by show 8 ≤ sizeLine; decide, fun p hp => ?_⟩
      refine ⟨_, rfl, _, _, rfl, rfl, (by show (0 : Int) < 2147483489; decide), _, _, rfl, rfl, _, rfl, _, _, rfl, rfl, .inl ⟨by decide, by decide⟩, _, _, rfl, rfl, _, _, rfl, rfl, .inl ⟨by omega, by omega⟩, _, _, rfl, rfl, (by show (0 : Int) < 2147483489; decide), ?_⟩
      refine ⟨_, rfl, _, rfl, _, _, rfl, rfl, .inl ⟨by omega, by omega⟩, _, _, rfl, rfl, (by show (0 : Int) < 2147483477; decide), _, rfl, _, _, rfl, rfl, _, _, rfl, rfl, ?_⟩
      refine ⟨_, rfl, _, _, rfl, rfl, ⟨by decide, by decide, by decide⟩, _, _, rfl, rfl, _, rfl, ite2 (fun b => ?_) (fun b => ?_)⟩
      all_goals
        obtain ⟨v, hv, v0, v1⟩ := primes_at ((n : Int) % 8) (by omega) (by omega)
        first
          | refine ⟨_, rfl, _, rfl, _, rfl, _, rfl, _, _, rfl, rfl, (by show (0 : Int) < 8; decide), p, _, _, _, rfl, rfl, SqL.of upd_same, hv, (by show 3 ≤ sizeLine; decide), fun q hq => ?_⟩
          | refine ⟨_, rfl, _, rfl, _, rfl, _, _, rfl, rfl, (by show (0 : Int) < 8; decide), p, _, _, _, rfl, rfl, SqL.of upd_same, hv, (by show 3 ≤ sizeLine; decide), fun q hq => ?_⟩
        exact k q _ ((same_new hp).free hq) ((same_new hp).trans (same_new hq)) ⟨_, _, _, upd_same, v0, v1⟩
def sp_law_whole : Sp := fun vs H Q _ => ∃ i, vs = [.int i] ∧ Q (.bl true) H
abbrev s_law_whole : Stmt := top 41
theorem sc_law_whole : FnScope ["found"] ["found"] (defScope s_law_whole) := ⟨rfl, rfl, rfl, by decide +kernel, rfl, by decide +kernel, by decide +kernel⟩
theorem ok_law_whole (D : DefT K mg "_law_whole" s_law_whole ["found"]) (T : Txt K mg cl) (k1 : PySem.W.kitOne K (.type "int") (.type "int") = some true) (k2 : PySem.W.kitOne K (.type "int") (.type "bool") = some false) : FnT P w K mg base "_law_whole" 1 ["found"] sp_law_whole := by
  refine D.fn sc_law_whole (fun vs H Q E h => ?_) (fun f cdv A outer s H vs Q E hr h => ?_)
  · obtain ⟨i, rfl, _⟩ := h
    rfl
  · obtain ⟨i, rfl, h⟩ := h
    refine ⟨_, (pss_one (ps_ret (pe_and (pe_callB (call_isiK (K := K)) (by rfl) T.z_isinstance PyProof.Rows.boot_isinstance (pa_cons (pv 0) (pa_cons (pe_gty T.z_int PyProof.Rows.boot_int rfl) pa_nil))) (pe_one (pe_not (pe_callB (call_isiK (K := K)) (by rfl) T.z_isinstance PyProof.Rows.boot_isinstance (pa_cons (pv 0) (pa_cons (pe_gty T.z_bool PyProof.Rows.boot_bool rfl) pa_nil)))))))), ?_⟩
    exact ⟨_, rfl, _, _, _, _, _, rfl, .ty (.int i), rfl, k1, _, rfl, iteT ⟨_, rfl, _, _, _, _, _, rfl, .ty (.int i), rfl, k2, _, rfl, h⟩⟩
def sp_law_far : Sp := fun vs H Q _ => ∃ w, vs = [.ref w] ∧ Well H w ∧ ∀ r H', 1 ≤ r → r < 2 ^ 200 → Well H' w → But w H H' → Q (.int r) H'
abbrev s_law_far : Stmt := top 42
theorem sc_law_far : FnScope ["well"] ["well"] (defScope s_law_far) := ⟨rfl, rfl, rfl, by decide +kernel, rfl, by decide +kernel, by decide +kernel⟩
theorem ten58 : (0 : Int) < 10 ^ 58 ∧ (10 : Int) ^ 58 < 2 ^ 200 - 1 := by decide
theorem ok_law_far (D : DefT K mg "_law_far" s_law_far ["well"]) (T : Txt K mg cl) (G_law_take : FnT P w K mg base "_law_take" 1 ["well", "many"] sp_law_take) : FnT P w K mg base "_law_far" 2 ["well"] sp_law_far := by
  refine D.fn sc_law_far (fun vs H Q E h => ?_) (fun f cdv A outer s H vs Q E hr h => ?_)
  · obtain ⟨w, rfl, _⟩ := h
    rfl
  · obtain ⟨w, rfl, hw, k⟩ := h
    refine ⟨_, (pss_one (ps_ret (pe_ix (ix_listK (K := K)) (pe_lst (pa_cons (pe_op op_add pe_int (pe_fn G_law_take hr (by decide) rfl passX (pa_cons (pv 0) (pa_cons pe_int pa_nil)))) (pa_cons (pe_op op_add pe_int (pe_fn G_law_take hr (by decide) rfl passX (pa_cons (pv 0) (pa_cons (pe_op op_pow pe_int pe_int) pa_nil)))) pa_nil))) (pe_fn G_law_take hr (by decide) rfl passX (pa_cons (pv 0) (pa_cons pe_int pa_nil))) (fun _ _ => rfl)))), ?_⟩
    refine ⟨_, rfl, w, 3, rfl, hw, by decide, by decide, fun r1 H1 a1 b1 w1 s1 => ?_⟩
    refine ⟨_, _, rfl, rfl, _, rfl, _, _, rfl, rfl, ⟨by decide, by decide, by decide⟩, w, _, rfl, w1, ten58.1, Int.lt_trans ten58.2 (by decide), fun r2 H2 a2 b2 w2 s2 => ?_⟩
    refine ⟨_, _, rfl, rfl, (by show 2 ≤ sizeLine; decide), fun p hp => ?_⟩
    have np : w ≠ p := by obtain ⟨o, e⟩ := w2.at; exact ne_of_none e hp
    refine ⟨_, rfl, w, 2, rfl, w2.same (same_new hp), by decide, by decide, fun r3 H3 a3 b3 w3 s3 => ?_⟩
    have e3 : H3 p = _ := s3 p _ upd_same np.symm
    have b58 := ten58.2
    have b2 : r2 < 10 ^ 58 := b2
    have bt : But w H H3 := (s1.trans s2).trans ((But.of (same_new hp)).trans s3)
    have : r3 = 0 ∨ r3 = 1 := by omega
    rcases this with rfl | rfl
    · exact ⟨p, _, 0, _, rfl, rfl, SqL.of e3, rfl, k _ _ (by omega) (by omega) w3 bt⟩
    · exact ⟨p, _, 1, _, rfl, rfl, SqL.of e3, rfl, k _ _ (by omega) (by omega) w3 bt⟩
/-- a word between two rows -/
theorem seq_cut {a b : TS} {D : Ends} {σ : St} {H : Hp} (M : St → Hp → Prop) (hb : ∀ σ' H', M σ' H' → b D σ' H') (ha : ∀ R : St → Hp → Prop, (∀ σ' H', M σ' H' → R σ' H') → a { D with nx := R } σ H) : tSeq a b D σ H := ha _ hb
theorem seq_cutI {c : TT} {t u b : TS} {D : Ends} {σ : St} {H : Hp} (M : St → Hp → Prop) (hb : ∀ σ' H', M σ' H' → b D σ' H') (ha : ∀ R : St → Hp → Prop, (∀ σ' H', M σ' H' → R σ' H') → tIfS c t u { D with nx := R } σ H) : tSeq (tIfS c t u) b D σ H := ha _ hb
theorem gn {i : Nat} {v : V} {σ : St} {H : Hp} {k : St → Hp → Prop} (h : k (σ.set i (some v)) H) : gName i v σ H k := h
theorem pickL {ns : List Int} {Pr : Int → Prop} (h : ∀ v ∈ ns, Pr v) {r : Int} (h0 : 0 ≤ r) (h1 : r < ns.length) : ∃ v, atI (ns.map V.int) r = some (.int v) ∧ Pr v := by
  have hr : r.toNat < ns.length := by omega
  refine ⟨ns[r.toNat], ?_, h _ (List.getElem_mem hr)⟩
  have e := atI_map hr
  rwa [show ((r.toNat : Nat) : Int) = r by omega] at e
theorem same_but {w : Addr} {H H1 H2 : Hp} (s : Same H H1) (n : H w = none) (b : But w H1 H2) : Same H H2 := fun c o e => b c o (s c o e) (ne_of_none e n)
/-- what is made new in between is away from w -/
theorem Well.ne {H : Hp} {w p : Addr} (h : Well H w) (n : H p = none) : p ≠ w := by
  obtain ⟨o, e⟩ := h.at
  exact (ne_of_none e n).symm
theorem But.nw {w : Addr} {H0 H : Hp} {p : Addr} {o : HO} (s : But w H0 H) (n : H p = none) : But w H0 (L2.upd H p o) := s.trans (But.of (same_new n))
theorem But.free {w p : Addr} {H0 H : Hp} (s : But w H0 H) (hw : Well H w) (n : H p = none) : H0 p = none := by
  cases e : H0 p with
  | none => rfl
  | some o =>
    have := s p o e (hw.ne n)
    rw [n] at this
    cases this
theorem _root_.L2.Same.set {H H' : Hp} {p : Addr} {o : HO} (s : Same H H') (n : H p = none) : Same H (upd H' p o) := fun b u e => by rw [upd_ne (ne_of_none e n)]; exact s b u e
theorem eqd_same {H : Hp} {p q : Addr} {ns : List Int} (ne : p ≠ q) (hp : H p = some (.lst (ns.map V.int))) (hq : H q = some (.lst (ns.map V.int))) : EqD K H 1 (.ref p) (.ref q) true := by
  have h := eqd_flat (K := K) ne (SqL.of hp) (SqL.of hq) (flat_ints _) (flat_ints _)
  rw [eqL_ints] at h
  simpa using h
theorem eqd_sameB {H : Hp} {p q : Addr} {ns : List Bool} (ne : p ≠ q) (hp : H p = some (.lst (ns.map V.bl))) (hq : H q = some (.lst (ns.map V.bl))) : EqD K H 1 (.ref p) (.ref q) true := by
  have h := eqd_flat (K := K) ne (SqL.of hp) (SqL.of hq) (flat_bls _) (flat_bls _)
  rw [eqL_bls] at h
  simpa using h
theorem ne_same {x y : Int} (h : x = y) : (!decide (V.int x = V.int y)) = false := by subst h; simp
theorem ix_nat {l j : Nat} (h : j < l) : ixN l (j : Int) = some j := by
  unfold ixN
  rw [if_pos (by omega), if_pos (by omega)]
  exact congrArg some (by omega)
theorem blrow (b : Nat → Bool) (i : Nat) (y : Bool) (h : y = b i) : ((List.range i).map b).map V.bl ++ [V.bl y] = ((List.range (i + 1)).map b).map V.bl := by
  subst h
  rw [List.range_succ, List.map_append, List.map_append]
  rfl
theorem blrow_len (b : Nat → Bool) (i : Nat) : (((List.range i).map b).map V.bl).length = i := by rw [List.length_map, List.length_map, List.length_range]
theorem inrow (b : Nat → Int) (i : Nat) (y : Int) (h : y = b i) : ((List.range i).map b).map V.int ++ [V.int y] = ((List.range (i + 1)).map b).map V.int := by
  subst h
  rw [List.range_succ, List.map_append, List.map_append]
  rfl
theorem inrow_len (b : Nat → Int) (i : Nat) : (((List.range i).map b).map V.int).length = i := by rw [List.length_map, List.length_map, List.length_range]
/-! ### cells -/
/-- all but the things at ps is as it was -/
def Kp (ps : List Addr) (H H' : Hp) : Prop := ∀ c o, H c = some o → c ∉ ps → H' c = some o
theorem Kp.refl (ps : List Addr) (H : Hp) : Kp ps H H := fun _ _ e _ => e
theorem Kp.trans {ps : List Addr} {H H1 H2 : Hp} (a : Kp ps H H1) (b : Kp ps H1 H2) : Kp ps H H2 := fun c o e n => b c o (a c o e n) n
theorem Kp.mono {ps qs : List Addr} {H H1 : Hp} (a : Kp ps H H1) (h : ∀ c ∈ ps, c ∈ qs) : Kp qs H H1 := fun c o e n => a c o e fun z => n (h c z)
theorem Kp.of {ps : List Addr} {H H1 : Hp} (a : Same H H1) : Kp ps H H1 := fun c o e _ => a c o e
theorem Kp.but {w : Addr} {H H1 : Hp} (a : But w H H1) : Kp [w] H H1 := fun c o e n => a c o e fun z => n (by simp [z])
theorem Kp.upd {ps : List Addr} {H : Hp} {p : Addr} {o : HO} (h : p ∈ ps) : Kp ps H (L2.upd H p o) := fun c u e n => by rw [upd_ne fun z : c = p => n (by rw [z]; exact h)]; exact e
theorem Kp.nw {ps : List Addr} {H H1 : Hp} {p : Addr} {o : HO} (a : Kp ps H H1) (n : H1 p = none) : Kp ps H (L2.upd H1 p o) := a.trans (Kp.of (same_new n))
theorem Kp.free {ps : List Addr} {H H1 : Hp} {p : Addr} (a : Kp ps H H1) (m : ∀ c ∈ ps, ∃ o, H1 c = some o) (n : H1 p = none) : H p = none := by
  cases e : H p with
  | none => rfl
  | some o =>
    have := a p o e fun z => by obtain ⟨u, q⟩ := m p z; rw [n] at q; cases q
    rw [n] at this; cases this
def newRow (n : Nat) : List Int := (List.replicate n [2, -1, 0, 0]).flatten ++ [-1, -1, 0, 0]
theorem newRow_len (n : Nat) : (newRow n).length = 4 * n + 4 := by
  unfold newRow
  rw [List.length_append, len_rep]
  show n * 4 + 4 = _
  omega
theorem rep_map (n : Nat) (ns : List Int) : (List.replicate n (ns.map V.int)).flatten = ((List.replicate n ns).flatten).map V.int := by
  induction n with
  | zero => rfl
  | succ n ih => rw [List.replicate_succ, List.replicate_succ, List.flatten_cons, List.flatten_cons, List.map_append, ih]
def lastV (H : Hp) (v : V) : Option (Str × Int × Int) → Prop
  | none => v = .non
  | some (d, c, x) => ∃ t, v = .ref t ∧ H t = some (.tup [.str d, .int c, .int x])
/-- a board at b, its cells at l -/
def Brd (cl : Cl) (H : Hp) (b l : Addr) (n : Nat) (row : List Int) (many : Int) (last : V) : Prop :=
  (∃ dx, H b = some (.ins cl.Board dx [("size", .int n), ("numbers", .ref l), ("many_touches", .int many), ("newest_touch", last)])) ∧ H l = some (.lst (row.map V.int)) ∧ row.length = 4 * n + 4 ∧ 2 ≤ n ∧ n ≤ 8
theorem Brd.keep {cl : Cl} {H H' : Hp} {b l : Addr} {n : Nat} {row : List Int} {many : Int} {last : V} {ps : List Addr} (h : Brd cl H b l n row many last) (k : Kp ps H H') (hb : b ∉ ps) (hl : l ∉ ps) : Brd cl H' b l n row many last := by
  obtain ⟨⟨dx, e⟩, e', z⟩ := h
  exact ⟨⟨dx, k _ _ e hb⟩, k _ _ e' hl, z⟩
def sp_check_hand (cl : Cl) : Sp := fun vs H Q E => ∃ h : Str, vs = [.str h] ∧ (if h = "giver" ∨ h = "taker" then Q .non H else E (.ref cl.NoHand) none H)
def sp_cellOf (d : Int) : Sp := fun vs H Q _ => ∃ p, vs = [.int p] ∧ Q (.int (4 * p + d)) H
def cardG (cl : Cl) (n : Int) (h : Str) (H : Hp) (E : XK) (k : Prop) : Prop := if 2 ≤ n ∧ n ≤ 8 then (if h = "giver" ∨ h = "taker" then k else E (.ref cl.NoHand) none H) else E (.ref cl.BadSize) none H
def handI (h : Str) : Int := if h = "giver" then 0 else 1
def sp_card_cell (cl : Cl) : Sp := fun vs H Q E => ∃ (n : Int) (h : Str), vs = [.int n, .str h] ∧ cardG cl n h H E (Q (.int (4 * n + handI h)) H)
def sp_bell_cell (cl : Cl) : Sp := fun vs H Q E => ∃ (n : Int) (h : Str), vs = [.int n, .str h] ∧ cardG cl n h H E (Q (.int (4 * n + handI h + 2)) H)
def sp_new_cells : Sp := fun vs H Q _ => ∃ n : Nat, vs = [.int n] ∧ n ≤ 8 ∧ ∀ l H', H l = none → Same H H' → H' l = some (.lst ((newRow n).map V.int)) → Q (.ref l) H'
theorem eqV_str (x y : Str) : eqV (.str x) (.str y) = decide (x = y) := by
  first
    | rfl
    | (unfold eqV; simp)
abbrev s_check_hand : Stmt := top 29
theorem sc_check_hand : FnScope ["hand"] ["hand"] (defScope s_check_hand) := ⟨rfl, rfl, rfl, by decide +kernel, rfl, by decide +kernel, by decide +kernel⟩
theorem ok_check_hand (D : DefT K mg "check_hand" s_check_hand ["hand"]) (T : Txt K mg cl) : FnT P w K mg base "check_hand" 1 ["hand"] (sp_check_hand cl) := by
  refine D.fn sc_check_hand (fun vs H Q E h => ?_) (fun f cdv A outer s H vs Q E hr h => ?_)
  · obtain ⟨n, rfl, _⟩ := h
    rfl
  · obtain ⟨n, rfl, h⟩ := h
    refine ⟨_, (pss_one (ps_if (pt_cmpR (op_notInK (K := K)) (pv 0) (pe_gref T.r_HANDS rfl) (by with_unfolding_all rfl))
        (pss_one (ps_raiseT T.c_NoHand rfl rfl raiseX (pa_cons pe_str pa_nil)))
        pss_nil)), ?_⟩
    walk_at "go"
    refine ⟨_, _, rfl, .inr T.kt_HANDS.sq, rfl, rfl, ?_⟩
    walk_at "go"
    have e : inV (.str n) [.str "giver", .str "taker"] = decide (n = "giver" ∨ n = "taker") := by
      unfold inV
      simp only [List.any_cons, List.any_nil, eqV_str, Bool.or_false]
      rw [Bool.eq_iff_iff]
      simp only [Bool.or_eq_true, decide_eq_true_eq]
      exact or_congr eq_comm eq_comm
    simp only [if_true, e]
    refine g_iteN (fun c => ?_) (fun c => ?_)
    · rw [if_neg c] at h
      walk_at "go"
      exact ⟨one_le_line, h⟩
    · rw [if_pos c] at h
      walk_at "go"
      exact h
abbrev s_mark_cell : Stmt := top 30
theorem sc_mark_cell : FnScope ["place"] ["place"] (defScope s_mark_cell) := ⟨rfl, rfl, rfl, by decide +kernel, rfl, by decide +kernel, by decide +kernel⟩
theorem ok_mark_cell (D : DefT K mg "mark_cell" s_mark_cell ["place"]) (T : Txt K mg cl) : FnT P w K mg base "mark_cell" 1 ["place"] (sp_cellOf 0) := by
  refine D.fn sc_mark_cell (fun vs H Q E h => ?_) (fun f cdv A outer s H vs Q E hr h => ?_)
  · obtain ⟨n, rfl, _⟩ := h
    rfl
  · obtain ⟨n, rfl, h⟩ := h
    refine ⟨_, (pss_one (ps_ret (pe_op op_mul (pe_gint T.m_CELLS_OF_A_PLACE rfl) (pv 0)))), ?_⟩
    walk_at "go"
    rw [Int.add_zero] at h
    exact h
abbrev s_number_cell : Stmt := top 31
theorem sc_number_cell : FnScope ["place"] ["place"] (defScope s_number_cell) := ⟨rfl, rfl, rfl, by decide +kernel, rfl, by decide +kernel, by decide +kernel⟩
theorem ok_number_cell (D : DefT K mg "number_cell" s_number_cell ["place"]) (T : Txt K mg cl) : FnT P w K mg base "number_cell" 1 ["place"] (sp_cellOf 1) := by
  refine D.fn sc_number_cell (fun vs H Q E h => ?_) (fun f cdv A outer s H vs Q E hr h => ?_)
  · obtain ⟨n, rfl, _⟩ := h
    rfl
  · obtain ⟨n, rfl, h⟩ := h
    refine ⟨_, (pss_one (ps_ret (pe_op op_add (pe_op op_mul (pe_gint T.m_CELLS_OF_A_PLACE rfl) (pv 0)) pe_int))), ?_⟩
    walk_at "go"
    exact h
abbrev s_left_cell : Stmt := top 32
theorem sc_left_cell : FnScope ["place"] ["place"] (defScope s_left_cell) := ⟨rfl, rfl, rfl, by decide +kernel, rfl, by decide +kernel, by decide +kernel⟩
theorem ok_left_cell (D : DefT K mg "left_cell" s_left_cell ["place"]) (T : Txt K mg cl) : FnT P w K mg base "left_cell" 1 ["place"] (sp_cellOf 2) := by
  refine D.fn sc_left_cell (fun vs H Q E h => ?_) (fun f cdv A outer s H vs Q E hr h => ?_)
  · obtain ⟨n, rfl, _⟩ := h
    rfl
  · obtain ⟨n, rfl, h⟩ := h
    refine ⟨_, (pss_one (ps_ret (pe_op op_add (pe_op op_mul (pe_gint T.m_CELLS_OF_A_PLACE rfl) (pv 0)) pe_int))), ?_⟩
    walk_at "go"
    exact h
abbrev s_thing_cell : Stmt := top 33
theorem sc_thing_cell : FnScope ["place"] ["place"] (defScope s_thing_cell) := ⟨rfl, rfl, rfl, by decide +kernel, rfl, by decide +kernel, by decide +kernel⟩
theorem ok_thing_cell (D : DefT K mg "thing_cell" s_thing_cell ["place"]) (T : Txt K mg cl) : FnT P w K mg base "thing_cell" 1 ["place"] (sp_cellOf 3) := by
  refine D.fn sc_thing_cell (fun vs H Q E h => ?_) (fun f cdv A outer s H vs Q E hr h => ?_)
  · obtain ⟨n, rfl, _⟩ := h
    rfl
  · obtain ⟨n, rfl, h⟩ := h
    refine ⟨_, (pss_one (ps_ret (pe_op op_add (pe_op op_mul (pe_gint T.m_CELLS_OF_A_PLACE rfl) (pv 0)) pe_int))), ?_⟩
    walk_at "go"
    exact h
abbrev s_card_cell : Stmt := top 34
theorem sc_card_cell : FnScope ["size", "hand"] ["size", "hand"] (defScope s_card_cell) := ⟨rfl, rfl, rfl, by decide +kernel, rfl, by decide +kernel, by decide +kernel⟩
theorem ok_card_cell (D : DefT K mg "card_cell" s_card_cell ["size", "hand"]) (T : Txt K mg cl) (G_check_size : FnT P w K mg base "check_size" 1 ["size"] (sp_check_size cl)) (G_check_hand : FnT P w K mg base "check_hand" 1 ["hand"] (sp_check_hand cl)) : FnT P w K mg base "card_cell" 2 ["size", "hand"] (sp_card_cell cl) := by
  refine D.fn sc_card_cell (fun vs H Q E h => ?_) (fun f cdv A outer s H vs Q E hr h => ?_)
  · obtain ⟨n, x, rfl, _⟩ := h
    rfl
  · obtain ⟨n, x, rfl, h⟩ := h
    refine ⟨_, (pss_cons (ps_expr (pe_fn G_check_size hr (by decide) rfl passX (pa_cons (pv 0) pa_nil)))
      (pss_cons (ps_expr (pe_fn G_check_hand hr (by decide) rfl passX (pa_cons (pv 1) pa_nil)))
      (pss_one (ps_ret (pe_op op_add (pe_op op_mul (pe_gint T.m_CELLS_OF_A_PLACE rfl) (pv 0)) (pe_indexTK (K := K) (pe_gref T.r_HANDS rfl) (pa_cons (pv 1) pa_nil))))))), ?_⟩
    unfold cardG at h
    walk_at "go"
    refine ⟨n, rfl, ite2 (fun a => ?_) (fun a => ?_)⟩
    · rw [if_pos a] at h
      walk_at "go"
      refine ⟨x, rfl, ite2 (fun b => ?_) (fun b => ?_)⟩
      · rw [if_pos b] at h
        walk_at "go"
        refine ⟨T.kt_HANDS.ty, ?_⟩
        walk_at "go"
        refine ⟨_, _, _, _, rfl, rfl, T.kt_HANDS, rfl, rfl, rfl, ?_, ?_⟩
        · rw [eqV_str, eqV_str, decide_eq_true_eq, decide_eq_true_eq]
          exact b.imp Eq.symm Eq.symm
        · walk_at "go"
          have e : (if eqV (.str "giver") (.str x) = true then (0 : Int) else 1) = handI x := by
            unfold handI
            rw [eqV_str]
            simp only [decide_eq_true_eq]
            by_cases c : x = "giver"
            · rw [if_pos c, if_pos c.symm]
            · rw [if_neg c, if_neg fun z => c z.symm]
          rw [e]
          exact h
      · rw [if_neg b] at h
        exact h
    · rw [if_neg a] at h
      exact h
abbrev s_bell_cell : Stmt := top 35
theorem sc_bell_cell : FnScope ["size", "hand"] ["size", "hand"] (defScope s_bell_cell) := ⟨rfl, rfl, rfl, by decide +kernel, rfl, by decide +kernel, by decide +kernel⟩
theorem ok_bell_cell (D : DefT K mg "bell_cell" s_bell_cell ["size", "hand"]) (T : Txt K mg cl) (G_card_cell : FnT P w K mg base "card_cell" 2 ["size", "hand"] (sp_card_cell cl)) : FnT P w K mg base "bell_cell" 3 ["size", "hand"] (sp_bell_cell cl) := by
  refine D.fn sc_bell_cell (fun vs H Q E h => ?_) (fun f cdv A outer s H vs Q E hr h => ?_)
  · obtain ⟨n, x, rfl, _⟩ := h
    rfl
  · obtain ⟨n, x, rfl, h⟩ := h
    refine ⟨_, (pss_one (ps_ret (pe_op op_add (pe_fn G_card_cell hr (by decide) rfl passX (pa_cons (pv 0) (pa_cons (pv 1) pa_nil))) (pe_callB (call_lenK (K := K)) (by rfl) T.z_len PySem.boot_len (pa_cons (pe_gref T.r_HANDS rfl) pa_nil))))), ?_⟩
    unfold cardG at h
    walk_at "go"
    refine ⟨n, x, rfl, ?_⟩
    unfold cardG
    refine ite2 (fun a => ite2 (fun b => ?_) (fun b => ?_)) (fun a => ?_)
    · rw [if_pos a, if_pos b] at h
      walk_at "go"
      refine ⟨_, _, rfl, .inr T.kt_HANDS.sq, ?_⟩
      walk_at "go"
      exact h
    · rw [if_pos a, if_neg b] at h
      exact h
    · rw [if_neg a] at h
      exact h
abbrev s_new_cells : Stmt := top 36
theorem sc_new_cells : FnScope ["size"] ["size"] (defScope s_new_cells) := ⟨rfl, rfl, rfl, by decide +kernel, rfl, by decide +kernel, by decide +kernel⟩
theorem ok_new_cells (D : DefT K mg "new_cells" s_new_cells ["size"]) (T : Txt K mg cl) : FnT P w K mg base "new_cells" 1 ["size"] sp_new_cells := by
  refine D.fn sc_new_cells (fun vs H Q E h => ?_) (fun f cdv A outer s H vs Q E hr h => ?_)
  · obtain ⟨n, rfl, _⟩ := h
    rfl
  · obtain ⟨n, rfl, h8, k⟩ := h
    refine ⟨_, (pss_one (ps_ret (pe_op op_cat (pe_op op_rep (pe_lst (pa_cons (pe_gint T.m_NEW_MARK rfl) (pa_cons (pe_gint T.m_NO_ORDER rfl) (pa_cons pe_int (pa_cons pe_int pa_nil))))) (pv 0)) (pe_lst (pa_cons (pe_gint T.m_NO_TURN rfl) (pa_cons (pe_gint T.m_NO_TURN rfl) (pa_cons (pe_gint T.m_STILL rfl) (pa_cons (pe_gint T.m_STILL rfl) pa_nil)))))))), ?_⟩
    have h20 : 2000 ≤ sizeLine := by decide
    walk_at "go"
    refine ⟨by show 4 ≤ sizeLine; omega, fun p1 h1 => ?_⟩
    walk_at "go"
    refine ⟨p1, n, _, rfl, rfl, upd_same, by omega, by omega, by show 4 * (n : Int).toNat ≤ sizeLine; omega, fun p2 h2 => ?_⟩
    walk_at "go"
    refine ⟨by show 4 ≤ sizeLine; omega, fun p3 h3 => ?_⟩
    refine g_cat (same_new h3 _ _ upd_same) upd_same ?_ (fun p4 h4 => ?_)
    · rw [len_rep]
      show (n : Int).toNat * 4 + 4 ≤ sizeLine
      omega
    refine k p4 _ ((((same_new h1).trans (same_new h2)).trans (same_new h3)).free h4) ((((same_new h1).trans (same_new h2)).trans (same_new h3)).trans (same_new h4)) ?_
    rw [upd_same]
    unfold newRow
    rw [List.map_append, show ((n : Int)).toNat = n by omega]
    rw [← rep_map n [2, -1, 0, 0]]
    rfl
def sp_Board_init (cl : Cl) : Sp := fun vs H Q E => ∃ (x dx : Addr) (n : Int), vs = [.ref x, .int n] ∧ H x = some (.ins cl.Board dx []) ∧
  (if 2 ≤ n ∧ n ≤ 8 then ∀ l H', H l = none → Kp [x] H H' → Brd cl H' x l n.toNat (newRow n.toNat) 0 .non → Q .non H' else E (.ref cl.BadSize) none H)
def sp_Board_check_cell (cl : Cl) : Sp := fun vs H Q E => ∃ (b l : Addr) (n : Nat) (row : List Int) (many : Int) (last : V) (c : Int), vs = [.ref b, .int c] ∧ Brd cl H b l n row many last ∧ (if 0 ≤ c ∧ c < row.length then Q .non H else E (.ref cl.NoCell) none H)
def sp_Board_note_touch (cl : Cl) : Sp := fun vs H Q _ => ∃ (b l : Addr) (n : Nat) (row : List Int) (many : Int) (last : V) (d : Str) (c x : Int), vs = [.ref b, .str d, .int c, .int x] ∧ Brd cl H b l n row many last ∧
  ∀ t H', H t = none → Kp [b] H H' → H' t = some (.tup [.str d, .int c, .int x]) → Brd cl H' b l n row (many + 1) (.ref t) → Q .non H'
def sp_Board_read (cl : Cl) : Sp := fun vs H Q E => ∃ (b l : Addr) (n : Nat) (row : List Int) (many : Int) (last : V) (c : Int), vs = [.ref b, .int c] ∧ Brd cl H b l n row many last ∧
  (if 0 ≤ c ∧ c < row.length then ∀ t H', H t = none → Kp [b] H H' → H' t = some (.tup [.str "read", .int c, .int (row.getD c.toNat 0)]) → Brd cl H' b l n row (many + 1) (.ref t) → Q (.int (row.getD c.toNat 0)) H' else E (.ref cl.NoCell) none H)
def sp_Board_write (cl : Cl) : Sp := fun vs H Q E => ∃ (b l : Addr) (n : Nat) (row : List Int) (many : Int) (last : V) (c x : Int), vs = [.ref b, .int c, .int x] ∧ Brd cl H b l n row many last ∧
  (if 0 ≤ c ∧ c < row.length then ∀ t H', H t = none → Kp [b, l] H H' → H' t = some (.tup [.str "write", .int c, .int x]) → Brd cl H' b l n (row.set c.toNat x) (many + 1) (.ref t) → Q .non H' else E (.ref cl.NoCell) none H)
def sp_Board_all_cells (cl : Cl) : Sp := fun vs H Q _ => ∃ (b l : Addr) (n : Nat) (row : List Int) (many : Int) (last : V), vs = [.ref b] ∧ Brd cl H b l n row many last ∧ ∀ p, H p = none → Q (.ref p) (upd H p (.lst (row.map V.int)))
def sp_Board_touches (cl : Cl) : Sp := fun vs H Q _ => ∃ (b l : Addr) (n : Nat) (row : List Int) (many : Int) (last : V), vs = [.ref b] ∧ Brd cl H b l n row many last ∧ Q (.int many) H
def sp_Board_last_touch (cl : Cl) : Sp := fun vs H Q _ => ∃ (b l : Addr) (n : Nat) (row : List Int) (many : Int) (last : V), vs = [.ref b] ∧ Brd cl H b l n row many last ∧ Q last H
theorem atI_in {row : List Int} {c : Int} (h0 : 0 ≤ c) (h1 : c < row.length) : atI (row.map V.int) c = some (.int (row.getD c.toNat 0)) := by
  have hn : c.toNat < row.length := by omega
  have e := atI_map hn
  rw [show ((c.toNat : Nat) : Int) = c by omega] at e
  rw [e, List.getD_eq_getElem?_getD, List.getElem?_eq_getElem hn]
  rfl
theorem ixN_in {l : Nat} {c : Int} (h0 : 0 ≤ c) (h1 : c < l) : ixN l c = some c.toNat := by
  unfold ixN
  rw [if_pos h0, if_pos h1]
abbrev s_Board_init : Stmt := clsDef (top 37) 0
theorem sc_Board_init : FnScope ["self", "size"] ["self", "size"] (defScope s_Board_init) := ⟨rfl, rfl, rfl, by decide +kernel, rfl, by decide +kernel, by decide +kernel⟩
theorem ok_Board_init (D : DefM K cl.Board "__init__" "Board.__init__" s_Board_init ["self", "size"]) (T : Txt K mg cl) (G_check_size : FnT P w K mg base "check_size" 1 ["size"] (sp_check_size cl)) (G_new_cells : FnT P w K mg base "new_cells" 1 ["size"] sp_new_cells) : MethT P w K mg base cl.Board "__init__" 2 ["self", "size"] (sp_Board_init cl) := by
  refine D.fn sc_Board_init (fun vs H Q E h => ?_) (fun f cdv A outer s H vs Q E hr h => ?_)
  · obtain ⟨x, dx, n, rfl, _⟩ := h
    rfl
  · obtain ⟨x, dx, n, rfl, ex, h⟩ := h
    refine ⟨_, (pss_cons (ps_expr (pe_fn G_check_size hr (by decide) rfl passX (pa_cons (pv 1) pa_nil)))
      (pss_cons (ps_fldK (K := K) (pv 0) (pv 1))
      (pss_cons (ps_fldK (K := K) (pv 0) (pe_fn G_new_cells hr (by decide) rfl passX (pa_cons (pv 1) pa_nil)))
      (pss_cons (ps_fldK (K := K) (pv 0) pe_int)
      (pss_one (ps_fldK (K := K) (pv 0) pe_non)))))), ?_⟩
    walk_at "go"
    refine ⟨n, rfl, ite2 (fun a => ?_) (fun a => ?_)⟩
    · rw [if_pos a] at h
      walk_at "go"
      refine ⟨n.toNat, by rw [show ((n.toNat : Nat) : Int) = n by omega], by omega, fun l H1 hl s1 e1 => ?_⟩
      have nx : l ≠ x := by
        rintro rfl
        rw [upd_same] at hl
        cases hl
      have ex1 := s1 _ _ upd_same
      walk_at "go"
      have el : H l = none := by rw [upd_ne nx] at hl; exact hl
      refine h l _ el ?_ ⟨⟨dx, ?_⟩, ?_, newRow_len _, by omega, by omega⟩
      · intro c o e n
        have nc : c ≠ x := fun z => n (by simp [z])
        rw [upd_ne nc, upd_ne nc, upd_ne nc]
        exact s1 _ _ (by rw [upd_ne nc]; exact e)
      · rw [upd_same, show ((n.toNat : Nat) : Int) = n by omega]
        rfl
      · rw [upd_ne nx, upd_ne nx, upd_ne nx]
        exact e1
    · rw [if_neg a] at h
      exact h
abbrev s_Board_check_cell : Stmt := clsDef (top 37) 1
theorem sc_Board_check_cell : FnScope ["self", "cell"] ["self", "cell"] (defScope s_Board_check_cell) := ⟨rfl, rfl, rfl, by decide +kernel, rfl, by decide +kernel, by decide +kernel⟩
theorem ok_Board_check_cell (D : DefM K cl.Board "check_cell" "Board.check_cell" s_Board_check_cell ["self", "cell"]) (T : Txt K mg cl) : MethT P w K mg base cl.Board "check_cell" 1 ["self", "cell"] (sp_Board_check_cell cl) := by
  refine D.fn sc_Board_check_cell (fun vs H Q E h => ?_) (fun f cdv A outer s H vs Q E hr h => ?_)
  · obtain ⟨b, l, n, row, many, last, c, rfl, _⟩ := h
    rfl
  · obtain ⟨b, l, n, row, many, last, c, rfl, ⟨⟨dx, eb⟩, el, hl, n2, n8⟩, h⟩ := h
    refine ⟨_, (pss_one (ps_if (PW.pt (pw_or (pt_cmpR op_lt (pv 1) pe_int (nomark _)) (pw_or1 (pt_cmpR op_ge (pv 1) (pe_callB (call_lenK (K := K)) (by rfl) T.z_len PySem.boot_len (pa_cons (pe_fldK (K := K) (pv 0)) pa_nil)) (nomark _)))))
        (pss_one (ps_raiseT T.c_NoCell rfl rfl raiseX (pa_cons pe_str pa_nil)))
        pss_nil)), ?_⟩
    walk_at "go"
    refine g_ite (fun a => ?_) (fun a => ?_)
    · rw [if_neg (by omega)] at h
      walk_at "go"
      exact ⟨one_le_line, h⟩
    · walk_at "go"
      rw [List.length_map]
      refine g_ite (fun d => ?_) (fun d => ?_)
      · rw [if_neg (by omega)] at h
        walk_at "go"
        exact ⟨one_le_line, h⟩
      · rw [if_pos (by omega)] at h
        walk_at "go"
        exact h
abbrev s_Board_note_touch : Stmt := clsDef (top 37) 2
theorem sc_Board_note_touch : FnScope ["self", "deed", "cell", "value"] ["self", "deed", "cell", "value"] (defScope s_Board_note_touch) := ⟨rfl, rfl, rfl, by decide +kernel, rfl, by decide +kernel, by decide +kernel⟩
theorem ok_Board_note_touch (D : DefM K cl.Board "note_touch" "Board.note_touch" s_Board_note_touch ["self", "deed", "cell", "value"]) (T : Txt K mg cl) : MethT P w K mg base cl.Board "note_touch" 1 ["self", "deed", "cell", "value"] (sp_Board_note_touch cl) := by
  refine D.fn sc_Board_note_touch (fun vs H Q E h => ?_) (fun f cdv A outer s H vs Q E hr h => ?_)
  · obtain ⟨b, l, n, row, many, last, d, c, x, rfl, _⟩ := h
    rfl
  · obtain ⟨b, l, n, row, many, last, d, c, x, rfl, ⟨⟨dx, eb⟩, el, hl, n2, n8⟩, h⟩ := h
    refine ⟨_, (pss_cons (ps_fldaugK (K := K) (pv 0) pe_int in_add)
      (pss_one (ps_fldK (K := K) (pv 0) (pe_tup (pa_cons (pv 1) (pa_cons (pv 2) (pa_cons (pv 3) pa_nil))))))), ?_⟩
    have nbl : l ≠ b := (ne_of eb el (by intro z; cases z)).symm
    walk_at "go"
    refine ⟨by show 3 ≤ sizeLine; decide, fun t ht => ?_⟩
    have nt : t ≠ b := by
      rintro rfl
      rw [upd_same] at ht
      cases ht
    have et : H t = none := by rw [upd_ne nt] at ht; exact ht
    walk_at "go"
    refine h t _ et ?_ ?_ ⟨⟨dx, upd_same⟩, ?_, hl, n2, n8⟩
    · intro c o e n
      have nc : c ≠ b := fun z => n (by simp [z])
      rw [upd_ne nc, upd_ne (ne_of_none e et), upd_ne nc]
      exact e
    · rw [upd_ne nt, upd_same]
    · rw [upd_ne nbl, upd_ne (ne_of_none el et), upd_ne nbl]
      exact el
abbrev s_Board_read : Stmt := clsDef (top 37) 3
theorem sc_Board_read : FnScope ["self", "cell"] ["self", "cell"] (defScope s_Board_read) := ⟨rfl, rfl, rfl, by decide +kernel, rfl, by decide +kernel, by decide +kernel⟩
theorem ok_Board_read (D : DefM K cl.Board "read" "Board.read" s_Board_read ["self", "cell"]) (T : Txt K mg cl) (G_Board_check_cell : MethT P w K mg base cl.Board "check_cell" 1 ["self", "cell"] (sp_Board_check_cell cl)) (G_Board_note_touch : MethT P w K mg base cl.Board "note_touch" 1 ["self", "deed", "cell", "value"] (sp_Board_note_touch cl)) : MethT P w K mg base cl.Board "read" 2 ["self", "cell"] (sp_Board_read cl) := by
  refine D.fn sc_Board_read (fun vs H Q E h => ?_) (fun f cdv A outer s H vs Q E hr h => ?_)
  · obtain ⟨b, l, n, row, many, last, c, rfl, _⟩ := h
    rfl
  · obtain ⟨b, l, n, row, many, last, c, rfl, hB, h⟩ := h
    refine ⟨_, (pss_cons (ps_expr (pe_mt (pv 0) T.k_Board G_Board_check_cell hr (by decide) passX (pa_cons (pv 1) pa_nil)))
      (pss_cons (ps_expr (pe_mt (pv 0) T.k_Board G_Board_note_touch hr (by decide) passX (pa_cons pe_str (pa_cons (pv 1) (pa_cons (pe_ix (ix_listK (K := K)) (pe_fldK (K := K) (pv 0)) (pv 1) (fun _ _ => rfl)) pa_nil)))))
      (pss_one (ps_ret (pe_ix (ix_listK (K := K)) (pe_fldK (K := K) (pv 0)) (pv 1) (fun _ _ => rfl)))))), ?_⟩
    have hB' := hB
    obtain ⟨⟨dx, eb⟩, el, hl, n2, n8⟩ := hB'
    walk_at "go"
    refine ⟨b, l, n, row, many, last, c, rfl, hB, ite2 (fun a => ?_) (fun a => ?_)⟩
    · rw [if_pos a] at h
      walk_at "go"
      refine g_ixL el (atI_in a.1 a.2) ?_
      walk_at "go"
      refine ⟨b, l, n, row, many, last, _, c, _, rfl, hB, fun t H' ht k et hB1 => ?_⟩
      obtain ⟨⟨dx1, eb1⟩, el1, _⟩ := id hB1
      walk_at "go"
      exact g_ixL el1 (atI_in a.1 a.2) (h t H' ht k et hB1)
    · rw [if_neg a] at h
      exact h
abbrev s_Board_write : Stmt := clsDef (top 37) 4
theorem sc_Board_write : FnScope ["self", "cell", "number"] ["self", "cell", "number"] (defScope s_Board_write) := ⟨rfl, rfl, rfl, by decide +kernel, rfl, by decide +kernel, by decide +kernel⟩
theorem ok_Board_write (D : DefM K cl.Board "write" "Board.write" s_Board_write ["self", "cell", "number"]) (T : Txt K mg cl) (G_Board_check_cell : MethT P w K mg base cl.Board "check_cell" 1 ["self", "cell"] (sp_Board_check_cell cl)) (G_Board_note_touch : MethT P w K mg base cl.Board "note_touch" 1 ["self", "deed", "cell", "value"] (sp_Board_note_touch cl)) : MethT P w K mg base cl.Board "write" 2 ["self", "cell", "number"] (sp_Board_write cl) := by
  refine D.fn sc_Board_write (fun vs H Q E h => ?_) (fun f cdv A outer s H vs Q E hr h => ?_)
  · obtain ⟨b, l, n, row, many, last, c, x, rfl, _⟩ := h
    rfl
  · obtain ⟨b, l, n, row, many, last, c, x, rfl, hB, h⟩ := h
    refine ⟨_, (pss_cons (ps_expr (pe_mt (pv 0) T.k_Board G_Board_check_cell hr (by decide) passX (pa_cons (pv 1) pa_nil)))
      (pss_cons (ps_asg (pv 2) (pg_sub (pe_fldK (K := K) (pv 0)) (pv 1) set_list))
      (pss_one (ps_expr (pe_mt (pv 0) T.k_Board G_Board_note_touch hr (by decide) passX (pa_cons pe_str (pa_cons (pv 1) (pa_cons (pv 2) pa_nil)))))))), ?_⟩
    have hB' := hB
    obtain ⟨⟨dx, eb⟩, el, hl, n2, n8⟩ := hB'
    have nbl : b ≠ l := ne_of eb el (by intro z; cases z)
    walk_at "go"
    refine ⟨b, l, n, row, many, last, c, rfl, hB, ite2 (fun a => ?_) (fun a => ?_)⟩
    · rw [if_pos a] at h
      walk_at "go"
      refine g_setL el (by rw [List.length_map]; exact ixN_in a.1 a.2) ?_
      walk_at "go"
      refine ⟨b, l, n, row.set c.toNat x, many, last, _, c, x, rfl, ⟨⟨dx, ?_⟩, ?_, ?_, n2, n8⟩, fun t H' ht k et hB1 => ?_⟩
      · rw [upd_ne nbl]; exact eb
      · rw [upd_same, List.map_set]
      · rw [List.length_set]; exact hl
      · walk_at "go"
        refine h t H' ?_ ?_ et hB1
        · rw [upd_ne] at ht
          · exact ht
          · rintro rfl
            rw [upd_same] at ht
            cases ht
        · exact (Kp.upd (by simp)).trans (k.mono (by simp))
    · rw [if_neg a] at h
      exact h
abbrev s_Board_all_cells : Stmt := clsDef (top 37) 6
theorem sc_Board_all_cells : FnScope ["self"] ["self"] (defScope s_Board_all_cells) := ⟨rfl, rfl, rfl, by decide +kernel, rfl, by decide +kernel, by decide +kernel⟩
theorem ok_Board_all_cells (D : DefM K cl.Board "all_cells" "Board.all_cells" s_Board_all_cells ["self"]) (T : Txt K mg cl) : MethT P w K mg base cl.Board "all_cells" 1 ["self"] (sp_Board_all_cells cl) := by
  refine D.fn sc_Board_all_cells (fun vs H Q E h => ?_) (fun f cdv A outer s H vs Q E hr h => ?_)
  · obtain ⟨b, l, n, row, many, last, rfl, _⟩ := h
    rfl
  · obtain ⟨b, l, n, row, many, last, rfl, ⟨⟨dx, eb⟩, el, hl, n2, n8⟩, h⟩ := h
    refine ⟨_, (pss_one (ps_ret (pe_callTy (call_listK (K := K)) (by rfl) T.z_list PyProof.Rows.boot_list (pa_cons (pe_fldK (K := K) (pv 0)) pa_nil)))), ?_⟩
    walk_at "go"
    exact h
abbrev s_Board_touches : Stmt := clsDef (top 37) 7
theorem sc_Board_touches : FnScope ["self"] ["self"] (defScope s_Board_touches) := ⟨rfl, rfl, rfl, by decide +kernel, rfl, by decide +kernel, by decide +kernel⟩
theorem ok_Board_touches (D : DefM K cl.Board "touches" "Board.touches" s_Board_touches ["self"]) (T : Txt K mg cl) : MethT P w K mg base cl.Board "touches" 1 ["self"] (sp_Board_touches cl) := by
  refine D.fn sc_Board_touches (fun vs H Q E h => ?_) (fun f cdv A outer s H vs Q E hr h => ?_)
  · obtain ⟨b, l, n, row, many, last, rfl, _⟩ := h
    rfl
  · obtain ⟨b, l, n, row, many, last, rfl, ⟨⟨dx, eb⟩, el, hl, n2, n8⟩, h⟩ := h
    refine ⟨_, (pss_one (ps_ret (pe_fldK (K := K) (pv 0)))), ?_⟩
    walk_at "go"
    exact h
abbrev s_Board_last_touch : Stmt := clsDef (top 37) 8
theorem sc_Board_last_touch : FnScope ["self"] ["self"] (defScope s_Board_last_touch) := ⟨rfl, rfl, rfl, by decide +kernel, rfl, by decide +kernel, by decide +kernel⟩
theorem ok_Board_last_touch (D : DefM K cl.Board "last_touch" "Board.last_touch" s_Board_last_touch ["self"]) (T : Txt K mg cl) : MethT P w K mg base cl.Board "last_touch" 1 ["self"] (sp_Board_last_touch cl) := by
  refine D.fn sc_Board_last_touch (fun vs H Q E h => ?_) (fun f cdv A outer s H vs Q E hr h => ?_)
  · obtain ⟨b, l, n, row, many, last, rfl, _⟩ := h
    rfl
  · obtain ⟨b, l, n, row, many, last, rfl, ⟨⟨dx, eb⟩, el, hl, n2, n8⟩, h⟩ := h
    refine ⟨_, (pss_one (ps_ret (pe_fldK (K := K) (pv 0)))), ?_⟩
    walk_at "go"
    exact h
end
end S

set_option Elab.async false
set_option linter.all false
set_option maxRecDepth 100000
set_option maxHeartbeats 4000000
namespace S
open PySem L2
local macro_rules | `(tactic| walk_at "at") => `(tactic| first | assumption | exact upd_same | (refine (upd_ne ?_).trans ?_; (walk_at "ne"); (walk_at "at")) | (refine Same.at ?_ ?_; assumption; (walk_at "at")))
local macro_rules | `(tactic| walk_at "ne") => `(tactic| first | assumption | exact Ne.symm (by assumption) | ((refine' ne_of_none ?h ?n); (case n => assumption); (case h => walk_at "at")) | ((refine Ne.symm ?_); (refine' ne_of_none ?h ?n); (case n => assumption); (case h => walk_at "at")))
local macro_rules | `(tactic| walk_at "cond") => `(tactic| first | trivial | exact Or.inl ⟨by decide, by decide⟩ | exact Or.inr ⟨by decide, by decide⟩ | exact Or.inl ⟨by omega, by omega⟩ | exact Or.inr ⟨by omega, by omega⟩ | (show (0 : Int) < _; omega) | (show (0 : Int) < _; decide))
local macro_rules | `(tactic| walk_at "go1") => `(tactic| first
  | ((with_reducible refine' g_var ?h ?_); (case h => exact rfl))
  | with_reducible refine g_c ?_ | with_reducible refine g_op ?_ | with_reducible refine g_un ?_ | with_reducible refine g_I0 ?_ | with_reducible refine g_U ?_
  | ((with_reducible refine' g_I ?h ?_); (case h => walk_at "cond"))
  | ((with_reducible refine' g_eq ?h ?_); (case h => exact rfl)) | ((with_reducible refine' g_ne ?h ?_); (case h => exact rfl))
  | with_reducible refine g_cb ?_ | with_reducible refine g_nil ?_ | with_reducible refine g_cons ?_
  | (with_reducible refine g_tup ?_) | (with_reducible refine g_lst ?_) | with_reducible refine g_fn ?_ | with_reducible refine g_fnJ ?_
  | with_reducible refine g_fld ?_ | with_reducible refine g_mt ?_ | with_reducible refine g_mtJ ?_ | with_reducible refine g_mk ?_ | with_reducible refine g_mkJ ?_
  | with_reducible refine g_test ?_ | with_reducible refine g_tB ?_ | with_reducible refine g_and ?_ | with_reducible refine g_or ?_ | with_reducible refine g_not ?_ | with_reducible refine g_andV ?_ | with_reducible refine g_orV ?_ | with_reducible refine g_notV ?_ | with_reducible refine g_ifE ?_
  | with_reducible refine g_bl ?_ | with_reducible refine iteT ?_ | with_reducible refine iteF ?_ | with_reducible refine iteNT ?_ | with_reducible refine iteNF ?_
  | with_reducible refine g_seq ?_ | with_reducible refine g_next ?_ | with_reducible refine g_drop ?_ | with_reducible refine g_ret ?_ | with_reducible refine g_retN ?_ | with_reducible refine g_if ?_ | with_reducible refine g_asg ?_ | with_reducible refine g_name ?_ | with_reducible refine g_sub ?_ | with_reducible refine g_sfld ?_ | with_reducible refine g_raise ?_ | with_reducible refine g_tryAs ?_
  | ((with_reducible refine' g_fld1 ?h ?c ?n ?l ?_); (case h => walk_at "at"); (case c => walk_at "cls"); (case n => walk_at "nat"); (case l => exact rfl))
  | ((with_reducible refine' g_sfld1 ?h ?c ?n ?l ?_); (case h => walk_at "at"); (case c => walk_at "cls"); (case n => walk_at "nat"); (case l => exact Nat.le_of_ble_eq_true rfl))
  | with_reducible refine g_aug ?_ | with_reducible refine g_rAdd ?_
  | ((with_reducible refine' g_aug1 ?h ?c ?n ?l ?_); (case h => walk_at "at"); (case c => walk_at "cls"); (case n => walk_at "nat"); (case l => exact rfl))
  | ((with_reducible refine' g_aug2 ?h ?l ?_); (case h => walk_at "at"); (case l => exact Nat.le_of_ble_eq_true rfl))
  | ((with_reducible refine' g_mt1 ?h ?l ?_); (case h => walk_at "at"); (case l => exact rfl))
  | ((with_reducible refine' g_ixL ?h ?e ?_); (case h => walk_at "at"); (case e => exact rfl))
  | ((with_reducible refine' g_ixT ?h ?e ?_); (case h => walk_at "at"); (case e => exact rfl))
  | ((with_reducible refine' g_len ?h ?_); (case h => walk_at "at")) | ((with_reducible refine' g_list ?h ?_); (case h => walk_at "at"))
  | with_reducible refine g_for ?_ | with_reducible refine g_rng1 ?_ | with_reducible refine g_rng2 ?_ | with_reducible refine g_lsti ?_ | with_reducible refine g_comp ?_
  | ((with_reducible refine' g_rngW ?h1 ?h2 ?_); (case h1 => omega); (case h2 => omega)) | ((with_reducible refine' g_rngW ?h1 ?h2 ?_); (case h1 => decide); (case h2 => decide))
  | ((with_reducible refine' g_lstW ?h ?_); (case h => exact SqL.of (by walk_at "at")))
  | with_reducible refine g_bm0 ?_ | ((with_reducible refine' g_clear ?h ?_); (case h => walk_at "at"))
  | with_reducible refine g_bm ?_ | ((with_reducible refine' g_tyL ?h ?_); (case h => walk_at "at")) | ((with_reducible refine' g_app ?h ?l ?_); (case h => walk_at "at"); (case l => first | exact Nat.le_of_ble_eq_true rfl | omega)))
local macro_rules | `(tactic| walk_at "go") => `(tactic| repeat (walk_at "go1"))
set_option hygiene false in
local macro_rules | `(tactic| walk_at "cls") => `(tactic| first | assumption | exact T.k_Board)
set_option hygiene false in
local macro_rules | `(tactic| walk_at "nat") => `(tactic| first | assumption | exact T.n_Board_many_touches | exact T.n_Board_newest_touch | exact T.n_Board_numbers | exact T.n_Board_size)
section
variable {P : Program} {w : World} {K : PySem.W.Frag} {mg : Str → Option Value} {base : Heap} {cl : Cl}
/-! ### what is refused -/
structure KF (K : PySem.W.Frag) (cl : Cl) (C : Addr) (b1 b2 b3 : Bool) : Prop where
  k : ExK K C
  x : PySem.W.exmOne K (.ref C) (.ref cl.RingError) = some true
  N : PySem.W.kitOne K (.ref C) (.ref cl.NoCell) = some b1
  S : PySem.W.kitOne K (.ref C) (.ref cl.BadSize) = some b2
  D : PySem.W.kitOne K (.ref C) (.ref cl.NoHand) = some b3
  V : PySem.W.kitOne K (.ref C) (.type "ValueError") = some true
  s6 : PySem.W.kitAny K (.ref C) [.ref cl.BadCells, .ref cl.BadMark, .ref cl.BadOrder, .ref cl.Crooked, .ref cl.NoRow, .ref cl.NoText] = some false
  t6 : PySem.W.kitAny K (.ref C) [.ref cl.BadStand, .ref cl.NoName, .ref cl.NotSound, .ref cl.NoTurn, .ref cl.NoWaiting, .ref cl.TooMany] = some false
structure Kd (K : PySem.W.Frag) (cl : Cl) : Prop where
  N : KF K cl cl.NoCell true false false
  S : KF K cl cl.BadSize false true false
  D : KF K cl cl.NoHand false false true
def sp_law_flags (K : PySem.W.Frag) (cl : Cl) : Sp := fun vs H Q _ => ∃ a C b1 b2 b3, vs = [.ref a] ∧ H a = some (excO a (.ref C)) ∧ KF K cl C b1 b2 b3 ∧ ∀ l H', H l = none → Same H H' → H' l = some (.lst ([b1, b2, b3, true, false, false].map V.bl)) → Q (.ref l) H'
abbrev s_law_flags : Stmt := top 43
theorem sc_law_flags : FnScope ["e", "kinds"] ["e"] (defScope s_law_flags) := ⟨rfl, rfl, rfl, by decide +kernel, rfl, by decide +kernel, by decide +kernel⟩
theorem ok_law_flags (D : DefT K mg "_law_flags" s_law_flags ["e"]) (T : Txt K mg cl) : FnTH P w K mg base "_law_flags" 1 ["e"] (sp_law_flags K cl) := by
  refine D.fnH (k := 0) sc_law_flags (fun vs H Q E h => ?_) (fun f cdv A outer s H vs Q E h => ?_)
  · obtain ⟨a, C, b1, b2, b3, rfl, _⟩ := h
    rfl
  · obtain ⟨a, C, b1, b2, b3, rfl, ea, kf, k⟩ := h
    refine ⟨_, (pss_cons (ps_set (i := 1) sc_law_flags.nd rfl (by first | exact Or.inl rfl | exact Or.inr rfl) (pe_lst (pa_cons (pe_callB (call_isiK (K := K)) (by rfl) T.z_isinstance PyProof.Rows.boot_isinstance (pa_cons (pv 0) (pa_cons (pe_gcls T.c_NoCell rfl) pa_nil))) (pa_cons (pe_callB (call_isiK (K := K)) (by rfl) T.z_isinstance PyProof.Rows.boot_isinstance (pa_cons (pv 0) (pa_cons (pe_gcls T.c_BadSize rfl) pa_nil))) (pa_cons (pe_callB (call_isiK (K := K)) (by rfl) T.z_isinstance PyProof.Rows.boot_isinstance (pa_cons (pv 0) (pa_cons (pe_gcls T.c_NoHand rfl) pa_nil))) (pa_cons (pe_callB (call_isiK (K := K)) (by rfl) T.z_isinstance PyProof.Rows.boot_isinstance (pa_cons (pv 0) (pa_cons (pe_gty T.z_ValueError boot_VE rfl) pa_nil))) pa_nil))))))
      (pss_cons (ps_expr (pe_appendK (K := K) (pv 1) (pa_cons (pe_callB (call_isiTK (K := K)) (by rfl) T.z_isinstance PyProof.Rows.boot_isinstance (pa_cons (pv 0) (pa_cons (pe_tup (pa_cons (pe_gclm T.c_BadCells rfl) (pa_cons (pe_gclm T.c_BadMark rfl) (pa_cons (pe_gclm T.c_BadOrder rfl) (pa_cons (pe_gclm T.c_Crooked rfl) (pa_cons (pe_gclm T.c_NoRow rfl) (pa_cons (pe_gclm T.c_NoText rfl) pa_nil))))))) pa_nil))) pa_nil)))
      (pss_one (ps_ret (pe_op op_cat (pv 1) (pe_lst (pa_cons (pe_callB (call_isiTK (K := K)) (by rfl) T.z_isinstance PyProof.Rows.boot_isinstance (pa_cons (pv 0) (pa_cons (pe_tup (pa_cons (pe_gclm T.c_BadStand rfl) (pa_cons (pe_gclm T.c_NoName rfl) (pa_cons (pe_gclm T.c_NotSound rfl) (pa_cons (pe_gclm T.c_NoTurn rfl) (pa_cons (pe_gclm T.c_NoWaiting rfl) (pa_cons (pe_gclm T.c_TooMany rfl) pa_nil))))))) pa_nil))) pa_nil))))))), ?_⟩
    walk_at "go"
    refine g_isi (.exc ea kf.k) rfl kf.N ?_
    walk_at "go"
    refine g_isi (.exc ea kf.k) rfl kf.S ?_
    walk_at "go"
    refine g_isi (.exc ea kf.k) rfl kf.D ?_
    walk_at "go"
    refine g_isi (.exc ea kf.k) rfl kf.V ?_
    walk_at "go"
    refine ⟨by show 4 ≤ sizeLine; decide, fun l1 h1 => ?_⟩
    have ea1 := same_new (o := .lst [.bl b1, .bl b2, .bl b3, .bl true]) h1 _ _ ea
    walk_at "go"
    refine ⟨by show 6 ≤ sizeLine; decide, fun tp htp => ?_⟩
    have ea2 := same_new (o := .tup [.ref cl.BadCells, .ref cl.BadMark, .ref cl.BadOrder, .ref cl.Crooked, .ref cl.NoRow, .ref cl.NoText]) htp _ _ ea1
    walk_at "go"
    refine g_isiT ea2 kf.k upd_same rfl kf.s6 ?_
    walk_at "go"
    have na : a ≠ l1 := ne_of_none ea h1
    have nat : a ≠ tp := ne_of_none ea1 htp
    generalize hH3 : upd (upd (upd H l1 (.lst [.bl b1, .bl b2, .bl b3, .bl true])) tp (.tup [.ref cl.BadCells, .ref cl.BadMark, .ref cl.BadOrder, .ref cl.Crooked, .ref cl.NoRow, .ref cl.NoText])) l1 (.lst ([.bl b1, .bl b2, .bl b3, .bl true] ++ [.bl false])) = H3
    have s3 : Same H H3 := fun c o e => by
      rw [← hH3, upd_ne (ne_of_none e h1), upd_ne (ne_of_none (same_new h1 _ _ e) htp), upd_ne (ne_of_none e h1)]
      exact e
    have e3 : H3 l1 = some (.lst [.bl b1, .bl b2, .bl b3, .bl true, .bl false]) := by rw [← hH3, upd_same]; rfl
    clear hH3
    refine ⟨by show 6 ≤ sizeLine; decide, fun tq htq => ?_⟩
    have ea4 := same_new (o := .tup [.ref cl.BadStand, .ref cl.NoName, .ref cl.NotSound, .ref cl.NoTurn, .ref cl.NoWaiting, .ref cl.TooMany]) htq _ _ (s3 _ _ ea)
    walk_at "go"
    refine g_isiT ea4 kf.k upd_same rfl kf.t6 ?_
    walk_at "go"
    refine ⟨one_le_line, fun l2 h2 => ?_⟩
    refine g_cat (same_new h2 _ _ (same_new htq _ _ e3)) upd_same (by show 6 ≤ sizeLine; decide) (fun l5 h5 => ?_)
    exact k l5 _ (((s3.trans (same_new htq)).trans (same_new h2)).free h5) (((s3.trans (same_new htq)).trans (same_new h2)).trans (same_new h5)) upd_same
def sp_law_touched (cl : Cl) : Sp := fun vs H Q _ => ∃ (b l : Addr) (n : Nat) (row : List Int) (many : Int) (last : V) (wr : Bool) (c x : Int), vs = [.ref b, .bl wr, .int c, .int x] ∧ Brd cl H b l n row many last ∧
  (if 0 ≤ c ∧ c < row.length then ∀ t p k H', H t = none → H p = none → H k = none → Kp [b, l] H H' → H' t = some (.tup [.str (if wr then "write" else "read"), .int c, .int (if wr then x else row.getD c.toNat 0)]) →
    Brd cl H' b l n (if wr then row.set c.toNat x else row) (many + 1) (.ref t) → H' p = some (.tup [.ref k, if wr then .non else .int (row.getD c.toNat 0)]) → H' k = some (.lst []) → Q (.ref p) H'
  else ∀ p k H', H p = none → H k = none → Same H H' → H' p = some (.tup [.ref k, .non]) → H' k = some (.lst ([true, false, false, true, false, false].map V.bl)) → Q (.ref p) H')
abbrev s_law_touched : Stmt := top 44
theorem sc_law_touched : FnScope ["board", "writes", "cell", "number", "kinds", "told", "e"] ["board", "writes", "cell", "number"] (defScope s_law_touched) := ⟨rfl, rfl, rfl, by decide +kernel, rfl, by decide +kernel, by decide +kernel⟩
theorem ok_law_touched (D : DefT K mg "_law_touched" s_law_touched ["board", "writes", "cell", "number"]) (T : Txt K mg cl) (kd : Kd K cl) (G_Board_read : MethT P w K mg base cl.Board "read" 2 ["self", "cell"] (sp_Board_read cl)) (G_Board_write : MethT P w K mg base cl.Board "write" 2 ["self", "cell", "number"] (sp_Board_write cl)) (G_law_flags : FnTH P w K mg base "_law_flags" 1 ["e"] (sp_law_flags K cl)) :
    FnT P w K mg base "_law_touched" 3 ["board", "writes", "cell", "number"] (sp_law_touched cl) := by
  refine D.fn sc_law_touched (fun vs H Q E h => ?_) (fun f cdv A outer s H vs Q E hr h => ?_)
  · obtain ⟨b, l, n, row, many, last, wr, c, x, rfl, _⟩ := h
    rfl
  · obtain ⟨b, l, n, row, many, last, wr, c, x, rfl, hB, h⟩ := h
    refine' ⟨_, (pss_cons (ps_set (i := 4) sc_law_touched.nd rfl (by first | exact Or.inl rfl | exact Or.inr rfl) (pe_lst pa_nil))
      (pss_cons (ps_set (i := 5) sc_law_touched.nd rfl (by first | exact Or.inl rfl | exact Or.inr rfl) pe_non)
      (pss_cons (ps_tryAs (i := 6) rfl rfl rfl rfl T.c_RingError.m sc_law_touched.nd rfl rfl ?tb ?th)
      (pss_one (ps_ret (pe_tup (pa_cons (pv 4) (pa_cons (pv 5) pa_nil)))))))), ?rd⟩
    case tb => exact fun _ _ _ hx => (pss_one (ps_if (pt_val (pv 1))
            (pss_one (ps_set (i := 5) sc_law_touched.nd rfl (by first | exact Or.inl rfl | exact Or.inr rfl) (pe_mtJ (pv 0) T.k_Board G_Board_write hr (by decide) hx (pa_cons (pv 2) (pa_cons (pv 3) pa_nil)))))
            (pss_one (ps_set (i := 5) sc_law_touched.nd rfl (by first | exact Or.inl rfl | exact Or.inr rfl) (pe_mtJ (pv 0) T.k_Board G_Board_read hr (by decide) hx (pa_cons (pv 2) pa_nil))))))
    case th => exact fun _ _ => (pss_one (ps_set (i := 4) sc_law_touched.nd rfl (by first | exact Or.inl rfl | exact Or.inr rfl) (pe_fnH G_law_flags hr.inH (by decide) rfl passH (pa_cons (pv 6) pa_nil))))
    have hB0 := hB
    obtain ⟨⟨dx, eb⟩, el, hl, n2, n8⟩ := hB0
    walk_at "go"
    refine ⟨Nat.zero_le _, fun k0 hk0 => ?_⟩
    have nb : b ≠ k0 := ne_of_none eb hk0
    have nl : l ≠ k0 := ne_of_none el hk0
    have hB1 : Brd cl (upd H k0 (.lst [])) b l n row many last := hB.keep (Kp.of (ps := []) (same_new hk0)) (by simp) (by simp)
    walk_at "go"
    refine g_iteB (fun a => ?_) (fun a => ?_)
    all_goals subst a
    all_goals walk_at "go"
    · refine ⟨b, l, n, row, many, last, c, x, rfl, hB1, ite2 (fun z => ?_) (fun z => ?_)⟩
      · rw [if_pos z] at h
        intro t H' ht kp et hB2
        walk_at "go"
        refine ⟨by show 2 ≤ sizeLine; decide, fun p hp => ?_⟩
        have et0 : H t = none := (same_new hk0).free ht
        have k1 : Kp [b, l] H H' := (Kp.of (same_new hk0)).trans kp
        have ek : H' k0 = some (.lst []) := kp _ _ upd_same (by simp [nb.symm, nl.symm])
        obtain ⟨⟨dx2, eb2⟩, el2, _⟩ := id hB2
        have hp0 : H p = none := k1.free (by simp; exact ⟨⟨_, eb2⟩, ⟨_, el2⟩⟩) hp
        exact h t p k0 _ et0 hp0 hk0 (k1.nw hp) (same_new hp _ _ et) (hB2.keep (Kp.of (ps := []) (same_new hp)) (by simp) (by simp)) upd_same (same_new hp _ _ ek)
      · rw [if_neg z] at h
        refine ⟨kd.N.x, fun a ha => ?_⟩
        walk_at "go"
        refine ⟨a, cl.NoCell, _, _, _, rfl, upd_same, kd.N, fun q H2 hq s2 e2 => ?_⟩
        walk_at "go"
        refine ⟨by show 2 ≤ sizeLine; decide, fun p hp => ?_⟩
        have s0 : Same H H2 := ((same_new hk0).trans (same_new ha)).trans s2
        exact h p q _ (s0.free hp) (((same_new hk0).trans (same_new ha)).free hq) (s0.trans (same_new hp)) upd_same (same_new hp _ _ e2)
    · refine ⟨b, l, n, row, many, last, c, rfl, hB1, ite2 (fun z => ?_) (fun z => ?_)⟩
      · rw [if_pos z] at h
        intro t H' ht kp et hB2
        walk_at "go"
        refine ⟨by show 2 ≤ sizeLine; decide, fun p hp => ?_⟩
        have et0 : H t = none := (same_new hk0).free ht
        have k1 : Kp [b, l] H H' := (Kp.of (same_new hk0)).trans (kp.mono (by simp))
        have ek : H' k0 = some (.lst []) := kp _ _ upd_same (by simp [nb.symm])
        obtain ⟨⟨dx2, eb2⟩, el2, _⟩ := id hB2
        have hp0 : H p = none := k1.free (by simp; exact ⟨⟨_, eb2⟩, ⟨_, el2⟩⟩) hp
        exact h t p k0 _ et0 hp0 hk0 (k1.nw hp) (same_new hp _ _ et) (hB2.keep (Kp.of (ps := []) (same_new hp)) (by simp) (by simp)) upd_same (same_new hp _ _ ek)
      · rw [if_neg z] at h
        refine ⟨kd.N.x, fun a ha => ?_⟩
        walk_at "go"
        refine ⟨a, cl.NoCell, _, _, _, rfl, upd_same, kd.N, fun q H2 hq s2 e2 => ?_⟩
        walk_at "go"
        refine ⟨by show 2 ≤ sizeLine; decide, fun p hp => ?_⟩
        have s0 : Same H H2 := ((same_new hk0).trans (same_new ha)).trans s2
        exact h p q _ (s0.free hp) (((same_new hk0).trans (same_new ha)).free hq) (s0.trans (same_new hp)) upd_same (same_new hp _ _ e2)
def sp_law_refused (K : PySem.W.Frag) (cl : Cl) : Sp := fun vs H Q _ => ∃ (y n : Int) (h : Str), vs = [.int y, .int n, .str h] ∧ ¬ (h = "giver" ∨ h = "taker") ∧ (y = 0 ∨ y = 1 ∨ ¬ (2 ≤ n ∧ n ≤ 8)) ∧
  ∀ l H', H l = none → Same H H' → H' l = some (.lst ((if 2 ≤ n ∧ n ≤ 8 then [false, false, true, true, false, false] else [false, true, false, true, false, false]).map V.bl)) → Q (.ref l) H'
theorem cardG_bad {n : Int} {h : Str} {H : Hp} {E : XK} {k : Prop} (kd : Kd K cl) (nh : ¬ (h = "giver" ∨ h = "taker")) (hE : ∀ C b1 b2 b3, KF K cl C b1 b2 b3 → (if 2 ≤ n ∧ n ≤ 8 then [false, false, true, true, false, false] else [false, true, false, true, false, false]) = [b1, b2, b3, true, false, false] → E (.ref C) none H) : cardG cl n h H E k := by
  unfold cardG
  refine ite2 (fun a => ?_) (fun a => hE _ _ _ _ kd.S (by rw [if_neg a]))
  rw [if_neg nh]
  exact hE _ _ _ _ kd.D (by rw [if_pos a])
abbrev s_law_refused : Stmt := top 45
theorem sc_law_refused : FnScope ["way", "size", "hand", "kinds", "e"] ["way", "size", "hand"] (defScope s_law_refused) := ⟨rfl, rfl, rfl, by decide +kernel, rfl, by decide +kernel, by decide +kernel⟩
theorem ok_law_refused (D : DefT K mg "_law_refused" s_law_refused ["way", "size", "hand"]) (T : Txt K mg cl) (kd : Kd K cl) (G_card_cell : FnT P w K mg base "card_cell" 2 ["size", "hand"] (sp_card_cell cl)) (G_bell_cell : FnT P w K mg base "bell_cell" 3 ["size", "hand"] (sp_bell_cell cl)) (G_Board : MakeT P w K mg base "Board" cl.Board 2 ["self", "size"] (sp_Board_init cl)) (G_law_flags : FnTH P w K mg base "_law_flags" 1 ["e"] (sp_law_flags K cl)) :
    FnT P w K mg base "_law_refused" 4 ["way", "size", "hand"] (sp_law_refused K cl) := by
  refine D.fn sc_law_refused (fun vs H Q E h => ?_) (fun f cdv A outer s H vs Q E hr h => ?_)
  · obtain ⟨y, n, x, rfl, _⟩ := h
    rfl
  · obtain ⟨y, n, x, rfl, nh, hy, h⟩ := h
    refine' ⟨_, (pss_cons (ps_set (i := 3) sc_law_refused.nd rfl (by first | exact Or.inl rfl | exact Or.inr rfl) (pe_lst pa_nil))
      (pss_cons (ps_tryAs (i := 4) rfl rfl rfl rfl T.c_RingError.m sc_law_refused.nd rfl rfl ?tb ?th)
      (pss_one (ps_ret (pv 3))))), ?rd⟩
    case tb => exact fun _ _ _ hx => (pss_one (ps_if (pt_cmpR op_eq (pv 0) pe_int (nomark _))
            (pss_one (ps_expr (pe_fnJ G_card_cell hr (by decide) rfl hx (pa_cons (pv 1) (pa_cons (pv 2) pa_nil)))))
            (pss_one (ps_if (pt_cmpR op_eq (pv 0) pe_int (nomark _))
               (pss_one (ps_expr (pe_fnJ G_bell_cell hr (by decide) rfl hx (pa_cons (pv 1) (pa_cons (pv 2) pa_nil)))))
               (pss_one (ps_expr (pe_mkJ G_Board hr (by decide) rfl hx (pa_cons (pv 1) pa_nil))))))))
    case th => exact fun _ _ => (pss_one (ps_set (i := 3) sc_law_refused.nd rfl (by first | exact Or.inl rfl | exact Or.inr rfl) (pe_fnH G_law_flags hr.inH (by decide) rfl passH (pa_cons (pv 4) pa_nil))))
    walk_at "go"
    refine ⟨Nat.zero_le _, fun k0 hk0 => ?_⟩
    walk_at "go"
    refine g_ite (fun a => ?_) (fun a => ?_)
    · walk_at "go"
      refine ⟨n, x, rfl, cardG_bad kd nh fun C b1 b2 b3 kf ef => ⟨kf.x, fun a ha => ?_⟩⟩
      walk_at "go"
      refine ⟨a, C, _, _, _, rfl, upd_same, kf, fun q H2 hq s2 e2 => ?_⟩
      walk_at "go"
      refine h q H2 (((same_new hk0).trans (same_new ha)).free hq) (((same_new hk0).trans (same_new ha)).trans s2) ?_
      rw [ef]; exact e2
    · walk_at "go"
      refine g_ite (fun a2 => ?_) (fun a2 => ?_)
      · walk_at "go"
        refine ⟨n, x, rfl, cardG_bad kd nh fun C b1 b2 b3 kf ef => ⟨kf.x, fun a ha => ?_⟩⟩
        walk_at "go"
        refine ⟨a, C, _, _, _, rfl, upd_same, kf, fun q H2 hq s2 e2 => ?_⟩
        walk_at "go"
        refine h q H2 (((same_new hk0).trans (same_new ha)).free hq) (((same_new hk0).trans (same_new ha)).trans s2) ?_
        rw [ef]; exact e2
      · have hn : ¬ (2 ≤ n ∧ n ≤ 8) := by
          rcases hy with hy | hy | hy
          · exact absurd (by rw [hy]) a
          · exact absurd (by rw [hy]) a2
          · exact hy
        walk_at "go"
        intro b dx hb hdx nb
        refine ⟨b, dx, n, rfl, upd_same, ?_⟩
        rw [if_neg hn]
        refine ⟨kd.S.x, fun a ha => ?_⟩
        walk_at "go"
        have s0 : Same H (upd (upd (upd H k0 (.lst [])) dx (.own b)) b (.ins cl.Board dx [])) := ((same_new hk0).trans (same_new hdx)).trans (same_new (by rw [upd_ne nb.symm]; exact hb))
        refine ⟨a, cl.BadSize, _, _, _, rfl, upd_same, kd.S, fun q H2 hq s2 e2 => ?_⟩
        walk_at "go"
        refine h q H2 ((s0.trans (same_new ha)).free hq) ((s0.trans (same_new ha)).trans s2) ?_
        rw [if_neg hn]; exact e2
end
end S

set_option Elab.async false
set_option linter.all false
set_option maxRecDepth 100000
set_option maxHeartbeats 4000000
namespace S
open PySem L2
local macro_rules | `(tactic| walk_at "at") => `(tactic| first | assumption | exact upd_same | (refine (upd_ne ?_).trans ?_; (walk_at "ne"); (walk_at "at")) | (refine Same.at ?_ ?_; assumption; (walk_at "at")))
local macro_rules | `(tactic| walk_at "ne") => `(tactic| first | assumption | exact Ne.symm (by assumption) | ((refine' ne_of_none ?h ?n); (case n => assumption); (case h => walk_at "at")) | ((refine Ne.symm ?_); (refine' ne_of_none ?h ?n); (case n => assumption); (case h => walk_at "at")))
local macro_rules | `(tactic| walk_at "cond") => `(tactic| first | trivial | exact Or.inl ⟨by decide, by decide⟩ | exact Or.inr ⟨by decide, by decide⟩ | exact Or.inl ⟨by omega, by omega⟩ | exact Or.inr ⟨by omega, by omega⟩ | (show (0 : Int) < _; omega) | (show (0 : Int) < _; decide))
local macro_rules | `(tactic| walk_at "go1") => `(tactic| first
  | ((with_reducible refine' g_var ?h ?_); (case h => exact rfl))
  | with_reducible refine g_c ?_ | with_reducible refine g_op ?_ | with_reducible refine g_un ?_ | with_reducible refine g_I0 ?_ | with_reducible refine g_U ?_
  | ((with_reducible refine' g_I ?h ?_); (case h => walk_at "cond"))
  | ((with_reducible refine' g_eq ?h ?_); (case h => exact rfl)) | ((with_reducible refine' g_ne ?h ?_); (case h => exact rfl))
  | with_reducible refine g_cb ?_ | with_reducible refine g_nil ?_ | with_reducible refine g_cons ?_
  | (with_reducible refine g_tup ?_) | (with_reducible refine g_lst ?_) | with_reducible refine g_fn ?_ | with_reducible refine g_fnJ ?_
  | with_reducible refine g_fld ?_ | with_reducible refine g_mt ?_ | with_reducible refine g_mtJ ?_ | with_reducible refine g_mk ?_ | with_reducible refine g_mkJ ?_
  | with_reducible refine g_test ?_ | with_reducible refine g_tB ?_ | with_reducible refine g_and ?_ | with_reducible refine g_or ?_ | with_reducible refine g_not ?_ | with_reducible refine g_andV ?_ | with_reducible refine g_orV ?_ | with_reducible refine g_notV ?_ | with_reducible refine g_ifE ?_
  | with_reducible refine g_bl ?_ | with_reducible refine iteT ?_ | with_reducible refine iteF ?_ | with_reducible refine iteNT ?_ | with_reducible refine iteNF ?_
  | with_reducible refine g_seq ?_ | with_reducible refine g_next ?_ | with_reducible refine g_drop ?_ | with_reducible refine g_ret ?_ | with_reducible refine g_retN ?_ | with_reducible refine g_if ?_ | with_reducible refine g_asg ?_ | with_reducible refine g_name ?_ | with_reducible refine g_sub ?_ | with_reducible refine g_sfld ?_ | with_reducible refine g_raise ?_ | with_reducible refine g_tryAs ?_
  | ((with_reducible refine' g_fld1 ?h ?c ?n ?l ?_); (case h => walk_at "at"); (case c => walk_at "cls"); (case n => walk_at "nat"); (case l => exact rfl))
  | ((with_reducible refine' g_sfld1 ?h ?c ?n ?l ?_); (case h => walk_at "at"); (case c => walk_at "cls"); (case n => walk_at "nat"); (case l => exact Nat.le_of_ble_eq_true rfl))
  | with_reducible refine g_aug ?_ | with_reducible refine g_rAdd ?_
  | ((with_reducible refine' g_aug1 ?h ?c ?n ?l ?_); (case h => walk_at "at"); (case c => walk_at "cls"); (case n => walk_at "nat"); (case l => exact rfl))
  | ((with_reducible refine' g_aug2 ?h ?l ?_); (case h => walk_at "at"); (case l => exact Nat.le_of_ble_eq_true rfl))
  | ((with_reducible refine' g_mt1 ?h ?l ?_); (case h => walk_at "at"); (case l => exact rfl))
  | ((with_reducible refine' g_ixL ?h ?e ?_); (case h => walk_at "at"); (case e => exact rfl))
  | ((with_reducible refine' g_ixT ?h ?e ?_); (case h => walk_at "at"); (case e => exact rfl))
  | ((with_reducible refine' g_len ?h ?_); (case h => walk_at "at")) | ((with_reducible refine' g_list ?h ?_); (case h => walk_at "at"))
  | with_reducible refine g_for ?_ | with_reducible refine g_rng1 ?_ | with_reducible refine g_rng2 ?_ | with_reducible refine g_lsti ?_ | with_reducible refine g_comp ?_
  | ((with_reducible refine' g_rngW ?h1 ?h2 ?_); (case h1 => omega); (case h2 => omega)) | ((with_reducible refine' g_rngW ?h1 ?h2 ?_); (case h1 => decide); (case h2 => decide))
  | ((with_reducible refine' g_lstW ?h ?_); (case h => exact SqL.of (by walk_at "at")))
  | with_reducible refine g_bm0 ?_ | ((with_reducible refine' g_clear ?h ?_); (case h => walk_at "at"))
  | with_reducible refine g_bm ?_ | ((with_reducible refine' g_tyL ?h ?_); (case h => walk_at "at")) | ((with_reducible refine' g_app ?h ?l ?_); (case h => walk_at "at"); (case l => first | exact Nat.le_of_ble_eq_true rfl | omega)))
local macro_rules | `(tactic| walk_at "go") => `(tactic| repeat (walk_at "go1"))
set_option hygiene false in
local macro_rules | `(tactic| walk_at "cls") => `(tactic| first | assumption | exact T.k_Board)
set_option hygiene false in
local macro_rules | `(tactic| walk_at "nat") => `(tactic| first | assumption | exact T.n_Board_many_touches | exact T.n_Board_newest_touch | exact T.n_Board_numbers | exact T.n_Board_size)
section
variable {P : Program} {w : World} {K : PySem.W.Frag} {mg : Str → Option Value} {base : Heap} {cl : Cl}
def sp_law_right (cl : Cl) : Sp := fun vs H Q _ => ∃ (b l r : Addr) (n : Nat) (row : List Int) (many : Int) (last last' : V), vs = [.ref b, .int n, .ref r, .int many, last'] ∧ Brd cl H b l n row many last ∧ H r = some (.lst (row.map V.int)) ∧
  (last = .non ∧ last' = .non ∨ ∃ t t' d c x, last = .ref t ∧ last' = .ref t' ∧ t ≠ t' ∧ H t = some (.tup [.str d, .int c, .int x]) ∧ H t' = some (.tup [.str d, .int c, .int x])) ∧ ∀ H', Same H H' → Q (.bl true) H'
theorem eqd_tup3 {H : Hp} {p q : Addr} {d : Str} {c x : Int} (ne : p ≠ q) (hp : H p = some (.tup [.str d, .int c, .int x])) (hq : H q = some (.tup [.str d, .int c, .int x])) : EqD K H 1 (.ref p) (.ref q) true := by
  have h := EqD.tup (K := K) (n := 0) (e := fun _ => true) ne (SqT.of hp) (SqT.of hq) (fun j x y hx hy => ?_)
  · exact h
  · rw [hx] at hy
    cases hy
    have hf : flatV x = true := by
      match j, hx with
      | 0, hx => cases hx; rfl
      | 1, hx => cases hx; rfl
      | 2, hx => cases hx; rfl
    have he : eqV x x = true := by
      match j, hx with
      | 0, hx => cases hx; rw [eqV_str]; simp
      | 1, hx => cases hx; simp [eqV]
      | 2, hx => cases hx; simp [eqV]
    have := EqD.flat (K := K) (H := H) (n := 0) hf hf
    rw [he] at this
    exact this
abbrev s_law_right : Stmt := top 47
theorem sc_law_right : FnScope ["board", "size", "row", "many", "last", "told"] ["board", "size", "row", "many", "last"] (defScope s_law_right) := ⟨rfl, rfl, rfl, by decide +kernel, rfl, by decide +kernel, by decide +kernel⟩
theorem ok_law_right (D : DefT K mg "_law_right" s_law_right ["board", "size", "row", "many", "last"]) (T : Txt K mg cl) (kl : PySem.W.kitOne K (.type "list") (.type "list") = some true) (G_Board_all_cells : MethT P w K mg base cl.Board "all_cells" 1 ["self"] (sp_Board_all_cells cl)) (G_Board_touches : MethT P w K mg base cl.Board "touches" 1 ["self"] (sp_Board_touches cl)) (G_Board_last_touch : MethT P w K mg base cl.Board "last_touch" 1 ["self"] (sp_Board_last_touch cl)) :
    FnT P w K mg base "_law_right" 2 ["board", "size", "row", "many", "last"] (sp_law_right cl) := by
  refine D.fn sc_law_right (fun vs H Q E h => ?_) (fun f cdv A outer s H vs Q E hr h => ?_)
  · obtain ⟨b, l, r, n, row, many, last, last', rfl, _⟩ := h
    rfl
  · obtain ⟨b, l, r, n, row, many, last, last', rfl, hB, er, hl, k⟩ := h
    refine ⟨_, (pss_cons (ps_set (i := 5) sc_law_right.nd rfl (by first | exact Or.inl rfl | exact Or.inr rfl) (pe_mt0 (pv 0) T.k_Board G_Board_all_cells hr (by decide) passX))
      (pss_cons (ps_if (PW.pt (pw_or (pt_cmpR op_ne (pe_fldK (K := K) (pv 0)) (pv 1) (nomark _)) (pw_or (pt_not (pt_val (pe_callB (call_isiK (K := K)) (by rfl) T.z_isinstance PyProof.Rows.boot_isinstance (pa_cons (pv 5) (pa_cons (pe_gty T.z_list PyProof.Rows.boot_list rfl) pa_nil))))) (pw_or1 (pt_cmpR (op_neK (K := K) (n := 0) (huN hr 1)) (pv 5) (pv 2) (nomark _))))))
         (pss_one (ps_ret pe_bl))
         pss_nil)
      (pss_cons (ps_expr (pe_clearK (K := K) (pv 5)))
      (pss_one (ps_ret (pe_and (pe_cmpR (op_eqK (K := K) (n := 0) (huN hr 1)) (pe_mt0 (pv 0) T.k_Board G_Board_all_cells hr (by decide) passX) (pv 2) (nomark _)) (pe_and (pe_cmpR op_eq (pe_mt0 (pv 0) T.k_Board G_Board_touches hr (by decide) passX) (pv 3) (nomark _)) (pe_one (pe_cmpR (op_eqAK (K := K) (n := 0) (huN hr 1)) (pe_mt0 (pv 0) T.k_Board G_Board_last_touch hr (by decide) passX) (pv 4) (nomark _)))))))))), ?_⟩
    obtain ⟨⟨dx, eb⟩, el, hlen, n2, n8⟩ := id hB
    walk_at "go"
    refine ⟨b, l, n, row, many, last, rfl, hB, fun p hp => ?_⟩
    have nb : b ≠ p := ne_of_none eb hp
    have nr : r ≠ p := ne_of_none er hp
    have nl : l ≠ p := ne_of_none el hp
    walk_at "go"
    rw [show (!decide (V.int (n : Int) = V.int n)) = false by simp]
    walk_at "go"
    refine g_isi (.ty (.lst upd_same)) rfl kl ?_
    walk_at "go"
    refine g_neD (eqd_same nr.symm upd_same ((upd_ne nr).trans er)) ?_
    walk_at "go"
    have hB2 : Brd cl (upd (upd H p (.lst (row.map V.int))) p (.lst [])) b l n row many last := by
      refine hB.keep (ps := [p]) (fun c o e nn => ?_) (by simp [nb]) (by simp [nl])
      have : c ≠ p := fun z => nn (by simp [z])
      rw [upd_ne this, upd_ne this]; exact e
    have s2 : Same H (upd (upd H p (.lst (row.map V.int))) p (.lst [])) := fun c o e => by rw [upd_ne (ne_of_none e hp), upd_ne (ne_of_none e hp)]; exact e
    revert hB2 s2
    generalize upd (upd H p (.lst (row.map V.int))) p (.lst []) = H2
    intro hB2 s2
    obtain ⟨⟨dx2, eb2⟩, el2, _⟩ := id hB2
    refine ⟨b, l, n, row, many, last, rfl, hB2, fun q hq => ?_⟩
    walk_at "go"
    refine g_eqD (eqd_same (ne_of_none (s2 _ _ er) hq).symm upd_same (same_new hq _ _ (s2 _ _ er))) ?_
    walk_at "go"
    have hB3 : Brd cl (upd H2 q (.lst (row.map V.int))) b l n row many last := hB2.keep (Kp.of (ps := []) (same_new hq)) (by simp) (by simp)
    have s3 : Same H (upd H2 q (.lst (row.map V.int))) := s2.trans (same_new hq)
    revert hB3 s3
    generalize upd H2 q (.lst (row.map V.int)) = H3
    intro hB3 s3
    obtain ⟨⟨dx3, eb3⟩, el3, _⟩ := id hB3
    refine ⟨b, l, n, row, many, last, rfl, hB3, ?_⟩
    walk_at "go"
    rw [show decide (V.int many = V.int many) = true by simp]
    walk_at "go"
    refine ⟨b, l, n, row, many, last, rfl, hB3, ?_⟩
    walk_at "go"
    rcases hl with ⟨rfl, rfl⟩ | ⟨t, t', d, c, x, rfl, rfl, ne, et, et'⟩
    · refine .inl ⟨rfl, ?_⟩
      rw [show decide (V.non = V.non) = true by simp]
      exact k _ s3
    · exact .inr (g_eqD (eqd_tup3 ne (s3 _ _ et) (s3 _ _ et')) (k _ s3))
/-! ### the cells' numbers -/
def sp_law_cells_right : Sp := fun vs H Q _ => ∃ (w : Addr) (n : Nat), vs = [.ref w, .int n] ∧ Well H w ∧ 2 ≤ n ∧ n ≤ 8 ∧ ∀ H', Q (.bl true) H'
theorem four (p : Int) : (List.range 4).map (fun k : Nat => V.int (4 * p + (0 + (k : Int)))) = ([4 * p + 0, 4 * p + 1, 4 * p + 2, 4 * p + 3] : List Int).map V.int := by
  simp [List.range_succ]
theorem pickS {α : Type} {ns : List α} {Pr : α → Prop} (h : ∀ v ∈ ns, Pr v) {r : Int} (h0 : 0 ≤ r) (h1 : r < ns.length) : ∃ v, atI ns r = some v ∧ Pr v := by
  have hr : r.toNat < ns.length := by omega
  refine ⟨ns[r.toNat], ?_, h _ (List.getElem_mem hr)⟩
  unfold atI
  rw [ixN_in h0 h1]
  exact List.getElem?_eq_getElem hr
abbrev s_law_cells_right : Stmt := top 46
theorem sc_law_cells_right : FnScope ["well", "size", "place", "told", "far", "bad", "name", "way"] ["well", "size"] (defScope s_law_cells_right) := ⟨rfl, rfl, rfl, by decide +kernel, rfl, by decide +kernel, by decide +kernel⟩
set_option maxHeartbeats 16000000 in
theorem ok_law_cells_right (D : DefT K mg "_law_cells_right" s_law_cells_right ["well", "size"]) (T : Txt K mg cl) (G_mark_cell : FnT P w K mg base "mark_cell" 1 ["place"] (sp_cellOf 0)) (G_number_cell : FnT P w K mg base "number_cell" 1 ["place"] (sp_cellOf 1)) (G_left_cell : FnT P w K mg base "left_cell" 1 ["place"] (sp_cellOf 2)) (G_thing_cell : FnT P w K mg base "thing_cell" 1 ["place"] (sp_cellOf 3))
    (G_law_whole : FnT P w K mg base "_law_whole" 1 ["found"] sp_law_whole) (G_law_take : FnT P w K mg base "_law_take" 1 ["well", "many"] sp_law_take) (G_law_far : FnT P w K mg base "_law_far" 2 ["well"] sp_law_far) (G_card_cell : FnT P w K mg base "card_cell" 2 ["size", "hand"] (sp_card_cell cl)) (G_bell_cell : FnT P w K mg base "bell_cell" 3 ["size", "hand"] (sp_bell_cell cl))
    (G_law_refused : FnT P w K mg base "_law_refused" 4 ["way", "size", "hand"] (sp_law_refused K cl)) : FnT P w K mg base "_law_cells_right" 5 ["well", "size"] sp_law_cells_right := by
  refine D.fn sc_law_cells_right (fun vs H Q E h => ?_) (fun f cdv A outer s H vs Q E hr h => ?_)
  · obtain ⟨w, n, rfl, _⟩ := h
    rfl
  · obtain ⟨w, n, rfl, hw, n2, n8, k⟩ := h
    refine ⟨_, (pss_cons (ps_for passOwnX rfl (pi_range1 rfl T.z_range (pa_cons (pv 1) pa_nil)) (pg_name (i := 2) sc_law_cells_right.nd rfl (by first | exact Or.inl rfl | exact Or.inr rfl))
         (pss_cons (ps_set (i := 3) sc_law_cells_right.nd rfl (by first | exact Or.inl rfl | exact Or.inr rfl) (pe_lst (pa_cons (pe_fn G_mark_cell hr (by decide) rfl passX (pa_cons (pv 2) pa_nil)) (pa_cons (pe_fn G_number_cell hr (by decide) rfl passX (pa_cons (pv 2) pa_nil)) (pa_cons (pe_fn G_left_cell hr (by decide) rfl passX (pa_cons (pv 2) pa_nil)) (pa_cons (pe_fn G_thing_cell hr (by decide) rfl passX (pa_cons (pv 2) pa_nil)) pa_nil))))))
          (pss_one (ps_if (PW.pt (pw_or (pt_cmpR (op_neK (K := K) (n := 0) (huN hr 1)) (pv 3) (pe_comp (N := ["k", "place"]) (nt := 1) (fr := [2]) rfl (comp_ok1 (i := 2) rfl rfl (by decide +kernel) (by decide +kernel) rfl rfl rfl rfl rfl rfl rfl) (pi_range1 rfl T.z_range (pa_cons pe_int pa_nil)) (gk_name (by decide)) (fun _ _ _ _ _ => pg_name (i := 0) (show (["k", "place"] : List Str).Nodup by decide +kernel) rfl (Or.inl rfl) (Or.inr rfl)) (fun _ _ _ _ _ => (pe_op op_add (pe_op op_mul pe_int (pv 1)) (pv 0)))) (nomark _)) (pw_or1 (pt_not (pt_val (pe_callB (call_allK (K := K) rfl) (by rfl) T.z_all PyProof.Rows.boot_all (pa_cons (pe_comp (N := ["cell"]) (nt := 1) (fr := []) rfl (comp_ok0 rfl rfl (by decide +kernel) (by decide +kernel) rfl rfl) (pi_listK (K := K) (pv 3)) (gk_name (by decide)) (fun _ _ _ _ _ => pg_name (i := 0) (show (["cell"] : List Str).Nodup by decide +kernel) rfl (Or.inl rfl) (Or.inr rfl)) (fun _ _ _ _ _ => (pe_fn G_law_whole hr (by decide) rfl passC (pa_cons (pv 0) pa_nil)))) pa_nil)))))))
            (pss_one (ps_ret pe_bl))
            pss_nil))))
      (pss_cons (ps_set (i := 4) sc_law_cells_right.nd rfl (by first | exact Or.inl rfl | exact Or.inr rfl) (pe_fn G_law_far hr (by decide) rfl passX (pa_cons (pv 0) pa_nil)))
      (pss_cons (ps_if (pt_cmpR (op_neK (K := K) (n := 0) (huN hr 1)) (pe_lst (pa_cons (pe_fn G_mark_cell hr (by decide) rfl passX (pa_cons (pv 4) pa_nil)) (pa_cons (pe_fn G_number_cell hr (by decide) rfl passX (pa_cons (pv 4) pa_nil)) (pa_cons (pe_fn G_left_cell hr (by decide) rfl passX (pa_cons (pv 4) pa_nil)) (pa_cons (pe_fn G_thing_cell hr (by decide) rfl passX (pa_cons (pv 4) pa_nil)) pa_nil))))) (pe_comp (N := ["k", "far"]) (nt := 1) (fr := [4]) rfl (comp_ok1 (i := 4) rfl rfl (by decide +kernel) (by decide +kernel) rfl rfl rfl rfl rfl rfl rfl) (pi_range1 rfl T.z_range (pa_cons pe_int pa_nil)) (gk_name (by decide)) (fun _ _ _ _ _ => pg_name (i := 0) (show (["k", "far"] : List Str).Nodup by decide +kernel) rfl (Or.inl rfl) (Or.inr rfl)) (fun _ _ _ _ _ => (pe_op op_add (pe_op op_mul pe_int (pv 1)) (pv 0)))) (nomark _))
         (pss_one (ps_ret pe_bl))
         pss_nil)
      (pss_cons (ps_set (i := 3) sc_law_cells_right.nd rfl (by first | exact Or.inl rfl | exact Or.inr rfl) (pe_lst (pa_cons (pe_fn G_card_cell hr (by decide) rfl passX (pa_cons (pv 1) (pa_cons pe_str pa_nil))) (pa_cons (pe_fn G_card_cell hr (by decide) rfl passX (pa_cons (pv 1) (pa_cons pe_str pa_nil))) (pa_cons (pe_fn G_bell_cell hr (by decide) rfl passX (pa_cons (pv 1) (pa_cons pe_str pa_nil))) (pa_cons (pe_fn G_bell_cell hr (by decide) rfl passX (pa_cons (pv 1) (pa_cons pe_str pa_nil))) pa_nil))))))
      (pss_cons (ps_if (pt_cmpR (op_neK (K := K) (n := 0) (huN hr 1)) (pv 3) (pe_comp (N := ["k", "size"]) (nt := 1) (fr := [1]) rfl (comp_ok1 (i := 1) rfl rfl (by decide +kernel) (by decide +kernel) rfl rfl rfl rfl rfl rfl rfl) (pi_range1 rfl T.z_range (pa_cons pe_int pa_nil)) (gk_name (by decide)) (fun _ _ _ _ _ => pg_name (i := 0) (show (["k", "size"] : List Str).Nodup by decide +kernel) rfl (Or.inl rfl) (Or.inr rfl)) (fun _ _ _ _ _ => (pe_op op_add (pe_op op_mul pe_int (pv 1)) (pv 0)))) (nomark _))
         (pss_one (ps_ret pe_bl))
         pss_nil)
      (pss_cons (ps_set (i := 5) sc_law_cells_right.nd rfl (by first | exact Or.inl rfl | exact Or.inr rfl) (pe_ix (ix_listK (K := K)) (pe_lst (pa_cons pe_int (pa_cons pe_int (pa_cons (pe_op op_sub pe_int (pe_fn G_law_far hr (by decide) rfl passX (pa_cons (pv 0) pa_nil))) (pa_cons (pe_op op_add pe_int (pe_fn G_law_far hr (by decide) rfl passX (pa_cons (pv 0) pa_nil))) pa_nil))))) (pe_fn G_law_take hr (by decide) rfl passX (pa_cons (pv 0) (pa_cons pe_int pa_nil))) (fun _ _ => rfl)))
      (pss_cons (ps_set (i := 6) sc_law_cells_right.nd rfl (by first | exact Or.inl rfl | exact Or.inr rfl) (pe_ix (ix_listK (K := K)) (pe_lst (pa_cons pe_str (pa_cons pe_str (pa_cons pe_str (pa_cons pe_str (pa_cons pe_str (pa_cons pe_str pa_nil))))))) (pe_fn G_law_take hr (by decide) rfl passX (pa_cons (pv 0) (pa_cons pe_int pa_nil))) (fun _ _ => rfl)))
      (pss_cons (ps_for passOwnX rfl (pi_range1 rfl T.z_range (pa_cons pe_int pa_nil)) (pg_name (i := 7) sc_law_cells_right.nd rfl (by first | exact Or.inl rfl | exact Or.inr rfl))
         (pss_cons (ps_if (pt_cmpR (op_neK (K := K) (n := 0) (huN hr 1)) (pe_fn G_law_refused hr (by decide) rfl passX (pa_cons (pv 7) (pa_cons (pv 5) (pa_cons (pv 6) pa_nil)))) (pe_lst (pa_cons pe_bl (pa_cons pe_bl (pa_cons pe_bl (pa_cons pe_bl (pa_cons pe_bl (pa_cons pe_bl pa_nil))))))) (nomark _))
             (pss_one (ps_ret pe_bl))
             pss_nil)
          (pss_one (ps_if (pt_cmpR (op_neK (K := K) (n := 0) (huN hr 1)) (pe_fn G_law_refused hr (by decide) rfl passX (pa_cons (pv 7) (pa_cons (pv 1) (pa_cons (pv 6) pa_nil)))) (pe_lst (pa_cons pe_bl (pa_cons pe_bl (pa_cons pe_bl (pa_cons pe_bl (pa_cons pe_bl (pa_cons pe_bl pa_nil))))))) (nomark _))
            (pss_one (ps_ret pe_bl))
            pss_nil))))
      (pss_one (ps_ret (pe_cmpR (op_eqK (K := K) (n := 0) (huN hr 1)) (pe_fn G_law_refused hr (by decide) rfl passX (pa_cons pe_int (pa_cons (pv 5) (pa_cons (pv 6) pa_nil)))) (pe_lst (pa_cons pe_bl (pa_cons pe_bl (pa_cons pe_bl (pa_cons pe_bl (pa_cons pe_bl (pa_cons pe_bl pa_nil))))))) (nomark _)))))))))))), ?_⟩
    walk_at "go"
    have h20 : 2000 ≤ sizeLine := by decide
    refine for_range (n := (n : Int).toNat) (fun i σ H' => ∃ x2 x3, σ = [some (.ref w), some (.int n), x2, x3, none, none, none, none] ∧ Same H H') ⟨_, _, rfl, Same.refl H⟩ ?_ ?_
    · rintro i σ H1 hi ⟨x2, x3, rfl, s1⟩
      walk_at "go"
      refine ⟨_, rfl, ?_⟩
      walk_at "go"
      refine ⟨_, rfl, ?_⟩
      walk_at "go"
      refine ⟨_, rfl, ?_⟩
      walk_at "go"
      refine ⟨_, rfl, ?_⟩
      walk_at "go"
      refine ⟨by show 4 ≤ sizeLine; omega, fun p hp => ?_⟩
      walk_at "go"
      refine comp_rangeF (n := 4) (by omega) (f := fun k => V.int (4 * (0 + (i : Int)) + (0 + (k : Int)))) (fun j H' kk hj sm q => ?_) (fun q hq => ?_)
      · walk_at "go"
        exact q
      rw [four]
      have s2 := same_new (o := .lst (([4 * (0 + (i : Int)) + 0, 4 * (0 + (i : Int)) + 1, 4 * (0 + (i : Int)) + 2, 4 * (0 + (i : Int)) + 3] : List Int).map V.int)) hp
      have s3 := same_new (o := .lst (([4 * (0 + (i : Int)) + 0, 4 * (0 + (i : Int)) + 1, 4 * (0 + (i : Int)) + 2, 4 * (0 + (i : Int)) + 3] : List Int).map V.int)) hq
      refine g_neD (eqd_same (ne_of_none upd_same hq) (s3 _ _ upd_same) upd_same) ?_
      walk_at "go"
      refine comp_list (xs := ([4 * (0 + (i : Int)) + 0, 4 * (0 + (i : Int)) + 1, 4 * (0 + (i : Int)) + 2, 4 * (0 + (i : Int)) + 3] : List Int).map V.int) (f := fun _ => V.bl true) (SqL.of (s3 _ _ upd_same)) (by show 4 < sizeLine; omega) ⟨_, s3 _ _ upd_same⟩ (fun j x H' kk hx sm q => ?_) (fun r hr => ?_)
      · walk_at "go"
        have hx' : ∃ z, x = .int z := by
          match j, hx with
          | 0, hx => cases hx; exact ⟨_, rfl⟩
          | 1, hx => cases hx; exact ⟨_, rfl⟩
          | 2, hx => cases hx; exact ⟨_, rfl⟩
          | 3, hx => cases hx; exact ⟨_, rfl⟩
        obtain ⟨z, rfl⟩ := hx'
        refine ⟨z, rfl, ?_⟩
        exact q
      walk_at "go"
      refine ⟨_, [true, true, true, true], rfl, SqL.of upd_same, ?_⟩
      walk_at "go"
      exact ⟨_, _, rfl, ((s1.trans s2).trans s3).trans (same_new hr)⟩
    · rintro σ H1 ⟨x2, x3, rfl, s1⟩
      have w1 := hw.same s1
      walk_at "go"
      refine ⟨w, rfl, w1, fun far H2 f1 f2 w2 b2 => ?_⟩
      walk_at "go"
      refine ⟨_, rfl, ?_⟩
      walk_at "go"
      refine ⟨_, rfl, ?_⟩
      walk_at "go"
      refine ⟨_, rfl, ?_⟩
      walk_at "go"
      refine ⟨_, rfl, ?_⟩
      walk_at "go"
      refine ⟨by show 4 ≤ sizeLine; omega, fun p hp => ?_⟩
      have w3 := w2.same (same_new (o := .lst (([4 * far + 0, 4 * far + 1, 4 * far + 2, 4 * far + 3] : List Int).map V.int)) hp)
      walk_at "go"
      refine comp_rangeF (n := 4) (by omega) (f := fun k => V.int (4 * far + (0 + (k : Int)))) (fun j H' kk hj sm q => ?_) (fun q hq => ?_)
      · walk_at "go"
        exact q
      rw [four]
      have w4 := w3.same (same_new (o := .lst (([4 * far + 0, 4 * far + 1, 4 * far + 2, 4 * far + 3] : List Int).map V.int)) hq)
      refine g_neD (eqd_same (ne_of_none upd_same hq) (same_new hq _ _ upd_same) upd_same) ?_
      walk_at "go"
      have card : ∀ (x : Str) (H' : Hp) (k : Prop), (x = "giver" ∨ x = "taker") → k → cardG cl n x H' E k := fun x H' k hx hk => by
        unfold cardG
        rw [if_pos (by omega), if_pos hx]
        exact hk
      refine ⟨_, _, rfl, card _ _ _ (.inl rfl) ?_⟩
      walk_at "go"
      refine ⟨_, _, rfl, card _ _ _ (.inr rfl) ?_⟩
      walk_at "go"
      refine ⟨_, _, rfl, card _ _ _ (.inl rfl) ?_⟩
      walk_at "go"
      refine ⟨_, _, rfl, card _ _ _ (.inr rfl) ?_⟩
      walk_at "go"
      refine ⟨by show 4 ≤ sizeLine; omega, fun pc hpc => ?_⟩
      have w5 := w4.same (same_new (o := .lst (([4 * (n : Int) + 0, 4 * (n : Int) + 1, 4 * (n : Int) + 0 + 2, 4 * (n : Int) + 1 + 2] : List Int).map V.int)) hpc)
      walk_at "go"
      refine comp_rangeF (n := 4) (by omega) (f := fun k => V.int (4 * (n : Int) + (0 + (k : Int)))) (fun j H' kk hj sm q => ?_) (fun q hq => ?_)
      · walk_at "go"
        exact q
      rw [four]
      have w6 := w5.same (same_new (o := .lst (([4 * (n : Int) + 0, 4 * (n : Int) + 1, 4 * (n : Int) + 2, 4 * (n : Int) + 3] : List Int).map V.int)) hq)
      refine g_neD (eqd_same (ns := [4 * (n : Int) + 0, 4 * (n : Int) + 1, 4 * (n : Int) + 2, 4 * (n : Int) + 3]) (ne_of_none upd_same hq) ?_ upd_same) ?_
      · refine same_new hq _ _ (upd_same.trans ?_)
        show some (HO.lst (([4 * (n : Int) + 0, 4 * (n : Int) + 1, 4 * (n : Int) + 0 + 2, 4 * (n : Int) + 1 + 2] : List Int).map V.int)) = _
        rw [show 4 * (n : Int) + 0 + 2 = 4 * n + 2 by omega, show 4 * (n : Int) + 1 + 2 = 4 * n + 3 by omega]
      walk_at "go"
      refine ⟨w, rfl, w6, fun r1 H7 a7 c7 w7 b7 => ?_⟩
      walk_at "go"
      refine ⟨w, rfl, w7, fun r2 H8 a8 c8 w8 b8 => ?_⟩
      walk_at "go"
      refine ⟨by show 4 ≤ sizeLine; omega, fun p hp => ?_⟩
      have np : p ≠ w := w8.ne hp
      walk_at "go"
      refine ⟨w, 4, rfl, w8.same (same_new hp), by decide, by decide, fun r3 H9 a9 c9 w9 b9 => ?_⟩
      have e9 : H9 p = _ := b9 p _ upd_same np
      obtain ⟨bad, hbad, nbad⟩ := pickL (ns := [1, 9, 1 - r1, 8 + r2]) (Pr := fun v => ¬ (2 ≤ v ∧ v ≤ 8)) (by intro v hv; simp only [List.mem_cons, List.not_mem_nil, or_false] at hv; omega) a9 c9
      refine g_ixL e9 hbad ?_
      walk_at "go"
      refine ⟨by show 6 ≤ sizeLine; omega, fun p2 hp2 => ?_⟩
      have np2 : p2 ≠ w := w9.ne hp2
      walk_at "go"
      refine ⟨w, 6, rfl, w9.same (same_new hp2), by decide, by decide, fun r4 H10 a10 c10 w10 b10 => ?_⟩
      have e10 : H10 p2 = _ := b10 p2 _ upd_same np2
      obtain ⟨name, hname, x, rfl, nx⟩ := pickS (ns := [V.str "", V.str "Giver", V.str "give", V.str "takers", V.str "asker", V.str "giver "]) (Pr := fun v => ∃ x, v = .str x ∧ ¬ (x = "giver" ∨ x = "taker")) (by
        intro v hv
        simp only [List.mem_cons, List.not_mem_nil, or_false] at hv
        rcases hv with rfl | rfl | rfl | rfl | rfl | rfl <;> exact ⟨_, rfl, by decide⟩) a10 c10
      refine g_ixL e10 hname ?_
      walk_at "go"
      refine for_range (n := (2 : Int).toNat) (fun i σ H' => ∃ x7, σ = [some (.ref w), some (.int n), x2, some (.ref pc), some (.int far), some (.int bad), some (.str x), x7] ∧ True) ⟨_, rfl, trivial⟩ ?_ ?_
      · rintro i σ H11 hi ⟨x7, rfl, _⟩
        have hi2 : (0 + (i : Int) = 0 ∨ 0 + (i : Int) = 1) := by
          have : i < 2 := hi
          omega
        walk_at "go"
        refine ⟨_, bad, x, rfl, nx, by omega, fun l1 H12 _ _ e12 => ?_⟩
        rw [if_neg nbad] at e12
        walk_at "go"
        refine ⟨by show 6 ≤ sizeLine; omega, fun q1 hq1 => ?_⟩
        refine g_neD (eqd_sameB (ns := [false, true, false, true, false, false]) (ne_of_none e12 hq1) (same_new hq1 _ _ e12) upd_same) ?_
        walk_at "go"
        refine ⟨_, n, x, rfl, nx, by omega, fun l2 H13 _ _ e13 => ?_⟩
        rw [if_pos (by omega)] at e13
        walk_at "go"
        refine ⟨by show 6 ≤ sizeLine; omega, fun q2 hq2 => ?_⟩
        refine g_neD (eqd_sameB (ns := [false, false, true, true, false, false]) (ne_of_none e13 hq2) (same_new hq2 _ _ e13) upd_same) ?_
        walk_at "go"
        exact ⟨_, rfl, trivial⟩
      · rintro σ H11 ⟨x7, rfl, _⟩
        walk_at "go"
        refine ⟨2, bad, x, rfl, nx, .inr (.inr nbad), fun l1 H12 _ _ e12 => ?_⟩
        rw [if_neg nbad] at e12
        walk_at "go"
        refine ⟨by show 6 ≤ sizeLine; omega, fun q1 hq1 => ?_⟩
        exact g_eqD (eqd_sameB (ns := [false, true, false, true, false, false]) (ne_of_none e12 hq1) (same_new hq1 _ _ e12) upd_same) (k _)
end
end S

set_option Elab.async false
set_option linter.all false
set_option maxRecDepth 100000
set_option maxHeartbeats 4000000
namespace S
open PySem L2
local macro_rules | `(tactic| walk_at "at") => `(tactic| first | assumption | exact upd_same | (refine (upd_ne ?_).trans ?_; (walk_at "ne"); (walk_at "at")) | (refine Same.at ?_ ?_; assumption; (walk_at "at")))
local macro_rules | `(tactic| walk_at "ne") => `(tactic| first | assumption | exact Ne.symm (by assumption) | ((refine' ne_of_none ?h ?n); (case n => assumption); (case h => walk_at "at")) | ((refine Ne.symm ?_); (refine' ne_of_none ?h ?n); (case n => assumption); (case h => walk_at "at")))
local macro_rules | `(tactic| walk_at "cond") => `(tactic| first | trivial | exact Or.inl ⟨by decide, by decide⟩ | exact Or.inr ⟨by decide, by decide⟩ | exact Or.inl ⟨by omega, by omega⟩ | exact Or.inr ⟨by omega, by omega⟩ | (show (0 : Int) < _; omega) | (show (0 : Int) < _; decide))
local macro_rules | `(tactic| walk_at "go1") => `(tactic| first
  | ((with_reducible refine' g_var ?h ?_); (case h => exact rfl))
  | with_reducible refine g_c ?_ | with_reducible refine g_op ?_ | with_reducible refine g_un ?_ | with_reducible refine g_I0 ?_ | with_reducible refine g_U ?_
  | ((with_reducible refine' g_I ?h ?_); (case h => walk_at "cond"))
  | ((with_reducible refine' g_eq ?h ?_); (case h => exact rfl)) | ((with_reducible refine' g_ne ?h ?_); (case h => exact rfl))
  | with_reducible refine g_cb ?_ | with_reducible refine g_nil ?_ | with_reducible refine g_cons ?_
  | (with_reducible refine g_tup ?_) | (with_reducible refine g_lst ?_) | with_reducible refine g_fn ?_ | with_reducible refine g_fnJ ?_
  | with_reducible refine g_fld ?_ | with_reducible refine g_mt ?_ | with_reducible refine g_mtJ ?_ | with_reducible refine g_mk ?_ | with_reducible refine g_mkJ ?_
  | with_reducible refine g_test ?_ | with_reducible refine g_tB ?_ | with_reducible refine g_and ?_ | with_reducible refine g_or ?_ | with_reducible refine g_not ?_ | with_reducible refine g_andV ?_ | with_reducible refine g_orV ?_ | with_reducible refine g_notV ?_ | with_reducible refine g_ifE ?_
  | with_reducible refine g_bl ?_ | with_reducible refine iteT ?_ | with_reducible refine iteF ?_ | with_reducible refine iteNT ?_ | with_reducible refine iteNF ?_
  | with_reducible refine g_seq ?_ | with_reducible refine g_next ?_ | with_reducible refine g_drop ?_ | with_reducible refine g_ret ?_ | with_reducible refine g_retN ?_ | with_reducible refine g_if ?_ | with_reducible refine g_asg ?_ | with_reducible refine g_name ?_ | with_reducible refine g_sub ?_ | with_reducible refine g_sfld ?_ | with_reducible refine g_raise ?_ | with_reducible refine g_tryAs ?_
  | ((with_reducible refine' g_fld1 ?h ?c ?n ?l ?_); (case h => walk_at "at"); (case c => walk_at "cls"); (case n => walk_at "nat"); (case l => exact rfl))
  | ((with_reducible refine' g_sfld1 ?h ?c ?n ?l ?_); (case h => walk_at "at"); (case c => walk_at "cls"); (case n => walk_at "nat"); (case l => exact Nat.le_of_ble_eq_true rfl))
  | with_reducible refine g_aug ?_ | with_reducible refine g_rAdd ?_
  | ((with_reducible refine' g_aug1 ?h ?c ?n ?l ?_); (case h => walk_at "at"); (case c => walk_at "cls"); (case n => walk_at "nat"); (case l => exact rfl))
  | ((with_reducible refine' g_aug2 ?h ?l ?_); (case h => walk_at "at"); (case l => exact Nat.le_of_ble_eq_true rfl))
  | ((with_reducible refine' g_mt1 ?h ?l ?_); (case h => walk_at "at"); (case l => exact rfl))
  | ((with_reducible refine' g_ixL ?h ?e ?_); (case h => walk_at "at"); (case e => exact rfl))
  | ((with_reducible refine' g_ixT ?h ?e ?_); (case h => walk_at "at"); (case e => exact rfl))
  | ((with_reducible refine' g_len ?h ?_); (case h => walk_at "at")) | ((with_reducible refine' g_list ?h ?_); (case h => walk_at "at"))
  | with_reducible refine g_for ?_ | with_reducible refine g_rng1 ?_ | with_reducible refine g_rng2 ?_ | with_reducible refine g_lsti ?_ | with_reducible refine g_comp ?_
  | ((with_reducible refine' g_rngW ?h1 ?h2 ?_); (case h1 => omega); (case h2 => omega)) | ((with_reducible refine' g_rngW ?h1 ?h2 ?_); (case h1 => decide); (case h2 => decide))
  | ((with_reducible refine' g_lstW ?h ?_); (case h => exact SqL.of (by walk_at "at")))
  | with_reducible refine g_bm0 ?_ | ((with_reducible refine' g_clear ?h ?_); (case h => walk_at "at"))
  | with_reducible refine g_bm ?_ | ((with_reducible refine' g_tyL ?h ?_); (case h => walk_at "at")) | ((with_reducible refine' g_app ?h ?l ?_); (case h => walk_at "at"); (case l => first | exact Nat.le_of_ble_eq_true rfl | omega)))
local macro_rules | `(tactic| walk_at "go") => `(tactic| repeat (walk_at "go1"))
set_option hygiene false in
local macro_rules | `(tactic| walk_at "cls") => `(tactic| first | assumption | exact T.k_Board)
set_option hygiene false in
local macro_rules | `(tactic| walk_at "nat") => `(tactic| first | assumption | exact T.n_Board_many_touches | exact T.n_Board_newest_touch | exact T.n_Board_numbers | exact T.n_Board_size)
section
variable {P : Program} {w : World} {K : PySem.W.Frag} {mg : Str → Option Value} {base : Heap} {cl : Cl}
def LastEq (H : Hp) (t v : V) : Prop := t = .non ∧ v = .non ∨ ∃ p q d c x, t = .ref p ∧ v = .ref q ∧ p ≠ q ∧ H p = some (.tup [.str d, .int c, .int x]) ∧ H q = some (.tup [.str d, .int c, .int x])
structure LI (cl : Cl) (w0 sz bs rs cn ls : Addr) (nn : Nat → Nat) (b l r : Nat → Addr) (row : Nat → List Int) (m : Nat → Int) (t v : Nat → V) (H : Hp) : Prop where
  well : Well H w0
  esz : H sz = some (.lst [.int (nn 0), .int (nn 1)])
  ebs : H bs = some (.lst [.ref (b 0), .ref (b 1)])
  ers : H rs = some (.lst [.ref (r 0), .ref (r 1)])
  ecn : H cn = some (.lst [.int (m 0), .int (m 1)])
  els : H ls = some (.lst [v 0, v 1])
  brd : ∀ i, i < 2 → Brd cl H (b i) (l i) (nn i) (row i) (m i) (t i)
  erow : ∀ i, i < 2 → H (r i) = some (.lst ((row i).map V.int))
  last : ∀ i, i < 2 → LastEq H (t i) (v i)
structure Sep (H0 : Hp) (w0 sz bs rs cn ls : Addr) (b l r : Nat → Addr) : Prop where
  fix : [w0, sz, bs, rs, cn, ls].Nodup
  lf : ∀ i, i < 2 → l i ∉ [w0, sz, bs, rs, cn, ls]
  rf : ∀ i, i < 2 → r i ∉ [w0, sz, bs, rs, cn, ls]
  lr : ∀ i j, i < 2 → j < 2 → l i ≠ r j
  ll : l 0 ≠ l 1
  rr : r 0 ≠ r 1
  bb : b 0 ≠ b 1
  nb : ∀ i, i < 2 → H0 (b i) = none
  nl : ∀ i, i < 2 → H0 (l i) = none
  nr : ∀ i, i < 2 → H0 (r i) = none
  nc : H0 cn = none
  ns : H0 ls = none
theorem LastEq.keep {H H' : Hp} {t v : V} {ps : List Addr} (h : LastEq H t v) (k : Kp ps H H') (np : ∀ c ∈ ps, ∀ xs, H c ≠ some (.tup xs)) : LastEq H' t v := by
  rcases h with h | ⟨p, q, d, c, x, h1, h2, h3, h4, h5⟩
  · exact .inl h
  · exact .inr ⟨p, q, d, c, x, h1, h2, h3, k _ _ h4 fun z => np _ z _ h4, k _ _ h5 fun z => np _ z _ h5⟩
section
variable {w0 sz bs rs cn ls : Addr} {nn : Nat → Nat} {b l r : Nat → Addr} {row : Nat → List Int} {m : Nat → Int} {t v : Nat → V} {H H' H0 : Hp}
theorem LI.same (I : LI cl w0 sz bs rs cn ls nn b l r row m t v H) (s : Same H H') : LI cl w0 sz bs rs cn ls nn b l r row m t v H' where
  well := I.well.same s
  esz := s _ _ I.esz
  ebs := s _ _ I.ebs
  ers := s _ _ I.ers
  ecn := s _ _ I.ecn
  els := s _ _ I.els
  brd := fun i hi => (I.brd i hi).keep (Kp.of (ps := []) s) (by simp) (by simp)
  erow := fun i hi => s _ _ (I.erow i hi)
  last := fun i hi => (I.last i hi).keep (Kp.of (ps := []) s) (by simp)
theorem two {i : Nat} (h : i < 2) : i = 0 ∨ i = 1 := by omega
theorem at2 {α : Type} (f : Nat → α) {i : Nat} (h : i < 2) : atI [f 0, f 1] (i : Int) = some (f i) := by
  rcases two h with rfl | rfl <;> rfl
theorem ix2 {i : Nat} (h : i < 2) : ixN 2 (i : Int) = some i := by
  rcases two h with rfl | rfl <;> rfl
def up {α : Type} (f : Nat → α) (a : Nat) (y : α) : Nat → α := fun i => if i = a then y else f i
theorem up_same {α : Type} (f : Nat → α) (a : Nat) (y : α) : up f a y a = y := if_pos rfl
theorem up_ne {α : Type} (f : Nat → α) {a i : Nat} (y : α) (h : i ≠ a) : up f a y i = f i := if_neg h
theorem set2 {α β : Type} (g : β → α) (f : Nat → β) {a : Nat} (y : β) (h : a < 2) : [g (f 0), g (f 1)].set a (g y) = [g (up f a y 0), g (up f a y 1)] := by
  rcases two h with rfl | rfl <;> rfl
end
/-- what stands while the board at b a and its row are touched -/
structure Mid (cl : Cl) (w0 sz bs rs cn ls : Addr) (nn : Nat → Nat) (b l r : Nat → Addr) (row : Nat → List Int) (m : Nat → Int) (t v : Nat → V) (a : Nat) (rowB rowR : List Int) (mB : Int) (tB : V) (H : Hp) : Prop where
  well : Well H w0
  esz : H sz = some (.lst [.int (nn 0), .int (nn 1)])
  ebs : H bs = some (.lst [.ref (b 0), .ref (b 1)])
  ers : H rs = some (.lst [.ref (r 0), .ref (r 1)])
  ecn : H cn = some (.lst [.int (m 0), .int (m 1)])
  els : H ls = some (.lst [v 0, v 1])
  brd : ∀ i, i < 2 → i ≠ a → Brd cl H (b i) (l i) (nn i) (row i) (m i) (t i)
  brdA : Brd cl H (b a) (l a) (nn a) rowB mB tB
  erow : ∀ i, i < 2 → i ≠ a → H (r i) = some (.lst ((row i).map V.int))
  erowA : H (r a) = some (.lst (rowR.map V.int))
  last : ∀ i, i < 2 → i ≠ a → LastEq H (t i) (v i)
section
variable {w0 sz bs rs cn ls : Addr} {nn : Nat → Nat} {b l r : Nat → Addr} {row : Nat → List Int} {m : Nat → Int} {t v : Nat → V} {a : Nat} {rowB rowR : List Int} {mB : Int} {tB : V} {H H' H0 : Hp}
theorem LI.mid (I : LI cl w0 sz bs rs cn ls nn b l r row m t v H) (ha : a < 2) : Mid cl w0 sz bs rs cn ls nn b l r row m t v a (row a) (row a) (m a) (t a) H where
  well := I.well
  esz := I.esz
  ebs := I.ebs
  ers := I.ers
  ecn := I.ecn
  els := I.els
  brd := fun i hi _ => I.brd i hi
  brdA := I.brd a ha
  erow := fun i hi _ => I.erow i hi
  erowA := I.erow a ha
  last := fun i hi _ => I.last i hi
theorem Mid.same (I : Mid cl w0 sz bs rs cn ls nn b l r row m t v a rowB rowR mB tB H) (s : Same H H') : Mid cl w0 sz bs rs cn ls nn b l r row m t v a rowB rowR mB tB H' where
  well := I.well.same s
  esz := s _ _ I.esz
  ebs := s _ _ I.ebs
  ers := s _ _ I.ers
  ecn := s _ _ I.ecn
  els := s _ _ I.els
  brd := fun i hi n => (I.brd i hi n).keep (Kp.of (ps := []) s) (by simp) (by simp)
  brdA := I.brdA.keep (Kp.of (ps := []) s) (by simp) (by simp)
  erow := fun i hi n => s _ _ (I.erow i hi n)
  erowA := s _ _ I.erowA
  last := fun i hi n => (I.last i hi n).keep (Kp.of (ps := []) s) (by simp)
theorem Sep.ne (S : Sep H0 w0 sz bs rs cn ls b l r) {i j : Nat} (hi : i < 2) (hj : j < 2) (n : i ≠ j) : b i ≠ b j ∧ l i ≠ l j ∧ r i ≠ r j := by
  have h1 := S.bb
  have h2 := S.ll
  have h3 := S.rr
  rcases two hi with rfl | rfl <;> rcases two hj with rfl | rfl
  · exact absurd rfl n
  · exact ⟨h1, h2, h3⟩
  · exact ⟨h1.symm, h2.symm, h3.symm⟩
  · exact absurd rfl n
theorem well_ne {H : Hp} {w c : Addr} {xs : List V} (h : Well H w) (k : Kp [c] H H') (n : w ≠ c) : Well H' w := by
  obtain ⟨x, y, z, e, q⟩ := h
  exact ⟨x, y, z, k _ _ e (by simp [n]), q⟩
/-- the law's own row is written -/
theorem Mid.wrow (I : Mid cl w0 sz bs rs cn ls nn b l r row m t v a rowB rowR mB tB H) (S : Sep H0 w0 sz bs rs cn ls b l r) (ha : a < 2) (ys : List Int) :
    Mid cl w0 sz bs rs cn ls nn b l r row m t v a rowB ys mB tB (upd H (r a) (.lst (ys.map V.int))) := by
  have rf := S.rf a ha
  simp only [List.mem_cons, List.not_mem_nil, or_false, not_or] at rf
  obtain ⟨f1, f2, f3, f4, f5, f6⟩ := rf
  have k : Kp [r a] H (upd H (r a) (.lst (ys.map V.int))) := Kp.upd (by simp)
  have nt : ∀ c ∈ [r a], ∀ xs, H c ≠ some (.tup xs) := by
    intro c hc xs e
    rw [List.mem_singleton.mp hc, I.erowA] at e
    cases e
  obtain ⟨⟨dx, eb⟩, el, _⟩ := id I.brdA
  exact {
    well := by obtain ⟨x, y, z, e, q⟩ := I.well; exact ⟨x, y, z, k _ _ e (by simp [Ne.symm f1]), q⟩
    esz := k _ _ I.esz (by simp [Ne.symm f2])
    ebs := k _ _ I.ebs (by simp [Ne.symm f3])
    ers := k _ _ I.ers (by simp [Ne.symm f4])
    ecn := k _ _ I.ecn (by simp [Ne.symm f5])
    els := k _ _ I.els (by simp [Ne.symm f6])
    brd := fun i hi n => (I.brd i hi n).keep k (by
      obtain ⟨⟨dx, eb⟩, _⟩ := I.brd i hi n
      simp [ne_of eb I.erowA (by intro z; cases z)]) (by simp [S.lr i a hi ha])
    brdA := I.brdA.keep k (by simp [ne_of eb I.erowA (by intro z; cases z)]) (by simp [S.lr a a ha ha])
    erow := fun i hi n => k _ _ (I.erow i hi n) (by simp [(S.ne hi ha n).2.2])
    erowA := upd_same
    last := fun i hi n => (I.last i hi n).keep k nt }
/-- the board is touched -/
theorem Mid.touch {rowB' : List Int} {mB' : Int} {tB' : V} (I : Mid cl w0 sz bs rs cn ls nn b l r row m t v a rowB rowR mB tB H) (S : Sep H0 w0 sz bs rs cn ls b l r) (ha : a < 2) (k : Kp [b a, l a] H H') (hB : Brd cl H' (b a) (l a) (nn a) rowB' mB' tB') :
    Mid cl w0 sz bs rs cn ls nn b l r row m t v a rowB' rowR mB' tB' H' := by
  have lf := S.lf a ha
  simp only [List.mem_cons, List.not_mem_nil, or_false, not_or] at lf
  obtain ⟨f1, f2, f3, f4, f5, f6⟩ := lf
  obtain ⟨⟨dx, eb⟩, el, _⟩ := id I.brdA
  have nb : ∀ {c : Addr} {xs : List V}, H c = some (.lst xs) → c ≠ b a := fun e => ne_of e eb (by intro z; cases z)
  have nt : ∀ c ∈ [b a, l a], ∀ xs, H c ≠ some (.tup xs) := by
    intro c hc xs e
    simp only [List.mem_cons, List.not_mem_nil, or_false] at hc
    rcases hc with rfl | rfl
    · rw [eb] at e; cases e
    · rw [el] at e; cases e
  exact {
    well := by obtain ⟨x, y, z, e, q⟩ := I.well; exact ⟨x, y, z, k _ _ e (by simp [nb e, Ne.symm f1]), q⟩
    esz := k _ _ I.esz (by simp [nb I.esz, Ne.symm f2])
    ebs := k _ _ I.ebs (by simp [nb I.ebs, Ne.symm f3])
    ers := k _ _ I.ers (by simp [nb I.ers, Ne.symm f4])
    ecn := k _ _ I.ecn (by simp [nb I.ecn, Ne.symm f5])
    els := k _ _ I.els (by simp [nb I.els, Ne.symm f6])
    brd := fun i hi n => (I.brd i hi n).keep k (by
      obtain ⟨⟨dx', eb'⟩, _⟩ := I.brd i hi n
      simp [(S.ne hi ha n).1, ne_of eb' el (by intro z; cases z)]) (by
      obtain ⟨_, el', _⟩ := I.brd i hi n
      simp [nb el', (S.ne hi ha n).2.1])
    brdA := hB
    erow := fun i hi n => k _ _ (I.erow i hi n) (by simp [nb (I.erow i hi n), Ne.symm (S.lr a i ha hi)])
    erowA := k _ _ I.erowA (by simp [nb I.erowA, Ne.symm (S.lr a a ha ha)])
    last := fun i hi n => (I.last i hi n).keep k nt }
theorem Mid.done (I : Mid cl w0 sz bs rs cn ls nn b l r row m t v a rowB rowB mB tB H) (ha : a < 2) (hm : mB = m a) (hl : LastEq H tB (v a)) : LI cl w0 sz bs rs cn ls nn b l r (up row a rowB) m (up t a tB) v H where
  well := I.well
  esz := I.esz
  ebs := I.ebs
  ers := I.ers
  ecn := I.ecn
  els := I.els
  brd := fun i hi => by
    by_cases e : i = a
    · subst e; rw [up_same, up_same, ← hm]; exact I.brdA
    · rw [up_ne _ _ e, up_ne _ _ e]; exact I.brd i hi e
  erow := fun i hi => by
    by_cases e : i = a
    · subst e; rw [up_same]; exact I.erowA
    · rw [up_ne _ _ e]; exact I.erow i hi e
  last := fun i hi => by
    by_cases e : i = a
    · subst e; rw [up_same]; exact hl
    · rw [up_ne _ _ e]; exact I.last i hi e
/-- the law's own count and last touch are written -/
theorem Mid.count (I : Mid cl w0 sz bs rs cn ls nn b l r row m t v a rowB rowR mB tB H) (S : Sep H0 w0 sz bs rs cn ls b l r) (ha : a < 2) (c : Int) :
    Mid cl w0 sz bs rs cn ls nn b l r row (up m a c) t v a rowB rowR mB tB (upd H cn (.lst ([.int (m 0), .int (m 1)].set a (.int c)))) := by
  have fix := S.fix
  simp only [List.nodup_cons, List.mem_cons, List.not_mem_nil, or_false, not_or, not_false_eq_true, List.nodup_nil, and_true] at fix
  obtain ⟨⟨x1, x2, x3, x4, x5⟩, ⟨x6, x7, x8, x9⟩, ⟨x10, x11, x12⟩, ⟨x13, x14⟩, x15⟩ := fix
  have k : Kp [cn] H (upd H cn (.lst ([.int (m 0), .int (m 1)].set a (.int c)))) := Kp.upd (by simp)
  have nt : ∀ z ∈ [cn], ∀ xs, H z ≠ some (.tup xs) := by
    intro z hz xs e
    rw [List.mem_singleton.mp hz, I.ecn] at e
    cases e
  have nb : ∀ {z C dx : Addr} {fs : List (Str × V)}, H z = some (.ins C dx fs) → z ≠ cn := fun e => ne_of e I.ecn (by intro z; cases z)
  have lf := fun i hi => S.lf i hi
  have rf := fun i hi => S.rf i hi
  simp only [List.mem_cons, List.not_mem_nil, or_false, not_or] at lf rf
  obtain ⟨⟨dx, eb⟩, el, _⟩ := id I.brdA
  exact {
    well := by obtain ⟨x, y, z, e, q⟩ := I.well; exact ⟨x, y, z, k _ _ e (by simp [x4]), q⟩
    esz := k _ _ I.esz (by simp [x8])
    ebs := k _ _ I.ebs (by simp [x11])
    ers := k _ _ I.ers (by simp [x13])
    ecn := by rw [upd_same, set2 V.int m c ha]
    els := k _ _ I.els (by simp [Ne.symm x15])
    brd := fun i hi n => by
      rw [up_ne _ _ n]
      refine (I.brd i hi n).keep k ?_ (by simp [(lf i hi).2.2.2.2.1])
      obtain ⟨⟨dx', eb'⟩, _⟩ := I.brd i hi n
      simp [nb eb']
    brdA := I.brdA.keep k (by simp [nb eb]) (by simp [(lf a ha).2.2.2.2.1])
    erow := fun i hi n => k _ _ (I.erow i hi n) (by simp [(rf i hi).2.2.2.2.1])
    erowA := k _ _ I.erowA (by simp [(rf a ha).2.2.2.2.1])
    last := fun i hi n => (I.last i hi n).keep k nt }
theorem Mid.lasts (I : Mid cl w0 sz bs rs cn ls nn b l r row m t v a rowB rowR mB tB H) (S : Sep H0 w0 sz bs rs cn ls b l r) (ha : a < 2) (c : V) :
    Mid cl w0 sz bs rs cn ls nn b l r row m t (up v a c) a rowB rowR mB tB (upd H ls (.lst ([v 0, v 1].set a c))) := by
  have fix := S.fix
  simp only [List.nodup_cons, List.mem_cons, List.not_mem_nil, or_false, not_or, not_false_eq_true, List.nodup_nil, and_true] at fix
  obtain ⟨⟨x1, x2, x3, x4, x5⟩, ⟨x6, x7, x8, x9⟩, ⟨x10, x11, x12⟩, ⟨x13, x14⟩, x15⟩ := fix
  have k : Kp [ls] H (upd H ls (.lst ([v 0, v 1].set a c))) := Kp.upd (by simp)
  have nt : ∀ z ∈ [ls], ∀ xs, H z ≠ some (.tup xs) := by
    intro z hz xs e
    rw [List.mem_singleton.mp hz, I.els] at e
    cases e
  have nb : ∀ {z C dx : Addr} {fs : List (Str × V)}, H z = some (.ins C dx fs) → z ≠ ls := fun e => ne_of e I.els (by intro z; cases z)
  have lf := fun i hi => S.lf i hi
  have rf := fun i hi => S.rf i hi
  simp only [List.mem_cons, List.not_mem_nil, or_false, not_or] at lf rf
  obtain ⟨⟨dx, eb⟩, el, _⟩ := id I.brdA
  exact {
    well := by obtain ⟨x, y, z, e, q⟩ := I.well; exact ⟨x, y, z, k _ _ e (by simp [x5]), q⟩
    esz := k _ _ I.esz (by simp [x9])
    ebs := k _ _ I.ebs (by simp [x12])
    ers := k _ _ I.ers (by simp [x14])
    ecn := k _ _ I.ecn (by simp [x15])
    els := by rw [upd_same]; exact congrArg (fun z => some (HO.lst z)) (set2 id v c ha)
    brd := fun i hi n => by
      refine (I.brd i hi n).keep k ?_ (by simp [(lf i hi).2.2.2.2.2])
      obtain ⟨⟨dx', eb'⟩, _⟩ := I.brd i hi n
      simp [nb eb']
    brdA := I.brdA.keep k (by simp [nb eb]) (by simp [(lf a ha).2.2.2.2.2])
    erow := fun i hi n => k _ _ (I.erow i hi n) (by simp [(rf i hi).2.2.2.2.2])
    erowA := k _ _ I.erowA (by simp [(rf a ha).2.2.2.2.2])
    last := fun i hi n => by
      rw [up_ne _ _ n]
      exact (I.last i hi n).keep k nt }
end
end
end S

set_option Elab.async false
set_option linter.all false
set_option maxRecDepth 100000
set_option maxHeartbeats 16000000
namespace S
open PySem L2
local macro_rules | `(tactic| walk_at "at") => `(tactic| first | assumption | exact upd_same | (refine (upd_ne ?_).trans ?_; (walk_at "ne"); (walk_at "at")) | (refine Same.at ?_ ?_; assumption; (walk_at "at")))
local macro_rules | `(tactic| walk_at "ne") => `(tactic| first | assumption | exact Ne.symm (by assumption) | ((refine' ne_of_none ?h ?n); (case n => assumption); (case h => walk_at "at")) | ((refine Ne.symm ?_); (refine' ne_of_none ?h ?n); (case n => assumption); (case h => walk_at "at")))
local macro_rules | `(tactic| walk_at "cond") => `(tactic| first | trivial | exact Or.inl ⟨by decide, by decide⟩ | exact Or.inr ⟨by decide, by decide⟩ | exact Or.inl ⟨by omega, by omega⟩ | exact Or.inr ⟨by omega, by omega⟩ | (show (0 : Int) < _; omega) | (show (0 : Int) < _; decide))
local macro_rules | `(tactic| walk_at "go1") => `(tactic| first
  | ((with_reducible refine' g_var ?h ?_); (case h => exact rfl))
  | with_reducible refine g_c ?_ | with_reducible refine g_op ?_ | with_reducible refine g_un ?_ | with_reducible refine g_I0 ?_ | with_reducible refine g_U ?_
  | ((with_reducible refine' g_I ?h ?_); (case h => walk_at "cond"))
  | ((with_reducible refine' g_eq ?h ?_); (case h => exact rfl)) | ((with_reducible refine' g_ne ?h ?_); (case h => exact rfl))
  | with_reducible refine g_cb ?_ | with_reducible refine g_nil ?_ | with_reducible refine g_cons ?_
  | (with_reducible refine g_tup ?_) | (with_reducible refine g_lst ?_) | with_reducible refine g_fn ?_ | with_reducible refine g_fnJ ?_
  | with_reducible refine g_fld ?_ | with_reducible refine g_mt ?_ | with_reducible refine g_mtJ ?_ | with_reducible refine g_mk ?_ | with_reducible refine g_mkJ ?_
  | with_reducible refine g_test ?_ | with_reducible refine g_tB ?_ | with_reducible refine g_and ?_ | with_reducible refine g_or ?_ | with_reducible refine g_not ?_ | with_reducible refine g_andV ?_ | with_reducible refine g_orV ?_ | with_reducible refine g_notV ?_ | with_reducible refine g_ifE ?_
  | with_reducible refine g_bl ?_ | with_reducible refine iteT ?_ | with_reducible refine iteF ?_ | with_reducible refine iteNT ?_ | with_reducible refine iteNF ?_
  | with_reducible refine g_seq ?_ | with_reducible refine g_next ?_ | with_reducible refine g_drop ?_ | with_reducible refine g_ret ?_ | with_reducible refine g_retN ?_ | with_reducible refine g_if ?_ | with_reducible refine g_asg ?_ | with_reducible refine g_name ?_ | with_reducible refine g_sub ?_ | with_reducible refine g_sfld ?_ | with_reducible refine g_raise ?_ | with_reducible refine g_tryAs ?_
  | ((with_reducible refine' g_fld1 ?h ?c ?n ?l ?_); (case h => walk_at "at"); (case c => walk_at "cls"); (case n => walk_at "nat"); (case l => exact rfl))
  | ((with_reducible refine' g_sfld1 ?h ?c ?n ?l ?_); (case h => walk_at "at"); (case c => walk_at "cls"); (case n => walk_at "nat"); (case l => exact Nat.le_of_ble_eq_true rfl))
  | with_reducible refine g_aug ?_ | with_reducible refine g_rAdd ?_
  | ((with_reducible refine' g_aug1 ?h ?c ?n ?l ?_); (case h => walk_at "at"); (case c => walk_at "cls"); (case n => walk_at "nat"); (case l => exact rfl))
  | ((with_reducible refine' g_aug2 ?h ?l ?_); (case h => walk_at "at"); (case l => exact Nat.le_of_ble_eq_true rfl))
  | ((with_reducible refine' g_mt1 ?h ?l ?_); (case h => walk_at "at"); (case l => exact rfl))
  | ((with_reducible refine' g_ixL ?h ?e ?_); (case h => walk_at "at"); (case e => exact rfl))
  | ((with_reducible refine' g_ixT ?h ?e ?_); (case h => walk_at "at"); (case e => exact rfl))
  | ((with_reducible refine' g_len ?h ?_); (case h => walk_at "at")) | ((with_reducible refine' g_list ?h ?_); (case h => walk_at "at"))
  | with_reducible refine g_for ?_ | with_reducible refine g_rng1 ?_ | with_reducible refine g_rng2 ?_ | with_reducible refine g_lsti ?_ | with_reducible refine g_comp ?_
  | ((with_reducible refine' g_rngW ?h1 ?h2 ?_); (case h1 => omega); (case h2 => omega)) | ((with_reducible refine' g_rngW ?h1 ?h2 ?_); (case h1 => decide); (case h2 => decide))
  | ((with_reducible refine' g_lstW ?h ?_); (case h => exact SqL.of (by walk_at "at")))
  | with_reducible refine g_bm0 ?_ | ((with_reducible refine' g_clear ?h ?_); (case h => walk_at "at"))
  | with_reducible refine g_bm ?_ | ((with_reducible refine' g_tyL ?h ?_); (case h => walk_at "at")) | ((with_reducible refine' g_app ?h ?l ?_); (case h => walk_at "at"); (case l => first | exact Nat.le_of_ble_eq_true rfl | omega)))
local macro_rules | `(tactic| walk_at "go") => `(tactic| repeat (walk_at "go1"))
set_option hygiene false in
local macro_rules | `(tactic| walk_at "cls") => `(tactic| first | assumption | exact T.k_Board)
set_option hygiene false in
local macro_rules | `(tactic| walk_at "nat") => `(tactic| first | assumption | exact T.n_Board_many_touches | exact T.n_Board_newest_touch | exact T.n_Board_numbers | exact T.n_Board_size)
section
variable {P : Program} {w : World} {K : PySem.W.Frag} {mg : Str → Option Value} {base : Heap} {cl : Cl}
def sp_law (K : PySem.W.Frag) : Sp := fun vs H Q _ => ∃ (a : Addr) (ns : List Int), vs = [.ref a] ∧ SqL K H a (ns.map V.int) ∧ ns.length ≤ 63 ∧ ∀ H', Q (.bl true) H'
theorem rng2 (f : Nat → V) : (List.range 2).map f = [f 0, f 1] := rfl
/-- the two boards as they are made -/
def BdP (cl : Cl) (Hs : Hp) (nn : Nat → Nat) (D : Addr) (i : Nat) (acc : List V) (H' : Hp) : Prop := ∃ b l : Nat → Addr, acc = (List.range i).map (fun j => V.ref (b j)) ∧ H' D = some (.lst acc) ∧ Same Hs H' ∧
  (∀ j, j < i → Brd cl H' (b j) (l j) (nn j) (newRow (nn j)) 0 .non ∧ Hs (b j) = none ∧ Hs (l j) = none ∧ l j ≠ D) ∧ (∀ j k, j < k → k < i → b j ≠ b k ∧ l j ≠ l k)
/-- the law's own two rows -/
def RwP (Hs : Hp) (nn : Nat → Nat) (D : Addr) (i : Nat) (acc : List V) (H' : Hp) : Prop := ∃ r : Nat → Addr, acc = (List.range i).map (fun j => V.ref (r j)) ∧ H' D = some (.lst acc) ∧ Same Hs H' ∧
  (∀ j, j < i → H' (r j) = some (.lst ((newRow (nn j)).map V.int)) ∧ Hs (r j) = none ∧ r j ≠ D) ∧ (∀ j k, j < k → k < i → r j ≠ r k)
theorem BdP.step {Hs H1 H2 H' : Hp} {nn : Nat → Nat} {D x dx l0 : Addr} {i : Nat} {acc : List V} (hD : Hs D = none) (p : BdP cl Hs nn D i acc H') (hx : H' x = none) (hdx : H' dx = none) (ne : dx ≠ x) (e1 : H1 = upd (upd H' dx (.own x)) x (.ins cl.Board dx [])) (hl : H1 l0 = none) (k : Kp [x] H1 H2)
    (hB : Brd cl H2 x l0 (nn i) (newRow (nn i)) 0 .non) : H2 D = some (.lst acc) ∧ BdP cl Hs nn D (i + 1) (acc ++ [.ref x]) (upd H2 D (.lst (acc ++ [.ref x]))) := by
  obtain ⟨b, l, rfl, eD, sm, hb, hd⟩ := p
  have k2 : ∀ c o, H' c = some o → H2 c = some o := fun c o e => by
    have nx : c ≠ x := ne_of_none e hx
    refine k _ _ ?_ (by simp [nx])
    rw [e1, upd_ne nx, upd_ne (ne_of_none e hdx)]
    exact e
  have kD : ∀ c o, H' c = some o → c ≠ D → upd H2 D (.lst ((List.range i).map (fun j => V.ref (b j)) ++ [.ref x])) c = some o := fun c o e n => by rw [upd_ne n]; exact k2 c o e
  have hl' : H' l0 = none := by
    rw [e1] at hl
    have n1 : l0 ≠ x := by rintro rfl; rw [upd_same] at hl; cases hl
    rw [upd_ne n1] at hl
    have n2 : l0 ≠ dx := by rintro rfl; rw [upd_same] at hl; cases hl
    rwa [upd_ne n2] at hl
  have nDx : x ≠ D := (ne_of_none eD hx).symm
  have nDl : l0 ≠ D := (ne_of_none eD hl').symm
  refine ⟨k2 _ _ eD, up b i x, up l i l0, ?_, upd_same, fun c o e => kD _ _ (sm _ _ e) (ne_of_none e hD), fun j hj => ?_, fun j m hjm hm => ?_⟩
  · rw [List.range_succ, List.map_append]
    congr 1
    · refine List.map_congr_left fun j hj => ?_
      rw [up_ne _ _ (by have := List.mem_range.mp hj; omega)]
    · simp [up_same]
  · by_cases e : j = i
    · subst e
      rw [up_same, up_same]
      refine ⟨hB.keep (ps := [D]) (Kp.upd (by simp)) (by simp [nDx]) (by simp [nDl]), sm.free hx, sm.free hl', nDl⟩
    · rw [up_ne _ _ e, up_ne _ _ e]
      obtain ⟨q1, q2, q3, q4⟩ := hb j (by omega)
      obtain ⟨⟨z, eb⟩, el, rest⟩ := q1
      exact ⟨⟨⟨z, kD _ _ eb (ne_of eb eD (by intro z; cases z))⟩, kD _ _ el q4, rest⟩, q2, q3, q4⟩
  · have hj : j ≠ i := by omega
    rw [up_ne _ _ hj, up_ne _ _ hj]
    obtain ⟨⟨⟨z, eb⟩, el, rest⟩, q2, q3, q4⟩ := hb j (by omega)
    by_cases e : m = i
    · subst e
      rw [up_same, up_same]
      exact ⟨ne_of_none eb hx, ne_of_none el hl'⟩
    · rw [up_ne _ _ e, up_ne _ _ e]
      exact hd j m hjm (by omega)
theorem RwP.step {Hs H2 H' : Hp} {nn : Nat → Nat} {D p : Addr} {i : Nat} {acc : List V} (hD : Hs D = none) (q : RwP Hs nn D i acc H') (s : Same H' H2) (hp : H' p = none) (e : H2 p = some (.lst ((newRow (nn i)).map V.int))) :
    H2 D = some (.lst acc) ∧ RwP Hs nn D (i + 1) (acc ++ [.ref p]) (upd H2 D (.lst (acc ++ [.ref p]))) := by
  obtain ⟨r, rfl, eD, sm, hb, hd⟩ := q
  have nDp : p ≠ D := (ne_of_none eD hp).symm
  refine ⟨s _ _ eD, up r i p, ?_, upd_same, fun c o z => by rw [upd_ne (ne_of_none z hD)]; exact s _ _ (sm _ _ z), fun j hj => ?_, fun j m hjm hm => ?_⟩
  · rw [List.range_succ, List.map_append]
    congr 1
    · refine List.map_congr_left fun j hj => ?_
      rw [up_ne _ _ (by have := List.mem_range.mp hj; omega)]
    · simp [up_same]
  · by_cases z : j = i
    · subst z
      rw [up_same]
      exact ⟨by rw [upd_ne nDp]; exact e, sm.free hp, nDp⟩
    · rw [up_ne _ _ z]
      obtain ⟨q1, q2, q3⟩ := hb j (by omega)
      exact ⟨by rw [upd_ne q3]; exact s _ _ q1, q2, q3⟩
  · have hj : j ≠ i := by omega
    rw [up_ne _ _ hj]
    obtain ⟨q1, q2, q3⟩ := hb j (by omega)
    by_cases z : m = i
    · subst z
      rw [up_same]
      exact ne_of_none q1 hp
    · rw [up_ne _ _ z]
      exact hd j m hjm (by omega)
theorem eqd_pair {H : Hp} {p q k k' : Addr} {x : V} (ne : p ≠ q) (hp : H p = some (.tup [.ref k, x])) (hq : H q = some (.tup [.ref k', x])) (hk : EqD K H 1 (.ref k) (.ref k') true) (fx : flatV x = true) (ex : eqV x x = true) : EqD K H 2 (.ref p) (.ref q) true := by
  have h := EqD.tup (K := K) (n := 1) (e := fun _ => true) ne (SqT.of hp) (SqT.of hq) (fun j y z hy hz => ?_)
  · exact h
  · match j, hy, hz with
    | 0, hy, hz => cases hy; cases hz; exact hk
    | 1, hy, hz =>
      cases hy; cases hz
      have := EqD.flat (K := K) (H := H) (n := 1) fx fx
      rw [ex] at this
      exact this
theorem lst_set (row : List Int) (c : Nat) (x : Int) : (row.map V.int).set c (.int x) = (row.set c x).map V.int := by rw [List.map_set]
abbrev s_law : Stmt := top 48
theorem sc_law : FnScope ["script", "first", "sizes", "boards", "rows", "counts", "lasts", "k", "well", "at", "writes", "number", "cell", "due", "j"] ["script"] (defScope s_law) := ⟨rfl, rfl, rfl, by decide +kernel, rfl, by decide +kernel, by decide +kernel⟩
theorem ok_law {fa : Addr} {fd : FuncData} (D : Fun K "law" "law" s_law fa fd) (T : Txt K mg cl) (G_law_take : FnT P w K mg base "_law_take" 1 ["well", "many"] sp_law_take) (G_law_well : FnT P w K mg base "_law_well" 1 ["script", "k"] (sp_law_well K)) (G_law_far : FnT P w K mg base "_law_far" 2 ["well"] sp_law_far)
    (G_Board : MakeT P w K mg base "Board" cl.Board 2 ["self", "size"] (sp_Board_init cl)) (G_law_touched : FnT P w K mg base "_law_touched" 3 ["board", "writes", "cell", "number"] (sp_law_touched cl)) (G_law_right : FnT P w K mg base "_law_right" 2 ["board", "size", "row", "many", "last"] (sp_law_right cl)) (G_law_cells_right : FnT P w K mg base "_law_cells_right" 5 ["well", "size"] sp_law_cells_right) :
    FnOk P w K mg base (CXK P w) 7 fa fd ["script"] (sp_law K) := by
  refine D.okX sc_law (fun vs H Q E h => ?_) (fun cdv A outer s H vs Q E hr h => ?_)
  · obtain ⟨a, ns, rfl, _⟩ := h
    rfl
  · obtain ⟨a, ns, rfl, hS, hl, k⟩ := h
    refine ⟨_, (pss_cons (ps_set (i := 1) sc_law.nd rfl (by first | exact Or.inl rfl | exact Or.inr rfl) (pe_fn G_law_well hr (by decide) rfl passX (pa_cons (pv 0) (pa_cons pe_int pa_nil))))
      (pss_cons (ps_set (i := 2) sc_law.nd rfl (by first | exact Or.inl rfl | exact Or.inr rfl) (pe_lst (pa_cons (pe_op op_add pe_int (pe_fn G_law_take hr (by decide) rfl passX (pa_cons (pv 1) (pa_cons pe_int pa_nil)))) (pa_cons (pe_op op_add pe_int (pe_fn G_law_take hr (by decide) rfl passX (pa_cons (pv 1) (pa_cons pe_int pa_nil)))) pa_nil))))
      (pss_cons (ps_setComp (ix := 3) (N := ["size"]) (nt := 1) (fr := []) rfl (comp_ok0 rfl rfl (by decide +kernel) (by decide +kernel) rfl rfl) (pi_listK (K := K) (pv 2)) (gk_name (by decide)) (fun _ _ _ _ _ => pg_name (i := 0) (show (["size"] : List Str).Nodup by decide +kernel) rfl (Or.inl rfl) (Or.inr rfl)) (fun _ _ _ _ _ => (pe_mk G_Board hr (by decide) rfl passC (pa_cons (pv 0) pa_nil))) sc_law.nd rfl rfl)
      (pss_cons (ps_setComp (ix := 4) (N := ["size"]) (nt := 1) (fr := []) rfl (comp_ok0 rfl rfl (by decide +kernel) (by decide +kernel) rfl rfl) (pi_listK (K := K) (pv 2)) (gk_name (by decide)) (fun _ _ _ _ _ => pg_name (i := 0) (show (["size"] : List Str).Nodup by decide +kernel) rfl (Or.inl rfl) (Or.inr rfl)) (fun _ _ _ _ _ => (pe_op op_cat (pe_op op_rep (pe_lst (pa_cons pe_int (pa_cons (pe_un un_neg pe_int) (pa_cons pe_int (pa_cons pe_int pa_nil))))) (pv 0)) (pe_lst (pa_cons (pe_un un_neg pe_int) (pa_cons (pe_un un_neg pe_int) (pa_cons pe_int (pa_cons pe_int pa_nil))))))) sc_law.nd rfl rfl)
      (pss_cons (ps_set (i := 5) sc_law.nd rfl (by first | exact Or.inl rfl | exact Or.inr rfl) (pe_lst (pa_cons pe_int (pa_cons pe_int pa_nil))))
      (pss_cons (ps_set (i := 6) sc_law.nd rfl (by first | exact Or.inl rfl | exact Or.inr rfl) (pe_lst (pa_cons pe_non (pa_cons pe_non pa_nil))))
      (pss_cons (ps_for passOwnX rfl (pi_range1 rfl T.z_range (pa_cons (pe_callB (call_max2 rfl) (by rfl) T.z_max PyProof.Rows.boot_max (pa_cons pe_int (pa_cons (pe_callB (call_min2 rfl) (by rfl) T.z_min PyProof.Rows.boot_min (pa_cons pe_int (pa_cons (pe_callB (call_lenK (K := K)) (by rfl) T.z_len PySem.boot_len (pa_cons (pv 0) pa_nil)) pa_nil))) pa_nil))) pa_nil)) (pg_name (i := 7) sc_law.nd rfl (by first | exact Or.inl rfl | exact Or.inr rfl))
         (pss_cons (ps_set (i := 8) sc_law.nd rfl (by first | exact Or.inl rfl | exact Or.inr rfl) (pe_fn G_law_well hr (by decide) rfl passX (pa_cons (pv 0) (pa_cons (pv 7) pa_nil))))
          (pss_cons (ps_set (i := 9) sc_law.nd rfl (by first | exact Or.inl rfl | exact Or.inr rfl) (pe_fn G_law_take hr (by decide) rfl passX (pa_cons (pv 8) (pa_cons pe_int pa_nil))))
          (pss_cons (ps_set (i := 10) sc_law.nd rfl (by first | exact Or.inl rfl | exact Or.inr rfl) (pe_cmpR op_eq (pe_fn G_law_take hr (by decide) rfl passX (pa_cons (pv 8) (pa_cons pe_int pa_nil))) pe_int (nomark _)))
          (pss_cons (ps_set (i := 11) sc_law.nd rfl (by first | exact Or.inl rfl | exact Or.inr rfl) (pe_ix (ix_listK (K := K)) (pe_lst (pa_cons (pe_fn G_law_take hr (by decide) rfl passX (pa_cons (pv 8) (pa_cons pe_int pa_nil))) (pa_cons (pe_fn G_law_far hr (by decide) rfl passX (pa_cons (pv 8) pa_nil)) (pa_cons (pe_op op_sub pe_int (pe_fn G_law_far hr (by decide) rfl passX (pa_cons (pv 8) pa_nil))) pa_nil)))) (pe_fn G_law_take hr (by decide) rfl passX (pa_cons (pv 8) (pa_cons pe_int pa_nil))) (fun _ _ => rfl)))
          (pss_cons (ps_set (i := 12) sc_law.nd rfl (by first | exact Or.inl rfl | exact Or.inr rfl) (pe_fn G_law_take hr (by decide) rfl passX (pa_cons (pv 8) (pa_cons (pe_callB (call_lenK (K := K)) (by rfl) T.z_len PySem.boot_len (pa_cons (pe_ix (ix_listK (K := K)) (pv 4) (pv 9) (fun _ _ => rfl)) pa_nil)) pa_nil))))
          (pss_cons (ps_if (pt_cmpR op_eq (pe_fn G_law_take hr (by decide) rfl passX (pa_cons (pv 8) (pa_cons pe_int pa_nil))) pe_int (nomark _))
             (pss_cons (ps_set (i := 12) sc_law.nd rfl (by first | exact Or.inl rfl | exact Or.inr rfl) (pe_ix (ix_listK (K := K)) (pe_lst (pa_cons (pe_un un_neg pe_int) (pa_cons (pe_callB (call_lenK (K := K)) (by rfl) T.z_len PySem.boot_len (pa_cons (pe_ix (ix_listK (K := K)) (pv 4) (pv 9) (fun _ _ => rfl)) pa_nil)) (pa_cons (pe_op op_sub pe_int (pe_fn G_law_far hr (by decide) rfl passX (pa_cons (pv 8) pa_nil))) (pa_cons (pe_op op_add (pe_op op_sub (pe_callB (call_lenK (K := K)) (by rfl) T.z_len PySem.boot_len (pa_cons (pe_ix (ix_listK (K := K)) (pv 4) (pv 9) (fun _ _ => rfl)) pa_nil)) pe_int) (pe_fn G_law_far hr (by decide) rfl passX (pa_cons (pv 8) pa_nil))) pa_nil))))) (pe_fn G_law_take hr (by decide) rfl passX (pa_cons (pv 8) (pa_cons pe_int pa_nil))) (fun _ _ => rfl)))
              (pss_one (ps_if (pt_cmpR (op_neK (K := K) (n := 1) (huN hr 2)) (pe_fn G_law_touched hr (by decide) rfl passX (pa_cons (pe_ix (ix_listK (K := K)) (pv 3) (pv 9) (fun _ _ => rfl)) (pa_cons (pv 10) (pa_cons (pv 12) (pa_cons (pv 11) pa_nil))))) (pe_tup (pa_cons (pe_lst (pa_cons pe_bl (pa_cons pe_bl (pa_cons pe_bl (pa_cons pe_bl (pa_cons pe_bl (pa_cons pe_bl pa_nil))))))) (pa_cons pe_non pa_nil))) (nomark _))
                (pss_one (ps_ret pe_bl))
                pss_nil)))
             (pss_cons (ps_set (i := 13) sc_law.nd rfl (by first | exact Or.inl rfl | exact Or.inr rfl) pe_non)
              (pss_cons (ps_if (pt_val (pv 10))
                 (pss_one (ps_asg (pv 11) (pg_sub (pe_ix (ix_listK (K := K)) (pv 4) (pv 9) (fun _ _ => rfl)) (pv 12) set_list)))
                 (pss_one (ps_set (i := 13) sc_law.nd rfl (by first | exact Or.inl rfl | exact Or.inr rfl) (pe_ix (ix_listK (K := K)) (pe_ix (ix_listK (K := K)) (pv 4) (pv 9) (fun _ _ => rfl)) (pv 12) (fun _ _ => rfl)))))
              (pss_cons (ps_if (pt_cmpR (op_neK (K := K) (n := 1) (huN hr 2)) (pe_fn G_law_touched hr (by decide) rfl passX (pa_cons (pe_ix (ix_listK (K := K)) (pv 3) (pv 9) (fun _ _ => rfl)) (pa_cons (pv 10) (pa_cons (pv 12) (pa_cons (pv 11) pa_nil))))) (pe_tup (pa_cons (pe_lst pa_nil) (pa_cons (pv 13) pa_nil))) (nomark _))
                 (pss_one (ps_ret pe_bl))
                 pss_nil)
              (pss_cons (ps_asg (pe_op op_add (pe_ix (ix_listK (K := K)) (pv 5) (pv 9) (fun _ _ => rfl)) pe_int) (pg_sub (pv 5) (pv 9) set_list))
              (pss_one (ps_asg (pe_tup (pa_cons (pe_ix (ix_listK (K := K)) (pe_lst (pa_cons pe_str (pa_cons pe_str pa_nil))) (pe_callTy call_int1 (by rfl) T.z_int PyProof.Rows.boot_int (pa_cons (pv 10) pa_nil)) (fun _ _ => rfl)) (pa_cons (pv 12) (pa_cons (pe_ix (ix_listK (K := K)) (pe_ix (ix_listK (K := K)) (pv 4) (pv 9) (fun _ _ => rfl)) (pv 12) (fun _ _ => rfl)) pa_nil)))) (pg_sub (pv 6) (pv 9) set_list))))))))
          (pss_one (ps_for passOwnX rfl (pi_range1 rfl T.z_range (pa_cons pe_int pa_nil)) (pg_name (i := 14) sc_law.nd rfl (by first | exact Or.inl rfl | exact Or.inr rfl))
            (pss_one (ps_if (pt_not (pt_val (pe_fn G_law_right hr (by decide) rfl passX (pa_cons (pe_ix (ix_listK (K := K)) (pv 3) (pv 14) (fun _ _ => rfl)) (pa_cons (pe_ix (ix_listK (K := K)) (pv 2) (pv 14) (fun _ _ => rfl)) (pa_cons (pe_ix (ix_listK (K := K)) (pv 4) (pv 14) (fun _ _ => rfl)) (pa_cons (pe_ix (ix_listK (K := K)) (pv 5) (pv 14) (fun _ _ => rfl)) (pa_cons (pe_ix (ix_listK (K := K)) (pv 6) (pv 14) (fun _ _ => rfl)) pa_nil))))))))
               (pss_one (ps_ret pe_bl))
               pss_nil)))))))))))
      (pss_one (ps_ret (pe_fn G_law_cells_right hr (by decide) rfl passX (pa_cons (pv 1) (pa_cons (pe_ix (ix_listK (K := K)) (pv 2) pe_int (fun _ _ => rfl)) pa_nil)))))))))))), ?_⟩
    have h20 : 2000 ≤ sizeLine := by decide
    have hlen : (ns.map V.int).length = ns.length := List.length_map _
    walk_at "go"
    refine ⟨a, ns, 0, rfl, hS, by omega, fun w0 H1 n0 s1 hw1 => ?_⟩
    walk_at "go"
    refine ⟨w0, 7, rfl, hw1, by decide, by decide, fun r1 H2 a2 c2 w2 b2 => ?_⟩
    walk_at "go"
    refine ⟨w0, 7, rfl, w2, by decide, by decide, fun r2 H3 a3 c3 w3 b3 => ?_⟩
    walk_at "go"
    refine ⟨by show 2 ≤ sizeLine; omega, fun sz hsz => ?_⟩
    obtain ⟨nn, e0, e1, g0⟩ : ∃ nn : Nat → Nat, (nn 0 : Int) = 2 + r1 ∧ (nn 1 : Int) = 2 + r2 ∧ ∀ i, i < 2 → 2 ≤ nn i ∧ nn i ≤ 8 := by
      refine ⟨fun i => if i = 0 then (2 + r1).toNat else (2 + r2).toNat, ?_, ?_, fun i hi => ?_⟩
      · show (((2 + r1).toNat : Nat) : Int) = _; omega
      · show (((2 + r2).toNat : Nat) : Int) = _; omega
      · show 2 ≤ (if i = 0 then _ else _) ∧ (if i = 0 then _ else _) ≤ 8
        split <;> omega
    have s3 : Same H H3 := same_but s1 n0 (b2.trans b3)
    have n3 : H3 sz = none := hsz
    rw [← e0, ← e1] at *
    have nsz : sz ≠ w0 := w3.ne hsz
    have w4 := w3.same (same_new (o := .lst [.int (nn 0), .int (nn 1)]) hsz)
    have s4 : Same H (upd H3 sz (.lst [.int (nn 0), .int (nn 1)])) := s3.trans (same_new hsz)
    have e4 : upd H3 sz (.lst [.int (nn 0), .int (nn 1)]) sz = some (.lst [.int (nn 0), .int (nn 1)]) := upd_same
    have n4 : H sz = none := s3.free hsz
    clear hsz n3 w3 b3 c3 a3 w2 b2 c2 a2 e0 e1
    revert w4 s4 e4
    generalize upd H3 sz (.lst [.int (nn 0), .int (nn 1)]) = H4
    intro w4 s4 e4
    walk_at "go"
    refine comp_listP (K := K) (xs := [.int (nn 0), .int (nn 1)]) (by show 2 < sizeLine; omega) (BdP cl H4 nn) ?_ ?_ ?_ ?_
    · intro D hD
      exact ⟨fun _ => 0, fun _ => 0, rfl, upd_same, same_new hD, fun j hj => absurd hj (by omega), fun j m _ hm => absurd hm (by omega)⟩
    · rintro D i acc H' ⟨b, l, rfl, eD, sm, _, _⟩
      exact ⟨eD, by rw [List.length_map, List.length_range], SqL.of (sm _ _ e4)⟩
    · intro D i x acc H' hD hx p
      have hi : i < 2 := (List.getElem?_eq_some_iff.mp hx).1
      have ex : x = .int (nn i) := by
        rcases two hi with rfl | rfl <;> exact (Option.some.inj hx).symm
      subst ex
      walk_at "go"
      intro x dx hx hdx ne
      refine ⟨x, dx, nn i, rfl, upd_same, ?_⟩
      have g := g0 i hi
      rw [if_pos (by omega)]
      intro l0 H2 hl0 kp hB
      rw [show ((nn i : Nat) : Int).toNat = nn i by omega] at hB
      exact ⟨rfl, BdP.step hD p hx hdx ne rfl hl0 kp hB⟩
    rintro bs acc H5 hbs ⟨b, l, rfl, ebs, s5, hb, hd⟩
    have nbsw : bs ≠ w0 := w4.ne hbs
    have nbssz : bs ≠ sz := (ne_of_none e4 hbs).symm
    have e5 := s5 _ _ e4
    walk_at "go"
    refine comp_listP (K := K) (xs := [.int (nn 0), .int (nn 1)]) (by show 2 < sizeLine; omega) (RwP H5 nn) ?_ ?_ ?_ ?_
    · intro D hD
      exact ⟨fun _ => 0, rfl, upd_same, same_new hD, fun j hj => absurd hj (by omega), fun j m _ hm => absurd hm (by omega)⟩
    · rintro D i acc H' ⟨r, rfl, eD, sm, _, _⟩
      exact ⟨eD, by rw [List.length_map, List.length_range], SqL.of (sm _ _ (s5 _ _ e4))⟩
    · intro D i x acc H' hD hx p
      have hi : i < 2 := (List.getElem?_eq_some_iff.mp hx).1
      have ex : x = .int (nn i) := by
        rcases two hi with rfl | rfl <;> exact (Option.some.inj hx).symm
      subst ex
      have g := g0 i hi
      walk_at "go"
      refine ⟨by show 4 ≤ sizeLine; omega, fun p1 h1 => ?_⟩
      walk_at "go"
      refine ⟨p1, nn i, _, rfl, rfl, upd_same, by omega, by omega, by show 4 * ((nn i : Nat) : Int).toNat ≤ sizeLine; omega, fun p2 h2 => ?_⟩
      walk_at "go"
      refine ⟨by show 4 ≤ sizeLine; omega, fun p3 h3 => ?_⟩
      refine g_cat (same_new h3 _ _ upd_same) upd_same ?_ (fun p4 h4 => ?_)
      · rw [len_rep]
        show ((nn i : Nat) : Int).toNat * 4 + 4 ≤ sizeLine
        omega
      refine RwP.step hD p (((same_new h1).trans (same_new h2)).trans ((same_new h3).trans (same_new h4))) ((((same_new h1).trans (same_new h2)).trans (same_new h3)).free h4) ?_
      rw [upd_same]
      unfold newRow
      rw [List.map_append, show ((nn i : Nat) : Int).toNat = nn i by omega, ← rep_map (nn i) [2, -1, 0, 0]]
      rfl
    rintro rs acc H6 hrs ⟨r, rfl, ers, s6, hr6, hd6⟩
    have w5 := w4.same s5
    have nrsw : rs ≠ w0 := w5.ne hrs
    have nrssz : rs ≠ sz := (ne_of_none e5 hrs).symm
    have nrsbs : rs ≠ bs := (ne_of_none ebs hrs).symm
    walk_at "go"
    refine ⟨by show 2 ≤ sizeLine; omega, fun cn hcn => ?_⟩
    walk_at "go"
    refine ⟨by show 2 ≤ sizeLine; omega, fun ls hls => ?_⟩
    walk_at "go"
    have s06 : Same H H6 := (s4.trans s5).trans s6
    have S : Sep H w0 sz bs rs cn ls b l r := by
      have w6 := w5.same s6
      have ec : upd H6 cn (.lst [.int 0, .int 0]) cn = some (.lst [.int 0, .int 0]) := upd_same
      have c1 : cn ≠ w0 := w6.ne hcn
      have c2 : cn ≠ sz := (ne_of_none (s6 _ _ e5) hcn).symm
      have c3 : cn ≠ bs := (ne_of_none (s6 _ _ ebs) hcn).symm
      have c4 : cn ≠ rs := (ne_of_none ers hcn).symm
      have d1 : ls ≠ w0 := (w6.same (same_new hcn)).ne hls
      have d2 : ls ≠ sz := (ne_of_none (same_new hcn _ _ (s6 _ _ e5)) hls).symm
      have d3 : ls ≠ bs := (ne_of_none (same_new hcn _ _ (s6 _ _ ebs)) hls).symm
      have d4 : ls ≠ rs := (ne_of_none (same_new hcn _ _ ers) hls).symm
      have d5 : ls ≠ cn := (ne_of_none ec hls).symm
      have hls6 : H6 ls = none := (same_new hcn).free hls
      exact {
        fix := by simp [nsz.symm, nbsw.symm, nrsw.symm, c1.symm, d1.symm, nbssz.symm, nrssz.symm, c2.symm, d2.symm, nrsbs.symm, c3.symm, d3.symm, c4.symm, d4.symm, d5.symm]
        lf := fun i hi => by
          obtain ⟨⟨_, el, _⟩, q2, q3, q4⟩ := hb i hi
          simp only [List.mem_cons, List.not_mem_nil, or_false, not_or]
          exact ⟨w4.ne q3, (ne_of_none e4 q3).symm, q4, ne_of_none el hrs, ne_of_none (s6 _ _ el) hcn, ne_of_none (s6 _ _ el) hls6⟩
        rf := fun i hi => by
          obtain ⟨er, q2, q3⟩ := hr6 i hi
          simp only [List.mem_cons, List.not_mem_nil, or_false, not_or]
          exact ⟨w5.ne q2, (ne_of_none e5 q2).symm, (ne_of_none ebs q2).symm, q3, ne_of_none er hcn, ne_of_none er hls6⟩
        lr := fun i j hi hj => by
          obtain ⟨⟨_, el, _⟩, _⟩ := hb i hi
          exact ne_of_none el (hr6 j hj).2.1
        ll := (hd 0 1 (by omega) (by show 1 < 2; omega)).2
        rr := hd6 0 1 (by omega) (by show 1 < 2; omega)
        bb := (hd 0 1 (by omega) (by show 1 < 2; omega)).1
        nb := fun i hi => s4.free (hb i hi).2.1
        nl := fun i hi => s4.free (hb i hi).2.2.1
        nr := fun i hi => (s4.trans s5).free (hr6 i hi).2.1
        nc := s06.free hcn
        ns := s06.free hls6 }
    have I : LI cl w0 sz bs rs cn ls nn b l r (fun i => newRow (nn i)) (fun _ => 0) (fun _ => .non) (fun _ => .non) (upd (upd H6 cn (.lst [.int 0, .int 0])) ls (.lst [.non, .non])) := by
      have sm : Same H6 (upd (upd H6 cn (.lst [.int 0, .int 0])) ls (.lst [.non, .non])) := (same_new hcn).trans (same_new hls)
      exact {
        well := (w5.same s6).same sm
        esz := sm _ _ (s6 _ _ e5)
        ebs := sm _ _ (s6 _ _ ebs)
        ers := sm _ _ ers
        ecn := same_new hls _ _ upd_same
        els := upd_same
        brd := fun i hi => (hb i hi).1.keep (Kp.of (ps := []) (s6.trans sm)) (by simp) (by simp)
        erow := fun i hi => sm _ _ (hr6 i hi).1
        last := fun i hi => .inl ⟨rfl, rfl⟩ }
    have s07 : Same H (upd (upd H6 cn (.lst [.int 0, .int 0])) ls (.lst [.non, .non])) := s06.trans ((same_new hcn).trans (same_new hls))
    revert I s07
    generalize upd (upd H6 cn (.lst [.int 0, .int 0])) ls (.lst [.non, .non]) = H7
    intro I s07
    clear hls hcn s06 nrsbs nrssz nrsw w5 hd6 hr6 s6 ers hrs e5 nbssz nbsw hd hb s5 ebs hbs n4 e4 s4 w4 nsz n0 s3 hw1 s1
    refine ⟨a, _, rfl, .inl (s07.seq hS), ?_⟩
    walk_at "go"
    refine ⟨_, _, rfl, ?_⟩
    walk_at "go"
    refine ⟨_, _, rfl, ?_⟩
    generalize hN : (if (if ((ns.map V.int).length : Int) < 40 then ((ns.map V.int).length : Int) else 40) > 1 then (if ((ns.map V.int).length : Int) < 40 then ((ns.map V.int).length : Int) else 40) else 1) = N
    have hN1 : 0 ≤ N ∧ N ≤ 40 := by rw [← hN]; split <;> (try split) <;> omega
    walk_at "go"
    refine for_range (n := N.toNat) (fun i σ H' => ∃ x7 x8 x9 x10 x11 x12 x13 x14 row m t v, σ = [some (.ref a), some (.ref w0), some (.ref sz), some (.ref bs), some (.ref rs), some (.ref cn), some (.ref ls), x7, x8, x9, x10, x11, x12, x13, x14] ∧ LI cl w0 sz bs rs cn ls nn b l r row m t v H' ∧ Same H H') ⟨_, _, _, _, _, _, _, _, _, _, _, _, rfl, I, s07⟩ ?_ ?_
    · rintro i σ H8 hi ⟨x7, x8, x9, x10, x11, x12, x13, x14, row, m, t, v, rfl, I, s8⟩
      walk_at "go"
      refine ⟨a, ns, i, by rw [Int.zero_add], s8.seq hS, by omega, fun w H9 nw s9 w9 => ?_⟩
      walk_at "go"
      refine ⟨w, 2, rfl, w9, by decide, by decide, fun r1 H10 a10 c10 w10 b10 => ?_⟩
      have s10 := same_but s9 nw b10
      obtain ⟨at_, eat⟩ : ∃ n : Nat, (n : Int) = r1 := ⟨r1.toNat, by omega⟩
      have hat : at_ < 2 := by omega
      subst eat
      clear a10 c10 w9 s9 b10
      walk_at "go"
      refine ⟨w, 2, rfl, w10, by decide, by decide, fun r2 H11 a11 c11 w11 b11 => ?_⟩
      have s11 := same_but s10 nw b11
      clear a11 c11 w10 s10 b11
      walk_at "go"
      generalize hwr : decide (V.int r2 = V.int 0) = wr
      clear hwr
      refine ⟨w, 4, rfl, w11, by decide, by decide, fun r3 H12 a12 c12 w12 b12 => ?_⟩
      have s12 := same_but s11 nw b12
      clear a12 c12 w11 s11 b12
      walk_at "go"
      refine ⟨w, rfl, w12, fun r4 H13 a13 c13 w13 b13 => ?_⟩
      have s13 := same_but s12 nw b13
      clear a13 c13 w12 s12 b13
      walk_at "go"
      refine ⟨w, rfl, w13, fun r5 H14 a14 c14 w14 b14 => ?_⟩
      have s14 := same_but s13 nw b14
      clear a14 c14 w13 s13 b14
      walk_at "go"
      refine ⟨by show 3 ≤ sizeLine; omega, fun q hq => ?_⟩
      have nq : q ≠ w := w14.ne hq
      walk_at "go"
      refine ⟨w, 3, rfl, w14.same (same_new hq), by decide, by decide, fun r6 H15 a15 c15 w15 b15 => ?_⟩
      have s15 := same_but (s14.trans (same_new hq)) nw b15
      have e15 : H15 q = _ := b15 q _ upd_same nq
      obtain ⟨num, hnum, _⟩ := pickL (ns := [r3, r4, 0 - r5]) (Pr := fun _ => True) (fun _ _ => trivial) a15 c15
      refine g_ixL e15 hnum ?_
      clear hnum e15 a15 c15 w14 s14 b15 nq hq
      have ers := (I.same s15).ers
      have erow := (I.same s15).erow at_ hat
      have lrow : (row at_).length = 4 * nn at_ + 4 := (I.brd at_ hat).2.2.1
      have gat := g0 at_ hat
      walk_at "go"
      refine g_ixL ers (at2 (fun i => V.ref (r i)) hat) ?_
      walk_at "go"
      rw [List.length_map, lrow]
      refine ⟨w, _, rfl, w15, by omega, by omega, fun cell H16 a16 c16 w16 b16 => ?_⟩
      have s16 := same_but s15 nw b16
      clear w15 s15 b16 ers erow
      refine g_name ?_
      refine seq_cutC (M := fun σ' H' => ∃ x12 x13 row m t v, σ' = [some (.ref a), some (.ref w0), some (.ref sz), some (.ref bs), some (.ref rs), some (.ref cn), some (.ref ls), some (.int (0 + (i : Int))), some (.ref w), some (.int at_), some (.bl wr), some (.int num), x12, x13, x14] ∧ LI cl w0 sz bs rs cn ls nn b l r row m t v H' ∧ Same H H') ?_ ?_
      · rintro σ' H17 ⟨x12, x13, row, m, t, v, rfl, I, s17⟩
        walk_at "go"
        refine for_range (n := (2 : Int).toNat) (fun j σ H' => ∃ x14, σ = [some (.ref a), some (.ref w0), some (.ref sz), some (.ref bs), some (.ref rs), some (.ref cn), some (.ref ls), some (.int (0 + (i : Int))), some (.ref w), some (.int at_), some (.bl wr), some (.int num), x12, x13, x14] ∧ LI cl w0 sz bs rs cn ls nn b l r row m t v H' ∧ Same H H') ⟨_, rfl, I, s17⟩ ?_ ?_
        · rintro j σ H18 hj2 ⟨x14, rfl, I, s18⟩
          have hj : j < 2 := hj2
          walk_at "go"
          rw [Int.zero_add]
          refine g_ixL I.ebs (at2 (fun i => V.ref (b i)) hj) ?_
          walk_at "go"
          refine g_ixL I.esz (at2 (fun i => V.int (nn i)) hj) ?_
          walk_at "go"
          refine g_ixL I.ers (at2 (fun i => V.ref (r i)) hj) ?_
          walk_at "go"
          refine g_ixL I.ecn (at2 (fun i => V.int (m i)) hj) ?_
          walk_at "go"
          refine g_ixL I.els (at2 v hj) ?_
          walk_at "go"
          refine ⟨b j, l j, r j, nn j, row j, m j, t j, v j, rfl, I.brd j hj, I.erow j hj, I.last j hj, fun H' sm => ?_⟩
          walk_at "go"
          exact ⟨_, rfl, I.same sm, s18.trans sm⟩
        · rintro σ H18 ⟨x14, rfl, I, s18⟩
          exact ⟨_, _, _, _, _, _, _, _, _, _, _, _, rfl, I, s18⟩
      · intro R hR
        walk_at "go"
        refine ⟨w, 5, rfl, w16, by decide, by decide, fun r7 H17 a17 c17 w17 b17 => ?_⟩
        have s17 := same_but s16 nw b17
        have I17 := I.same s17
        clear w16 s16 b17 a17 c17
        walk_at "go"
        refine g_ite (fun c => ?_) (fun c => ?_)
        · have ers := I17.ers
          have erow := I17.erow at_ hat
          walk_at "go"
          refine g_ixL ers (at2 (fun i => V.ref (r i)) hat) ?_
          walk_at "go"
          rw [List.length_map, lrow]
          refine ⟨w, rfl, w17, fun f1 H18 a18 c18 w18 b18 => ?_⟩
          have s18 := same_but s17 nw b18
          have ers2 := (I.same s18).ers
          have erow2 := (I.same s18).erow at_ hat
          walk_at "go"
          refine g_ixL ers2 (at2 (fun i => V.ref (r i)) hat) ?_
          walk_at "go"
          rw [List.length_map, lrow]
          refine ⟨w, rfl, w18, fun f2 H19 a19 c19 w19 b19 => ?_⟩
          have s19 := same_but s18 nw b19
          walk_at "go"
          refine ⟨by show 4 ≤ sizeLine; omega, fun q hq => ?_⟩
          have nq : q ≠ w := w19.ne hq
          walk_at "go"
          refine ⟨w, 4, rfl, w19.same (same_new hq), by decide, by decide, fun r8 H20 a20 c20 w20 b20 => ?_⟩
          have s20 := same_but (s19.trans (same_new hq)) nw b20
          have e20 : H20 q = _ := b20 q _ upd_same nq
          obtain ⟨cell2, hcell, ncell⟩ := pickL (ns := [-1, ((4 * nn at_ + 4 : Nat) : Int), 0 - f1, ((4 * nn at_ + 4 : Nat) : Int) - 1 + f2]) (Pr := fun v => ¬ (0 ≤ v ∧ v < ((4 * nn at_ + 4 : Nat) : Int))) (by intro v hv; simp only [List.mem_cons, List.not_mem_nil, or_false] at hv; omega) a20 c20
          refine g_ixL e20 hcell ?_
          have I20 := I.same s20
          walk_at "go"
          refine g_ixL I20.ebs (at2 (fun i => V.ref (b i)) hat) ?_
          walk_at "go"
          refine ⟨b at_, l at_, nn at_, row at_, m at_, t at_, wr, cell2, num, rfl, I20.brd at_ hat, ?_⟩
          rw [lrow, if_neg ncell]
          intro p k0 H21 hp hk0 sm ep ek
          walk_at "go"
          refine ⟨by show 6 ≤ sizeLine; omega, fun q1 hq1 => ?_⟩
          walk_at "go"
          refine ⟨by show 2 ≤ sizeLine; omega, fun q2 hq2 => ?_⟩
          refine g_neD (eqd_pair (ne_of_none (same_new hq1 _ _ ep) hq2) (((same_new hq1).trans (same_new hq2)) _ _ ep) upd_same (eqd_sameB (ns := [true, false, false, true, false, false]) (ne_of_none ek hq1) (((same_new hq1).trans (same_new hq2)) _ _ ek) (same_new hq2 _ _ upd_same)) rfl rfl) ?_
          walk_at "go"
          have sF := (s20.trans sm).trans ((same_new hq1).trans (same_new (o := .tup [.ref q1, .non]) hq2))
          exact hR _ _ ⟨_, _, _, _, _, _, rfl, I.same sF, s8.trans sF⟩
        · have M := I17.mid hat
          have hc0 : 0 ≤ cell := a16
          have hc1 : cell < ((row at_).length : Int) := by rw [lrow]; exact c16
          have lmap : ((row at_).map V.int).length = (row at_).length := List.length_map _
          have s17H : Same H H17 := s8.trans s17
          refine g_seq (g_asg (g_c (g_name ?_)))
          -- the law's own row
          refine seq_cutC (M := fun σ' H' => ∃ due rowR, σ' = [some (.ref a), some (.ref w0), some (.ref sz), some (.ref bs), some (.ref rs), some (.ref cn), some (.ref ls), some (.int (0 + (i : Int))), some (.ref w), some (.int at_), some (.bl wr), some (.int num), some (.int cell), some due, x14] ∧ due = (if wr then .non else .int ((row at_).getD cell.toNat 0)) ∧ rowR = (if wr then (row at_).set cell.toNat num else row at_) ∧ Mid cl w0 sz bs rs cn ls nn b l r row m t v at_ (row at_) rowR (m at_) (t at_) H' ∧ Same H H') ?_ ?_
          rotate_left
          · intro R2 hR2
            walk_at "go"
            refine g_iteB (fun z => ?_) (fun z => ?_)
            all_goals subst z
            all_goals walk_at "go"
            all_goals refine g_ixL M.ers (at2 (fun i => V.ref (r i)) hat) ?_
            all_goals walk_at "go"
            · refine g_setL M.erowA (by rw [lmap]; exact ixN_in hc0 hc1) ?_
              rw [lst_set]
              refine hR2 _ _ ⟨_, _, rfl, rfl, rfl, M.wrow S hat _, fun c o e => ?_⟩
              rw [upd_ne (ne_of_none e (S.nr at_ hat))]
              exact s17H _ _ e
            · refine g_ixL M.erowA (atI_in hc0 hc1) ?_
              walk_at "go"
              exact hR2 _ _ ⟨_, _, rfl, rfl, rfl, M, s17H⟩
          clear M
          rintro σ' H18 ⟨due, rowR, rfl, hdue, hrowR, M, s18⟩
          walk_at "go"
          refine g_ixL M.ebs (at2 (fun i => V.ref (b i)) hat) ?_
          walk_at "go"
          refine ⟨b at_, l at_, nn at_, row at_, m at_, t at_, wr, cell, num, rfl, M.brdA, ?_⟩
          rw [if_pos ⟨hc0, hc1⟩]
          intro τ p k0 H19 hτ hp hk0 kp eτ hB ep ek
          have M2 := M.touch S hat kp hB
          have s19 : Same H H19 := fun c o e => kp _ _ (s18 _ _ e) (by simp [ne_of_none e (S.nb at_ hat), ne_of_none e (S.nl at_ hat)])
          rw [← hrowR] at hB M2
          rw [← hdue] at ep
          walk_at "go"
          refine ⟨Nat.zero_le _, fun q1 hq1 => ?_⟩
          walk_at "go"
          refine ⟨by show 2 ≤ sizeLine; omega, fun q2 hq2 => ?_⟩
          refine g_neD (eqd_pair (ne_of_none (same_new hq1 _ _ ep) hq2) (((same_new hq1).trans (same_new hq2)) _ _ ep) upd_same (eqd_sameB (ns := []) (ne_of_none ek hq1) (((same_new hq1).trans (same_new hq2)) _ _ ek) (same_new hq2 _ _ upd_same)) (by rw [hdue]; cases wr <;> rfl) (by rw [hdue]; cases wr <;> simp [eqV])) ?_
          have M3 := M2.same ((same_new (o := .lst []) hq1).trans (same_new (o := .tup [.ref q1, due]) hq2))
          have s20 := s19.trans ((same_new (o := .lst []) hq1).trans (same_new (o := .tup [.ref q1, due]) hq2))
          have eτ3 := ((same_new (o := .lst []) hq1).trans (same_new (o := .tup [.ref q1, due]) hq2)) _ _ eτ
          clear hq1 hq2
          revert M3 s20 eτ3
          generalize upd (upd H19 q1 (.lst [])) q2 (.tup [.ref q1, due]) = H20
          intro M3 s20 eτ3
          walk_at "go"
          refine g_ixL M3.ecn (at2 (fun i => V.int (m i)) hat) ?_
          walk_at "go"
          refine g_setL M3.ecn (ix2 hat) ?_
          have M4 := M3.count S hat (m at_ + 1)
          have s21 : Same H (upd H20 cn (.lst ([.int (m 0), .int (m 1)].set at_ (.int (m at_ + 1))))) := fun c o e => by
            rw [upd_ne (ne_of_none e S.nc)]
            exact s20 _ _ e
          have eτ4 : upd H20 cn (.lst ([.int (m 0), .int (m 1)].set at_ (.int (m at_ + 1)))) τ = _ := (upd_ne (ne_of eτ3 M3.ecn (by intro z; cases z))).trans eτ3
          revert M4 s21 eτ4
          generalize upd H20 cn (.lst ([.int (m 0), .int (m 1)].set at_ (.int (m at_ + 1)))) = H21
          intro M4 s21 eτ4
          walk_at "go"
          refine ⟨by show 2 ≤ sizeLine; omega, fun q3 hq3 => ?_⟩
          walk_at "go"
          refine .inr ⟨wr, rfl, ?_⟩
          refine g_ixL (v := .str (if wr then "write" else "read")) upd_same (by cases wr <;> rfl) ?_
          have M5 := M4.same (same_new (o := .lst [.str "read", .str "write"]) hq3)
          have s22 := s21.trans (same_new (o := .lst [.str "read", .str "write"]) hq3)
          have eτ5 := same_new (o := .lst [.str "read", .str "write"]) hq3 _ _ eτ4
          have lR : cell < (rowR.length : Int) := by
            rw [hrowR]
            split
            · rw [List.length_set]; exact hc1
            · exact hc1
          walk_at "go"
          refine g_ixL M5.ers (at2 (fun i => V.ref (r i)) hat) ?_
          walk_at "go"
          refine g_ixL M5.erowA (atI_in hc0 lR) ?_
          walk_at "go"
          refine ⟨by show 3 ≤ sizeLine; omega, fun τ2 hτ2 => ?_⟩
          have eR : rowR.getD cell.toNat 0 = (if wr then num else (row at_).getD cell.toNat 0) := by
            rw [hrowR]
            cases wr
            · rfl
            · show ((row at_).set cell.toNat num).getD cell.toNat 0 = num
              rw [List.getD_eq_getElem?_getD, List.getElem?_set_self (by omega)]
              rfl
          rw [eR]
          have M6 := M5.same (same_new (o := .tup [.str (if wr then "write" else "read"), .int cell, .int (if wr then num else (row at_).getD cell.toNat 0)]) hτ2)
          have s23 := s22.trans (same_new (o := .tup [.str (if wr then "write" else "read"), .int cell, .int (if wr then num else (row at_).getD cell.toNat 0)]) hτ2)
          have eτ6 := same_new (o := .tup [.str (if wr then "write" else "read"), .int cell, .int (if wr then num else (row at_).getD cell.toNat 0)]) hτ2 _ _ eτ5
          have nτ : τ ≠ τ2 := ne_of_none eτ5 hτ2
          walk_at "go"
          refine g_setL M6.els (ix2 hat) ?_
          have M7 := M6.lasts S hat (.ref τ2)
          have nls : ∀ {c : Addr} {xs : List V}, _ = some (HO.tup xs) → c ≠ ls := fun {c xs} (e : upd (upd H21 q3 (.lst [.str "read", .str "write"])) τ2 (.tup [.str (if wr then "write" else "read"), .int cell, .int (if wr then num else (row at_).getD cell.toNat 0)]) c = some (HO.tup xs)) => ne_of e M6.els (by intro z; cases z)
          have LF := M7.done hat (up_same m at_ (m at_ + 1)).symm (by
            rw [up_same]
            exact .inr ⟨τ, τ2, _, _, _, rfl, rfl, nτ, (upd_ne (nls eτ6)).trans eτ6, (upd_ne (nls upd_same)).trans upd_same⟩)
          exact hR _ _ ⟨_, _, _, _, _, _, rfl, LF, fun c o e => by rw [upd_ne (ne_of_none e S.ns)]; exact s23 _ _ e⟩
    · rintro σ H8 ⟨x7, x8, x9, x10, x11, x12, x13, x14, row, m, t, v, rfl, I, s8⟩
      have esz := I.esz
      walk_at "go"
      have g := g0 0 (by omega)
      exact ⟨w0, nn 0, rfl, I.well, g.1, g.2, k⟩
end
end S

set_option Elab.async false
set_option linter.all false
set_option maxRecDepth 100000
set_option maxHeartbeats 4000000
namespace S
open PySem L2
/-! ### what the top has written -/
theorem all_mk {l : PySem.W.OpenLaw} {w : World} {K : PySem.W.Frag} {h : Heap} {mg : Str → Option Value} {fa : Addr} {C_RingError C_BadSize C_NoTurn C_BadMark C_Crooked C_NoCell C_BadCells C_BadOrder C_NoHand C_NoWaiting C_NotSound C_BadStand C_TooMany C_NoName C_NoText C_NoRow C_Board : Addr} {t_LEAST_SIZE : Tok} {t_MOST_SIZE : Tok} {t_CELLS_OF_A_PLACE : Tok} {t_NEW_MARK : Tok} {t_NO_ORDER : Tok} {t_NO_TURN : Tok} {t_STILL : Tok} {t_HANDS : Addr} {tn_HANDS : Nat} {ts_HANDS : Array (Option Value)} {tk_HANDS_0 tk_HANDS_1 : Tok} {f_Board_init : Addr} {oc_Board_init kV_Board_init dc_Board_init pm_Board_init cd_Board_init ct_Board_init : Value} {od_Board_init an_Board_init : Option Addr} {sl_Board_init : Array (Option Value)} {f_Board_check_cell : Addr} {oc_Board_check_cell kV_Board_check_cell dc_Board_check_cell pm_Board_check_cell cd_Board_check_cell ct_Board_check_cell : Value} {od_Board_check_cell an_Board_check_cell : Option Addr} {sl_Board_check_cell : Array (Option Value)} {f_Board_note_touch : Addr} {oc_Board_note_touch kV_Board_note_touch dc_Board_note_touch pm_Board_note_touch cd_Board_note_touch ct_Board_note_touch : Value} {od_Board_note_touch an_Board_note_touch : Option Addr} {sl_Board_note_touch : Array (Option Value)} {f_Board_read : Addr} {oc_Board_read kV_Board_read dc_Board_read pm_Board_read cd_Board_read ct_Board_read : Value} {od_Board_read an_Board_read : Option Addr} {sl_Board_read : Array (Option Value)} {f_Board_write : Addr} {oc_Board_write kV_Board_write dc_Board_write pm_Board_write cd_Board_write ct_Board_write : Value} {od_Board_write an_Board_write : Option Addr} {sl_Board_write : Array (Option Value)} {f_Board_all_cells : Addr} {oc_Board_all_cells kV_Board_all_cells dc_Board_all_cells pm_Board_all_cells cd_Board_all_cells ct_Board_all_cells : Value} {od_Board_all_cells an_Board_all_cells : Option Addr} {sl_Board_all_cells : Array (Option Value)} {f_Board_touches : Addr} {oc_Board_touches kV_Board_touches dc_Board_touches pm_Board_touches cd_Board_touches ct_Board_touches : Value} {od_Board_touches an_Board_touches : Option Addr} {sl_Board_touches : Array (Option Value)} {f_Board_last_touch : Addr} {oc_Board_last_touch kV_Board_last_touch dc_Board_last_touch pm_Board_last_touch cd_Board_last_touch ct_Board_last_touch : Value} {od_Board_last_touch an_Board_last_touch : Option Addr} {sl_Board_last_touch : Array (Option Value)} {f_check_size : Addr} {oc_check_size kV_check_size dc_check_size pm_check_size cd_check_size ct_check_size : Value} {od_check_size an_check_size : Option Addr} {sl_check_size : Array (Option Value)} {f_check_hand : Addr} {oc_check_hand kV_check_hand dc_check_hand pm_check_hand cd_check_hand ct_check_hand : Value} {od_check_hand an_check_hand : Option Addr} {sl_check_hand : Array (Option Value)} {f_mark_cell : Addr} {oc_mark_cell kV_mark_cell dc_mark_cell pm_mark_cell cd_mark_cell ct_mark_cell : Value} {od_mark_cell an_mark_cell : Option Addr} {sl_mark_cell : Array (Option Value)} {f_number_cell : Addr} {oc_number_cell kV_number_cell dc_number_cell pm_number_cell cd_number_cell ct_number_cell : Value} {od_number_cell an_number_cell : Option Addr} {sl_number_cell : Array (Option Value)} {f_left_cell : Addr} {oc_left_cell kV_left_cell dc_left_cell pm_left_cell cd_left_cell ct_left_cell : Value} {od_left_cell an_left_cell : Option Addr} {sl_left_cell : Array (Option Value)} {f_thing_cell : Addr} {oc_thing_cell kV_thing_cell dc_thing_cell pm_thing_cell cd_thing_cell ct_thing_cell : Value} {od_thing_cell an_thing_cell : Option Addr} {sl_thing_cell : Array (Option Value)} {f_card_cell : Addr} {oc_card_cell kV_card_cell dc_card_cell pm_card_cell cd_card_cell ct_card_cell : Value} {od_card_cell an_card_cell : Option Addr} {sl_card_cell : Array (Option Value)} {f_bell_cell : Addr} {oc_bell_cell kV_bell_cell dc_bell_cell pm_bell_cell cd_bell_cell ct_bell_cell : Value} {od_bell_cell an_bell_cell : Option Addr} {sl_bell_cell : Array (Option Value)} {f_new_cells : Addr} {oc_new_cells kV_new_cells dc_new_cells pm_new_cells cd_new_cells ct_new_cells : Value} {od_new_cells an_new_cells : Option Addr} {sl_new_cells : Array (Option Value)} {f_law_well : Addr} {oc_law_well kV_law_well dc_law_well pm_law_well cd_law_well ct_law_well : Value} {od_law_well an_law_well : Option Addr} {sl_law_well : Array (Option Value)} {f_law_take : Addr} {oc_law_take kV_law_take dc_law_take pm_law_take cd_law_take ct_law_take : Value} {od_law_take an_law_take : Option Addr} {sl_law_take : Array (Option Value)} {f_law_whole : Addr} {oc_law_whole kV_law_whole dc_law_whole pm_law_whole cd_law_whole ct_law_whole : Value} {od_law_whole an_law_whole : Option Addr} {sl_law_whole : Array (Option Value)} {f_law_far : Addr} {oc_law_far kV_law_far dc_law_far pm_law_far cd_law_far ct_law_far : Value} {od_law_far an_law_far : Option Addr} {sl_law_far : Array (Option Value)} {f_law_flags : Addr} {oc_law_flags kV_law_flags dc_law_flags pm_law_flags cd_law_flags ct_law_flags : Value} {od_law_flags an_law_flags : Option Addr} {sl_law_flags : Array (Option Value)} {f_law_touched : Addr} {oc_law_touched kV_law_touched dc_law_touched pm_law_touched cd_law_touched ct_law_touched : Value} {od_law_touched an_law_touched : Option Addr} {sl_law_touched : Array (Option Value)} {f_law_refused : Addr} {oc_law_refused kV_law_refused dc_law_refused pm_law_refused cd_law_refused ct_law_refused : Value} {od_law_refused an_law_refused : Option Addr} {sl_law_refused : Array (Option Value)} {f_law_cells_right : Addr} {oc_law_cells_right kV_law_cells_right dc_law_cells_right pm_law_cells_right cd_law_cells_right ct_law_cells_right : Value} {od_law_cells_right an_law_cells_right : Option Addr} {sl_law_cells_right : Array (Option Value)} {f_law_right : Addr} {oc_law_right kV_law_right dc_law_right pm_law_right cd_law_right ct_law_right : Value} {od_law_right an_law_right : Option Addr} {sl_law_right : Array (Option Value)} {f_law : Addr} {oc_law kV_law dc_law pm_law cd_law ct_law : Value} {od_law an_law : Option Addr} {sl_law : Array (Option Value)}
    (X : K.In h) (G : h.Ns mainGlobals mg) (hfa : mg "law" = some (.ref fa))
    (a_RingError : PySem.W.nsIn K mainGlobals "RingError" = some (some (.ref C_RingError)))
    (a_BadSize : PySem.W.nsIn K mainGlobals "BadSize" = some (some (.ref C_BadSize)))
    (e_BadSize : PySem.W.excIn K C_BadSize vErr "ValueError.__new__" = true)
    (ga_BadSize : PySem.W.findIn K (.ref C_BadSize) "__getattribute__" = some (some (.builtin "BaseException.__getattribute__")))
    (gn_BadSize : PySem.W.findIn K (.ref C_BadSize) "__getattr__" = some none)
    (cl_BadSize : PySem.W.findIn K (.ref C_BadSize) "__class__" = some (some (.builtin "object.__class__")))
    (mb_BadSize : PySem.W.mroIn K C_BadSize (.type "BaseException") = some true)
    (mo_BadSize : PySem.W.mroIn K C_BadSize (.type "object") = some true)
    (ic_BadSize : (PySem.W.clsIn K C_BadSize).isSome = true)
    (a_NoTurn : PySem.W.nsIn K mainGlobals "NoTurn" = some (some (.ref C_NoTurn)))
    (a_BadMark : PySem.W.nsIn K mainGlobals "BadMark" = some (some (.ref C_BadMark)))
    (a_Crooked : PySem.W.nsIn K mainGlobals "Crooked" = some (some (.ref C_Crooked)))
    (a_NoCell : PySem.W.nsIn K mainGlobals "NoCell" = some (some (.ref C_NoCell)))
    (e_NoCell : PySem.W.excIn K C_NoCell vErr "ValueError.__new__" = true)
    (ga_NoCell : PySem.W.findIn K (.ref C_NoCell) "__getattribute__" = some (some (.builtin "BaseException.__getattribute__")))
    (gn_NoCell : PySem.W.findIn K (.ref C_NoCell) "__getattr__" = some none)
    (cl_NoCell : PySem.W.findIn K (.ref C_NoCell) "__class__" = some (some (.builtin "object.__class__")))
    (mb_NoCell : PySem.W.mroIn K C_NoCell (.type "BaseException") = some true)
    (mo_NoCell : PySem.W.mroIn K C_NoCell (.type "object") = some true)
    (ic_NoCell : (PySem.W.clsIn K C_NoCell).isSome = true)
    (a_BadCells : PySem.W.nsIn K mainGlobals "BadCells" = some (some (.ref C_BadCells)))
    (a_BadOrder : PySem.W.nsIn K mainGlobals "BadOrder" = some (some (.ref C_BadOrder)))
    (a_NoHand : PySem.W.nsIn K mainGlobals "NoHand" = some (some (.ref C_NoHand)))
    (e_NoHand : PySem.W.excIn K C_NoHand vErr "ValueError.__new__" = true)
    (ga_NoHand : PySem.W.findIn K (.ref C_NoHand) "__getattribute__" = some (some (.builtin "BaseException.__getattribute__")))
    (gn_NoHand : PySem.W.findIn K (.ref C_NoHand) "__getattr__" = some none)
    (cl_NoHand : PySem.W.findIn K (.ref C_NoHand) "__class__" = some (some (.builtin "object.__class__")))
    (mb_NoHand : PySem.W.mroIn K C_NoHand (.type "BaseException") = some true)
    (mo_NoHand : PySem.W.mroIn K C_NoHand (.type "object") = some true)
    (ic_NoHand : (PySem.W.clsIn K C_NoHand).isSome = true)
    (a_NoWaiting : PySem.W.nsIn K mainGlobals "NoWaiting" = some (some (.ref C_NoWaiting)))
    (a_NotSound : PySem.W.nsIn K mainGlobals "NotSound" = some (some (.ref C_NotSound)))
    (a_BadStand : PySem.W.nsIn K mainGlobals "BadStand" = some (some (.ref C_BadStand)))
    (a_TooMany : PySem.W.nsIn K mainGlobals "TooMany" = some (some (.ref C_TooMany)))
    (a_NoName : PySem.W.nsIn K mainGlobals "NoName" = some (some (.ref C_NoName)))
    (a_NoText : PySem.W.nsIn K mainGlobals "NoText" = some (some (.ref C_NoText)))
    (a_NoRow : PySem.W.nsIn K mainGlobals "NoRow" = some (some (.ref C_NoRow)))
    (a_Board : PySem.W.nsIn K mainGlobals "Board" = some (some (.ref C_Board)))
    (sg : PySem.W.specialIn K (.builtin "object.__class__") "__get__" = some (some (.builtin "getset_descriptor.__get__")))
    (tk : PySem.W.takesIn K (.builtin "object.__class__") = some true)
    (q_LEAST_SIZE : PySem.W.nsIn K mainGlobals "LEAST_SIZE" = some (some (.int (2) t_LEAST_SIZE)))
    (q_MOST_SIZE : PySem.W.nsIn K mainGlobals "MOST_SIZE" = some (some (.int (8) t_MOST_SIZE)))
    (q_CELLS_OF_A_PLACE : PySem.W.nsIn K mainGlobals "CELLS_OF_A_PLACE" = some (some (.int (4) t_CELLS_OF_A_PLACE)))
    (q_NEW_MARK : PySem.W.nsIn K mainGlobals "NEW_MARK" = some (some (.int (2) t_NEW_MARK)))
    (q_NO_ORDER : PySem.W.nsIn K mainGlobals "NO_ORDER" = some (some (.int (-1) t_NO_ORDER)))
    (q_NO_TURN : PySem.W.nsIn K mainGlobals "NO_TURN" = some (some (.int (-1) t_NO_TURN)))
    (q_STILL : PySem.W.nsIn K mainGlobals "STILL" = some (some (.int (0) t_STILL)))
    (q_HANDS : PySem.W.nsIn K mainGlobals "HANDS" = some (some (.ref t_HANDS)))
    (lk_HANDS : K.lookup t_HANDS = some ⟨.type "tuple", none, .seq #[.str "giver" tk_HANDS_0, .str "taker" tk_HANDS_1] tn_HANDS, ts_HANDS⟩)
    (pg_Board : PySem.W.plainGet K C_Board Str.empty = true)
    (hd_Board : PySem.W.hasDictIn K C_Board = true)
    (po_Board : PySem.W.plainOver K C_Board = true)
    (sa_Board : PySem.W.findIn K (.ref C_Board) "__setattr__" = some (some (.builtin "object.__setattr__")))
    (mk_Board : PySem.W.makesIn K C_Board = true)
    (kc_Board : PySem.W.keepIn K (.ref C_Board) = true)
    (n_Board_many_touches : PySem.W.findIn K (.ref C_Board) "many_touches" = some none)
    (n_Board_newest_touch : PySem.W.findIn K (.ref C_Board) "newest_touch" = some none)
    (n_Board_numbers : PySem.W.findIn K (.ref C_Board) "numbers" = some none)
    (n_Board_size : PySem.W.findIn K (.ref C_Board) "size" = some none)
    (d_Board_init : PySem.W.findIn K (.ref C_Board) "__init__" = some (some (.ref f_Board_init)))
    (i_Board_init : PySem.W.isFn K (.ref f_Board_init) = true)
    (l_Board_init : K.lookup f_Board_init = some ⟨oc_Board_init, od_Board_init, .func (PySem.W.fnOf "__init__" "Board.__init__" (defArgs s_Board_init) (defBody s_Board_init) (defScope s_Board_init) .none kV_Board_init dc_Board_init pm_Board_init an_Board_init cd_Board_init ct_Board_init), sl_Board_init⟩)
    (c_Board_init : PySem.W.codeIn K cd_Board_init "Board.__init__" = true)
    (k_Board_init : PySem.W.keepIn K (.ref f_Board_init) = true)
    (d_Board_check_cell : PySem.W.findIn K (.ref C_Board) "check_cell" = some (some (.ref f_Board_check_cell)))
    (i_Board_check_cell : PySem.W.isFn K (.ref f_Board_check_cell) = true)
    (l_Board_check_cell : K.lookup f_Board_check_cell = some ⟨oc_Board_check_cell, od_Board_check_cell, .func (PySem.W.fnOf "check_cell" "Board.check_cell" (defArgs s_Board_check_cell) (defBody s_Board_check_cell) (defScope s_Board_check_cell) .none kV_Board_check_cell dc_Board_check_cell pm_Board_check_cell an_Board_check_cell cd_Board_check_cell ct_Board_check_cell), sl_Board_check_cell⟩)
    (c_Board_check_cell : PySem.W.codeIn K cd_Board_check_cell "Board.check_cell" = true)
    (k_Board_check_cell : PySem.W.keepIn K (.ref f_Board_check_cell) = true)
    (d_Board_note_touch : PySem.W.findIn K (.ref C_Board) "note_touch" = some (some (.ref f_Board_note_touch)))
    (i_Board_note_touch : PySem.W.isFn K (.ref f_Board_note_touch) = true)
    (l_Board_note_touch : K.lookup f_Board_note_touch = some ⟨oc_Board_note_touch, od_Board_note_touch, .func (PySem.W.fnOf "note_touch" "Board.note_touch" (defArgs s_Board_note_touch) (defBody s_Board_note_touch) (defScope s_Board_note_touch) .none kV_Board_note_touch dc_Board_note_touch pm_Board_note_touch an_Board_note_touch cd_Board_note_touch ct_Board_note_touch), sl_Board_note_touch⟩)
    (c_Board_note_touch : PySem.W.codeIn K cd_Board_note_touch "Board.note_touch" = true)
    (k_Board_note_touch : PySem.W.keepIn K (.ref f_Board_note_touch) = true)
    (d_Board_read : PySem.W.findIn K (.ref C_Board) "read" = some (some (.ref f_Board_read)))
    (i_Board_read : PySem.W.isFn K (.ref f_Board_read) = true)
    (l_Board_read : K.lookup f_Board_read = some ⟨oc_Board_read, od_Board_read, .func (PySem.W.fnOf "read" "Board.read" (defArgs s_Board_read) (defBody s_Board_read) (defScope s_Board_read) .none kV_Board_read dc_Board_read pm_Board_read an_Board_read cd_Board_read ct_Board_read), sl_Board_read⟩)
    (c_Board_read : PySem.W.codeIn K cd_Board_read "Board.read" = true)
    (k_Board_read : PySem.W.keepIn K (.ref f_Board_read) = true)
    (d_Board_write : PySem.W.findIn K (.ref C_Board) "write" = some (some (.ref f_Board_write)))
    (i_Board_write : PySem.W.isFn K (.ref f_Board_write) = true)
    (l_Board_write : K.lookup f_Board_write = some ⟨oc_Board_write, od_Board_write, .func (PySem.W.fnOf "write" "Board.write" (defArgs s_Board_write) (defBody s_Board_write) (defScope s_Board_write) .none kV_Board_write dc_Board_write pm_Board_write an_Board_write cd_Board_write ct_Board_write), sl_Board_write⟩)
    (c_Board_write : PySem.W.codeIn K cd_Board_write "Board.write" = true)
    (k_Board_write : PySem.W.keepIn K (.ref f_Board_write) = true)
    (d_Board_all_cells : PySem.W.findIn K (.ref C_Board) "all_cells" = some (some (.ref f_Board_all_cells)))
    (i_Board_all_cells : PySem.W.isFn K (.ref f_Board_all_cells) = true)
    (l_Board_all_cells : K.lookup f_Board_all_cells = some ⟨oc_Board_all_cells, od_Board_all_cells, .func (PySem.W.fnOf "all_cells" "Board.all_cells" (defArgs s_Board_all_cells) (defBody s_Board_all_cells) (defScope s_Board_all_cells) .none kV_Board_all_cells dc_Board_all_cells pm_Board_all_cells an_Board_all_cells cd_Board_all_cells ct_Board_all_cells), sl_Board_all_cells⟩)
    (c_Board_all_cells : PySem.W.codeIn K cd_Board_all_cells "Board.all_cells" = true)
    (k_Board_all_cells : PySem.W.keepIn K (.ref f_Board_all_cells) = true)
    (d_Board_touches : PySem.W.findIn K (.ref C_Board) "touches" = some (some (.ref f_Board_touches)))
    (i_Board_touches : PySem.W.isFn K (.ref f_Board_touches) = true)
    (l_Board_touches : K.lookup f_Board_touches = some ⟨oc_Board_touches, od_Board_touches, .func (PySem.W.fnOf "touches" "Board.touches" (defArgs s_Board_touches) (defBody s_Board_touches) (defScope s_Board_touches) .none kV_Board_touches dc_Board_touches pm_Board_touches an_Board_touches cd_Board_touches ct_Board_touches), sl_Board_touches⟩)
    (c_Board_touches : PySem.W.codeIn K cd_Board_touches "Board.touches" = true)
    (k_Board_touches : PySem.W.keepIn K (.ref f_Board_touches) = true)
    (d_Board_last_touch : PySem.W.findIn K (.ref C_Board) "last_touch" = some (some (.ref f_Board_last_touch)))
    (i_Board_last_touch : PySem.W.isFn K (.ref f_Board_last_touch) = true)
    (l_Board_last_touch : K.lookup f_Board_last_touch = some ⟨oc_Board_last_touch, od_Board_last_touch, .func (PySem.W.fnOf "last_touch" "Board.last_touch" (defArgs s_Board_last_touch) (defBody s_Board_last_touch) (defScope s_Board_last_touch) .none kV_Board_last_touch dc_Board_last_touch pm_Board_last_touch an_Board_last_touch cd_Board_last_touch ct_Board_last_touch), sl_Board_last_touch⟩)
    (c_Board_last_touch : PySem.W.codeIn K cd_Board_last_touch "Board.last_touch" = true)
    (k_Board_last_touch : PySem.W.keepIn K (.ref f_Board_last_touch) = true)
    (z_len : PySem.W.nsIn K mainGlobals "len" = some none)
    (z_range : PySem.W.nsIn K mainGlobals "range" = some none)
    (z_max : PySem.W.nsIn K mainGlobals "max" = some none)
    (z_min : PySem.W.nsIn K mainGlobals "min" = some none)
    (z_isinstance : PySem.W.nsIn K mainGlobals "isinstance" = some none)
    (z_int : PySem.W.nsIn K mainGlobals "int" = some none)
    (z_bool : PySem.W.nsIn K mainGlobals "bool" = some none)
    (z_list : PySem.W.nsIn K mainGlobals "list" = some none)
    (z_all : PySem.W.nsIn K mainGlobals "all" = some none)
    (z_ValueError : PySem.W.nsIn K mainGlobals "ValueError" = some none)
    (d_check_size : PySem.W.nsIn K mainGlobals "check_size" = some (some (.ref f_check_size)))
    (l_check_size : K.lookup f_check_size = some ⟨oc_check_size, od_check_size, .func (PySem.W.fnOf "check_size" "check_size" (defArgs s_check_size) (defBody s_check_size) (defScope s_check_size) .none kV_check_size dc_check_size pm_check_size an_check_size cd_check_size ct_check_size), sl_check_size⟩)
    (c_check_size : PySem.W.codeIn K cd_check_size "check_size" = true)
    (k_check_size : PySem.W.keepIn K (.ref f_check_size) = true)
    (d_check_hand : PySem.W.nsIn K mainGlobals "check_hand" = some (some (.ref f_check_hand)))
    (l_check_hand : K.lookup f_check_hand = some ⟨oc_check_hand, od_check_hand, .func (PySem.W.fnOf "check_hand" "check_hand" (defArgs s_check_hand) (defBody s_check_hand) (defScope s_check_hand) .none kV_check_hand dc_check_hand pm_check_hand an_check_hand cd_check_hand ct_check_hand), sl_check_hand⟩)
    (c_check_hand : PySem.W.codeIn K cd_check_hand "check_hand" = true)
    (k_check_hand : PySem.W.keepIn K (.ref f_check_hand) = true)
    (d_mark_cell : PySem.W.nsIn K mainGlobals "mark_cell" = some (some (.ref f_mark_cell)))
    (l_mark_cell : K.lookup f_mark_cell = some ⟨oc_mark_cell, od_mark_cell, .func (PySem.W.fnOf "mark_cell" "mark_cell" (defArgs s_mark_cell) (defBody s_mark_cell) (defScope s_mark_cell) .none kV_mark_cell dc_mark_cell pm_mark_cell an_mark_cell cd_mark_cell ct_mark_cell), sl_mark_cell⟩)
    (c_mark_cell : PySem.W.codeIn K cd_mark_cell "mark_cell" = true)
    (k_mark_cell : PySem.W.keepIn K (.ref f_mark_cell) = true)
    (d_number_cell : PySem.W.nsIn K mainGlobals "number_cell" = some (some (.ref f_number_cell)))
    (l_number_cell : K.lookup f_number_cell = some ⟨oc_number_cell, od_number_cell, .func (PySem.W.fnOf "number_cell" "number_cell" (defArgs s_number_cell) (defBody s_number_cell) (defScope s_number_cell) .none kV_number_cell dc_number_cell pm_number_cell an_number_cell cd_number_cell ct_number_cell), sl_number_cell⟩)
    (c_number_cell : PySem.W.codeIn K cd_number_cell "number_cell" = true)
    (k_number_cell : PySem.W.keepIn K (.ref f_number_cell) = true)
    (d_left_cell : PySem.W.nsIn K mainGlobals "left_cell" = some (some (.ref f_left_cell)))
    (l_left_cell : K.lookup f_left_cell = some ⟨oc_left_cell, od_left_cell, .func (PySem.W.fnOf "left_cell" "left_cell" (defArgs s_left_cell) (defBody s_left_cell) (defScope s_left_cell) .none kV_left_cell dc_left_cell pm_left_cell an_left_cell cd_left_cell ct_left_cell), sl_left_cell⟩)
    (c_left_cell : PySem.W.codeIn K cd_left_cell "left_cell" = true)
    (k_left_cell : PySem.W.keepIn K (.ref f_left_cell) = true)
    (d_thing_cell : PySem.W.nsIn K mainGlobals "thing_cell" = some (some (.ref f_thing_cell)))
    (l_thing_cell : K.lookup f_thing_cell = some ⟨oc_thing_cell, od_thing_cell, .func (PySem.W.fnOf "thing_cell" "thing_cell" (defArgs s_thing_cell) (defBody s_thing_cell) (defScope s_thing_cell) .none kV_thing_cell dc_thing_cell pm_thing_cell an_thing_cell cd_thing_cell ct_thing_cell), sl_thing_cell⟩)
    (c_thing_cell : PySem.W.codeIn K cd_thing_cell "thing_cell" = true)
    (k_thing_cell : PySem.W.keepIn K (.ref f_thing_cell) = true)
    (d_card_cell : PySem.W.nsIn K mainGlobals "card_cell" = some (some (.ref f_card_cell)))
    (l_card_cell : K.lookup f_card_cell = some ⟨oc_card_cell, od_card_cell, .func (PySem.W.fnOf "card_cell" "card_cell" (defArgs s_card_cell) (defBody s_card_cell) (defScope s_card_cell) .none kV_card_cell dc_card_cell pm_card_cell an_card_cell cd_card_cell ct_card_cell), sl_card_cell⟩)
    (c_card_cell : PySem.W.codeIn K cd_card_cell "card_cell" = true)
    (k_card_cell : PySem.W.keepIn K (.ref f_card_cell) = true)
    (d_bell_cell : PySem.W.nsIn K mainGlobals "bell_cell" = some (some (.ref f_bell_cell)))
    (l_bell_cell : K.lookup f_bell_cell = some ⟨oc_bell_cell, od_bell_cell, .func (PySem.W.fnOf "bell_cell" "bell_cell" (defArgs s_bell_cell) (defBody s_bell_cell) (defScope s_bell_cell) .none kV_bell_cell dc_bell_cell pm_bell_cell an_bell_cell cd_bell_cell ct_bell_cell), sl_bell_cell⟩)
    (c_bell_cell : PySem.W.codeIn K cd_bell_cell "bell_cell" = true)
    (k_bell_cell : PySem.W.keepIn K (.ref f_bell_cell) = true)
    (d_new_cells : PySem.W.nsIn K mainGlobals "new_cells" = some (some (.ref f_new_cells)))
    (l_new_cells : K.lookup f_new_cells = some ⟨oc_new_cells, od_new_cells, .func (PySem.W.fnOf "new_cells" "new_cells" (defArgs s_new_cells) (defBody s_new_cells) (defScope s_new_cells) .none kV_new_cells dc_new_cells pm_new_cells an_new_cells cd_new_cells ct_new_cells), sl_new_cells⟩)
    (c_new_cells : PySem.W.codeIn K cd_new_cells "new_cells" = true)
    (k_new_cells : PySem.W.keepIn K (.ref f_new_cells) = true)
    (d_law_well : PySem.W.nsIn K mainGlobals "_law_well" = some (some (.ref f_law_well)))
    (l_law_well : K.lookup f_law_well = some ⟨oc_law_well, od_law_well, .func (PySem.W.fnOf "_law_well" "_law_well" (defArgs s_law_well) (defBody s_law_well) (defScope s_law_well) .none kV_law_well dc_law_well pm_law_well an_law_well cd_law_well ct_law_well), sl_law_well⟩)
    (c_law_well : PySem.W.codeIn K cd_law_well "_law_well" = true)
    (k_law_well : PySem.W.keepIn K (.ref f_law_well) = true)
    (d_law_take : PySem.W.nsIn K mainGlobals "_law_take" = some (some (.ref f_law_take)))
    (l_law_take : K.lookup f_law_take = some ⟨oc_law_take, od_law_take, .func (PySem.W.fnOf "_law_take" "_law_take" (defArgs s_law_take) (defBody s_law_take) (defScope s_law_take) .none kV_law_take dc_law_take pm_law_take an_law_take cd_law_take ct_law_take), sl_law_take⟩)
    (c_law_take : PySem.W.codeIn K cd_law_take "_law_take" = true)
    (k_law_take : PySem.W.keepIn K (.ref f_law_take) = true)
    (d_law_whole : PySem.W.nsIn K mainGlobals "_law_whole" = some (some (.ref f_law_whole)))
    (l_law_whole : K.lookup f_law_whole = some ⟨oc_law_whole, od_law_whole, .func (PySem.W.fnOf "_law_whole" "_law_whole" (defArgs s_law_whole) (defBody s_law_whole) (defScope s_law_whole) .none kV_law_whole dc_law_whole pm_law_whole an_law_whole cd_law_whole ct_law_whole), sl_law_whole⟩)
    (c_law_whole : PySem.W.codeIn K cd_law_whole "_law_whole" = true)
    (k_law_whole : PySem.W.keepIn K (.ref f_law_whole) = true)
    (d_law_far : PySem.W.nsIn K mainGlobals "_law_far" = some (some (.ref f_law_far)))
    (l_law_far : K.lookup f_law_far = some ⟨oc_law_far, od_law_far, .func (PySem.W.fnOf "_law_far" "_law_far" (defArgs s_law_far) (defBody s_law_far) (defScope s_law_far) .none kV_law_far dc_law_far pm_law_far an_law_far cd_law_far ct_law_far), sl_law_far⟩)
    (c_law_far : PySem.W.codeIn K cd_law_far "_law_far" = true)
    (k_law_far : PySem.W.keepIn K (.ref f_law_far) = true)
    (d_law_flags : PySem.W.nsIn K mainGlobals "_law_flags" = some (some (.ref f_law_flags)))
    (l_law_flags : K.lookup f_law_flags = some ⟨oc_law_flags, od_law_flags, .func (PySem.W.fnOf "_law_flags" "_law_flags" (defArgs s_law_flags) (defBody s_law_flags) (defScope s_law_flags) .none kV_law_flags dc_law_flags pm_law_flags an_law_flags cd_law_flags ct_law_flags), sl_law_flags⟩)
    (c_law_flags : PySem.W.codeIn K cd_law_flags "_law_flags" = true)
    (k_law_flags : PySem.W.keepIn K (.ref f_law_flags) = true)
    (d_law_touched : PySem.W.nsIn K mainGlobals "_law_touched" = some (some (.ref f_law_touched)))
    (l_law_touched : K.lookup f_law_touched = some ⟨oc_law_touched, od_law_touched, .func (PySem.W.fnOf "_law_touched" "_law_touched" (defArgs s_law_touched) (defBody s_law_touched) (defScope s_law_touched) .none kV_law_touched dc_law_touched pm_law_touched an_law_touched cd_law_touched ct_law_touched), sl_law_touched⟩)
    (c_law_touched : PySem.W.codeIn K cd_law_touched "_law_touched" = true)
    (k_law_touched : PySem.W.keepIn K (.ref f_law_touched) = true)
    (d_law_refused : PySem.W.nsIn K mainGlobals "_law_refused" = some (some (.ref f_law_refused)))
    (l_law_refused : K.lookup f_law_refused = some ⟨oc_law_refused, od_law_refused, .func (PySem.W.fnOf "_law_refused" "_law_refused" (defArgs s_law_refused) (defBody s_law_refused) (defScope s_law_refused) .none kV_law_refused dc_law_refused pm_law_refused an_law_refused cd_law_refused ct_law_refused), sl_law_refused⟩)
    (c_law_refused : PySem.W.codeIn K cd_law_refused "_law_refused" = true)
    (k_law_refused : PySem.W.keepIn K (.ref f_law_refused) = true)
    (d_law_cells_right : PySem.W.nsIn K mainGlobals "_law_cells_right" = some (some (.ref f_law_cells_right)))
    (l_law_cells_right : K.lookup f_law_cells_right = some ⟨oc_law_cells_right, od_law_cells_right, .func (PySem.W.fnOf "_law_cells_right" "_law_cells_right" (defArgs s_law_cells_right) (defBody s_law_cells_right) (defScope s_law_cells_right) .none kV_law_cells_right dc_law_cells_right pm_law_cells_right an_law_cells_right cd_law_cells_right ct_law_cells_right), sl_law_cells_right⟩)
    (c_law_cells_right : PySem.W.codeIn K cd_law_cells_right "_law_cells_right" = true)
    (k_law_cells_right : PySem.W.keepIn K (.ref f_law_cells_right) = true)
    (d_law_right : PySem.W.nsIn K mainGlobals "_law_right" = some (some (.ref f_law_right)))
    (l_law_right : K.lookup f_law_right = some ⟨oc_law_right, od_law_right, .func (PySem.W.fnOf "_law_right" "_law_right" (defArgs s_law_right) (defBody s_law_right) (defScope s_law_right) .none kV_law_right dc_law_right pm_law_right an_law_right cd_law_right ct_law_right), sl_law_right⟩)
    (c_law_right : PySem.W.codeIn K cd_law_right "_law_right" = true)
    (k_law_right : PySem.W.keepIn K (.ref f_law_right) = true)
    (d_law : PySem.W.nsIn K mainGlobals "law" = some (some (.ref f_law)))
    (l_law : K.lookup f_law = some ⟨oc_law, od_law, .func (PySem.W.fnOf "law" "law" (defArgs s_law) (defBody s_law) (defScope s_law) .none kV_law dc_law pm_law an_law cd_law ct_law), sl_law⟩)
    (c_law : PySem.W.codeIn K cd_law "law" = true)
    (k_law : PySem.W.keepIn K (.ref f_law) = true)
    (x_nx : PySem.W.exmOne K (.ref C_NoCell) (.ref C_RingError) = some true)
    (x_nN : PySem.W.kitOne K (.ref C_NoCell) (.ref C_NoCell) = some true)
    (x_nS : PySem.W.kitOne K (.ref C_NoCell) (.ref C_BadSize) = some false)
    (x_nD : PySem.W.kitOne K (.ref C_NoCell) (.ref C_NoHand) = some false)
    (x_nV : PySem.W.kitOne K (.ref C_NoCell) (.type "ValueError") = some true)
    (x_n6 : PySem.W.kitAny K (.ref C_NoCell) [.ref C_BadCells, .ref C_BadMark, .ref C_BadOrder, .ref C_Crooked, .ref C_NoRow, .ref C_NoText] = some false)
    (x_n7 : PySem.W.kitAny K (.ref C_NoCell) [.ref C_BadStand, .ref C_NoName, .ref C_NotSound, .ref C_NoTurn, .ref C_NoWaiting, .ref C_TooMany] = some false)
    (x_sx : PySem.W.exmOne K (.ref C_BadSize) (.ref C_RingError) = some true)
    (x_sN : PySem.W.kitOne K (.ref C_BadSize) (.ref C_NoCell) = some false)
    (x_sS : PySem.W.kitOne K (.ref C_BadSize) (.ref C_BadSize) = some true)
    (x_sD : PySem.W.kitOne K (.ref C_BadSize) (.ref C_NoHand) = some false)
    (x_sV : PySem.W.kitOne K (.ref C_BadSize) (.type "ValueError") = some true)
    (x_s6 : PySem.W.kitAny K (.ref C_BadSize) [.ref C_BadCells, .ref C_BadMark, .ref C_BadOrder, .ref C_Crooked, .ref C_NoRow, .ref C_NoText] = some false)
    (x_s7 : PySem.W.kitAny K (.ref C_BadSize) [.ref C_BadStand, .ref C_NoName, .ref C_NotSound, .ref C_NoTurn, .ref C_NoWaiting, .ref C_TooMany] = some false)
    (x_dx : PySem.W.exmOne K (.ref C_NoHand) (.ref C_RingError) = some true)
    (x_dN : PySem.W.kitOne K (.ref C_NoHand) (.ref C_NoCell) = some false)
    (x_dS : PySem.W.kitOne K (.ref C_NoHand) (.ref C_BadSize) = some false)
    (x_dD : PySem.W.kitOne K (.ref C_NoHand) (.ref C_NoHand) = some true)
    (x_dV : PySem.W.kitOne K (.ref C_NoHand) (.type "ValueError") = some true)
    (x_d6 : PySem.W.kitAny K (.ref C_NoHand) [.ref C_BadCells, .ref C_BadMark, .ref C_BadOrder, .ref C_Crooked, .ref C_NoRow, .ref C_NoText] = some false)
    (x_d7 : PySem.W.kitAny K (.ref C_NoHand) [.ref C_BadStand, .ref C_NoName, .ref C_NotSound, .ref C_NoTurn, .ref C_NoWaiting, .ref C_TooMany] = some false)
    (x_w1 : PySem.W.kitOne K (.type "int") (.type "int") = some true)
    (x_w2 : PySem.W.kitOne K (.type "int") (.type "bool") = some false)
    (x_kl : PySem.W.kitOne K (.type "list") (.type "list") = some true) :
    ∃ fd : FuncData, (∀ (s : Shared) (v : Value), BindsTo s fd ⟨[v], []⟩ [("script", v)]) ∧ ∀ base : Heap, K.In base → base.Ns mainGlobals mg → FnOk l.prog w K mg base (CXK l.prog w) 7 fa fd ["script"] (sp_law K) := by
  let cl : Cl := ⟨C_RingError, C_BadSize, C_NoTurn, C_BadMark, C_Crooked, C_NoCell, C_BadCells, C_BadOrder, C_NoHand, C_NoWaiting, C_NotSound, C_BadStand, C_TooMany, C_NoName, C_NoText, C_NoRow, C_Board, t_HANDS⟩
  have e := hfa.symm.trans (PySem.W.mg_of X G d_law)
  cases e
  have T : Txt K mg cl := ⟨⟨PySem.W.mg_of X G a_RingError⟩,
    ⟨⟨e_BadSize, ga_BadSize, gn_BadSize, cl_BadSize, mb_BadSize, mo_BadSize, ic_BadSize, sg, tk⟩, PySem.W.mg_of X G a_BadSize⟩,
    ⟨PySem.W.mg_of X G a_NoTurn⟩,
    ⟨PySem.W.mg_of X G a_BadMark⟩,
    ⟨PySem.W.mg_of X G a_Crooked⟩,
    ⟨⟨e_NoCell, ga_NoCell, gn_NoCell, cl_NoCell, mb_NoCell, mo_NoCell, ic_NoCell, sg, tk⟩, PySem.W.mg_of X G a_NoCell⟩,
    ⟨PySem.W.mg_of X G a_BadCells⟩,
    ⟨PySem.W.mg_of X G a_BadOrder⟩,
    ⟨⟨e_NoHand, ga_NoHand, gn_NoHand, cl_NoHand, mb_NoHand, mo_NoHand, ic_NoHand, sg, tk⟩, PySem.W.mg_of X G a_NoHand⟩,
    ⟨PySem.W.mg_of X G a_NoWaiting⟩,
    ⟨PySem.W.mg_of X G a_NotSound⟩,
    ⟨PySem.W.mg_of X G a_BadStand⟩,
    ⟨PySem.W.mg_of X G a_TooMany⟩,
    ⟨PySem.W.mg_of X G a_NoName⟩,
    ⟨PySem.W.mg_of X G a_NoText⟩,
    ⟨PySem.W.mg_of X G a_NoRow⟩,
    ⟨PySem.W.mg_of X G a_Board⟩,
    ⟨_, PySem.W.mg_of X G q_LEAST_SIZE⟩,
    ⟨_, PySem.W.mg_of X G q_MOST_SIZE⟩,
    ⟨_, PySem.W.mg_of X G q_CELLS_OF_A_PLACE⟩,
    ⟨_, PySem.W.mg_of X G q_NEW_MARK⟩,
    ⟨_, PySem.W.mg_of X G q_NO_ORDER⟩,
    ⟨_, PySem.W.mg_of X G q_NO_TURN⟩,
    ⟨_, PySem.W.mg_of X G q_STILL⟩,
    PySem.W.mg_of X G q_HANDS,
    ⟨_, _, _, lk_HANDS, (show 2 ≤ sizeLine by decide), .cons ⟨_, rfl⟩ (.cons ⟨_, rfl⟩ (.nil))⟩,
    ⟨pg_Board, hd_Board, po_Board, sa_Board⟩,
    n_Board_many_touches,
    n_Board_newest_touch,
    n_Board_numbers,
    n_Board_size,
    PySem.W.mg_none_of X G z_len,
    PySem.W.mg_none_of X G z_range,
    PySem.W.mg_none_of X G z_max,
    PySem.W.mg_none_of X G z_min,
    PySem.W.mg_none_of X G z_isinstance,
    PySem.W.mg_none_of X G z_int,
    PySem.W.mg_none_of X G z_bool,
    PySem.W.mg_none_of X G z_list,
    PySem.W.mg_none_of X G z_all,
    PySem.W.mg_none_of X G z_ValueError⟩
  have D_check_size : DefT K mg "check_size" s_check_size ["size"] := .mk' X G d_check_size l_check_size c_check_size k_check_size fun _ _ _ _ _ _ us hl => match us, hl with | [_], _ => rfl
  have D_check_hand : DefT K mg "check_hand" s_check_hand ["hand"] := .mk' X G d_check_hand l_check_hand c_check_hand k_check_hand fun _ _ _ _ _ _ us hl => match us, hl with | [_], _ => rfl
  have D_mark_cell : DefT K mg "mark_cell" s_mark_cell ["place"] := .mk' X G d_mark_cell l_mark_cell c_mark_cell k_mark_cell fun _ _ _ _ _ _ us hl => match us, hl with | [_], _ => rfl
  have D_number_cell : DefT K mg "number_cell" s_number_cell ["place"] := .mk' X G d_number_cell l_number_cell c_number_cell k_number_cell fun _ _ _ _ _ _ us hl => match us, hl with | [_], _ => rfl
  have D_left_cell : DefT K mg "left_cell" s_left_cell ["place"] := .mk' X G d_left_cell l_left_cell c_left_cell k_left_cell fun _ _ _ _ _ _ us hl => match us, hl with | [_], _ => rfl
  have D_thing_cell : DefT K mg "thing_cell" s_thing_cell ["place"] := .mk' X G d_thing_cell l_thing_cell c_thing_cell k_thing_cell fun _ _ _ _ _ _ us hl => match us, hl with | [_], _ => rfl
  have D_card_cell : DefT K mg "card_cell" s_card_cell ["size", "hand"] := .mk' X G d_card_cell l_card_cell c_card_cell k_card_cell fun _ _ _ _ _ _ us hl => match us, hl with | [_, _], _ => rfl
  have D_bell_cell : DefT K mg "bell_cell" s_bell_cell ["size", "hand"] := .mk' X G d_bell_cell l_bell_cell c_bell_cell k_bell_cell fun _ _ _ _ _ _ us hl => match us, hl with | [_, _], _ => rfl
  have D_new_cells : DefT K mg "new_cells" s_new_cells ["size"] := .mk' X G d_new_cells l_new_cells c_new_cells k_new_cells fun _ _ _ _ _ _ us hl => match us, hl with | [_], _ => rfl
  have D_law_well : DefT K mg "_law_well" s_law_well ["script", "k"] := .mk' X G d_law_well l_law_well c_law_well k_law_well fun _ _ _ _ _ _ us hl => match us, hl with | [_, _], _ => rfl
  have D_law_take : DefT K mg "_law_take" s_law_take ["well", "many"] := .mk' X G d_law_take l_law_take c_law_take k_law_take fun _ _ _ _ _ _ us hl => match us, hl with | [_, _], _ => rfl
  have D_law_whole : DefT K mg "_law_whole" s_law_whole ["found"] := .mk' X G d_law_whole l_law_whole c_law_whole k_law_whole fun _ _ _ _ _ _ us hl => match us, hl with | [_], _ => rfl
  have D_law_far : DefT K mg "_law_far" s_law_far ["well"] := .mk' X G d_law_far l_law_far c_law_far k_law_far fun _ _ _ _ _ _ us hl => match us, hl with | [_], _ => rfl
  have D_law_flags : DefT K mg "_law_flags" s_law_flags ["e"] := .mk' X G d_law_flags l_law_flags c_law_flags k_law_flags fun _ _ _ _ _ _ us hl => match us, hl with | [_], _ => rfl
  have D_law_touched : DefT K mg "_law_touched" s_law_touched ["board", "writes", "cell", "number"] := .mk' X G d_law_touched l_law_touched c_law_touched k_law_touched fun _ _ _ _ _ _ us hl => match us, hl with | [_, _, _, _], _ => rfl
  have D_law_refused : DefT K mg "_law_refused" s_law_refused ["way", "size", "hand"] := .mk' X G d_law_refused l_law_refused c_law_refused k_law_refused fun _ _ _ _ _ _ us hl => match us, hl with | [_, _, _], _ => rfl
  have D_law_cells_right : DefT K mg "_law_cells_right" s_law_cells_right ["well", "size"] := .mk' X G d_law_cells_right l_law_cells_right c_law_cells_right k_law_cells_right fun _ _ _ _ _ _ us hl => match us, hl with | [_, _], _ => rfl
  have D_law_right : DefT K mg "_law_right" s_law_right ["board", "size", "row", "many", "last"] := .mk' X G d_law_right l_law_right c_law_right k_law_right fun _ _ _ _ _ _ us hl => match us, hl with | [_, _, _, _, _], _ => rfl
  have D_Board_init : DefM K cl.Board "__init__" "Board.__init__" s_Board_init ["self", "size"] := .mk' d_Board_init i_Board_init l_Board_init c_Board_init k_Board_init fun _ _ _ _ _ _ us hl => match us, hl with | [_, _], _ => rfl
  have D_Board_check_cell : DefM K cl.Board "check_cell" "Board.check_cell" s_Board_check_cell ["self", "cell"] := .mk' d_Board_check_cell i_Board_check_cell l_Board_check_cell c_Board_check_cell k_Board_check_cell fun _ _ _ _ _ _ us hl => match us, hl with | [_, _], _ => rfl
  have D_Board_note_touch : DefM K cl.Board "note_touch" "Board.note_touch" s_Board_note_touch ["self", "deed", "cell", "value"] := .mk' d_Board_note_touch i_Board_note_touch l_Board_note_touch c_Board_note_touch k_Board_note_touch fun _ _ _ _ _ _ us hl => match us, hl with | [_, _, _, _], _ => rfl
  have D_Board_read : DefM K cl.Board "read" "Board.read" s_Board_read ["self", "cell"] := .mk' d_Board_read i_Board_read l_Board_read c_Board_read k_Board_read fun _ _ _ _ _ _ us hl => match us, hl with | [_, _], _ => rfl
  have D_Board_write : DefM K cl.Board "write" "Board.write" s_Board_write ["self", "cell", "number"] := .mk' d_Board_write i_Board_write l_Board_write c_Board_write k_Board_write fun _ _ _ _ _ _ us hl => match us, hl with | [_, _, _], _ => rfl
  have D_Board_all_cells : DefM K cl.Board "all_cells" "Board.all_cells" s_Board_all_cells ["self"] := .mk' d_Board_all_cells i_Board_all_cells l_Board_all_cells c_Board_all_cells k_Board_all_cells fun _ _ _ _ _ _ us hl => match us, hl with | [_], _ => rfl
  have D_Board_touches : DefM K cl.Board "touches" "Board.touches" s_Board_touches ["self"] := .mk' d_Board_touches i_Board_touches l_Board_touches c_Board_touches k_Board_touches fun _ _ _ _ _ _ us hl => match us, hl with | [_], _ => rfl
  have D_Board_last_touch : DefM K cl.Board "last_touch" "Board.last_touch" s_Board_last_touch ["self"] := .mk' d_Board_last_touch i_Board_last_touch l_Board_last_touch c_Board_last_touch k_Board_last_touch fun _ _ _ _ _ _ us hl => match us, hl with | [_], _ => rfl
  have F_law := fun_mk (st := s_law) l_law c_law k_law
  refine ⟨PySem.W.fnOf "law" "law" (defArgs s_law) (defBody s_law) (defScope s_law) .none kV_law dc_law pm_law an_law cd_law ct_law, fun s v => .of_eq rfl, fun base _ _ => ?_⟩
  have kd := (⟨⟨T.c_NoCell.k, x_nx, x_nN, x_nS, x_nD, x_nV, x_n6, x_n7⟩, ⟨T.c_BadSize.k, x_sx, x_sN, x_sS, x_sD, x_sV, x_s6, x_s7⟩, ⟨T.c_NoHand.k, x_dx, x_dN, x_dS, x_dD, x_dV, x_d6, x_d7⟩⟩ : Kd K cl)
  have G1 := (ok_check_size D_check_size T : FnT l.prog w K mg base "check_size" 1 ["size"] (sp_check_size cl))
  have G2 := (ok_check_hand D_check_hand T : FnT l.prog w K mg base "check_hand" 1 ["hand"] (sp_check_hand cl))
  have C1 := (ok_mark_cell D_mark_cell T : FnT l.prog w K mg base "mark_cell" 1 ["place"] (sp_cellOf 0))
  have C2 := (ok_number_cell D_number_cell T : FnT l.prog w K mg base "number_cell" 1 ["place"] (sp_cellOf 1))
  have C3 := (ok_left_cell D_left_cell T : FnT l.prog w K mg base "left_cell" 1 ["place"] (sp_cellOf 2))
  have C4 := (ok_thing_cell D_thing_cell T : FnT l.prog w K mg base "thing_cell" 1 ["place"] (sp_cellOf 3))
  have G3 := ok_card_cell D_card_cell T G1 G2
  have G4 := ok_bell_cell D_bell_cell T G3
  have G5 := (ok_new_cells D_new_cells T : FnT l.prog w K mg base "new_cells" 1 ["size"] sp_new_cells)
  have B0 := ok_Board_init D_Board_init T G1 G5
  have BM := B0.make mk_Board kc_Board T.c_Board.m
  have B1 := (ok_Board_check_cell D_Board_check_cell T : MethT l.prog w K mg base cl.Board "check_cell" 1 ["self", "cell"] (sp_Board_check_cell cl))
  have B2 := (ok_Board_note_touch D_Board_note_touch T : MethT l.prog w K mg base cl.Board "note_touch" 1 ["self", "deed", "cell", "value"] (sp_Board_note_touch cl))
  have B3 := ok_Board_read D_Board_read T B1 B2
  have B4 := ok_Board_write D_Board_write T B1 B2
  have B5 := (ok_Board_all_cells D_Board_all_cells T : MethT l.prog w K mg base cl.Board "all_cells" 1 ["self"] (sp_Board_all_cells cl))
  have B6 := (ok_Board_touches D_Board_touches T : MethT l.prog w K mg base cl.Board "touches" 1 ["self"] (sp_Board_touches cl))
  have B7 := (ok_Board_last_touch D_Board_last_touch T : MethT l.prog w K mg base cl.Board "last_touch" 1 ["self"] (sp_Board_last_touch cl))
  have L1 := (ok_law_take D_law_take T : FnT l.prog w K mg base "_law_take" 1 ["well", "many"] sp_law_take)
  have L2 := (ok_law_well D_law_well T : FnT l.prog w K mg base "_law_well" 1 ["script", "k"] (sp_law_well K))
  have L3 := (ok_law_whole D_law_whole T x_w1 x_w2 : FnT l.prog w K mg base "_law_whole" 1 ["found"] sp_law_whole)
  have L4 := ok_law_far D_law_far T L1
  have L5 := (ok_law_flags D_law_flags T : FnTH l.prog w K mg base "_law_flags" 1 ["e"] (sp_law_flags K cl))
  have L6 := ok_law_touched D_law_touched T kd B3 B4 L5
  have L7 := ok_law_refused D_law_refused T kd G3 G4 BM L5
  have L8 := ok_law_cells_right D_law_cells_right T C1 C2 C3 C4 L3 L1 L4 G3 G4 L7
  have L9 := ok_law_right D_law_right T x_kl B5 B6 B7
  have H_law := ok_law F_law T L1 L2 L4 BM L6 L9 L8
  exact H_law
theorem walk {l : PySem.W.OpenLaw} {q : Program} {loose : List Str} {XP : (Str → Option Value) → Heap → Prop} {YP : World → Heap → Prop} {d : DefRec} {K : Params → PySem.W.Frag} (hn : l.most = some 63) (hdf : d.params.defaults = [])
    (hY : ∀ (w : World) (h : Heap), YP w h → (K w.params).In h)
    (F : ∀ (w : World) (mg : Str → Option Value) (fa : Addr) (h : Heap), (K w.params).In h → h.Ns mainGlobals mg → mg d.name = some (.ref fa) →
      ∃ fd : FuncData, (∀ (s : Shared) (u : Value), BindsTo s fd ⟨[u], []⟩ [("script", u)]) ∧ ∀ base : Heap, (K w.params).In base → base.Ns mainGlobals mg → FnOk l.prog w (K w.params) mg base (CXK l.prog w) 7 fa fd ["script"] (sp_law (K w.params))) :
    PySem.W.WalkO q loose XP YP l.row.toRowW d [] (fun f vs => PySem.call f vs) :=
  L2.walk_of (n := 63) (k := 7) (x := "script") (CX := fun w => CXK l.prog w) (sp := fun w => sp_law (K w.params)) hn (by decide) hdf ⟨rfl, by decide, by decide⟩ hY F (fun _ _ a ns hl _ hS => ⟨a, ns, rfl, hS, hl, fun _ => rfl⟩)
    fun _ _ _ _ _ z => by obtain ⟨_, _, _, _, _, q⟩ := z; exact q
end S
open PySem PySem.W PyProof.Rows
set_option maxRecDepth 100000
set_option maxHeartbeats 0
def PySem.W.Fast.tw10118262284458037933 : Unit := ()
def PySem.W.Fast.tw10368827614151553891 : Unit := ()
def PySem.W.Fast.tw10374632558016547081 : Unit := ()
def PySem.W.Fast.tw10627929193734500438 : Unit := ()
def PySem.W.Fast.tw11589282660436910429 : Unit := ()
def PySem.W.Fast.tw12145756527313086355 : Unit := ()
def PySem.W.Fast.tw12405761042648551022 : Unit := ()
def PySem.W.Fast.tw12731152576971404446 : Unit := ()
def PySem.W.Fast.tw13265978090383273239 : Unit := ()
def PySem.W.Fast.tw14565471765716263578 : Unit := ()
def PySem.W.Fast.tw14800370929953404514 : Unit := ()
def PySem.W.Fast.tw15018716904364860632 : Unit := ()
def PySem.W.Fast.tw15279809834360698895 : Unit := ()
def PySem.W.Fast.tw16337829757602789733 : Unit := ()
def PySem.W.Fast.tw16506471722634982818 : Unit := ()
def PySem.W.Fast.tw17451581249640050385 : Unit := ()
def PySem.W.Fast.tw17590196521536335332 : Unit := ()
def PySem.W.Fast.tw17689344090056996911 : Unit := ()
def PySem.W.Fast.tw18017129668781235815 : Unit := ()
def PySem.W.Fast.tw2034817482908223496 : Unit := ()
def PySem.W.Fast.tw243476719192100926 : Unit := ()
def PySem.W.Fast.tw2875624504187281209 : Unit := ()
def PySem.W.Fast.tw3507769193172341495 : Unit := ()
def PySem.W.Fast.tw3945831679567021610 : Unit := ()
def PySem.W.Fast.tw4295534447537059203 : Unit := ()
def PySem.W.Fast.tw4580019852769339753 : Unit := ()
def PySem.W.Fast.tw4843829748527759242 : Unit := ()
def PySem.W.Fast.tw5007949963210716804 : Unit := ()
def PySem.W.Fast.tw6594970650091316094 : Unit := ()
def PySem.W.Fast.tw6605169337270321112 : Unit := ()
def PySem.W.Fast.tw6621635546502472408 : Unit := ()
def PySem.W.Fast.tw7478123994339007903 : Unit := ()
def PySem.W.Fast.tw7701650113140490549 : Unit := ()
def PySem.W.Fast.tw7774113678449685934 : Unit := ()
def PySem.W.Fast.tw8282588126930224528 : Unit := ()
def PySem.W.Fast.tw861502493610598483 : Unit := ()
def PySem.W.Fast.tw8854275682344465072 : Unit := ()
def PySem.W.Fast.tw8997383693586321770 : Unit := ()
def PySem.W.Fast.tw9023412946914863120 : Unit := ()
def PySem.W.Fast.tw9052937418870083693 : Unit := ()
def PySem.W.Fast.tw9363214764283991203 : Unit := ()
def PySem.W.Fast.tw9385439782273163706 : Unit := ()
def PySem.W.Fast.tw938635154573522699 : Unit := ()
def PySem.W.Fast.tw9910136688757260964 : Unit := ()
open_top hd for PySem.Challenge.rw_slipring_k06_boards_touched
theorem PySem.Challenge.cw_slipring_k06_boards_touched_holds : PySem.Challenge.rw_slipring_k06_boards_touched.Holds := by
  refine hd ?_
  k_fill
  refine S.walk (l := PySem.Challenge.rw_slipring_k06_boards_touched) rfl rfl (fun w h Y => PySem.W.kIn_of Y) ?F
  case F =>
    intro w mg fa h KX G hmg
    refine' S.all_mk KX G hmg ?a_RingError ?a_BadSize ?e_BadSize ?ga_BadSize ?gn_BadSize ?cl_BadSize ?mb_BadSize ?mo_BadSize ?ic_BadSize ?a_NoTurn ?a_BadMark ?a_Crooked ?a_NoCell ?e_NoCell ?ga_NoCell ?gn_NoCell ?cl_NoCell ?mb_NoCell ?mo_NoCell ?ic_NoCell ?a_BadCells ?a_BadOrder ?a_NoHand ?e_NoHand ?ga_NoHand ?gn_NoHand ?cl_NoHand ?mb_NoHand ?mo_NoHand ?ic_NoHand ?a_NoWaiting ?a_NotSound ?a_BadStand ?a_TooMany ?a_NoName ?a_NoText ?a_NoRow ?a_Board ?sg ?tk ?q_LEAST_SIZE ?q_MOST_SIZE ?q_CELLS_OF_A_PLACE ?q_NEW_MARK ?q_NO_ORDER ?q_NO_TURN ?q_STILL ?q_HANDS ?lk_HANDS ?pg_Board ?hd_Board ?po_Board ?sa_Board ?mk_Board ?kc_Board ?n_Board_many_touches ?n_Board_newest_touch ?n_Board_numbers ?n_Board_size ?d_Board_init ?i_Board_init ?l_Board_init ?c_Board_init ?k_Board_init ?d_Board_check_cell ?i_Board_check_cell ?l_Board_check_cell ?c_Board_check_cell ?k_Board_check_cell ?d_Board_note_touch ?i_Board_note_touch ?l_Board_note_touch ?c_Board_note_touch ?k_Board_note_touch ?d_Board_read ?i_Board_read ?l_Board_read ?c_Board_read ?k_Board_read ?d_Board_write ?i_Board_write ?l_Board_write ?c_Board_write ?k_Board_write ?d_Board_all_cells ?i_Board_all_cells ?l_Board_all_cells ?c_Board_all_cells ?k_Board_all_cells ?d_Board_touches ?i_Board_touches ?l_Board_touches ?c_Board_touches ?k_Board_touches ?d_Board_last_touch ?i_Board_last_touch ?l_Board_last_touch ?c_Board_last_touch ?k_Board_last_touch ?z_len ?z_range ?z_max ?z_min ?z_isinstance ?z_int ?z_bool ?z_list ?z_all ?z_ValueError ?d_check_size ?l_check_size ?c_check_size ?k_check_size ?d_check_hand ?l_check_hand ?c_check_hand ?k_check_hand ?d_mark_cell ?l_mark_cell ?c_mark_cell ?k_mark_cell ?d_number_cell ?l_number_cell ?c_number_cell ?k_number_cell ?d_left_cell ?l_left_cell ?c_left_cell ?k_left_cell ?d_thing_cell ?l_thing_cell ?c_thing_cell ?k_thing_cell ?d_card_cell ?l_card_cell ?c_card_cell ?k_card_cell ?d_bell_cell ?l_bell_cell ?c_bell_cell ?k_bell_cell ?d_new_cells ?l_new_cells ?c_new_cells ?k_new_cells ?d_law_well ?l_law_well ?c_law_well ?k_law_well ?d_law_take ?l_law_take ?c_law_take ?k_law_take ?d_law_whole ?l_law_whole ?c_law_whole ?k_law_whole ?d_law_far ?l_law_far ?c_law_far ?k_law_far ?d_law_flags ?l_law_flags ?c_law_flags ?k_law_flags ?d_law_touched ?l_law_touched ?c_law_touched ?k_law_touched ?d_law_refused ?l_law_refused ?c_law_refused ?k_law_refused ?d_law_cells_right ?l_law_cells_right ?c_law_cells_right ?k_law_cells_right ?d_law_right ?l_law_right ?c_law_right ?k_law_right ?d_law ?l_law ?c_law ?k_law ?x_nx ?x_nN ?x_nS ?x_nD ?x_nV ?x_n6 ?x_n7 ?x_sx ?x_sN ?x_sS ?x_sD ?x_sV ?x_s6 ?x_s7 ?x_dx ?x_dN ?x_dS ?x_dD ?x_dV ?x_d6 ?x_d7 ?x_w1 ?x_w2 ?x_kl
    (case a_RingError => first | k_is | kit_is | kts_exm | kernel_rfl)
    (case a_BadSize => first | k_is | kit_is | kts_exm | kernel_rfl)
    (case e_BadSize => first | k_is | kit_is | kts_exm | kernel_rfl)
    (case ga_BadSize => first | k_is | kit_is | kts_exm | kernel_rfl)
    (case gn_BadSize => first | k_is | kit_is | kts_exm | kernel_rfl)
    (case cl_BadSize => first | k_is | kit_is | kts_exm | kernel_rfl)
    (case mb_BadSize => first | k_is | kit_is | kts_exm | kernel_rfl)
    (case mo_BadSize => first | k_is | kit_is | kts_exm | kernel_rfl)
    (case ic_BadSize => first | k_is | kit_is | kts_exm | kernel_rfl)
    (case a_NoTurn => first | k_is | kit_is | kts_exm | kernel_rfl)
    (case a_BadMark => first | k_is | kit_is | kts_exm | kernel_rfl)
    (case a_Crooked => first | k_is | kit_is | kts_exm | kernel_rfl)
    (case a_NoCell => first | k_is | kit_is | kts_exm | kernel_rfl)
    (case e_NoCell => first | k_is | kit_is | kts_exm | kernel_rfl)
    (case ga_NoCell => first | k_is | kit_is | kts_exm | kernel_rfl)
    (case gn_NoCell => first | k_is | kit_is | kts_exm | kernel_rfl)
    (case cl_NoCell => first | k_is | kit_is | kts_exm | kernel_rfl)
    (case mb_NoCell => first | k_is | kit_is | kts_exm | kernel_rfl)
    (case mo_NoCell => first | k_is | kit_is | kts_exm | kernel_rfl)
    (case ic_NoCell => first | k_is | kit_is | kts_exm | kernel_rfl)
    (case a_BadCells => first | k_is | kit_is | kts_exm | kernel_rfl)
    (case a_BadOrder => first | k_is | kit_is | kts_exm | kernel_rfl)
    (case a_NoHand => first | k_is | kit_is | kts_exm | kernel_rfl)
    (case e_NoHand => first | k_is | kit_is | kts_exm | kernel_rfl)
    (case ga_NoHand => first | k_is | kit_is | kts_exm | kernel_rfl)
    (case gn_NoHand => first | k_is | kit_is | kts_exm | kernel_rfl)
    (case cl_NoHand => first | k_is | kit_is | kts_exm | kernel_rfl)
    (case mb_NoHand => first | k_is | kit_is | kts_exm | kernel_rfl)
    (case mo_NoHand => first | k_is | kit_is | kts_exm | kernel_rfl)
    (case ic_NoHand => first | k_is | kit_is | kts_exm | kernel_rfl)
    (case a_NoWaiting => first | k_is | kit_is | kts_exm | kernel_rfl)
    (case a_NotSound => first | k_is | kit_is | kts_exm | kernel_rfl)
    (case a_BadStand => first | k_is | kit_is | kts_exm | kernel_rfl)
    (case a_TooMany => first | k_is | kit_is | kts_exm | kernel_rfl)
    (case a_NoName => first | k_is | kit_is | kts_exm | kernel_rfl)
    (case a_NoText => first | k_is | kit_is | kts_exm | kernel_rfl)
    (case a_NoRow => first | k_is | kit_is | kts_exm | kernel_rfl)
    (case a_Board => first | k_is | kit_is | kts_exm | kernel_rfl)
    (case sg => first | k_is | kit_is | kts_exm | kernel_rfl)
    (case tk => first | k_is | kit_is | kts_exm | kernel_rfl)
    (case q_LEAST_SIZE => first | k_is | kit_is | kts_exm | kernel_rfl)
    (case q_MOST_SIZE => first | k_is | kit_is | kts_exm | kernel_rfl)
    (case q_CELLS_OF_A_PLACE => first | k_is | kit_is | kts_exm | kernel_rfl)
    (case q_NEW_MARK => first | k_is | kit_is | kts_exm | kernel_rfl)
    (case q_NO_ORDER => first | k_is | kit_is | kts_exm | kernel_rfl)
    (case q_NO_TURN => first | k_is | kit_is | kts_exm | kernel_rfl)
    (case q_STILL => first | k_is | kit_is | kts_exm | kernel_rfl)
    (case q_HANDS => first | k_is | kit_is | kts_exm | kernel_rfl)
    (case lk_HANDS => first | k_is | kit_is | kts_exm | kernel_rfl)
    (case pg_Board => first | k_is | kit_is | kts_exm | kernel_rfl)
    (case hd_Board => first | k_is | kit_is | kts_exm | kernel_rfl)
    (case po_Board => first | k_is | kit_is | kts_exm | kernel_rfl)
    (case sa_Board => first | k_is | kit_is | kts_exm | kernel_rfl)
    (case mk_Board => first | k_is | kit_is | kts_exm | kernel_rfl)
    (case kc_Board => first | k_is | kit_is | kts_exm | kernel_rfl)
    (case n_Board_many_touches => first | k_is | kit_is | kts_exm | kernel_rfl)
    (case n_Board_newest_touch => first | k_is | kit_is | kts_exm | kernel_rfl)
    (case n_Board_numbers => first | k_is | kit_is | kts_exm | kernel_rfl)
    (case n_Board_size => first | k_is | kit_is | kts_exm | kernel_rfl)
    (case d_Board_init => first | k_is | kit_is | kts_exm | kernel_rfl)
    (case i_Board_init => first | k_is | kit_is | kts_exm | kernel_rfl)
    (case l_Board_init => first | k_is | kit_is | kts_exm | kernel_rfl)
    (case c_Board_init => first | k_is | kit_is | kts_exm | kernel_rfl)
    (case k_Board_init => first | k_is | kit_is | kts_exm | kernel_rfl)
    (case d_Board_check_cell => first | k_is | kit_is | kts_exm | kernel_rfl)
    (case i_Board_check_cell => first | k_is | kit_is | kts_exm | kernel_rfl)
    (case l_Board_check_cell => first | k_is | kit_is | kts_exm | kernel_rfl)
    (case c_Board_check_cell => first | k_is | kit_is | kts_exm | kernel_rfl)
    (case k_Board_check_cell => first | k_is | kit_is | kts_exm | kernel_rfl)
    (case d_Board_note_touch => first | k_is | kit_is | kts_exm | kernel_rfl)
    (case i_Board_note_touch => first | k_is | kit_is | kts_exm | kernel_rfl)
    (case l_Board_note_touch => first | k_is | kit_is | kts_exm | kernel_rfl)
    (case c_Board_note_touch => first | k_is | kit_is | kts_exm | kernel_rfl)
    (case k_Board_note_touch => first | k_is | kit_is | kts_exm | kernel_rfl)
    (case d_Board_read => first | k_is | kit_is | kts_exm | kernel_rfl)
    (case i_Board_read => first | k_is | kit_is | kts_exm | kernel_rfl)
    (case l_Board_read => first | k_is | kit_is | kts_exm | kernel_rfl)
    (case c_Board_read => first | k_is | kit_is | kts_exm | kernel_rfl)
    (case k_Board_read => first | k_is | kit_is | kts_exm | kernel_rfl)
    (case d_Board_write => first | k_is | kit_is | kts_exm | kernel_rfl)
    (case i_Board_write => first | k_is | kit_is | kts_exm | kernel_rfl)
    (case l_Board_write => first | k_is | kit_is | kts_exm | kernel_rfl)
    (case c_Board_write => first | k_is | kit_is | kts_exm | kernel_rfl)
    (case k_Board_write => first | k_is | kit_is | kts_exm | kernel_rfl)
    (case d_Board_all_cells => first | k_is | kit_is | kts_exm | kernel_rfl)
    (case i_Board_all_cells => first | k_is | kit_is | kts_exm | kernel_rfl)
    (case l_Board_all_cells => first | k_is | kit_is | kts_exm | kernel_rfl)
    (case c_Board_all_cells => first | k_is | kit_is | kts_exm | kernel_rfl)
    (case k_Board_all_cells => first | k_is | kit_is | kts_exm | kernel_rfl)
    (case d_Board_touches => first | k_is | kit_is | kts_exm | kernel_rfl)
    (case i_Board_touches => first | k_is | kit_is | kts_exm | kernel_rfl)
    (case l_Board_touches => first | k_is | kit_is | kts_exm | kernel_rfl)
    (case c_Board_touches => first | k_is | kit_is | kts_exm | kernel_rfl)
    (case k_Board_touches => first | k_is | kit_is | kts_exm | kernel_rfl)
    (case d_Board_last_touch => first | k_is | kit_is | kts_exm | kernel_rfl)
    (case i_Board_last_touch => first | k_is | kit_is | kts_exm | kernel_rfl)
    (case l_Board_last_touch => first | k_is | kit_is | kts_exm | kernel_rfl)
    (case c_Board_last_touch => first | k_is | kit_is | kts_exm | kernel_rfl)
    (case k_Board_last_touch => first | k_is | kit_is | kts_exm | kernel_rfl)
    (case z_len => first | k_is | kit_is | kts_exm | kernel_rfl)
    (case z_range => first | k_is | kit_is | kts_exm | kernel_rfl)
    (case z_max => first | k_is | kit_is | kts_exm | kernel_rfl)
    (case z_min => first | k_is | kit_is | kts_exm | kernel_rfl)
    (case z_isinstance => first | k_is | kit_is | kts_exm | kernel_rfl)
    (case z_int => first | k_is | kit_is | kts_exm | kernel_rfl)
    (case z_bool => first | k_is | kit_is | kts_exm | kernel_rfl)
    (case z_list => first | k_is | kit_is | kts_exm | kernel_rfl)
    (case z_all => first | k_is | kit_is | kts_exm | kernel_rfl)
    (case z_ValueError => first | k_is | kit_is | kts_exm | kernel_rfl)
    (case d_check_size => first | k_is | kit_is | kts_exm | kernel_rfl)
    (case l_check_size => first | k_is | kit_is | kts_exm | kernel_rfl)
    (case c_check_size => first | k_is | kit_is | kts_exm | kernel_rfl)
    (case k_check_size => first | k_is | kit_is | kts_exm | kernel_rfl)
    (case d_check_hand => first | k_is | kit_is | kts_exm | kernel_rfl)
    (case l_check_hand => first | k_is | kit_is | kts_exm | kernel_rfl)
    (case c_check_hand => first | k_is | kit_is | kts_exm | kernel_rfl)
    (case k_check_hand => first | k_is | kit_is | kts_exm | kernel_rfl)
    (case d_mark_cell => first | k_is | kit_is | kts_exm | kernel_rfl)
    (case l_mark_cell => first | k_is | kit_is | kts_exm | kernel_rfl)
    (case c_mark_cell => first | k_is | kit_is | kts_exm | kernel_rfl)
    (case k_mark_cell => first | k_is | kit_is | kts_exm | kernel_rfl)
    (case d_number_cell => first | k_is | kit_is | kts_exm | kernel_rfl)
    (case l_number_cell => first | k_is | kit_is | kts_exm | kernel_rfl)
    (case c_number_cell => first | k_is | kit_is | kts_exm | kernel_rfl)
    (case k_number_cell => first | k_is | kit_is | kts_exm | kernel_rfl)
    (case d_left_cell => first | k_is | kit_is | kts_exm | kernel_rfl)
    (case l_left_cell => first | k_is | kit_is | kts_exm | kernel_rfl)
    (case c_left_cell => first | k_is | kit_is | kts_exm | kernel_rfl)
    (case k_left_cell => first | k_is | kit_is | kts_exm | kernel_rfl)
    (case d_thing_cell => first | k_is | kit_is | kts_exm | kernel_rfl)
    (case l_thing_cell => first | k_is | kit_is | kts_exm | kernel_rfl)
    (case c_thing_cell => first | k_is | kit_is | kts_exm | kernel_rfl)
    (case k_thing_cell => first | k_is | kit_is | kts_exm | kernel_rfl)
    (case d_card_cell => first | k_is | kit_is | kts_exm | kernel_rfl)
    (case l_card_cell => first | k_is | kit_is | kts_exm | kernel_rfl)
    (case c_card_cell => first | k_is | kit_is | kts_exm | kernel_rfl)
    (case k_card_cell => first | k_is | kit_is | kts_exm | kernel_rfl)
    (case d_bell_cell => first | k_is | kit_is | kts_exm | kernel_rfl)
    (case l_bell_cell => first | k_is | kit_is | kts_exm | kernel_rfl)
    (case c_bell_cell => first | k_is | kit_is | kts_exm | kernel_rfl)
    (case k_bell_cell => first | k_is | kit_is | kts_exm | kernel_rfl)
    (case d_new_cells => first | k_is | kit_is | kts_exm | kernel_rfl)
    (case l_new_cells => first | k_is | kit_is | kts_exm | kernel_rfl)
    (case c_new_cells => first | k_is | kit_is | kts_exm | kernel_rfl)
    (case k_new_cells => first | k_is | kit_is | kts_exm | kernel_rfl)
    (case d_law_well => first | k_is | kit_is | kts_exm | kernel_rfl)
    (case l_law_well => first | k_is | kit_is | kts_exm | kernel_rfl)
    (case c_law_well => first | k_is | kit_is | kts_exm | kernel_rfl)
    (case k_law_well => first | k_is | kit_is | kts_exm | kernel_rfl)
    (case d_law_take => first | k_is | kit_is | kts_exm | kernel_rfl)
    (case l_law_take => first | k_is | kit_is | kts_exm | kernel_rfl)
    (case c_law_take => first | k_is | kit_is | kts_exm | kernel_rfl)
    (case k_law_take => first | k_is | kit_is | kts_exm | kernel_rfl)
    (case d_law_whole => first | k_is | kit_is | kts_exm | kernel_rfl)
    (case l_law_whole => first | k_is | kit_is | kts_exm | kernel_rfl)
    (case c_law_whole => first | k_is | kit_is | kts_exm | kernel_rfl)
    (case k_law_whole => first | k_is | kit_is | kts_exm | kernel_rfl)
    (case d_law_far => first | k_is | kit_is | kts_exm | kernel_rfl)
    (case l_law_far => first | k_is | kit_is | kts_exm | kernel_rfl)
    (case c_law_far => first | k_is | kit_is | kts_exm | kernel_rfl)
    (case k_law_far => first | k_is | kit_is | kts_exm | kernel_rfl)
    (case d_law_flags => first | k_is | kit_is | kts_exm | kernel_rfl)
    (case l_law_flags => first | k_is | kit_is | kts_exm | kernel_rfl)
    (case c_law_flags => first | k_is | kit_is | kts_exm | kernel_rfl)
    (case k_law_flags => first | k_is | kit_is | kts_exm | kernel_rfl)
    (case d_law_touched => first | k_is | kit_is | kts_exm | kernel_rfl)
    (case l_law_touched => first | k_is | kit_is | kts_exm | kernel_rfl)
    (case c_law_touched => first | k_is | kit_is | kts_exm | kernel_rfl)
    (case k_law_touched => first | k_is | kit_is | kts_exm | kernel_rfl)
    (case d_law_refused => first | k_is | kit_is | kts_exm | kernel_rfl)
    (case l_law_refused => first | k_is | kit_is | kts_exm | kernel_rfl)
    (case c_law_refused => first | k_is | kit_is | kts_exm | kernel_rfl)
    (case k_law_refused => first | k_is | kit_is | kts_exm | kernel_rfl)
    (case d_law_cells_right => first | k_is | kit_is | kts_exm | kernel_rfl)
    (case l_law_cells_right => first | k_is | kit_is | kts_exm | kernel_rfl)
    (case c_law_cells_right => first | k_is | kit_is | kts_exm | kernel_rfl)
    (case k_law_cells_right => first | k_is | kit_is | kts_exm | kernel_rfl)
    (case d_law_right => first | k_is | kit_is | kts_exm | kernel_rfl)
    (case l_law_right => first | k_is | kit_is | kts_exm | kernel_rfl)
    (case c_law_right => first | k_is | kit_is | kts_exm | kernel_rfl)
    (case k_law_right => first | k_is | kit_is | kts_exm | kernel_rfl)
    (case d_law => first | k_is | kit_is | kts_exm | kernel_rfl)
    (case l_law => first | k_is | kit_is | kts_exm | kernel_rfl)
    (case c_law => first | k_is | kit_is | kts_exm | kernel_rfl)
    (case k_law => first | k_is | kit_is | kts_exm | kernel_rfl)
    (case x_nx => first | k_is | kit_is | kts_exm | kernel_rfl)
    (case x_nN => first | k_is | kit_is | kts_exm | kernel_rfl)
    (case x_nS => first | k_is | kit_is | kts_exm | kernel_rfl)
    (case x_nD => first | k_is | kit_is | kts_exm | kernel_rfl)
    (case x_nV => first | k_is | kit_is | kts_exm | kernel_rfl)
    (case x_n6 => first | k_is | kit_is | kts_exm | kernel_rfl)
    (case x_n7 => first | k_is | kit_is | kts_exm | kernel_rfl)
    (case x_sx => first | k_is | kit_is | kts_exm | kernel_rfl)
    (case x_sN => first | k_is | kit_is | kts_exm | kernel_rfl)
    (case x_sS => first | k_is | kit_is | kts_exm | kernel_rfl)
    (case x_sD => first | k_is | kit_is | kts_exm | kernel_rfl)
    (case x_sV => first | k_is | kit_is | kts_exm | kernel_rfl)
    (case x_s6 => first | k_is | kit_is | kts_exm | kernel_rfl)
    (case x_s7 => first | k_is | kit_is | kts_exm | kernel_rfl)
    (case x_dx => first | k_is | kit_is | kts_exm | kernel_rfl)
    (case x_dN => first | k_is | kit_is | kts_exm | kernel_rfl)
    (case x_dS => first | k_is | kit_is | kts_exm | kernel_rfl)
    (case x_dD => first | k_is | kit_is | kts_exm | kernel_rfl)
    (case x_dV => first | k_is | kit_is | kts_exm | kernel_rfl)
    (case x_d6 => first | k_is | kit_is | kts_exm | kernel_rfl)
    (case x_d7 => first | k_is | kit_is | kts_exm | kernel_rfl)
    (case x_w1 => first | k_is | kit_is | kts_exm | kernel_rfl)
    (case x_w2 => first | k_is | kit_is | kts_exm | kernel_rfl)
    (case x_kl => first | k_is | kit_is | kts_exm | kernel_rfl)
