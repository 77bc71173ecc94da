import PyProof.Rows.All
import Wide.All
import OpenK.AllK
import Wide.FinOn
import Lean
import PyProof.EqAt
import PyProof.EqKinds
import PyProof.TupleCall
import PyProof.CompFree
import PyProof.NeKinds
import PyProof.StrLawsTight
import PyProof.StrLawsChain
import KE.IntTextLaws
import PyProof.DictKinds
import PySem.Challenge.RW_hadbeen_k84_no_change
set_option Elab.async false
set_option linter.all false
set_option maxRecDepth 100000
/-! THE HAND LAYER, for ints, bools, texts, own classes, LISTS and tuples (index, slices, in, append, pop ..), calls, loops. Paste it whole ahead of your own text; what your proof does not reach may be deleted. -/
namespace L2
open PySem PySem.Spec PyProof.Rows

/-- a key: an int or a str -/
abbrev Key := Sum Int Str
def keyIs : Key → Value → Bool
  | .inl k, v => Value.isInt k v
  | .inr x, v => Value.isStrOf x v
def keyH (w : World) : Key → Int
  | .inl k => hashInt k
  | .inr x => hashStr w x
theorem keyIs_shape : ∀ {k : Key} {v : Value}, keyIs k v = true → (∃ i t, k = Sum.inl i ∧ v = Value.int i t) ∨ (∃ x t, k = Sum.inr x ∧ v = Value.str x t)
  | .inl i, v, h => by
    obtain ⟨t, e⟩ := Value.isInt_shape (k := i) (v := v) h
    exact .inl ⟨i, t, rfl, e⟩
  | .inr x, v, h => by
    obtain ⟨t, e⟩ := Value.isStrOf_shape (x := x) (v := v) h
    exact .inr ⟨x, t, rfl, e⟩
theorem keyIs_int (i : Int) (t : Tok) : keyIs (.inl i) (.int i t) = true := by simp [keyIs, Value.isInt]
theorem keyIs_str (x : Str) (t : Tok) : keyIs (.inr x) (.str x t) = true := by simp [keyIs, Value.isStrOf]
theorem key_ll (a b : Int) : decide ((Sum.inl a : Key) = Sum.inl b) = (a == b) := by
  by_cases e : a = b
  · subst e; simp
  · have h : ¬ (Sum.inl a : Key) = Sum.inl b := fun q => e (Sum.inl.inj q)
    rw [decide_eq_false h]
    exact (beq_eq_false_iff_ne.mpr e).symm
theorem key_rr (a b : Str) : decide ((Sum.inr a : Key) = Sum.inr b) = decide (a = b) := by
  by_cases e : a = b
  · subst e; simp
  · have h : ¬ (Sum.inr a : Key) = Sum.inr b := fun q => e (Sum.inr.inj q)
    rw [decide_eq_false h, decide_eq_false e]
theorem key_lr (a : Int) (b : Str) : decide ((Sum.inl a : Key) = Sum.inr b) = false := decide_eq_false (fun q => nomatch q)
theorem key_rl (a : Str) (b : Int) : decide ((Sum.inr a : Key) = Sum.inl b) = false := decide_eq_false (fun q => nomatch q)

def mixKind (prog : Program) (w : World) : PySem.KeyKind prog w Key where
  is := keyIs
  hash := keyH w
  inj := fun v a b ha hb => by
    rcases keyIs_shape ha with ⟨i, t, rfl, rfl⟩ | ⟨x, t, rfl, rfl⟩
    · rcases keyIs_shape hb with ⟨j, u, rfl, e⟩ | ⟨y, u, rfl, e⟩
      · injection e with e1 _; rw [e1]
      · exact nomatch e
    · rcases keyIs_shape hb with ⟨j, u, rfl, e⟩ | ⟨y, u, rfl, e⟩
      · exact nomatch e
      · injection e with e1 _; rw [e1]
  byValue := fun k v h => by
    rcases keyIs_shape h with ⟨i, t, rfl, rfl⟩ | ⟨x, t, rfl, rfl⟩ <;> rfl
  pyHash := fun hv h => by
    rcases keyIs_shape hv with ⟨i, t, rfl, rfl⟩ | ⟨x, t, rfl, rfl⟩
    · exact wpAny_pyHash_int h
    · exact wpAny_pyHash_str h
  eqBool := fun hu hv h => by
    rcases keyIs_shape hu with ⟨i, t, rfl, rfl⟩ | ⟨x, t, rfl, rfl⟩
    · rcases keyIs_shape hv with ⟨j, u, rfl, rfl⟩ | ⟨y, u, rfl, rfl⟩
      · rw [key_ll] at h; exact wpAny_eqBool_int h
      · rw [key_lr] at h; exact SeqAt.EqAt.int_str i t y u _ _ _ _ h
    · rcases keyIs_shape hv with ⟨j, u, rfl, rfl⟩ | ⟨y, u, rfl, rfl⟩
      · rw [key_rl] at h; exact SeqAt.EqAt.str_int x t j u _ _ _ _ h
      · rw [key_rr] at h; exact wpAny_eqBool_str h
  «strs» := fun k x t v h => by
    rcases keyIs_shape h with ⟨i, u, rfl, e⟩ | ⟨y, u, rfl, e⟩
    · exact nomatch e
    · injection e with e1 _
      subst e1
      cases v <;> rfl

theorem mixKind_is (prog : Program) (w : World) (k : Key) (v : Value) : (mixKind prog w).is k v = keyIs k v := rfl
theorem mixKind_int (prog : Program) (w : World) (i : Int) (t : Tok) : (mixKind prog w).is (.inl i) (.int i t) = true := keyIs_int i t
theorem mixKind_str (prog : Program) (w : World) (x : Str) (t : Tok) : (mixKind prog w).is (.inr x) (.str x t) = true := keyIs_str x t
end L2

namespace L2
open PySem PySem.Spec PyProof.Rows

/-- a value, without the heap -/
inductive V where
  | non | bl (b : Bool) | int (i : Int) | str (x : Str) | byt (b : Array UInt8) | flt (b : UInt64) | ref (a : Addr) | ty (n : String)
  deriving DecidableEq

def RelV : V → Value → Prop
  | .non, u => u = Value.none
  | .bl b, u => u = Value.bool b
  | .int i, u => ∃ t, u = Value.int i t
  | .str x, u => ∃ t, u = Value.str x t
  | .byt b, u => ∃ t, u = Value.bytes b t
  | .flt b, u => ∃ t, u = Value.float b t
  | .ref a, u => u = Value.ref a
  | .ty n, u => u = Value.type n

abbrev Vals : List V → List Value → Prop := Paired RelV
theorem Vals.length {xs : List V} {us : List Value} (r : Vals xs us) : xs.length = us.length := Paired.length r
theorem Vals.get : ∀ {xs : List V} {us : List Value} {i : Nat} {x : V}, Vals xs us → xs[i]? = some x → ∃ u, us[i]? = some u ∧ RelV x u
  | _, _, _, _, .nil, e => by simp at e
  | _, _, 0, _, .cons r _, e => by simp at e; subst e; exact ⟨_, rfl, r⟩
  | _, _, i + 1, x, .cons _ t, e => by
    obtain ⟨u, h1, h2⟩ := Vals.get (i := i) (x := x) t (by simpa using e)
    exact ⟨u, by simpa using h1, h2⟩
theorem Vals.set {x : V} {u : Value} (r : RelV x u) : ∀ {xs : List V} {us : List Value} (i : Nat), Vals xs us → Vals (xs.set i x) (us.set i u)
  | _, _, _, .nil => .nil
  | _, _, 0, .cons _ t => .cons r t
  | _, _, i + 1, .cons q t => .cons q (Vals.set r i t)
theorem Vals.append : ∀ {xs ys : List V} {us ws : List Value}, Vals xs us → Vals ys ws → Vals (xs ++ ys) (us ++ ws)
  | _, _, _, _, .nil, s => s
  | _, _, _, _, .cons r t, s => .cons r (Vals.append t s)
theorem Vals.take : ∀ {xs : List V} {us : List Value} (n : Nat), Vals xs us → Vals (xs.take n) (us.take n)
  | _, _, 0, _ => .nil
  | _, _, _ + 1, .nil => .nil
  | _, _, n + 1, .cons r t => .cons r (Vals.take n t)
theorem Vals.drop : ∀ {xs : List V} {us : List Value} (n : Nat), Vals xs us → Vals (xs.drop n) (us.drop n)
  | _, _, 0, r => r
  | _, _, _ + 1, .nil => .nil
  | _, _, n + 1, .cons _ t => Vals.drop n t
theorem Vals.none_of : ∀ {xs : List V} {us : List Value} {i : Nat}, Vals xs us → xs[i]? = none → us[i]? = none := fun {xs us i} r e => by
  have h1 := r.length
  have h2 : xs.length ≤ i := List.getElem?_eq_none_iff.mp e
  exact List.getElem?_eq_none_iff.mpr (by omega)

def RelO : Option V → Option Value → Prop
  | some v, some u => RelV v u
  | none, none => True
  | _, _ => False
def KV {κ : Type} : List (κ × V) → List (κ × Value) → Prop := Paired fun (p : κ × V) (q : κ × Value) => p.1 = q.1 ∧ RelV p.2 q.2

/-- a key of a dict (00_mix): an int or a text -/
def kV : Key → V
  | .inl i => .int i
  | .inr x => .str x

/-- what stands at a tracked address -/
inductive HO where
  /-- a list -/
  | lst (xs : List V)
  /-- a tuple (never changes) -/
  | tup (xs : List V)
  /-- a dict whose keys are ints and texts; one whose keys are tuples of ints and texts (the empty one is both) -/
  | dK (kvs : List (Key × V)) | dT (kvs : List (List Key × V))
  /-- a set of ints: its members, its size -/
  | set (S : Int → Bool) (n : Nat)
  /-- an instance of the class at C, its dict at dx, its attributes -/
  | ins (C dx : Addr) (fs : List (Str × V))
  /-- the dict of the instance at x -/
  | own (x : Addr)
  /-- the dict of an exception -/
  | xd (fs : List (Str × V))
  /-- a bound method, f of x -/
  | met (f x : Addr)
  /-- a range object lo, lo + 1, .. below hi -/
  | rng (lo hi : Int)
  /-- a thing that is known to the object (the script; a dict while a loop walks it): read, never written while it is so -/
  | frz (o : Obj) (u : HO)
  /-- a code object's table -/
  | tbl (ps : Array Value)
  /-- any other thing, by what is true of its one object (a def of one's own: SetO a S n := HO.ext fun h => ..) -/
  | ext (φ : Heap → Prop)

abbrev Hp := Addr → Option HO
def upd (H : Hp) (a : Addr) (o : HO) : Hp := fun b => if b = a then some o else H b
theorem upd_same {H : Hp} {a : Addr} {o : HO} : upd H a o a = some o := by unfold upd; rw [if_pos rfl]
theorem upd_ne {H : Hp} {a b : Addr} {o : HO} (h : b ≠ a) : upd H a o b = H b := by unfold upd; rw [if_neg h]
theorem upd_upd {H : Hp} {a : Addr} {o u : HO} : upd (upd H a o) a u = upd H a u := by
  funext b; unfold upd; split <;> rfl
/-- two objects of different content stand apart -/
theorem ne_of {H : Hp} {a b : Addr} {o u : HO} (h : H a = some o) (h' : H b = some u) (d : o ≠ u) : a ≠ b := by
  intro e; subst e; rw [h] at h'; exact d (Option.some.inj h')
theorem ne_of_none {H : Hp} {a b : Addr} {o : HO} (h : H a = some o) (h' : H b = none) : a ≠ b := by
  intro e; subst e; rw [h] at h'; cases h'

section
variable (P : Program) (w : World)
def ObjOk (H : Hp) (h : Heap) (a : Addr) : HO → Prop
  | .lst xs => xs.length ≤ sizeLine ∧ ∃ (its : List Value) (n : Nat), Vals xs its ∧ h.get? a = some { cls := .type "list", data := .seq its.toArray n }
  | .tup xs => xs.length ≤ sizeLine ∧ ∃ its : List Value, Vals xs its ∧ IsTup h a its.toArray
  | .dK kvs => kvs.length ≤ sizeLine ∧ (a == sysModules) = false ∧ ∃ vs, KV kvs vs ∧ h.DictOf (mixKind P w) a vs
  | .dT kvs => kvs.length ≤ sizeLine ∧ (a == sysModules) = false ∧ ∃ xs : List (List Key × Addr × Value),
      Paired (fun (p : List Key × V) (q : List Key × Addr × Value) => p.1 = q.1 ∧ H q.2.1 = some (.tup (p.1.map kV)) ∧ RelV p.2 q.2.2) kvs xs ∧
      ∃ o es ep, h.get? a = some o ∧ o.ExactDict ∧ o.data = .dict es ep ∧ es.toList = xs.map (entryOfKey (tupleKind (mixKind P w))) ∧ (xs.map (·.1)).Nodup
  | .set S n => h.SetOf (intKind P w) a S n
  | .ins C dx fs => H dx = some (.own a) ∧ fs.length ≤ 1000 ∧ dx ≠ a ∧ h.get? a = some (PySem.W.instObj C dx) ∧
      ∃ mA, h.Ns1 dx mA ∧ (∀ f, RelO (fs.lookup f) (mA f)) ∧ PySem.Within mA (fs.map (·.1))
  | .own _ => ∃ o, h.get? a = some o
  | .xd fs => ∃ mA, h.Ns1 a mA ∧ ∀ f, RelO (fs.lookup f) (mA f)
  | .rng lo hi => ∃ t u v, h.get? a = some { cls := .type "range", data := .fields #[.int lo t, .int hi u, .int 1 v] }
  | .frz o u => h.get? a = some o ∧ ObjOk H h a u
  | .tbl ps => h.get? a = some { cls := .none, data := .fields ps }
  | .met f x => h.get? a = some (PySem.W.methodObj (.ref f) (.ref x))
  | .ext φ => φ h ∧ (∃ o, h.get? a = some o) ∧ ∀ h1 h2 : Heap, φ h1 → (∀ o, h1.get? a = some o → h2.get? a = some o) → φ h2
/-- the abstract heap is held -/
def HOk (H : Hp) (h : Heap) : Prop := ∀ a o, H a = some o → ObjOk P w H h a o
end

section
variable {P : Program} {w : World} {H H' : Hp} {h h' : Heap} {a : Addr} {o : HO}
theorem ObjOk.lt (x : ObjOk P w H h a o) : a < h.objs.size := by
  cases o with
  | lst xs => obtain ⟨_, _, _, _, e⟩ := x; exact Heap.lt_size e
  | tup xs => obtain ⟨_, _, _, p⟩ := x; exact p.lt
  | dK kvs => obtain ⟨_, _, _, _, o, _, _, e, _⟩ := x; exact Heap.lt_size e
  | dT kvs => obtain ⟨_, _, _, _, o, _, _, e, _⟩ := x; exact Heap.lt_size e
  | set S n => obtain ⟨o, _, _, _, e, _⟩ := x; exact Heap.lt_size e
  | ins C dx fs => obtain ⟨_, _, _, e, _⟩ := x; exact Heap.lt_size e
  | own y => obtain ⟨_, e⟩ := x; exact Heap.lt_size e
  | xd fs => obtain ⟨_, ⟨_, _, _, e, _⟩, _⟩ := x; exact Heap.lt_size e
  | rng lo hi => obtain ⟨_, _, _, e⟩ := x; exact Heap.lt_size e
  | frz ob u => obtain ⟨e, _⟩ := x; exact Heap.lt_size e
  | tbl ps => exact Heap.lt_size (show h.get? a = some _ from x)
  | met f y => exact Heap.lt_size (show h.get? a = some _ from x)
  | ext φ => obtain ⟨_, ⟨_, e⟩, _⟩ := x; exact Heap.lt_size e
theorem Paired.mapP {α β : Type} {F G : α → β → Prop} : ∀ {l₁ : List α} {l₂ : List β}, Paired F l₁ l₂ → (∀ a b, F a b → G a b) → Paired G l₁ l₂
  | _, _, .nil, _ => .nil
  | _, _, .cons r t, f => .cons (f _ _ r) (Paired.mapP t f)
theorem Paired.imp' {α β : Type} {F G : α → β → Prop} (f : ∀ a b, F a b → G a b) {l₁ : List α} {l₂ : List β} (r : Paired F l₁ l₂) : Paired G l₁ l₂ := Paired.mapP r f
/-- what an object's description leans on: its own object, its own dict, the tuples -/
theorem ObjOk.stay (x : ObjOk P w H h a o) (k : ∀ b u, (b = a ∨ H b = some (.own a)) → h.get? b = some u → h'.get? b = some u)
    (ho : ∀ b, H b = some (.own a) → H' b = some (.own a)) (ht : ∀ b xs, H b = some (.tup xs) → H' b = some (.tup xs)) : ObjOk P w H' h' a o := by
  induction o with
  | lst xs => obtain ⟨z, its, n, r, e⟩ := x; exact ⟨z, its, n, r, k _ _ (.inl rfl) e⟩
  | tup xs => obtain ⟨z, its, r, ob, e, c⟩ := x; exact ⟨z, its, r, ob, k _ _ (.inl rfl) e, c⟩
  | dK kvs => obtain ⟨z, y, vs, r, ob, es, ep, e, c⟩ := x; exact ⟨z, y, vs, r, ob, es, ep, k _ _ (.inl rfl) e, c⟩
  | dT kvs =>
    obtain ⟨z, y, xs, r, ob, es, ep, e, c⟩ := x
    exact ⟨z, y, xs, Paired.mapP r fun p q z => ⟨z.1, ht _ _ z.2.1, z.2.2⟩, ob, es, ep, k _ _ (.inl rfl) e, c⟩
  | set S n => obtain ⟨ob, es, ep, t, e, c⟩ := x; exact ⟨ob, es, ep, t, k _ _ (.inl rfl) e, c⟩
  | ins C dx fs =>
    obtain ⟨d, z, ne, e, mA, ⟨od, es, ep, e2, c⟩, r⟩ := x
    exact ⟨ho _ d, z, ne, k _ _ (.inl rfl) e, mA, ⟨od, es, ep, k _ _ (.inr d) e2, c⟩, r⟩
  | own y => obtain ⟨ob, e⟩ := x; exact ⟨ob, k _ _ (.inl rfl) e⟩
  | xd fs => obtain ⟨mA, ⟨od, es, ep, e, c⟩, r⟩ := x; exact ⟨mA, ⟨od, es, ep, k _ _ (.inl rfl) e, c⟩, r⟩
  | rng lo hi => obtain ⟨t, u, v, e⟩ := x; exact ⟨t, u, v, k _ _ (.inl rfl) e⟩
  | frz ob u ih => obtain ⟨e, q⟩ := x; exact ⟨k _ _ (.inl rfl) e, ih q⟩
  | tbl ps =>
    have e : h.get? a = some { cls := .none, data := .fields ps } := x
    show h'.get? a = some { cls := .none, data := .fields ps }
    exact k a _ (.inl rfl) e
  | met f y =>
    have e : h.get? a = some (PySem.W.methodObj (.ref f) (.ref y)) := x
    show h'.get? a = some (PySem.W.methodObj (.ref f) (.ref y))
    exact k a _ (.inl rfl) e
  | ext φ => obtain ⟨p, ⟨o, e⟩, st⟩ := x; exact ⟨st _ _ p fun o q => k _ _ (.inl rfl) q, ⟨o, k _ _ (.inl rfl) e⟩, st⟩
theorem HOk.lt (x : HOk P w H h) (e : H a = some o) : a < h.objs.size := (x a o e).lt
theorem HOk.fresh (x : HOk P w H h) (e : h.objs.size ≤ a) : H a = none := by
  cases q : H a with
  | none => rfl
  | some u => exact absurd (Nat.lt_of_lt_of_le (x.lt q) e) (Nat.lt_irrefl _)
/-- every object of the heap is kept -/
theorem HOk.kept (x : HOk P w H h) (k : ∀ b u, h.get? b = some u → h'.get? b = some u) : HOk P w H h' := fun a o e =>
  (x a o e).stay (fun b u _ q => k b u q) (fun _ q => q) fun _ _ q => q
/-- a new object is laid and tracked -/
theorem HOk.laid (x : HOk P w H h) (k : ∀ b u, h.get? b = some u → h'.get? b = some u) (hp : h.objs.size ≤ a) (new : ObjOk P w (upd H a o) h' a o) : HOk P w (upd H a o) h' := fun b u e => by
  have hn := x.fresh hp
  by_cases hb : b = a
  · subst hb; rw [upd_same] at e; cases e; exact new
  · rw [upd_ne hb] at e
    exact (x b u e).stay (fun c v _ q => k c v q) (fun c q => by rw [upd_ne (ne_of_none q hn)]; exact q) fun c xs q => by rw [upd_ne (ne_of_none q hn)]; exact q
end

/-- what may be read as u: it is u, or a known u -/
def Rd (H : Hp) (a : Addr) (u : HO) : Prop := H a = some u ∨ ∃ o, H a = some (.frz o u)
theorem Rd.of {H : Hp} {a : Addr} {u : HO} (h : H a = some u) : Rd H a u := .inl h
theorem Rd.ok {P : Program} {w : World} {H : Hp} {h : Heap} {a : Addr} {u : HO} (r : Rd H a u) (x : HOk P w H h) : ObjOk P w H h a u := by
  rcases r with r | ⟨o, r⟩
  · exact x a u r
  · obtain ⟨_, q⟩ := x a _ r
    exact q
/-- what may be written -/
def Mut : Option HO → Prop
  | some (.lst _) => True
  | some (.dK _) => True
  | some (.dT _) => True
  | some (.set _ _) => True
  | some (.ins _ _ _) => True
  | some (.ext _) => True
  | _ => False
section
variable {P : Program} {w : World} {H : Hp} {h h' : Heap} {x e : Addr} {o' : HO}
/-- the object at e is changed: x itself, or the dict of the instance x -/
theorem HOk.write (ok : HOk P w H h) (mu : Mut (H x)) (he : e = x ∨ H e = some (.own x)) (k : ∀ b u, b ≠ e → h.get? b = some u → h'.get? b = some u) (heo : ∃ u, h'.get? e = some u)
    (new : ObjOk P w (upd H x o') h' x o') : HOk P w (upd H x o') h' := fun b u q => by
  have nown : ∀ c y, H c = some (.own y) → c ≠ x := fun c y r z => by subst z; rw [r] at mu; exact mu
  have ntup : ∀ c xs, H c = some (.tup xs) → c ≠ x := fun c xs r z => by subst z; rw [r] at mu; exact mu
  by_cases hb : b = x
  · subst hb; rw [upd_same] at q; cases q; exact new
  · rw [upd_ne hb] at q
    by_cases hbe : b = e
    · have q' : H b = some (.own x) := by
        rcases he with z | z
        · exact absurd (hbe.trans z) hb
        · rw [hbe]; exact z
      rw [q] at q'; cases q'
      obtain ⟨v, hv⟩ := heo
      exact ⟨v, by rw [hbe]; exact hv⟩
    · refine (ok b u q).stay (fun c v hc r => k c v ?_ r) (fun c r => by rw [upd_ne (nown c b r)]; exact r) fun c xs r => by rw [upd_ne (ntup c xs r)]; exact r
      rcases hc with rfl | hc
      · exact hbe
      · rintro rfl
        rcases he with z | z
        · exact nown c b hc z
        · rw [hc] at z; cases z; exact hb rfl
end

/-! ### kept unless tracked; of the frames at fs (the callers') the slots may change (an exception that passes writes there); of the records at ex (iterators) nothing is said -/
structure Un (fs ex : List Addr) (H H' : Hp) (h h' : Heap) : Prop where
  keep : ∀ b o, h.get? b = some o → H b = none → b ∉ fs → b ∉ ex → h'.get? b = some o
  slot : ∀ b o, h.get? b = some o → H b = none → b ∈ fs → b ∉ ex → ∃ sl, h'.get? b = some { o with slots := sl }
  free : ∀ b o, h.get? b = some o → H b = none → b ∉ ex → H' b = none
  there : ∀ b o, h.get? b = some o → b ∉ ex → ∃ o', h'.get? b = some o'
  tups : ∀ b xs, H b = some (.tup xs) → H' b = some (.tup xs)
  frzs : ∀ b o u, H b = some (.frz o u) → H' b = some (.frz o u)
  tbls : ∀ b ps, H b = some (.tbl ps) → ∃ more, H' b = some (.tbl (ps ++ more))
section
variable {fs fs' ex ex' : List Addr} {H H1 H2 : Hp} {h h1 h2 h' : Heap} {a x e : Addr} {o : HO}
theorem Un.any (u : Un fs ex H H1 h h1) {b : Addr} {ob : Obj} (q : h.get? b = some ob) (n : H b = none) (hx : b ∉ ex) : ∃ sl, h1.get? b = some { ob with slots := sl } := by
  by_cases hb : b ∈ fs
  · exact u.slot b ob q n hb hx
  · exact ⟨ob.slots, u.keep b ob q n hb hx⟩
theorem Un.trans (a : Un fs ex H H1 h h1) (b : Un fs ex H1 H2 h1 h2) : Un fs ex H H2 h h2 where
  keep := fun c ob q n hc hx => b.keep c ob (a.keep c ob q n hc hx) (a.free c ob q n hx) hc hx
  slot := fun c ob q n hc hx => by
    obtain ⟨sl, e1⟩ := a.slot c ob q n hc hx
    obtain ⟨sl', e2⟩ := b.slot c _ e1 (a.free c ob q n hx) hc hx
    exact ⟨sl', e2⟩
  free := fun c ob q n hx => by
    obtain ⟨o', e1⟩ := a.there c ob q hx
    exact b.free c o' e1 (a.free c ob q n hx) hx
  there := fun c ob q hx => by
    obtain ⟨o', e1⟩ := a.there c ob q hx
    exact b.there c o' e1 hx
  tups := fun c xs q => b.tups c xs (a.tups c xs q)
  frzs := fun c ob xs q => b.frzs c ob xs (a.frzs c ob xs q)
  tbls := fun c ps q => by
    obtain ⟨m1, e1⟩ := a.tbls c ps q
    obtain ⟨m2, e2⟩ := b.tbls c _ e1
    exact ⟨m1 ++ m2, by rw [e2, Array.append_assoc]⟩
theorem Un.kept (k : ∀ b u, h.get? b = some u → h'.get? b = some u) : Un fs ex H H h h' :=
  ⟨fun b ob q _ _ _ => k b ob q, fun b ob q _ _ _ => ⟨ob.slots, k b ob q⟩, fun _ _ _ n _ => n, fun b ob q _ => ⟨ob, k b ob q⟩, fun _ _ q => q, fun _ _ _ q => q, fun _ ps q => ⟨#[], by rw [q]; simp⟩⟩
theorem Un.refl : Un fs ex H H h h := Un.kept fun _ _ q => q
theorem Un.laid (k : ∀ b u, h.get? b = some u → h'.get? b = some u) (hp : h.objs.size ≤ a) (hn : H a = none) : Un fs ex H (upd H a o) h h' where
  keep := fun b u q _ _ _ => k b u q
  slot := fun b u q _ _ _ => ⟨u.slots, k b u q⟩
  free := fun b u q n _ => by rw [upd_ne (Nat.ne_of_lt (Nat.lt_of_lt_of_le (Heap.lt_size q) hp))]; exact n
  there := fun b u q _ => ⟨u, k b u q⟩
  tups := fun b xs q => by rw [upd_ne (ne_of_none q hn)]; exact q
  frzs := fun b u xs q => by rw [upd_ne (ne_of_none q hn)]; exact q
  tbls := fun b ps q => ⟨#[], by rw [upd_ne (ne_of_none q hn), q]; simp⟩
theorem Un.write (mu : Mut (H x)) (he : e = x ∨ H e = some (.own x)) (k : ∀ b u, b ≠ e → h.get? b = some u → h'.get? b = some u) (heo : ∃ u, h'.get? e = some u) : Un fs ex H (upd H x o) h h' := by
  have hx : ∀ b, H b = none → b ≠ x := fun b n z => by subst z; rw [n] at mu; exact mu
  have hb : ∀ b, H b = none → b ≠ e := fun b n z => by
    subst z
    rcases he with r | r
    · exact hx b n r
    · rw [n] at r; cases r
  have hm : ∀ b u, H b = some u → ¬ Mut (some u) → b ≠ x := fun b u q nm z => by subst z; rw [q] at mu; exact nm mu
  refine ⟨fun b u q n _ _ => k b u (hb b n) q, fun b u q n _ _ => ⟨u.slots, k b u (hb b n) q⟩, fun b u q n _ => by rw [upd_ne (hx b n)]; exact n, fun b u q _ => ?_,
    fun b xs q => by rw [upd_ne (hm b _ q fun z => z)]; exact q, fun b u xs q => by rw [upd_ne (hm b _ q fun z => z)]; exact q, fun b ps q => ⟨#[], by rw [upd_ne (hm b _ q fun z => z), q]; simp⟩⟩
  by_cases hbe : b = e
  · subst hbe; exact heo
  · exact ⟨u, k b u hbe q⟩
theorem Un.mono (u : Un fs ex H H1 h h1) (hs : ∀ b ∈ fs, b ∈ fs') (hx : ∀ b ∈ ex, b ∈ ex') : Un fs' ex' H H1 h h1 :=
  ⟨fun b ob q n hb he => u.keep b ob q n (fun z => hb (hs b z)) fun z => he (hx b z), fun _ _ q n _ he => u.any q n fun z => he (hx _ z), fun b ob q n he => u.free b ob q n fun z => he (hx b z), fun b ob q he => u.there b ob q fun z => he (hx b z), u.tups, u.frzs, u.tbls⟩
end

/-! ### the heap without what is tracked -/
def trk (h : Heap) (H : Hp) : List Addr := (List.range h.objs.size).filter fun a => (H a).isSome
def hidT (h : Heap) (H : Hp) : Heap := PySem.W.hideAll h (trk h H)
theorem hidT_size (h : Heap) (H : Hp) : (hidT h H).objs.size = h.objs.size := PySem.W.hideAll_size _ _
theorem hidT_get {h : Heap} {H : Hp} {b : Addr} {o : Obj} (e : h.get? b = some o) (n : H b = none) : (hidT h H).get? b = some o :=
  PySem.W.hideAll_get _ e fun hm => by
    have q : (H b).isSome = true := (List.mem_filter.mp hm).2
    rw [n] at q; simp at q
theorem of_hidT {h : Heap} {H : Hp} {b : Addr} {o : Obj} (e : (hidT h H).get? b = some o) : h.get? b = some o ∧ H b = none := by
  have e' : h.get? b = some o := PySem.W.of_hideAll (trk h H) e
  refine ⟨e', ?_⟩
  cases q : H b with
  | none => rfl
  | some x =>
    have hm : b ∈ trk h H := List.mem_filter.mpr ⟨List.mem_range.mpr (Heap.lt_size e'), by simp [q]⟩
    have z : (hidT h H).get? b = none := PySem.W.hideAll_none (trk h H) hm
    rw [z] at e; cases e

/-! ### OpenK's ledger, filled with every new object but one -/
def allNews (g h : Heap) (L : Addr) : List (Addr × Obj) := (List.range h.objs.size).filterMap fun a => if a = L ∨ (g.get? a).isSome = true then none else (h.get? a).map fun o => (a, o)
theorem mem_allNews {g h : Heap} {L a : Addr} {o : Obj} (h1 : a ≠ L) (h2 : g.get? a = none) (h3 : h.get? a = some o) : (a, o) ∈ allNews g h L :=
  List.mem_filterMap.mpr ⟨a, List.mem_range.mpr (Heap.lt_size h3), by simp [h1, h2, h3]⟩
theorem of_mem_allNews {g h : Heap} {L : Addr} {p : Addr × Obj} (hp : p ∈ allNews g h L) : p.1 ≠ L ∧ g.get? p.1 = none ∧ h.get? p.1 = some p.2 := by
  obtain ⟨b, _, e⟩ := List.mem_filterMap.mp hp
  split at e
  · cases e
  · rename_i hn
    cases q : h.get? b with
    | none => rw [q] at e; simp at e
    | some u =>
      rw [q] at e
      simp only [Option.map_some, Option.some.injEq] at e
      subst e
      refine ⟨fun z => hn (.inl z), ?_, q⟩
      show g.get? b = none
      cases r : g.get? b with
      | none => rfl
      | some v => exact (hn (.inr (by simp [r]))).elim
def rest (g h : Heap) (L d : Addr) : List (Addr × Obj) := (allNews g h L).filter fun p => decide (p.1 ≠ d)
theorem rest_ne {g h : Heap} {L d : Addr} : ∀ p ∈ rest g h L d, p.1 ≠ d := fun p hp => of_decide_eq_true (List.mem_filter.mp hp).2
theorem mem_rest {g h : Heap} {L d a : Addr} {o : Obj} (h1 : a ≠ L) (h2 : g.get? a = none) (h3 : h.get? a = some o) (h4 : a ≠ d) : (a, o) ∈ rest g h L d :=
  List.mem_filter.mpr ⟨mem_allNews h1 h2 h3, decide_eq_true h4⟩
theorem news_all {g h : Heap} {L : Addr} : News g L h (allNews g h L) := fun p hp => let ⟨a, b, c⟩ := of_mem_allNews hp; ⟨c, a, b⟩
theorem news_at {g h : Heap} {L d : Addr} {o : Obj} (h1 : d ≠ L) (h2 : g.get? d = none) (h3 : h.get? d = some o) : News g L h ((d, o) :: rest g h L d) := fun p hp => by
  rcases List.mem_cons.mp hp with rfl | hp
  · exact ⟨h3, h1, h2⟩
  · exact news_all p (List.mem_filter.mp hp).1
/-- behind a rule that changed d alone: all else but the frame is kept -/
theorem kept_of_news {g h h' : Heap} {L d : Addr} {m : Str → Option Value} (k : ∀ b o, g.get? b = some o → h.get? b = some o) (F : Fr g L h' m) (N : News g L h' (rest g h L d)) :
    ∀ b o, b ≠ L → b ≠ d → h.get? b = some o → h'.get? b = some o := fun b o h1 h2 e => by
  cases q : g.get? b with
  | some u =>
    have := k b u q
    rw [e] at this; cases this
    exact F.keep b _ q
  | none => exact (N (b, o) (mem_rest h1 q e h2)).1
end L2

namespace L2
open PySem PySem.Spec PyProof.Rows

/-- the module's facts, over the base: the heap at the law's entry without what is tracked there -/
structure Mod (K : PySem.W.Frag) (mg : Str → Option Value) (base : Heap) : Prop where
  kin : K.In base
  glob : base.Ns mainGlobals mg
  blt : ∃ mb, base.Ns builtinsNs mb ∧ ∀ x : Str, x ≠ "__name__" → mb x = bootBuiltins x
  nolimit : base.NoLimit

/-- the context: a def's body (or a comprehension's block) running. base: fixed through the whole law; s₀, H₀: the entry; outer: the frames whose slots others may change (a def's callers); stack: all frames that run;
   ex: iterators that were made ahead of the entry and are walked here (a comprehension's); fn: the names whose cells were made at the entry (a def: all; a comprehension's block: its own); calm: not within an except suite; pn: pins that every state bears; xe: what is wanted of an exception that leaves the code -/
structure Cx where
  prog : Program
  w : World
  K : PySem.W.Frag
  mg : Str → Option Value
  base : Heap
  A : Around
  N : List Str
  s₀ : Shared
  H₀ : Hp
  env : Env
  outer : List Env
  stack : List Env
  ex : List Addr
  fn : Str → Bool
  calm : Bool
  pn : List (Addr × Obj)
  xe : Value → Shared → Prop
/-- the callers' frames -/
def frs (l : List Env) : List Addr := l.filterMap (·.frame)
abbrev Cx.fs (X : Cx) : List Addr := frs X.outer

def Vis (sc : Scope) (x : Str) : Prop := sc.names.lookup x = some .local ∨ sc.names.lookup x = some .cell ∨ sc.names.lookup x = some .free
def Loc (sc : Scope) (x : Str) : Prop := sc.names.lookup x = some .local ∨ sc.names.lookup x = some .cell
def Look (env : Env) (h : Heap) (m : Str → Option Value) (x : Str) (u : Value) : Prop :=
  (env.kindOf x = some .local ∧ m x = some u) ∨ ((env.kindOf x = some .cell ∨ env.kindOf x = some .free) ∧ ∃ c, env.cells.lookup x = some c ∧ h.IsCell c (some u))

structure Cx.Ok (X : Cx) : Prop where
  mod : Mod X.K X.mg X.base
  kind : X.env.scope.kind = .function
  glob : X.env.globals = mainGlobals
  blt : X.env.builtins = builtinsNs
  above : X.s₀.heap.objs.size ≤ X.env.locals
  inj : ∀ x y c, X.env.cells.lookup x = some c → X.env.cells.lookup y = some c → x = y
  has : ∀ x, (X.env.kindOf x = some .cell ∨ X.env.kindOf x = some .free) → ∃ c, X.env.cells.lookup x = some c
  cab : ∀ x c, X.fn x = true → X.env.cells.lookup x = some c → X.s₀.heap.objs.size ≤ c
  hd : X.calm = true → X.A.handled = none
  frames : X.A.frames = some X.stack
  stk : X.stack = X.outer ∨ (X.stack = X.env :: X.outer ∧ X.env.frame = some X.env.locals)
  exf : ∀ b ∈ X.ex, b ≠ X.env.locals ∧ ∀ x c, X.env.cells.lookup x = some c → c ≠ b
  bs : ∀ b o, X.base.get? b = some o → X.s₀.heap.get? b = some o ∧ X.H₀ b = none
  bsz : X.base.objs.size ≤ X.s₀.heap.objs.size
  noex : ∀ b o, X.base.get? b = some o → b ∉ X.ex
  exfs : ∀ b ∈ X.ex, b ∉ X.fs
  funs : X.s₀.heap.FunFrames X.base X.outer
  frf : ∀ b ∈ X.fs, X.H₀ b = none

structure Inv (X : Cx) (pins : List (Addr × Obj)) (σ : List (Option V)) (H : Hp) (s : Shared) : Prop where
  ok : X.Ok
  os : s.os = X.s₀.os
  bare : AllBare s.gens
  base : Un X.fs X.ex X.H₀ H X.s₀.heap s.heap
  loc : ∃ m, s.heap.Ns X.env.locals m ∧ ∀ (i : Nat) (x : Str) (v : V), X.N[i]? = some x → σ[i]? = some (some v) → Vis X.env.scope x → ∃ u, RelV v u ∧ Look X.env s.heap m x u
  cell : ∀ x c, X.env.cells.lookup x = some c → ∃ v, s.heap.IsCell c v
  free : H X.env.locals = none
  freeC : ∀ x c, X.env.cells.lookup x = some c → H c = none
  pin : ∀ p ∈ X.pn ++ pins, s.heap.get? p.1 = some p.2 ∧ H p.1 = none ∧ p.1 ≠ X.env.locals ∧ p.1 ∉ X.fs ∧ ∀ v, p.2.data ≠ .cell v
  hok : HOk X.prog X.w H s.heap
  len : σ.length = X.N.length

section
variable {X : Cx} {pins : List (Addr × Obj)} {σ : List (Option V)} {H H' : Hp} {s : Shared} {h' : Heap}

theorem Cx.Ok.nofr (ok : X.Ok) {b : Addr} {o : Obj} (e : X.base.get? b = some o) : b ∉ X.fs := fun hb => by
  have := (ok.funs.mem hb).1
  rw [e] at this; cases this
theorem Inv.bs (I : Inv X pins σ H s) : ∀ b o, X.base.get? b = some o → s.heap.get? b = some o ∧ H b = none := fun b o e =>
  ⟨I.base.keep b o (I.ok.bs b o e).1 (I.ok.bs b o e).2 (I.ok.nofr e) (I.ok.noex b o e), I.base.free b o (I.ok.bs b o e).1 (I.ok.bs b o e).2 (I.ok.noex b o e)⟩
theorem Inv.bk (I : Inv X pins σ H s) : ∀ b o, X.base.get? b = some o → s.heap.get? b = some o := fun b o e => (I.bs b o e).1
theorem Inv.mod (I : Inv X pins σ H s) : Mod X.K X.mg X.base := I.ok.mod
theorem Inv.kIn (I : Inv X pins σ H s) : X.K.In s.heap := I.ok.mod.kin.keeps I.bk
theorem Inv.nolimit (I : Inv X pins σ H s) : s.heap.NoLimit := I.ok.mod.nolimit.keeps I.bk
/-- the frame over the base: for OpenK's rules (K.In X.base is I.mod.kin) -/
theorem Inv.fr (I : Inv X pins σ H s) : ∃ m, Fr X.base X.env.locals s.heap m :=
  let ⟨m, hn, _⟩ := I.loc
  ⟨m, hn, I.bk, Nat.le_trans I.ok.bsz I.ok.above⟩
theorem Inv.lt (I : Inv X pins σ H s) : X.env.locals < s.heap.objs.size := let ⟨_, hn, _⟩ := I.loc; hn.lt
theorem Inv.sz (I : Inv X pins σ H s) : X.s₀.heap.objs.size ≤ s.heap.objs.size := Nat.le_trans I.ok.above (Nat.le_of_lt I.lt)
theorem Inv.nofs (I : Inv X pins σ H s) {a : Addr} (h : s.heap.objs.size ≤ a) : a ∉ X.fs := fun hb => by
  obtain ⟨_, o, ho, _⟩ := I.ok.funs.mem hb
  exact absurd (Nat.lt_of_lt_of_le (Heap.lt_size ho) (Nat.le_trans I.sz h)) (Nat.lt_irrefl _)
theorem Inv.cne (I : Inv X pins σ H s) : ∀ x c, X.env.cells.lookup x = some c → c ≠ X.env.locals := fun x c e z => by
  obtain ⟨v, o, ho, hd⟩ := I.cell x c e
  obtain ⟨m, ⟨o', es, ep, ho', hd', _⟩, _⟩ := I.loc
  rw [z, ho'] at ho; cases ho; rw [hd'] at hd; cases hd
theorem Inv.funs (I : Inv X pins σ H s) : s.heap.FunFrames X.base X.outer := by
  have all : ∀ (l : List Env), (∀ b ∈ frs l, b ∈ X.fs) → X.s₀.heap.FunFrames X.base l → s.heap.FunFrames X.base l := by
    intro l
    induction l with
    | nil => intro _ _; trivial
    | cons env r ih =>
      intro hs hl
      obtain ⟨hk, ⟨L, o, hf, hn, ho, hd⟩, hr⟩ := hl
      have hL : L ∈ X.fs := hs L (by unfold frs; rw [List.filterMap_cons, hf]; exact List.mem_cons_self)
      obtain ⟨sl, e⟩ := I.base.slot L o ho (I.ok.frf L hL) hL fun z => I.ok.exfs L z hL
      exact ⟨hk, ⟨L, _, hf, hn, e, hd⟩, ih (fun b hb => hs b (by unfold frs; rw [List.filterMap_cons, hf]; exact List.mem_cons_of_mem _ hb)) hr⟩
  exact all X.outer (fun _ hb => hb) I.ok.funs

/-- the frames that run, for a call -/
theorem Inv.stack (I : Inv X pins σ H s) : s.heap.FunFrames X.base X.stack := by
  rcases I.ok.stk with e | ⟨e, hf⟩
  · rw [e]; exact I.funs
  · rw [e]
    obtain ⟨m, hn, _⟩ := I.loc
    refine .cons (by rw [I.ok.kind]; decide) hf hn ?_ I.funs
    exact Heap.get?_none_of_le (Nat.le_trans I.ok.bsz I.ok.above)
theorem Inv.stkSub (I : Inv X pins σ H s) : ∀ b ∈ frs X.stack, b ∈ X.env.locals :: X.fs := fun b hb => by
  rcases I.ok.stk with e | ⟨e, hf⟩
  · rw [e] at hb; exact List.mem_cons_of_mem _ hb
  · rw [e] at hb
    unfold frs at hb
    rw [List.filterMap_cons, hf] at hb
    exact hb
theorem Inv.stkFree (I : Inv X pins σ H s) : ∀ b ∈ frs X.stack, H b = none := fun b hb => by
  rcases List.mem_cons.mp (I.stkSub b hb) with e | hb
  · rw [e]; exact I.free
  · obtain ⟨_, o, ho, _⟩ := I.ok.funs.mem hb
    exact I.base.free b o ho (I.ok.frf b hb) fun z => I.ok.exfs b z hb

/-- THE STEP: the untracked objects but the frame and the records at ch are kept (the callers' frames up to slots), the frame's map is kept, the new abstract heap is held -/
theorem Inv.step {g' : Array GenState} {t' : Nat} {d' : Drawn} {ch : List Addr} (I : Inv X pins σ H s)
    (hch : ∀ b ∈ ch, (b ∈ X.ex ∨ X.s₀.heap.objs.size ≤ b) ∧ b ≠ X.env.locals ∧ (∀ x c, X.env.cells.lookup x = some c → c ≠ b) ∧ ∀ p ∈ X.pn ++ pins, p.1 ≠ b)
    (keep : ∀ b o, b ≠ X.env.locals → b ∉ X.fs → b ∉ ch → s.heap.get? b = some o → H b = none → h'.get? b = some o)
    (slot : ∀ b o, b ≠ X.env.locals → b ∈ X.fs → b ∉ ch → s.heap.get? b = some o → H b = none → ∃ sl, h'.get? b = some { o with slots := sl }) (free : ∀ b o, b ∉ ch → s.heap.get? b = some o → H b = none → H' b = none)
    (there : ∀ b o, b ∉ ch → s.heap.get? b = some o → ∃ o', h'.get? b = some o')
    (tups : ∀ b xs, H b = some (.tup xs) → H' b = some (.tup xs)) (frzs : ∀ b o u, H b = some (.frz o u) → H' b = some (.frz o u)) (tbls : ∀ b ps, H b = some (.tbl ps) → ∃ more, H' b = some (.tbl (ps ++ more)))
    (ns : ∀ m, s.heap.Ns X.env.locals m → h'.Ns X.env.locals m) (hok : HOk X.prog X.w H' h') (hg : AllBare g') :
    Inv X pins σ H' { s with heap := h', gens := g', drawn := d', toks := t' } := by
  have neL : ∀ b o, X.s₀.heap.get? b = some o → b ≠ X.env.locals := fun b o e => Nat.ne_of_lt (Nat.lt_of_lt_of_le (Heap.lt_size e) I.ok.above)
  have neC : ∀ b o, X.s₀.heap.get? b = some o → b ∉ X.ex → b ∉ ch := fun b o e hx hb => by
    rcases (hch b hb).1 with z | z
    · exact hx z
    · exact absurd (Nat.lt_of_lt_of_le (Heap.lt_size e) z) (Nat.lt_irrefl _)
  have cellK : ∀ x c, X.env.cells.lookup x = some c → ∀ v, s.heap.IsCell c v → h'.IsCell c v := fun x c e v ⟨o, ho, hd⟩ => by
    have nch : c ∉ ch := fun z => (hch c z).2.2.1 x c e rfl
    by_cases hc : c ∈ X.fs
    · obtain ⟨sl, q⟩ := slot c o (I.cne x c e) hc nch ho (I.freeC x c e)
      exact ⟨_, q, hd⟩
    · exact ⟨o, keep c o (I.cne x c e) hc nch ho (I.freeC x c e), hd⟩
  refine ⟨I.ok, I.os, hg, ⟨fun b o e n hb hx => ?_, fun b o e n hb hx => ?_, fun b o e n hx => ?_, fun b o e hx => ?_, fun b xs e => tups b xs (I.base.tups b xs e), fun b o xs e => frzs b o xs (I.base.frzs b o xs e), fun b ps e => ?_⟩, ?_, fun x c e => ?_, ?_, fun x c e => ?_, fun p hp => ?_, hok, I.len⟩
  · exact keep b o (neL b o e) hb (neC b o e hx) (I.base.keep b o e n hb hx) (I.base.free b o e n hx)
  · obtain ⟨sl, e1⟩ := I.base.slot b o e n hb hx
    obtain ⟨sl', e2⟩ := slot b _ (neL b o e) hb (neC b o e hx) e1 (I.base.free b o e n hx)
    exact ⟨sl', e2⟩
  · obtain ⟨o', e1⟩ := I.base.there b o e hx
    exact free b o' (neC b o e hx) e1 (I.base.free b o e n hx)
  · obtain ⟨o', e1⟩ := I.base.there b o e hx
    exact there b o' (neC b o e hx) e1
  · obtain ⟨m1, e1⟩ := I.base.tbls b ps e
    obtain ⟨m2, e2⟩ := tbls b _ e1
    exact ⟨m1 ++ m2, by rw [e2, Array.append_assoc]⟩
  · obtain ⟨m, hn, hl⟩ := I.loc
    refine ⟨m, ns m hn, fun i x v e1 e2 e3 => ?_⟩
    obtain ⟨u, r, l⟩ := hl i x v e1 e2 e3
    refine ⟨u, r, ?_⟩
    rcases l with l | ⟨k, c, e, z⟩
    · exact .inl l
    · exact .inr ⟨k, c, e, cellK x c e _ z⟩
  · obtain ⟨v, z⟩ := I.cell x c e
    exact ⟨v, cellK x c e v z⟩
  · obtain ⟨m, ⟨o, _, _, ho, _⟩, _⟩ := I.loc
    exact free _ o (fun z => (hch _ z).2.1 rfl) ho I.free
  · obtain ⟨v, o, ho, hd⟩ := I.cell x c e
    exact free c o (fun z => (hch c z).2.2.1 x c e rfl) ho (I.freeC x c e)
  · obtain ⟨e, n, ne, nf, d⟩ := I.pin p hp
    have nch : p.1 ∉ ch := fun z => (hch p.1 z).2.2.2 p hp rfl
    exact ⟨keep p.1 p.2 ne nf nch e n, free p.1 p.2 nch e n, ne, nf, d⟩
/-- .. where the frame's own object is kept too -/
theorem Inv.un {t' : Nat} (I : Inv X pins σ H s) (u : Un X.fs [] H H' s.heap h') (hok : HOk X.prog X.w H' h') : Inv X pins σ H' { s with heap := h', toks := t' } := by
  obtain ⟨m, ⟨o, es, ep, ho, r⟩, _⟩ := id I.loc
  obtain ⟨sl, hL⟩ := u.any ho I.free (by simp)
  exact I.step (g' := s.gens) (d' := s.drawn) (ch := []) (fun _ z => nomatch z) (fun b o _ hb _ e n => u.keep b o e n hb (by simp)) (fun b o _ hb _ e n => u.slot b o e n hb (by simp)) (fun b o _ e n => u.free b o e n (by simp)) (fun b o _ e => u.there b o e (by simp)) u.tups u.frzs u.tbls (fun m' hm => by
    obtain ⟨o', es', ep', ho', r'⟩ := hm
    rw [ho] at ho'; cases ho'
    exact ⟨_, es', ep', hL, r'⟩) hok I.bare
/-- behind a call (or a comprehension's block): the slots of this frame may have changed too, the records at ch may have turned -/
theorem Inv.call {g' : Array GenState} {t' : Nat} {d' : Drawn} {ch : List Addr} (I : Inv X pins σ H s) (u : Un (frs X.stack) ch H H' s.heap h') (hok : HOk X.prog X.w H' h') (hg : AllBare g')
    (hch : ∀ b ∈ ch, (b ∈ X.ex ∨ X.s₀.heap.objs.size ≤ b) ∧ b ≠ X.env.locals ∧ (∀ x c, X.env.cells.lookup x = some c → c ≠ b) ∧ ∀ p ∈ X.pn ++ pins, p.1 ≠ b) :
    Inv X pins σ H' { s with heap := h', gens := g', drawn := d', toks := t' } := by
  obtain ⟨m, ⟨o, es, ep, ho, r⟩, _⟩ := id I.loc
  obtain ⟨sl, hL⟩ := u.any ho I.free fun z => (hch _ z).2.1 rfl
  exact I.step (ch := ch) hch (fun b o hL hb hc e n => u.keep b o e n (fun z => (List.mem_cons.mp (I.stkSub b z)).elim hL hb) hc) (fun b o _ _ hc e n => u.any e n hc) (fun b o hc e n => u.free b o e n hc) (fun b o hc e => u.there b o e hc) u.tups u.frzs u.tbls (fun m' hm => by
    obtain ⟨o', es', ep', ho', r'⟩ := hm
    rw [ho] at ho'; cases ho'
    exact ⟨_, es', ep', hL, r'⟩) hok hg
/-- an untracked record of ours (an iterator) has turned -/
theorem Inv.turned {t' : Nat} {it : Addr} (I : Inv X pins σ H s) (k : ∀ b o, b ≠ it → s.heap.get? b = some o → h'.get? b = some o) (hn : H it = none) (hL : it ≠ X.env.locals)
    (h1 : it ∈ X.ex ∨ X.s₀.heap.objs.size ≤ it) (h2 : ∀ x c, X.env.cells.lookup x = some c → c ≠ it) (h3 : ∀ p ∈ X.pn ++ pins, p.1 ≠ it) : Inv X pins σ H { s with heap := h', toks := t' } := by
  have nit : ∀ b u, H b = some u → b ≠ it := fun b u e z => by rw [z, hn] at e; cases e
  refine I.step (g' := s.gens) (d' := s.drawn) (ch := [it]) (fun b hb => ?_) (fun b o _ _ hc e _ => k b o (fun z => hc (by simp [z])) e) (fun b o _ _ hc e _ => ⟨o.slots, k b o (fun z => hc (by simp [z])) e⟩) (fun _ _ _ _ n => n)
    (fun b o hc e => ⟨o, k b o (fun z => hc (by simp [z])) e⟩) (fun _ _ e => e) (fun _ _ _ e => e) (fun b ps e => ⟨#[], by rw [e]; simp⟩) (fun m hm => ?_) (fun b u e => ?_) I.bare
  · have e : b = it := by simpa using hb
    subst e
    exact ⟨h1, hL, h2, h3⟩
  · obtain ⟨o, es, ep, ho, r⟩ := hm
    exact ⟨o, es, ep, k _ o (Ne.symm hL) ho, r⟩
  · refine (I.hok b u e).stay (fun c v hc q => k c v ?_ q) (fun _ q => q) fun _ _ q => q
    rcases hc with z | z
    · rw [z]; exact nit b u e
    · exact nit c _ z
theorem Inv.tok (I : Inv X pins σ H s) (t : Nat) : Inv X pins σ H { s with toks := t } := I.un (h' := s.heap) (t' := t) Un.refl I.hok
/-- all objects kept -/
theorem Inv.kept {t' : Nat} (I : Inv X pins σ H s) (k : ∀ b u, s.heap.get? b = some u → h'.get? b = some u) : Inv X pins σ H { s with heap := h', toks := t' } := I.un (Un.kept k) (I.hok.kept k)
/-- a new object laid and tracked -/
theorem Inv.laid {a : Addr} {o : HO} {t' : Nat} (I : Inv X pins σ H s) (k : ∀ b u, s.heap.get? b = some u → h'.get? b = some u) (hp : s.heap.objs.size ≤ a) (new : ObjOk X.prog X.w (upd H a o) h' a o) :
    Inv X pins σ (upd H a o) { s with heap := h', toks := t' } := I.un (Un.laid k hp (I.hok.fresh hp)) (I.hok.laid k hp new)
/-- an object written -/
theorem Inv.write {x e : Addr} {o : HO} {t' : Nat} (I : Inv X pins σ H s) (mu : Mut (H x)) (he : e = x ∨ H e = some (.own x)) (k : ∀ b u, b ≠ e → s.heap.get? b = some u → h'.get? b = some u) (heo : ∃ u, h'.get? e = some u)
    (new : ObjOk X.prog X.w (upd H x o) h' x o) : Inv X pins σ (upd H x o) { s with heap := h', toks := t' } := I.un (Un.write mu he k heo) (I.hok.write mu he k heo new)
/-- forgetting slots, pins -/
theorem Inv.weak {σ' : List (Option V)} (I : Inv X pins σ H s) (hl : σ'.length = σ.length) (w : ∀ (i : Nat) v, σ'[i]? = some (some v) → σ[i]? = some (some v)) : Inv X pins σ' H s :=
  ⟨I.ok, I.os, I.bare, I.base, let ⟨m, hn, hl'⟩ := I.loc; ⟨m, hn, fun i x v e1 e2 e3 => hl' i x v e1 (w i v e2) e3⟩, I.cell, I.free, I.freeC, I.pin, I.hok, hl.trans I.len⟩
theorem Inv.pins_of {pins' : List (Addr × Obj)} (I : Inv X pins σ H s) (h : ∀ p ∈ pins', s.heap.get? p.1 = some p.2 ∧ H p.1 = none ∧ p.1 ≠ X.env.locals ∧ p.1 ∉ X.fs ∧ ∀ v, p.2.data ≠ .cell v) : Inv X pins' σ H s :=
  ⟨I.ok, I.os, I.bare, I.base, I.loc, I.cell, I.free, I.freeC, fun p hp => (List.mem_append.mp hp).elim (fun z => I.pin p (List.mem_append_left _ z)) (h p), I.hok, I.len⟩

theorem nodup_ix {N : List Str} (hN : N.Nodup) {i j : Nat} {x : Str} (a : N[i]? = some x) (b : N[j]? = some x) : i = j := by
  obtain ⟨h1, e1⟩ := List.getElem?_eq_some_iff.mp a
  obtain ⟨h2, e2⟩ := List.getElem?_eq_some_iff.mp b
  exact (List.getElem_inj hN).mp (e1.trans e2.symm)

/-- a name is stored; what changed -/
theorem store_ok2 {M : Model} {A : Around} {E : Value → Shared → Prop} {i : Nat} {x : Str} {v : V} {u : Value} {Q : Unit → Shared → Prop} (I : Inv X pins σ H s) (hN : X.N.Nodup) (hi : X.N[i]? = some x) (hx : Loc X.env.scope x) (r : RelV v u)
    (h : ∀ s', Inv X pins (σ.set i (some v)) H s' → (∃ a, Heap.SameBut a s.heap s'.heap ∧ (a = X.env.locals ∨ X.env.cells.lookup x = some a)) → Q () s') (hf : X.fn x = true ∨ X.env.scope.names.lookup x = some .local := by first | exact .inl rfl | exact .inr rfl | assumption) : wpAny M A (storeName X.env x u) Q E s := by
  obtain ⟨m, hn, hl⟩ := id I.loc
  have hcls : (X.env.scope.kind == .class || (X.env.scope.kind == .module && X.env.locals != X.env.globals)) = false := by rw [I.ok.kind]; rfl
  have hiσ : i < σ.length := by rw [I.len]; exact (List.getElem?_eq_some_iff.mp hi).1
  have cne := I.cne
  have tracked : ∀ {a : Addr} {h' : Heap}, (∃ o, s.heap.get? a = some o ∧ H a = none) → Heap.SameBut a s.heap h' → HOk X.prog X.w H h' := fun {a h'} ha hs b ob e => by
    obtain ⟨_, _, hfree⟩ := ha
    refine (I.hok b ob e).stay (fun c w' hc q => (hs.2 c ?_).trans q) (fun _ q => q) fun _ _ q => q
    rintro rfl
    rcases hc with rfl | hc
    · rw [hfree] at e; cases e
    · rw [hfree] at hc; cases hc
  rcases hx with hk | hk
  · refine wpAny_storeName_local hk hn (fun h' hn' hs => ?_) hcls
    obtain ⟨oL, _, _, hoL, _⟩ := id hn
    refine h _ ⟨I.ok, I.os, I.bare, ⟨fun b o e n hb hx => ?_, fun b o e n hb hx => ?_, I.base.free, fun b o e hx => ?_, I.base.tups, I.base.frzs, I.base.tbls⟩, ⟨_, hn', fun j y v' e1 e2 e3 => ?_⟩, fun y c e => ?_, I.free, I.freeC, fun p hp => ?_, tracked ⟨oL, hoL, I.free⟩ hs, by simpa using I.len⟩ ⟨_, hs, .inl rfl⟩
    · exact (hs.2 b (Nat.ne_of_lt (Nat.lt_of_lt_of_le (Heap.lt_size e) I.ok.above))).trans (I.base.keep b o e n hb hx)
    · obtain ⟨sl, e1⟩ := I.base.slot b o e n hb hx
      exact ⟨sl, (hs.2 b (Nat.ne_of_lt (Nat.lt_of_lt_of_le (Heap.lt_size e) I.ok.above))).trans e1⟩
    · obtain ⟨o', e1⟩ := I.base.there b o e hx
      exact ⟨o', (hs.2 b (Nat.ne_of_lt (Nat.lt_of_lt_of_le (Heap.lt_size e) I.ok.above))).trans e1⟩
    · by_cases hj : j = i
      · subst hj
        rw [hi] at e1; cases e1
        rw [List.getElem?_set_self hiσ] at e2
        cases e2
        exact ⟨u, r, .inl ⟨hk, by simp⟩⟩
      · rw [List.getElem?_set_ne (Ne.symm hj)] at e2
        obtain ⟨u', r', q⟩ := hl j y v' e1 e2 e3
        refine ⟨u', r', ?_⟩
        rcases q with ⟨k, e⟩ | ⟨k, c, e, z⟩
        · refine .inl ⟨k, ?_⟩
          have : y ≠ x := fun e => hj (nodup_ix hN e1 (e ▸ hi))
          simp [this, e]
        · exact .inr ⟨k, c, e, z.sameBut hs (cne y c e)⟩
    · obtain ⟨w', z⟩ := I.cell y c e
      exact ⟨w', z.sameBut hs (cne y c e)⟩
    · obtain ⟨e, n, ne, nf, d⟩ := I.pin p hp
      exact ⟨(hs.2 p.1 ne).trans e, n, ne, nf, d⟩
  · have hfn : X.fn x = true := by
      rcases hf with z | z
      · exact z
      · rw [z] at hk; cases hk
    obtain ⟨c, hc⟩ := I.ok.has x (.inl hk)
    obtain ⟨w', z⟩ := I.cell x c hc
    refine wpAny_storeName_cell I.ok.kind hk hc z (fun h' hc' hs => ?_)
    obtain ⟨oc, hoc, hocd⟩ := id z
    refine h { s with heap := h' } ⟨I.ok, I.os, I.bare, ⟨fun b o e n hb hx => ?_, fun b o e n hb hx => ?_, I.base.free, fun b o e hx => ?_, I.base.tups, I.base.frzs, I.base.tbls⟩, ⟨m, hn.sameBut hs (Ne.symm (cne x c hc)), fun j y v' e1 e2 e3 => ?_⟩, fun y c' e => ?_, I.free, I.freeC, fun p hp => ?_, tracked ⟨oc, hoc, I.freeC x c hc⟩ hs, by simpa using I.len⟩ ⟨c, hs, .inr hc⟩
    · exact (hs.2 b (Nat.ne_of_lt (Nat.lt_of_lt_of_le (Heap.lt_size e) (I.ok.cab x c hfn hc)))).trans (I.base.keep b o e n hb hx)
    · obtain ⟨sl, e1⟩ := I.base.slot b o e n hb hx
      exact ⟨sl, (hs.2 b (Nat.ne_of_lt (Nat.lt_of_lt_of_le (Heap.lt_size e) (I.ok.cab x c hfn hc)))).trans e1⟩
    · obtain ⟨o', e1⟩ := I.base.there b o e hx
      exact ⟨o', (hs.2 b (Nat.ne_of_lt (Nat.lt_of_lt_of_le (Heap.lt_size e) (I.ok.cab x c hfn hc)))).trans e1⟩
    · by_cases hj : j = i
      · subst hj
        rw [hi] at e1; cases e1
        rw [List.getElem?_set_self hiσ] at e2
        cases e2
        exact ⟨u, r, .inr ⟨.inl hk, c, hc, hc'⟩⟩
      · rw [List.getElem?_set_ne (Ne.symm hj)] at e2
        obtain ⟨u', r', q⟩ := hl j y v' e1 e2 e3
        refine ⟨u', r', ?_⟩
        rcases q with q | ⟨k, c', e, z'⟩
        · exact .inl q
        · refine .inr ⟨k, c', e, z'.sameBut hs ?_⟩
          rintro rfl
          exact hj (nodup_ix hN e1 (I.ok.inj _ _ _ e hc ▸ hi))
    · by_cases hcc : c' = c
      · subst hcc; exact ⟨_, hc'⟩
      · obtain ⟨w2, z2⟩ := I.cell y c' e
        exact ⟨w2, z2.sameBut hs hcc⟩
    · obtain ⟨e, n, ne, nf, d⟩ := I.pin p hp
      refine ⟨(hs.2 p.1 ?_).trans e, n, ne, nf, d⟩
      intro q
      rw [q, hoc] at e
      have q' : oc = p.2 := Option.some.inj e
      exact d w' (by rw [← q']; exact hocd)
theorem store_ok {M : Model} {A : Around} {E : Value → Shared → Prop} {i : Nat} {x : Str} {v : V} {u : Value} {Q : Unit → Shared → Prop} (I : Inv X pins σ H s) (hN : X.N.Nodup) (hi : X.N[i]? = some x) (hx : Loc X.env.scope x) (r : RelV v u)
    (h : ∀ s', Inv X pins (σ.set i (some v)) H s' → Q () s') (hf : X.fn x = true ∨ X.env.scope.names.lookup x = some .local := by first | exact .inl rfl | exact .inr rfl | assumption) : wpAny M A (storeName X.env x u) Q E s :=
  store_ok2 I hN hi hx r (fun s' I' _ => h s' I') hf
/-- behind a call or a block, the state as it is -/
theorem Inv.call' {s' : Shared} {ch : List Addr} (I : Inv X pins σ H s) (ho : s'.os = s.os) (u : Un (frs X.stack) ch H H' s.heap s'.heap) (hok : HOk X.prog X.w H' s'.heap) (hg : AllBare s'.gens)
    (hch : ∀ b ∈ ch, (b ∈ X.ex ∨ X.s₀.heap.objs.size ≤ b) ∧ b ≠ X.env.locals ∧ (∀ x c, X.env.cells.lookup x = some c → c ≠ b) ∧ ∀ p ∈ X.pn ++ pins, p.1 ≠ b) : Inv X pins σ H' s' := by
  obtain ⟨h', g', d', t', o'⟩ := s'
  have e : o' = s.os := ho
  subst e
  exact I.call (g' := g') (t' := t') (d' := d') u hok hg hch
end

/-! ### the judgements -/
/-- an exception: its class, its own dict's address (where it has one), the abstract heap behind it -/
abbrev XK := Value → Option Addr → Hp → Prop
abbrev St := List (Option V)
abbrev VK := V → Hp → Prop
/-- an expression's reading; a test's; an argument list's -/
abbrev TE := St → Hp → VK → Prop
abbrev TT := St → Hp → (Bool → Hp → Prop) → Prop
abbrev TA := St → Hp → (List V → Hp → Prop) → Prop
/-- what is wanted behind a statement -/
structure Ends where
  nx : St → Hp → Prop
  rt : VK
  bk : St → Hp → Prop := fun _ _ => False
  ct : St → Hp → Prop := fun _ _ => False
abbrev TS := Ends → St → Hp → Prop

def EP (X : Cx) (pins : List (Addr × Obj)) (σ : St) (Q : VK) (u : Value) (s' : Shared) : Prop := ∃ v H', Inv X pins σ H' s' ∧ RelV v u ∧ Q v H'
def TP (X : Cx) (pins : List (Addr × Obj)) (σ : St) (Q : Bool → Hp → Prop) (b : Bool) (s' : Shared) : Prop := ∃ H', Inv X pins σ H' s' ∧ Q b H'
def AP (X : Cx) (pins : List (Addr × Obj)) (σ : St) (Q : List V → Hp → Prop) (us : List Value) (s' : Shared) : Prop := ∃ vs H', Inv X pins σ H' s' ∧ Vals vs us ∧ Q vs H'
def SP (X : Cx) (pins : List (Addr × Obj)) (D : Ends) (f : Flow) (s' : Shared) : Prop :=
  match f with
  | .next => ∃ σ' H', Inv X pins σ' H' s' ∧ D.nx σ' H'
  | .brk => ∃ σ' H', Inv X pins σ' H' s' ∧ D.bk σ' H'
  | .cont => ∃ σ' H', Inv X pins σ' H' s' ∧ D.ct σ' H'
  | .ret u => ∃ v σ' H', Inv X pins σ' H' s' ∧ RelV v u ∧ D.rt v H'

def PE (X : Cx) (e : Expr) (t : TE) : Prop :=
  ∀ (pins : List (Addr × Obj)) (s : Shared) (σ : St) (H : Hp) (Q : VK), Inv X pins σ H s → t σ H Q → wpAny (model X.prog X.w) X.A (eval e X.env) (EP X pins σ Q) X.xe s
def PT (X : Cx) (e : Expr) (t : TT) : Prop :=
  ∀ (pins : List (Addr × Obj)) (s : Shared) (σ : St) (H : Hp) (Q : Bool → Hp → Prop), Inv X pins σ H s → t σ H Q → wpAny (model X.prog X.w) X.A (isTrue e X.env (eval e X.env)) (TP X pins σ Q) X.xe s
/-- a test whatever its 'whole' is (and, or) -/
def PW (X : Cx) (e : Expr) (t : TT) : Prop :=
  ∀ (whole : Sem Value) (pins : List (Addr × Obj)) (s : Shared) (σ : St) (H : Hp) (Q : Bool → Hp → Prop), Inv X pins σ H s → t σ H Q → wpAny (model X.prog X.w) X.A (isTrue e X.env whole) (TP X pins σ Q) X.xe s
theorem PW.pt {X : Cx} {e : Expr} {t : TT} (h : PW X e t) : PT X e t := h _
/-- an argument list (no star), from the left -/
def PA (X : Cx) (es : List Expr) (t : TA) : Prop :=
  ∀ (pos : Pos) (pins : List (Addr × Obj)) (s : Shared) (σ : St) (H : Hp) (Q : List V → Hp → Prop), Inv X pins σ H s → t σ H Q → wpAny (model X.prog X.w) X.A (spliced (backTo pos (starEach es X.env))) (AP X pins σ Q) X.xe s
def PS (X : Cx) (st : Stmt) (t : TS) : Prop :=
  ∀ (pins : List (Addr × Obj)) (s : Shared) (σ : St) (H : Hp) (D : Ends), Inv X pins σ H s → t D σ H → wpAny (model X.prog X.w) X.A (exec st X.env) (SP X pins D) X.xe s
def PSs (X : Cx) (st : List Stmt) (t : TS) : Prop :=
  ∀ (pins : List (Addr × Obj)) (s : Shared) (σ : St) (H : Hp) (D : Ends), Inv X pins σ H s → t D σ H → wpAny (model X.prog X.w) X.A (execs st X.env) (SP X pins D) X.xe s
/-- weaken the end -/
theorem thn {α : Type} {t : Sem α} {Q Q' : α → Shared → Prop} {M : Model} {A : Around} {E : Value → Shared → Prop} {s : Shared} (h : wpAny M A t Q E s) (hQ : ∀ a s, Q a s → Q' a s) : wpAny M A t Q' E s := wpAny_mono h hQ fun _ _ x => x
end L2

namespace L2
open PySem PySem.Spec PyProof.Rows
section
variable {X : Cx}

/-- two expressions in a row -/
theorem bin {a b : Expr} {ta tb : TE} (ha : PE X a ta) (hb : PE X b tb) {pins : List (Addr × Obj)} {s : Shared} {σ : St} {H : Hp} {R : V → V → Hp → Prop} (I : Inv X pins σ H s) (h : ta σ H fun x H1 => tb σ H1 fun y H2 => R x y H2)
    {α : Type} {Q : α → Shared → Prop} {f : Value → Value → Sem α}
    (hf : ∀ v u s2 x y H2, Inv X pins σ H2 s2 → RelV x v → RelV y u → R x y H2 → wpAny (model X.prog X.w) X.A (f v u) Q X.xe s2) :
    wpAny (model X.prog X.w) X.A (eval a X.env) (fun v s₁ => wpAny (model X.prog X.w) X.A (eval b X.env) (fun u s₂ => wpAny (model X.prog X.w) X.A (f v u) Q X.xe s₂) X.xe s₁) X.xe s := by
  refine thn (ha pins s σ H _ I h) fun v s1 ⟨x, H1, I1, r1, q1⟩ => ?_
  refine thn (hb pins s1 σ H1 _ I1 q1) fun u s2 ⟨y, H2, I2, r2, q2⟩ => ?_
  exact hf v u s2 x y H2 I2 r1 r2 q2

/-! ### names and constants -/
def tVar (i : Nat) : TE := fun σ H Q => ∃ v, σ[i]? = some (some v) ∧ Q v H
def tC (v : V) : TE := fun _ H Q => Q v H
theorem pe_var {i : Nat} {x : Str} {pos : Pos} (hN : X.N[i]? = some x) (hv : Vis X.env.scope x) (hd : (x == ("__debug__" : Str)) = false := by decide) (hcd : (x == ("__classdict__" : Str)) = false := by decide) : PE X (.Name x pos) (tVar i) := by
  intro pins s σ H Q I h
  obtain ⟨v, e, h⟩ := h
  obtain ⟨m, hn, hl⟩ := I.loc
  obtain ⟨u, r, l⟩ := hl i x v hN e hv
  have fin : EP X pins σ Q u s := ⟨v, H, I, r, h⟩
  rcases l with ⟨hk, hm⟩ | ⟨hk, c, hc, hcell⟩
  · exact wpAny_Name (wpAny_loadName_local I.ok.kind hk hn hm fin) hd
  · rcases hk with hk | hk
    · exact wpAny_Name (wpAny_loadName_cell I.ok.kind hk hc hcell fin) hd
    · exact wpAny_Name (wpAny_loadName_free I.ok.kind hk hc hcell fin hcd) hd
theorem pe_int {i j pos} : PE X (.Constant (.int i) j pos) (tC (.int i)) := fun _ _ _ H _ I h => wpAny_Constant_int ⟨.int i, H, I.tok _, ⟨_, rfl⟩, h⟩
theorem pe_bl {b j pos} : PE X (.Constant (.bool b) j pos) (tC (.bl b)) := fun _ _ _ H _ I h => Constant_bool ⟨.bl b, H, I, rfl, h⟩
theorem pe_non {j pos} : PE X (.Constant .none j pos) (tC .non) := fun _ _ _ H _ I h => Constant_none ⟨.non, H, I, rfl, h⟩
theorem pe_str {x j pos} : PE X (.Constant (.str x) j pos) (tC (.str x)) := fun _ _ _ H _ I h => Calls.Constant_str ⟨.str x, H, I.tok _, ⟨_, rfl⟩, h⟩

/-- a global name of the def -/
def Gl (X : Cx) (x : Str) : Prop := X.env.kindOf x = some .globalImplicit
theorem ld_glob {E : Value → Shared → Prop} {pins : List (Addr × Obj)} {s : Shared} {σ : St} {H : Hp} {x : Str} {u : Value} {pos : Pos} {Q : Value → Shared → Prop} (I : Inv X pins σ H s) (hg : Gl X x) (hm : X.mg x = some u) (h : Q u s)
    (hd : (x == ("__debug__" : Str)) = false := by decide) : wpAny (model X.prog X.w) X.A (eval (.Name x pos) X.env) Q E s :=
  Calls.Name_function_global I.ok.kind hg (Calls.loadGlobal_global (by rw [I.ok.glob]; exact I.mod.glob.keeps I.bk) hm h) hd
theorem ld_blt {E : Value → Shared → Prop} {pins : List (Addr × Obj)} {s : Shared} {σ : St} {H : Hp} {x : Str} {u : Value} {pos : Pos} {Q : Value → Shared → Prop} (I : Inv X pins σ H s) (hg : Gl X x) (hm : X.mg x = none) (hv : bootBuiltins x = some u) (h : Q u s)
    (hn : x ≠ "__name__" := by decide) (hd : (x == ("__debug__" : Str)) = false := by decide) : wpAny (model X.prog X.w) X.A (eval (.Name x pos) X.env) Q E s := by
  obtain ⟨mb, h1, h2⟩ := I.mod.blt
  exact Calls.Name_function_global I.ok.kind hg (Calls.loadGlobal_builtin (by rw [I.ok.glob]; exact I.mod.glob.keeps I.bk) hm (by rw [I.ok.blt]; exact h1.keeps I.bk) ((h2 x hn).trans hv) h) hd
/-- a module's constant, a class, a function, as a value -/
theorem pe_glob {x : Str} {v : V} {u : Value} {pos : Pos} (hg : Gl X x) (hm : X.mg x = some u) (r : RelV v u) (hd : (x == ("__debug__" : Str)) = false := by decide) : PE X (.Name x pos) (tC v) :=
  fun _ _ _ H _ I h => ld_glob I hg hm ⟨v, H, I, r, h⟩ hd
theorem pe_bltn {x : Str} {v : V} {u : Value} {pos : Pos} (hg : Gl X x) (hm : X.mg x = none) (hv : bootBuiltins x = some u) (r : RelV v u) (hn : x ≠ "__name__" := by decide) (hd : (x == ("__debug__" : Str)) = false := by decide) : PE X (.Name x pos) (tC v) :=
  fun _ _ _ H _ I h => ld_blt I hg hm hv ⟨v, H, I, r, h⟩ hn hd

/-! ### arithmetic -/
/-- two ints -/
def t2I (ta tb : TE) (k : Int → Int → Hp → Prop) : St → Hp → Prop := fun σ H => ta σ H fun x H1 => tb σ H1 fun y H2 => ∃ i j, x = .int i ∧ y = .int j ∧ k i j H2
def tAdd (ta tb : TE) : TE := fun σ H Q => t2I ta tb (fun i j H2 => Q (.int (i + j)) H2) σ H
def tSub (ta tb : TE) : TE := fun σ H Q => t2I ta tb (fun i j H2 => Q (.int (i - j)) H2) σ H
/-- the left factor below 2^64 -/
def tMul (ta tb : TE) : TE := fun σ H Q => t2I ta tb (fun i j H2 => (-(2 ^ 64) < i ∧ i < 2 ^ 64) ∧ Q (.int (i * j)) H2) σ H
variable {a b : Expr} {ta tb : TE} {pos : Pos}
theorem pe_add (ha : PE X a ta) (hb : PE X b tb) : PE X (.BinOp a .Add b pos) (tAdd ta tb) := by
  intro pins s σ H Q I h
  refine wpAny_BinOp (bin ha hb I h fun v u s2 x y H2 I2 rx ry q => ?_)
  obtain ⟨i, j, rfl, rfl, q⟩ := q
  obtain ⟨t, rfl⟩ := rx
  obtain ⟨t', rfl⟩ := ry
  exact add_int ⟨.int _, H2, I2.tok _, ⟨_, rfl⟩, q⟩
theorem pe_sub (ha : PE X a ta) (hb : PE X b tb) : PE X (.BinOp a .Sub b pos) (tSub ta tb) := by
  intro pins s σ H Q I h
  refine wpAny_BinOp (bin ha hb I h fun v u s2 x y H2 I2 rx ry q => ?_)
  obtain ⟨i, j, rfl, rfl, q⟩ := q
  obtain ⟨t, rfl⟩ := rx
  obtain ⟨t', rfl⟩ := ry
  exact sub_int ⟨.int _, H2, I2.tok _, ⟨_, rfl⟩, q⟩
theorem pe_mul (ha : PE X a ta) (hb : PE X b tb) : PE X (.BinOp a .Mult b pos) (tMul ta tb) := by
  intro pins s σ H Q I h
  refine wpAny_BinOp (bin ha hb I h fun v u s2 x y H2 I2 rx ry q => ?_)
  obtain ⟨i, j, rfl, rfl, ⟨q1, q2⟩, q⟩ := q
  obtain ⟨t, rfl⟩ := rx
  obtain ⟨t', rfl⟩ := ry
  exact mul_int ⟨.int _, H2, I2.tok _, ⟨_, rfl⟩, q⟩ (.of_left (intBits_le_64 q1 q2))

/-! ### comparisons -/
def PC (X : Cx) (op : CmpOp) (a b : Expr) (t : TE) : Prop :=
  ∀ (pins : List (Addr × Obj)) (s : Shared) (σ : St) (H : Hp) (Q : VK), Inv X pins σ H s → t σ H Q →
    wpAny (model X.prog X.w) X.A (eval a X.env) (fun v s₁ => wpAny (model X.prog X.w) X.A (eval b X.env) (fun u s₂ => wpAny (model X.prog X.w) X.A (compareOp op v u) (EP X pins σ Q) X.xe s₂) X.xe s₁) X.xe s
theorem nobehind (b : Expr) {op : CmpOp} (h : op ≠ .In) (h2 : op ≠ .NotIn) : behindInMarks op b = false := by
  have e1 : (op == CmpOp.In) = false := by cases op <;> first | rfl | exact absurd rfl h
  have e2 : (op == CmpOp.NotIn) = false := by cases op <;> first | rfl | exact absurd rfl h2
  cases b <;> simp [behindInMarks, e1, e2]
def tCmp (p : Int → Int → Bool) (ta tb : TE) : TE := fun σ H Q => t2I ta tb (fun i j H2 => Q (.bl (p i j)) H2) σ H
abbrev tLt : TE → TE → TE := tCmp fun i j => decide (i < j)
abbrev tLe : TE → TE → TE := tCmp fun i j => decide (i ≤ j)
abbrev tGt : TE → TE → TE := tCmp fun i j => decide (j < i)
abbrev tGe : TE → TE → TE := tCmp fun i j => decide (j ≤ i)
abbrev tEqI : TE → TE → TE := tCmp fun i j => decide (i = j)
abbrev tNeI : TE → TE → TE := tCmp fun i j => !decide (i = j)
/-- a comparison of two ints, by its rule -/
theorem pc_int {op : CmpOp} {p : Int → Int → Bool} (ha : PE X a ta) (hb : PE X b tb)
    (rule : ∀ (i j : Int) (t u : Tok) (Q : Value → Shared → Prop) (s : Shared), Q (.bool (p i j)) s → wpAny (model X.prog X.w) X.A (compareOp op (.int i t) (.int j u)) Q X.xe s) : PC X op a b (tCmp p ta tb) := by
  intro pins s σ H Q I h
  refine bin ha hb I h fun v u s2 x y H2 I2 rx ry q => ?_
  obtain ⟨i, j, rfl, rfl, q⟩ := q
  obtain ⟨t, rfl⟩ := rx
  obtain ⟨t', rfl⟩ := ry
  exact rule i j t t' _ s2 ⟨.bl _, H2, I2, rfl, q⟩
theorem pc_lt (ha : PE X a ta) (hb : PE X b tb) : PC X .Lt a b (tLt ta tb) := pc_int ha hb fun _ _ _ _ _ _ h => lt_int h
theorem pc_le (ha : PE X a ta) (hb : PE X b tb) : PC X .LtE a b (tLe ta tb) := pc_int ha hb fun _ _ _ _ _ _ h => le_int h
theorem pc_gt (ha : PE X a ta) (hb : PE X b tb) : PC X .Gt a b (tGt ta tb) := pc_int ha hb fun _ _ _ _ _ _ h => gt_int h
theorem pc_ge (ha : PE X a ta) (hb : PE X b tb) : PC X .GtE a b (tGe ta tb) := pc_int ha hb fun _ _ _ _ _ _ h => ge_int h
theorem pc_eqI (ha : PE X a ta) (hb : PE X b tb) : PC X .Eq a b (tEqI ta tb) := pc_int ha hb fun _ _ _ _ _ _ h => eq_int (by rw [Bool.beq_eq_decide_eq]; exact h)
theorem pc_neI (ha : PE X a ta) (hb : PE X b tb) : PC X .NotEq a b (tNeI ta tb) := pc_int ha hb fun _ _ _ _ _ _ h => ne_int (by rw [bne, Bool.beq_eq_decide_eq]; exact h)
/-- is None -/
def tIsN (ta : TE) : TE := fun σ H Q => ta σ H fun x H1 => Q (.bl (decide (x = .non))) H1
def tNotN (ta : TE) : TE := fun σ H Q => ta σ H fun x H1 => Q (.bl (!decide (x = .non))) H1
theorem RelV.none_iff {x : V} {v : Value} (r : RelV x v) : (v == Value.none) = decide (x = .non) := by
  cases x with
  | non => cases r; rfl
  | bl _ => cases r; rfl
  | int _ => obtain ⟨t, rfl⟩ := r; rfl
  | str _ => obtain ⟨t, rfl⟩ := r; rfl
  | byt _ => obtain ⟨t, rfl⟩ := r; rfl
  | flt _ => obtain ⟨t, rfl⟩ := r; rfl
  | ref _ => cases r; rfl
  | ty _ => cases r; rfl
theorem pc_isN {j pos'} (ha : PE X a ta) : PC X .Is a (.Constant .none j pos') (tIsN ta) := by
  intro pins s σ H Q I h
  refine thn (ha pins s σ H _ I h) fun v s1 ⟨x, H1, I1, r1, q1⟩ => ?_
  exact Constant_none (is_none_gen ⟨.bl _, H1, I1, by rw [r1.none_iff]; rfl, q1⟩)
theorem pc_notN {j pos'} (ha : PE X a ta) : PC X .IsNot a (.Constant .none j pos') (tNotN ta) := by
  intro pins s σ H Q I h
  refine thn (ha pins s σ H _ I h) fun v s1 ⟨x, H1, I1, r1, q1⟩ => ?_
  exact Constant_none (isnot_none_gen ⟨.bl _, H1, I1, by rw [r1.none_iff]; rfl, q1⟩)
/-- a comparison as a value, as a test -/
def tB (t : TE) : TT := fun σ H Q => t σ H fun x H1 => ∃ c, x = .bl c ∧ Q c H1
theorem pe_cmp {op : CmpOp} {t : TE} (h : PC X op a b t) (h1 : behindInMarks op b = false := by first | exact nobehind _ (by decide) (by decide) | rfl) : PE X (.Compare a [op] [b] pos) t := fun pins s σ H Q I hw => wpAny_Compare1 (h pins s σ H Q I hw) h1
theorem pt_cmp {op : CmpOp} {t : TE} (h : PC X op a b t) (h1 : behindInMarks op b = false := by first | exact nobehind _ (by decide) (by decide) | rfl) : PT X (.Compare a [op] [b] pos) (tB t) := by
  intro pins s σ H Q I hw
  refine wpAny_isTrue_Compare1 (thn (h pins s σ H _ I hw) fun v s1 h1 => thn h1 fun u s2 h2 => thn h2 fun c s3 ⟨x, H1, I1, r1, q1⟩ => ?_) h1
  obtain ⟨d, rfl, q⟩ := q1
  cases r1
  exact wpAny_truthy_bool ⟨H1, I1, q⟩
/-- an expression whose value is a bool, as a test -/
theorem pt_val {e : Expr} {t : TE} (h : PE X e t) (he : ∀ whole, isTrue e X.env whole = (do let v ← whole; standAt e.pos; holding [v] (truthy v)) := by intro _; rfl) : PT X e (tB t) := by
  intro pins s σ H Q I hw
  refine isTrue_plain (thn (h pins s σ H _ I hw) fun v s1 ⟨x, H1, I1, r1, q1⟩ => ?_) (he _)
  obtain ⟨d, rfl, q⟩ := q1
  cases r1
  exact wpAny_truthy_bool ⟨H1, I1, q⟩

/-! ### and, or, not -/
variable {tA tB' : TT} {rest : List Expr}
def tAnd (t u : TT) : TT := fun σ H Q => t σ H fun c H1 => if c = true then u σ H1 Q else Q false H1
def tOr (t u : TT) : TT := fun σ H Q => t σ H fun c H1 => if c = true then Q true H1 else u σ H1 Q
def tNot (t : TT) : TT := fun σ H Q => t σ H fun c H1 => Q (!c) H1
theorem pw_and1 (ha : PT X a tA) : PW X (.BoolOp .And [a] pos) tA := by
  intro wh pins s σ H Q I h
  refine isTrue_and (thn (ha pins s σ H Q I h) fun c s1 e => ?_)
  cases c with
  | true => exact isTrue_and_nil e
  | false => exact e
theorem pw_or1 (ha : PT X a tA) : PW X (.BoolOp .Or [a] pos) tA := by
  intro wh pins s σ H Q I h
  refine isTrue_or (thn (ha pins s σ H Q I h) fun c s1 e => ?_)
  cases c with
  | false => exact isTrue_or_nil e
  | true => exact e
theorem pw_and (ha : PT X a tA) (hb : PW X (.BoolOp .And (b :: rest) pos) tB') : PW X (.BoolOp .And (a :: b :: rest) pos) (tAnd tA tB') := by
  intro wh pins s σ H Q I h
  refine isTrue_and (thn (ha pins s σ H _ I h) fun c s1 ⟨H1, I1, q1⟩ => ?_)
  cases c with
  | true => exact hb wh pins s1 σ H1 Q I1 q1
  | false => exact ⟨H1, I1, q1⟩
theorem pw_or (ha : PT X a tA) (hb : PW X (.BoolOp .Or (b :: rest) pos) tB') : PW X (.BoolOp .Or (a :: b :: rest) pos) (tOr tA tB') := by
  intro wh pins s σ H Q I h
  refine isTrue_or (thn (ha pins s σ H _ I h) fun c s1 ⟨H1, I1, q1⟩ => ?_)
  cases c with
  | true => exact ⟨H1, I1, q1⟩
  | false => exact hb wh pins s1 σ H1 Q I1 q1
theorem pt_not (ha : PT X a tA) : PT X (.UnaryOp .Not a pos) (tNot tA) := by
  intro pins s σ H Q I h
  exact isTrue_not (ha pins s σ H (fun c H1 => Q (!c) H1) I h)
/-- .. as values (bools) -/
def tAndV (ta tb : TE) : TE := fun σ H Q => ta σ H fun x H1 => ∃ c, x = .bl c ∧ if c = true then tb σ H1 Q else Q (.bl false) H1
def tOrV (ta tb : TE) : TE := fun σ H Q => ta σ H fun x H1 => ∃ c, x = .bl c ∧ if c = true then Q (.bl true) H1 else tb σ H1 Q
def tNotV (ta : TE) : TE := fun σ H Q => ta σ H fun x H1 => ∃ c, x = .bl c ∧ Q (.bl (!c)) H1
theorem pe_one {op} {t : TE} (h : PE X a t) : PE X (.BoolOp op [a] pos) t := fun pins s σ H Q I hw => BoolOp_one (h pins s σ H Q I hw)
theorem pe_and (ha : PE X a ta) (hb : PE X (.BoolOp .And (b :: rest) pos) tb) : PE X (.BoolOp .And (a :: b :: rest) pos) (tAndV ta tb) := by
  intro pins s σ H Q I h
  refine BoolOp_and (thn (ha pins s σ H _ I h) fun v s1 ⟨x, H1, I1, r1, q1⟩ => ?_)
  obtain ⟨c, rfl, q1⟩ := q1
  cases r1
  refine wpAny_truthy_bool ?_
  cases c with
  | true => exact hb pins s1 σ H1 Q I1 q1
  | false => exact ⟨.bl false, H1, I1, rfl, q1⟩
theorem pe_or (ha : PE X a ta) (hb : PE X (.BoolOp .Or (b :: rest) pos) tb) : PE X (.BoolOp .Or (a :: b :: rest) pos) (tOrV ta tb) := by
  intro pins s σ H Q I h
  refine BoolOp_or (thn (ha pins s σ H _ I h) fun v s1 ⟨x, H1, I1, r1, q1⟩ => ?_)
  obtain ⟨c, rfl, q1⟩ := q1
  cases r1
  refine wpAny_truthy_bool ?_
  cases c with
  | false => exact hb pins s1 σ H1 Q I1 q1
  | true => exact ⟨.bl true, H1, I1, rfl, q1⟩
theorem pe_not (ha : PE X a ta) : PE X (.UnaryOp .Not a pos) (tNotV ta) := by
  intro pins s σ H Q I h
  refine UnaryOp_ (thn (ha pins s σ H _ I h) fun v s1 ⟨x, H1, I1, r1, q1⟩ => ?_)
  obtain ⟨c, rfl, q1⟩ := q1
  cases r1
  exact not_of (wpAny_truthy_bool ⟨.bl (!c), H1, I1, rfl, q1⟩)
/-- a if t else b -/
def tIf (t : TT) (ta tb : TE) : TE := fun σ H Q => t σ H fun c H1 => if c = true then ta σ H1 Q else tb σ H1 Q
theorem pe_ifExp {c : Expr} (hc : PT X c tA) (ha : PE X a ta) (hb : PE X b tb) : PE X (.IfExp c a b pos) (tIf tA ta tb) := by
  intro pins s σ H Q I h
  refine wpAny_IfExp (thn (hc pins s σ H _ I h) fun d s1 ⟨H1, I1, q1⟩ => ?_)
  cases d with
  | true => exact ha pins s1 σ H1 Q I1 q1
  | false => exact hb pins s1 σ H1 Q I1 q1
end
end L2

namespace L2
open PySem PySem.Spec PyProof.Rows

/-! ### a list, a tuple that is read: tracked, frozen, or an object of the module -/
def SqL (K : PySem.W.Frag) (H : Hp) (a : Addr) (xs : List V) : Prop :=
  Rd H a (.lst xs) ∨
    ∃ (o : Obj) (its : Array Value) (n : Nat), K.lookup a = some o ∧ o.cls = .type "list" ∧ o.dict = none ∧ o.data = .seq its n ∧ its.size ≤ sizeLine ∧ Vals xs its.toList
def SqT (K : PySem.W.Frag) (H : Hp) (a : Addr) (xs : List V) : Prop :=
  Rd H a (.tup xs) ∨
    ∃ (o : Obj) (its : Array Value) (n : Nat), K.lookup a = some o ∧ o.cls = .type "tuple" ∧ o.data = .seq its n ∧ its.size ≤ sizeLine ∧ Vals xs its.toList
def absV : Value → Option V
  | .none => some .non
  | .bool b => some (.bl b)
  | .int i _ => some (.int i)
  | .str x _ => some (.str x)
  | .bytes b _ => some (.byt b)
  | .float b _ => some (.flt b)
  | .ref a => some (.ref a)
  | .type n => some (.ty n)
  | _ => none
theorem RelV.abs {x : V} {u : Value} (r : RelV x u) : absV u = some x := by
  cases x with
  | non => cases r; rfl
  | bl _ => cases r; rfl
  | int _ => obtain ⟨t, rfl⟩ := r; rfl
  | str _ => obtain ⟨t, rfl⟩ := r; rfl
  | byt _ => obtain ⟨t, rfl⟩ := r; rfl
  | flt _ => obtain ⟨t, rfl⟩ := r; rfl
  | ref _ => cases r; rfl
  | ty _ => cases r; rfl
theorem RelV.inj {x y : V} {u : Value} (r : RelV x u) (q : RelV y u) : x = y := Option.some.inj (r.abs.symm.trans q.abs)
theorem Vals.inj : ∀ {xs ys : List V} {us : List Value}, Vals xs us → Vals ys us → xs = ys
  | _, _, _, .nil, .nil => rfl
  | _, _, _, .cons r t, .cons r' t' => by rw [r.inj r', Vals.inj t t']
section
variable {X : Cx} {pins : List (Addr × Obj)} {σ : St} {H : Hp} {s : Shared} {a : Addr} {xs ys : List V}
theorem SqL.of {K : PySem.W.Frag} (h : H a = some (.lst xs)) : SqL K H a xs := .inl (.inl h)
theorem SqT.of {K : PySem.W.Frag} (h : H a = some (.tup xs)) : SqT K H a xs := .inl (.inl h)
theorem Inv.list (I : Inv X pins σ H s) (h : SqL X.K H a xs) : ∃ its : List Value, Vals xs its ∧ PlainL s.heap a its.toArray ∧ xs.length ≤ sizeLine := by
  rcases h with h | ⟨o, its, n, hk, hc, hd, hs, hz, r⟩
  · obtain ⟨z, its, n, r, e⟩ := h.ok I.hok
    exact ⟨its, r, ⟨_, n, e, rfl, rfl, rfl⟩, z⟩
  · refine ⟨its.toList, r, ⟨o, n, I.kIn a o hk, hc, hd, by simpa using hs⟩, ?_⟩
    have e := r.length
    simp only [Array.length_toList] at e
    omega
theorem Inv.tuple (I : Inv X pins σ H s) (h : SqT X.K H a xs) : ∃ its : List Value, Vals xs its ∧ IsTup s.heap a its.toArray ∧ xs.length ≤ sizeLine := by
  rcases h with h | ⟨o, its, n, hk, hc, hs, hz, r⟩
  · obtain ⟨z, its, r, p⟩ := h.ok I.hok
    exact ⟨its, r, p, z⟩
  · refine ⟨its.toList, r, ⟨o, I.kIn a o hk, hc, n, by simpa using hs⟩, ?_⟩
    have e := r.length
    simp only [Array.length_toList] at e
    omega
theorem Inv.list_inj (I : Inv X pins σ H s) (h : SqL X.K H a xs) (h' : SqL X.K H a ys) : xs = ys := by
  obtain ⟨its, r, ⟨o, n, e, _, _, d⟩, _⟩ := I.list h
  obtain ⟨its', r', ⟨o', n', e', _, _, d'⟩, _⟩ := I.list h'
  rw [e] at e'; cases e'
  rw [d] at d'
  injection d' with d1 _
  have : its = its' := by simpa using congrArg Array.toList d1
  subst this
  exact r.inj r'
theorem Inv.tuple_inj (I : Inv X pins σ H s) (h : SqT X.K H a xs) (h' : SqT X.K H a ys) : xs = ys := by
  obtain ⟨its, r, ⟨o, e, _, n, d⟩, _⟩ := I.tuple h
  obtain ⟨its', r', ⟨o', e', _, n', d'⟩, _⟩ := I.tuple h'
  rw [e] at e'; cases e'
  rw [d] at d'
  injection d' with d1 _
  have : its = its' := by simpa using congrArg Array.toList d1
  subst this
  exact r.inj r'
end

/-! ### another wish about exceptions -/
abbrev Cx.wish (X : Cx) (E : Value → Shared → Prop) : Cx := { X with xe := E }
/-- no exception leaves -/
abbrev Cx.nox (X : Cx) : Cx := X.wish fun _ _ => False
theorem Cx.Ok.wish {X : Cx} (ok : X.Ok) (E : Value → Shared → Prop) : (X.wish E).Ok :=
  ⟨ok.mod, ok.kind, ok.glob, ok.blt, ok.above, ok.inj, ok.has, ok.cab, ok.hd, ok.frames, ok.stk, ok.exf, ok.bs, ok.bsz, ok.noex, ok.exfs, ok.funs, ok.frf⟩
theorem Cx.Ok.unwish {X : Cx} {E : Value → Shared → Prop} (ok : (X.wish E).Ok) : X.Ok :=
  ⟨ok.mod, ok.kind, ok.glob, ok.blt, ok.above, ok.inj, ok.has, ok.cab, ok.hd, ok.frames, ok.stk, ok.exf, ok.bs, ok.bsz, ok.noex, ok.exfs, ok.funs, ok.frf⟩
section
variable {X : Cx} {pins : List (Addr × Obj)} {σ : St} {H : Hp} {s : Shared} {E : Value → Shared → Prop}
theorem Inv.wish (I : Inv X pins σ H s) (E : Value → Shared → Prop) : Inv (X.wish E) pins σ H s := ⟨I.ok.wish E, I.os, I.bare, I.base, I.loc, I.cell, I.free, I.freeC, I.pin, I.hok, I.len⟩
theorem Inv.unwish (I : Inv (X.wish E) pins σ H s) : Inv X pins σ H s := ⟨I.ok.unwish, I.os, I.bare, I.base, I.loc, I.cell, I.free, I.freeC, I.pin, I.hok, I.len⟩
theorem SP.unwish {D : Ends} {f : Flow} {s' : Shared} (h : SP (X.wish E) pins D f s') : SP X pins D f s' := by
  cases f with
  | next => obtain ⟨σ', H', I, q⟩ := h; exact ⟨σ', H', I.unwish, q⟩
  | brk => obtain ⟨σ', H', I, q⟩ := h; exact ⟨σ', H', I.unwish, q⟩
  | cont => obtain ⟨σ', H', I, q⟩ := h; exact ⟨σ', H', I.unwish, q⟩
  | ret u => obtain ⟨v, σ', H', I, r, q⟩ := h; exact ⟨v, σ', H', I.unwish, r, q⟩
theorem PE.nox {e : Expr} {t : TE} (h : PE X.nox e t) : PE X e t := fun pins s σ H Q I hw =>
  wpAny_mono (h pins s σ H Q (I.wish _) hw) (fun _ _ ⟨v, H', I', r, q⟩ => ⟨v, H', I'.unwish, r, q⟩) fun _ _ z => False.elim z
theorem PT.nox {e : Expr} {t : TT} (h : PT X.nox e t) : PT X e t := fun pins s σ H Q I hw =>
  wpAny_mono (h pins s σ H Q (I.wish _) hw) (fun _ _ ⟨H', I', q⟩ => ⟨H', I'.unwish, q⟩) fun _ _ z => False.elim z
theorem PSs.nox {st : List Stmt} {t : TS} (h : PSs X.nox st t) : PSs X st t := fun pins s σ H D I hw =>
  wpAny_mono (h pins s σ H D (I.wish _) hw) (fun _ _ q => q.unwish) fun _ _ z => False.elim z
end

/-! ### blocks and small statements -/
section
variable {X : Cx} {st : Stmt} {rest : List Stmt} {t u : TS} {e : Expr} {te : TE} {pos : Pos}
def tNext : TS := fun D σ H => D.nx σ H
def tSeq (t u : TS) : TS := fun D σ H => t { D with nx := u D } σ H
theorem pss_nil : PSs X [] tNext := fun _ _ σ H _ I h => wpAny_execs_nil ⟨σ, H, I, h⟩
theorem pss_cons (h1 : PS X st t) (h2 : PSs X rest u) : PSs X (st :: rest) (tSeq t u) := by
  intro pins s σ H D I h
  refine wpAny_execs_cons (thn (h1 pins s σ H { D with nx := u D } I h) fun f s1 q => ?_)
  cases f with
  | next =>
    obtain ⟨σ', H', I', q⟩ := q
    exact h2 pins s1 σ' H' D I' q
  | ret v => exact q
  | brk => exact q
  | cont => exact q
theorem pss_one (h1 : PS X st t) : PSs X [st] t := by
  intro pins s σ H D I h
  refine wpAny_execs_cons (thn (h1 pins s σ H D I h) fun f s1 q => ?_)
  cases f with
  | next => exact wpAny_execs_nil q
  | ret v => exact q
  | brk => exact q
  | cont => exact q
def tBreak : TS := fun D σ H => D.bk σ H
def tCont : TS := fun D σ H => D.ct σ H
theorem ps_pass : PS X (.Pass pos) tNext := fun _ _ σ H _ I h => wpAny_Pass ⟨σ, H, I, h⟩
theorem ps_break : PS X (.Break pos) tBreak := fun _ _ σ H _ I h => wpAny_Break ⟨σ, H, I, h⟩
theorem ps_continue : PS X (.Continue pos) tCont := fun _ _ σ H _ I h => wpAny_Continue ⟨σ, H, I, h⟩
/-- in a def's body nothing is shown -/
theorem Inv.quiet {pins : List (Addr × Obj)} {σ : St} {H : Hp} {s : Shared} (I : Inv X pins σ H s) : interactive X.env = false := by simp [interactive, I.ok.kind]
/-- a docstring -/
theorem ps_doc {x j pos pos'} : PS X (.Expr (.Constant (.str x) j pos) pos') tNext := fun _ s σ H _ I h => wpAny_Expr (Calls.Constant_str (show SP X _ _ .next { s with toks := s.toks + 1 } from ⟨σ, H, I.tok _, h⟩)) I.quiet
/-- an expression whose value is dropped -/
def tDrop (te : TE) : TS := fun D σ H => te σ H fun _ H1 => D.nx σ H1
theorem ps_expr (he : PE X e te) (hs : swapsWith e none pos.line X.env = pure false := by rfl) : PS X (.Expr e pos) (tDrop te) := by
  intro pins s σ H D I h
  exact wpAny_Expr_any (thn (he pins s σ H _ I h) fun v s1 ⟨x, H1, I1, r1, q1⟩ => ⟨σ, H1, I1, q1⟩) I.quiet hs
def tRet (te : TE) : TS := fun D σ H => te σ H D.rt
theorem ps_ret (he : PE X e te) : PS X (.Return (some e) pos) (tRet te) := by
  intro pins s σ H D I h
  exact wpAny_Return_some (thn (he pins s σ H _ I h) fun v s1 ⟨x, H1, I1, r1, q1⟩ => ⟨x, σ, H1, I1, r1, q1⟩)
def tRetN : TS := fun D _ H => D.rt .non H
theorem ps_retN : PS X (.Return none pos) tRetN := fun _ _ σ H _ I h => wpAny_Return_none ⟨.non, σ, H, I, rfl, h⟩
def tIfS (c : TT) (t u : TS) : TS := fun D σ H => c σ H fun b H1 => if b = true then t D σ H1 else u D σ H1
theorem ps_if {c : Expr} {a b : List Stmt} {tc : TT} (hc : PT X c tc) (ha : PSs X a t) (hb : PSs X b u) : PS X (.If c a b pos) (tIfS tc t u) := by
  intro pins s σ H D I h
  refine wpAny_If (thn (hc pins s σ H _ I h) fun d s1 ⟨H1, I1, q1⟩ => ?_)
  cases d with
  | true => exact ha pins s1 σ H1 D I1 q1
  | false => exact hb pins s1 σ H1 D I1 q1
/-- code that the proof never comes to -/
def tNever : TS := fun _ _ _ => False
theorem ps_never : PS X st tNever := fun _ _ _ _ _ _ h => h.elim
theorem pss_never {sts : List Stmt} : PSs X sts tNever := fun _ _ _ _ _ _ h => h.elim
end

/-! ### targets -/
abbrev TG := V → St → Hp → (St → Hp → Prop) → Prop
abbrev TGs := List V → St → Hp → (St → Hp → Prop) → Prop
def PG (X : Cx) (target : Expr) (t : TG) : Prop :=
  ∀ (pins : List (Addr × Obj)) (s : Shared) (σ : St) (H : Hp) (v : V) (u : Value) (Q : St → Hp → Prop), Inv X pins σ H s → RelV v u → t v σ H Q →
    wpAny (model X.prog X.w) X.A (assign target X.env u) (fun _ s' => ∃ σ' H', Inv X pins σ' H' s' ∧ Q σ' H') X.xe s
/-- several targets, one after another -/
def PGs (X : Cx) (ts : List Expr) (t : TGs) : Prop :=
  ∀ (pins : List (Addr × Obj)) (s : Shared) (σ : St) (H : Hp) (vs : List V) (us : List Value) (Q : St → Hp → Prop), Inv X pins σ H s → Vals vs us → t vs σ H Q →
    wpAny (model X.prog X.w) X.A (assignInOrder ((assignEach ts X.env).map (·.2)) us) (fun _ s' => ∃ σ' H', Inv X pins σ' H' s' ∧ Q σ' H') X.xe s
/-- o[i] = v, by values -/
abbrev TSet := V → V → V → Hp → (Hp → Prop) → Prop
def PSet (X : Cx) (t : TSet) : Prop :=
  ∀ (pins : List (Addr × Obj)) (s : Shared) (σ : St) (H : Hp) (o i v : V) (ov iv u : Value) (Q : Hp → Prop), Inv X pins σ H s → RelV o ov → RelV i iv → RelV v u → t o i v H Q →
    wpAny (model X.prog X.w) X.A (setItem ov iv u) (fun _ s' => ∃ H', Inv X pins σ H' s' ∧ Q H') X.xe s
/-- a op= b, by values -/
abbrev TIp := V → V → Hp → VK → Prop
def PIp (X : Cx) (op : Operator) (t : TIp) : Prop :=
  ∀ (pins : List (Addr × Obj)) (s : Shared) (σ : St) (H : Hp) (x y : V) (v u : Value) (Q : VK), Inv X pins σ H s → RelV x v → RelV y u → t x y H Q →
    wpAny (model X.prog X.w) X.A (inplaceOp op v u) (EP X pins σ Q) X.xe s
section
variable {X : Cx} {pos : Pos}
def gName (i : Nat) : TG := fun v σ H Q => Q (σ.set i (some v)) H
theorem pg_name {i : Nat} {x : Str} (hN : X.N.Nodup) (hi : X.N[i]? = some x) (hx : Loc X.env.scope x) (hf : X.fn x = true ∨ X.env.scope.names.lookup x = some .local := by first | exact .inl rfl | exact .inr rfl | assumption) : PG X (.Name x pos) (gName i) := by
  intro pins s σ H v u Q I r h
  exact wpAny_assign_Name (store_ok I hN hi hx r (fun s' I' => ⟨_, H, I', h⟩) hf)
def gNil : TGs := fun vs σ H Q => vs = [] ∧ Q σ H
def gCons (t : TG) (u : TGs) : TGs := fun vs σ H Q => ∃ v r, vs = v :: r ∧ t v σ H fun σ' H' => u r σ' H' Q
theorem pgs_nil : PGs X [] gNil := by
  intro pins s σ H vs us Q I r h
  obtain ⟨e, h⟩ := h
  subst e
  cases r
  exact assignInOrder_nil ⟨σ, H, I, h⟩
theorem pgs_cons {e : Expr} {es : List Expr} {t : TG} {u : TGs} (h1 : PG X e t) (h2 : PGs X es u)
    (hs : (assignEach (e :: es) X.env).map (·.2) = assign e X.env :: (assignEach es X.env).map (·.2) := by rfl) : PGs X (e :: es) (gCons t u) := by
  intro pins s σ H vs us Q I r h
  obtain ⟨v, vr, e1, h⟩ := h
  subst e1
  cases r with
  | cons r rr =>
    rw [hs]
    refine assignInOrder_cons (thn (h1 pins s σ H _ _ _ I r h) fun _ s1 ⟨σ1, H1, I1, q1⟩ => ?_)
    exact h2 pins s1 σ1 H1 _ _ Q I1 rr q1
/-- (a, b, ..) = a tuple of that length -/
def gTup (K : PySem.W.Frag) (n : Nat) (t : TGs) : TG := fun v σ H Q => ∃ a xs, v = .ref a ∧ SqT K H a xs ∧ xs.length = n ∧ t xs σ H Q
theorem pg_tup {es : List Expr} {k : Nat} {t : TGs} {n : Nat} (hc : X.calm = true) (h : PGs X es t)
    (hn : (assignEach es X.env).length = n := by rfl) (hst : (assignEach es X.env).findIdx? (·.1) = none := by rfl) : PG X (.Tuple es k pos) (gTup X.K n t) := by
  intro pins s σ H v u Q I r hw
  obtain ⟨a, xs, e1, hq, hl, hw⟩ := hw
  subst e1
  cases r
  obtain ⟨its, rv, ht, hz⟩ := I.tuple hq
  refine assign_Tuple_tuple (I.ok.hd hc) ht (by simp [hn, ← hl, rv.length]) hst fun h' hx => ?_
  have I1 : Inv X pins σ H { s with heap := h' } := I.kept (t' := s.toks) fun b o e => hx b o (Nat.ne_of_lt (Heap.lt_size e)) e
  exact h pins _ σ H xs _ Q I1 (by simpa using rv) hw
/-- o[i] = .. -/
def gSub (to ti : TE) (t : TSet) : TG := fun v σ H Q => to σ H fun o H1 => ti σ H1 fun i H2 => t o i v H2 fun H3 => Q σ H3
theorem pg_sub {o i : Expr} {to ti : TE} {t : TSet} (ho : PE X o to) (hi : PE X i ti) (hs : PSet X t)
    (ha : ∀ v, assign (.Subscript o i pos) X.env v = (do
      let ov ← holding [v] (eval o X.env)
      let iv ← holding [v, ov] (eval i X.env)
      standAt pos
      holding [v, ov, iv] (setItem ov iv v)
      release [v, ov, iv] []) := by intro _; rfl) : PG X (.Subscript o i pos) (gSub to ti t) := by
  intro pins s σ H v u Q I r h
  rw [ha]
  refine wpAny_bind (wpAny_holding (thn (ho pins s σ H _ I h) fun ov s1 ⟨x, H1, I1, r1, q1⟩ => ?_))
  refine wpAny_bind (wpAny_holding (thn (hi pins s1 σ H1 _ I1 q1) fun iv s2 ⟨y, H2, I2, r2, q2⟩ => ?_))
  refine wpAny_bind (wpAny_standAt (wpAny_bind (wpAny_holding (thn (hs pins s2 σ H2 x y v ov iv u _ I2 r1 r2 r q2) fun _ s3 ⟨H3, I3, q3⟩ => ?_))))
  exact wpAny_release ⟨σ, H3, I3, q3⟩
/-- target = value -/
def tAsg (te : TE) (g : TG) : TS := fun D σ H => te σ H fun x H1 => g x σ H1 D.nx
theorem ps_asg {tg e : Expr} {te : TE} {g : TG} (he : PE X e te) (hg : PG X tg g) (hs : swapsWithSole [tg] e pos.line X.env = pure false := by rfl) (hw : swappedStores [tg] e X.env = pure none := by rfl)
    (h1 : (assignEach [tg] X.env).map (·.2) = [assign tg X.env] := by rfl) : PS X (.Assign [tg] e pos) (tAsg te g) := by
  intro pins s σ H D I h
  refine wpAny_Assign_stores (thn (he pins s σ H _ I h) fun v s1 ⟨x, H1, I1, r1, q1⟩ => ?_) hs hw
  rw [h1]
  exact thn (hg pins s1 σ H1 x v _ I1 r1 q1) fun _ s2 q => q
/-- name = value -/
theorem ps_set {i : Nat} {x : Str} {e : Expr} {te : TE} {pos' : Pos} (hN : X.N.Nodup) (hi : X.N[i]? = some x) (hx : Loc X.env.scope x) (he : PE X e te) (hs : swapsWith e (some (.Name x pos')) pos.line X.env = pure false := by rfl) (hf : X.fn x = true ∨ X.env.scope.names.lookup x = some .local := by first | exact .inl rfl | exact .inr rfl | assumption) :
    PS X (.Assign [.Name x pos'] e pos) (tAsg te (gName i)) := by
  intro pins s σ H D I h
  refine wpAny_Assign_Name (thn (he pins s σ H _ I h) fun v s1 ⟨y, H1, I1, r1, q1⟩ => ?_) hs
  exact store_ok I1 hN hi hx r1 (fun s2 I2 => ⟨_, H1, I2, q1⟩) hf
/-- a, b = x, y with plain local names: stored from the right; the pair itself is not tracked (the opening rows as in PyProof/Rows/TupAssign.lean:23) -/
def tPar (i j : Nat) (ta : TA) : TS := fun D σ H => ta σ H fun vs H1 => ∃ v w, vs = [v, w] ∧ D.nx ((σ.set i (some v)).set j (some w)) H1
theorem ps_par {i j : Nat} {x y : Str} {a b : Expr} {ta : TA} {px py pt : Pos} {kt k2 pt2} (hc : X.calm = true) (hN : X.N.Nodup) (hi : X.N[i]? = some x) (hj : X.N[j]? = some y) (hij : i ≠ j)
    (hx : X.env.scope.names.lookup x = some .local) (hy : X.env.scope.names.lookup y = some .local) (ha : PA X [a, b] ta)
    (hw : swappedStores [.Tuple [.Name x px, .Name y py] kt pt] (.Tuple [a, b] k2 pt2) X.env = pure (some [x, y]))
    (hs : swapsWithSole [.Tuple [.Name x px, .Name y py] kt pt] (.Tuple [a, b] k2 pt2) pos.line X.env = pure false := by rfl) :
    PS X (.Assign [.Tuple [.Name x px, .Name y py] kt pt] (.Tuple [a, b] k2 pt2) pos) (tPar i j ta) := by
  intro pins s σ H D I h
  rw [exec_Assign_arm]
  refine wpAny_bind (wpAny_standAt ?_)
  rw [hs]
  refine wpAny_bind (wpAny_pure ?_)
  rw [if_neg (by decide)]
  refine wpAny_bind (Tuple_ (thn (ha _ pins s σ H _ I h) fun us s1 ⟨vs, H1, I1, r1, q1⟩ => ?_))
  obtain ⟨v, w, e1, q1⟩ := q1
  subst e1
  obtain ⟨u1, u2, rfl, rv, rw'⟩ : ∃ u1 u2, us = [u1, u2] ∧ RelV v u1 ∧ RelV w u2 := by
    cases r1 with
    | cons p q =>
      cases q with
      | cons p' q' =>
        cases q'
        exact ⟨_, _, rfl, p, p'⟩
  refine wpAny_newObj_type ?_ (by show 2 ≤ sizeLine; decide)
  have I2 : Inv X pins σ H1 { s1 with heap := s1.heap.push { cls := .type "tuple", data := .seq [u1, u2].toArray } } := I1.kept (t' := s1.toks) fun b o e => Heap.get?_push_of_some _ e
  rw [hw]
  refine wpAny_bind (wpAny_pure ?_)
  show wpAny (model X.prog X.w) X.A (do rule "assign.swapped-stores"; let items ← unpackItems (.ref s1.heap.objs.size) 2 none; assignInOrder [fun v => bindName X.env y v, fun v => bindName X.env x v] items.reverse; pure Flow.next) _ _ _
  refine wpAny_bind (wpAny_rule (wpAny_bind (unpackItems_tuple (items := #[u1, u2]) (I.ok.hd hc) (IsTup.new s1.heap _) fun h' hx' => ?_)))
  have I3 := I2.kept (h' := h') (t' := s1.toks) fun b o e => hx' b o (Nat.ne_of_lt (Heap.lt_size e)) e
  show wpAny _ _ (assignInOrder [fun v => bindName X.env y v, fun v => bindName X.env x v] [u2, u1] >>= fun _ => pure Flow.next) _ _ _
  refine wpAny_bind (assignInOrder_cons (wpAny_bindName (store_ok I3 hN hj (.inl hy) rw' (fun s2 I4 => ?_) (.inr hy))))
  refine assignInOrder_cons (wpAny_bindName (store_ok I4 hN hi (.inl hx) rv (fun s3 I5 => assignInOrder_nil (wpAny_pure ?_)) (.inr hx)))
  rw [List.set_comm _ _ (Ne.symm hij)] at I5
  exact ⟨_, H1, I5, q1⟩
/-- name op= e -/
def tAug (i : Nat) (te : TE) (ti : TIp) : TS := fun D σ H => ∃ x, σ[i]? = some (some x) ∧ te σ H fun y H1 => ti x y H1 fun z H2 => D.nx (σ.set i (some z)) H2
theorem ps_aug {i : Nat} {x : Str} {e : Expr} {te : TE} {op : Operator} {ti : TIp} {pos' : Pos} (hN : X.N.Nodup) (hi : X.N[i]? = some x) (hx : Loc X.env.scope x) (he : PE X e te) (ho : PIp X op ti) (hf : X.fn x = true ∨ X.env.scope.names.lookup x = some .local := by first | exact .inl rfl | exact .inr rfl | assumption) :
    PS X (.AugAssign (.Name x pos') op e pos) (tAug i te ti) := by
  intro pins s σ H D I h
  obtain ⟨v, e1, h⟩ := h
  obtain ⟨m, hn, hl⟩ := I.loc
  have vis : Vis X.env.scope x := by rcases hx with k | k; exact .inl k; exact .inr (.inl k)
  obtain ⟨u, r, l⟩ := hl i x v hi e1 vis
  refine wpAny_AugAssign_Name ?_
  have go : wpAny (model X.prog X.w) X.A (eval e X.env) (fun w s₂ => wpAny (model X.prog X.w) X.A (inplaceOp op u w) (fun r s₃ => wpAny (model X.prog X.w) X.A (storeName X.env x r) (fun _ => SP X pins D .next) X.xe s₃) X.xe s₂) X.xe s := by
    refine thn (he pins s σ H _ I h) fun w s1 ⟨y, H1, I1, r1, q1⟩ => ?_
    refine thn (ho pins s1 σ H1 v y u w _ I1 r r1 q1) fun z s2 ⟨zv, H2, I2, r2, q2⟩ => ?_
    exact store_ok I2 hN hi hx r2 (fun s3 I3 => ⟨_, H2, I3, q2⟩) hf
  rcases l with ⟨hk, hm⟩ | ⟨hk, c, hc, hcell⟩
  · exact wpAny_loadName_local I.ok.kind hk hn hm go
  · rcases hk with hk | hk
    · exact wpAny_loadName_cell I.ok.kind hk hc hcell go
    · rcases hx with k | k
      · have : X.env.scope.names.lookup x = some .free := hk
        rw [k] at this; cases this
      · have : X.env.scope.names.lookup x = some .free := hk
        rw [k] at this; cases this
/-- o[i] op= e -/
def tAugS (to ti te : TE) (tget : V → V → Hp → VK → Prop) (tip : TIp) (tset : TSet) : TS := fun D σ H => to σ H fun o H1 => ti σ H1 fun i H2 => tget o i H2 fun x H3 => te σ H3 fun y H4 => tip x y H4 fun z H5 => tset o i z H5 fun H6 => D.nx σ H6
/-- o[i], by values -/
def PGet (X : Cx) (t : V → V → Hp → VK → Prop) : Prop :=
  ∀ (pins : List (Addr × Obj)) (s : Shared) (σ : St) (H : Hp) (o i : V) (ov iv : Value) (Q : VK), Inv X pins σ H s → RelV o ov → RelV i iv → t o i H Q →
    wpAny (model X.prog X.w) X.A (getItem ov iv) (EP X pins σ Q) X.xe s
theorem ps_augS {o i e : Expr} {to ti te : TE} {tget : V → V → Hp → VK → Prop} {tip : TIp} {tset : TSet} {op : Operator} {tpos : Pos} (ho : PE X o to) (hi : PE X i ti) (hg : PGet X tget) (he : PE X e te) (hp : PIp X op tip) (hs : PSet X tset)
    (ha : ∀ ov iv new, augStore i ov iv new = (do holding [new, ov, iv] (setItem ov iv new); release [new, ov, iv] []; pure .next) := by intros; rfl) : PS X (.AugAssign (.Subscript o i tpos) op e pos) (tAugS to ti te tget tip tset) := by
  intro pins s σ H D I h
  refine wpAny_AugAssign_SubscriptAny (thn (ho pins s σ H _ I h) fun ov s1 ⟨x1, H1, I1, r1, q1⟩ => ?_) ha
  refine thn (hi pins s1 σ H1 _ I1 q1) fun iv s2 ⟨x2, H2, I2, r2, q2⟩ => ?_
  refine thn (hg pins s2 σ H2 x1 x2 ov iv _ I2 r1 r2 q2) fun old s3 ⟨x3, H3, I3, r3, q3⟩ => ?_
  refine thn (he pins s3 σ H3 _ I3 q3) fun v s4 ⟨x4, H4, I4, r4, q4⟩ => ?_
  refine thn (hp pins s4 σ H4 x3 x4 old v _ I4 r3 r4 q4) fun new s5 ⟨x5, H5, I5, r5, q5⟩ => ?_
  exact thn (hs pins s5 σ H5 x1 x2 x5 ov iv new _ I5 r1 r2 r5 q5) fun _ s6 ⟨H6, I6, q6⟩ => ⟨σ, H6, I6, q6⟩
/-- ints -/
def ipI (f : Int → Int → Int) : TIp := fun x y H Q => ∃ i j, x = .int i ∧ y = .int j ∧ Q (.int (f i j)) H
theorem ip_add : PIp X .Add (ipI fun i j => i + j) := by
  intro pins s σ H x y v u Q I r1 r2 h
  obtain ⟨i, j, e1, e2, q⟩ := h
  subst e1; subst e2
  obtain ⟨t, rfl⟩ := r1
  obtain ⟨t', rfl⟩ := r2
  exact iadd_int ⟨.int _, H, I.tok _, ⟨_, rfl⟩, q⟩
theorem ip_sub : PIp X .Sub (ipI fun i j => i - j) := by
  intro pins s σ H x y v u Q I r1 r2 h
  obtain ⟨i, j, e1, e2, q⟩ := h
  subst e1; subst e2
  obtain ⟨t, rfl⟩ := r1
  obtain ⟨t', rfl⟩ := r2
  exact isub_int ⟨.int _, H, I.tok _, ⟨_, rfl⟩, q⟩
end

/-! ### while -/
section
variable {X : Cx} {pos : Pos}
/-- the invariant W with its measure -/
def tWhile (c : TT) (tb : TS) : TS := fun D σ H => ∃ W : Nat → St → Hp → Prop, (∃ m, W m σ H) ∧ ∀ m σ H, W m σ H →
  c σ H fun b H1 => if b = true then ∃ N : St → Hp → Prop, (∀ σ' H', N σ' H' → ∃ m', m' < m ∧ W m' σ' H') ∧ tb { D with nx := N, ct := N, bk := D.nx } σ H1 else D.nx σ H1
theorem ps_while {c : Expr} {body : List Stmt} {tc : TT} {tb : TS} (hp : PassesOwn (model X.prog X.w) X.A X.env X.xe) (hc : PT X c tc) (hb : PSs X body tb) : PS X (.While c body [] pos) (tWhile tc tb) := by
  intro pins s σ H D I h
  obtain ⟨W, ⟨m0, w0⟩, turn⟩ := h
  refine wpAny_While (codeAny_whileLoop (fun n s' => ∃ σ' H', Inv X pins σ' H' s' ∧ W n σ' H') ?_ m0 ⟨σ, H, I, w0⟩)
  rintro n s1 ⟨σ1, H1, I1, w1⟩
  refine wpAny_passesOwn hp (thn (hc pins s1 σ1 H1 _ I1 (turn n σ1 H1 w1)) fun b s2 ⟨H2, I2, q2⟩ => ?_)
  cases b with
  | true =>
    obtain ⟨N, hN, q2⟩ := q2
    rw [if_pos rfl]
    refine wpAny_passesOwn hp (thn (hb pins s2 σ1 H2 _ I2 q2) fun f s3 q3 => ?_)
    cases f with
    | next =>
      obtain ⟨σ3, H3, I3, n3⟩ := q3
      obtain ⟨m', hm, w3⟩ := hN σ3 H3 n3
      exact ⟨m', hm, σ3, H3, I3, w3⟩
    | cont =>
      obtain ⟨σ3, H3, I3, n3⟩ := q3
      obtain ⟨m', hm, w3⟩ := hN σ3 H3 n3
      exact ⟨m', hm, σ3, H3, I3, w3⟩
    | brk => exact q3
    | ret v => exact q3
  | false =>
    rw [if_neg Bool.false_ne_true]
    exact wpAny_execs_nil ⟨σ1, H2, I2, q2⟩
end

/-! ### what a loop or a comprehension walks -/
/-- at turn i: it yields x (the heap may grow), or it stops -/
structure It where
  go : Nat → Hp → Prop
  yld : Nat → Hp → V → Hp → Prop
  stop : Nat → Hp → Prop
/-- the iterator's own objects may turn: they are not the frame's, not pinned, younger than the entry (or a comprehension's own) -/
def FpOk (X : Cx) (pins : List (Addr × Obj)) (H : Hp) (b : Addr) : Prop :=
  H b = none ∧ b ≠ X.env.locals ∧ b ∉ X.fs ∧ (b ∈ X.ex ∨ X.s₀.heap.objs.size ≤ b) ∧ (∀ x c, X.env.cells.lookup x = some c → c ≠ b) ∧ ∀ p ∈ X.pn ++ pins, p.1 ≠ b
theorem Inv.fpOk {X : Cx} {pins : List (Addr × Obj)} {σ : St} {H H' : Hp} {s : Shared} {b : Addr} (I : Inv X pins σ H s) (hb : s.heap.objs.size ≤ b) (hn : H' b = none) : FpOk X pins H' b := by
  refine ⟨hn, Nat.ne_of_gt (Nat.lt_of_lt_of_le I.lt hb), I.nofs hb, .inr (Nat.le_trans I.sz hb), fun x c e z => ?_, fun p hp z => ?_⟩
  · obtain ⟨v, q⟩ := I.cell x c e
    exact absurd (Nat.lt_of_lt_of_le q.lt (by rw [z]; exact hb)) (Nat.lt_irrefl _)
  · exact absurd (Nat.lt_of_lt_of_le (Heap.lt_size (I.pin p hp).1) (by rw [z]; exact hb)) (Nat.lt_irrefl _)
structure Turn (P : Program) (w : World) (K : PySem.W.Frag) (tg : Expr) (J : It) (fp : List Addr) (it : Addr) (tn : Nat → Heap → Prop) : Prop where
  mem : it ∈ fp
  obj : ∀ i h, tn i h → ∀ b ∈ fp, ∃ o, h.get? b = some o ∧ ∀ v, o.data ≠ .cell v
  keep : ∀ i h h', tn i h → (∀ b ∈ fp, ∀ o, h.get? b = some o → h'.get? b = some o) → tn i h'
  item : ∀ (X : Cx), X.prog = P → X.w = w → X.K = K → X.calm = true → ∀ (i : Nat) (pins : List (Addr × Obj)) (s : Shared) (σ : St) (H : Hp) (E : Value → Shared → Prop), Inv X pins σ H s → (∀ b ∈ fp, FpOk X pins H b) → tn i s.heap → J.go i H →
    wpAny (model P w) X.A (pyNext (.ref it)) (fun r s1 => ∃ u, r = some u ∧
      wpAny (model P w) X.A (letOwnedTupleGo tg (.ref it) u) (fun _ s2 => ∃ x H', Inv X pins σ H' s2 ∧ RelV x u ∧ J.yld i H x H' ∧ tn (i + 1) s2.heap ∧ ∀ b ∈ fp, H' b = none) E s1) E s
  done : ∀ (X : Cx), X.prog = P → X.w = w → X.K = K → X.calm = true → ∀ (i : Nat) (pins : List (Addr × Obj)) (s : Shared) (σ : St) (H : Hp) (E : Value → Shared → Prop), Inv X pins σ H s → (∀ b ∈ fp, FpOk X pins H b) → tn i s.heap → J.stop i H →
    wpAny (model P w) X.A (pyNext (.ref it)) (fun r s1 => r = none ∧ Inv X pins σ H s1) E s
  self : ∀ (A : Around) (i : Nat) (s : Shared) (Q : Value → Shared → Prop) (E : Value → Shared → Prop), tn i s.heap → Q (.ref it) s → wpAny (model P w) A (pyIter (.ref it)) Q E s
abbrev TI := St → Hp → (It → Hp → Prop) → Prop
/-- an iterator has come -/
def PIE (X : Cx) (pins : List (Addr × Obj)) (σ : St) (tg : Expr) (R : It → Hp → Prop) (itv : Value) (s2 : Shared) : Prop :=
  ∃ (it : Addr) (fp : List Addr) (tn : Nat → Heap → Prop) (J : It) (H' : Hp), itv = .ref it ∧ Inv X pins σ H' s2 ∧ Turn X.prog X.w X.K tg J fp it tn ∧ tn 0 s2.heap ∧ (∀ b ∈ fp, FpOk X pins H' b) ∧ R J H'
def PI (X : Cx) (tg iter : Expr) (wi : TI) : Prop :=
  ∀ (pins : List (Addr × Obj)) (s : Shared) (σ : St) (H : Hp) (R : It → Hp → Prop), Inv X pins σ H s → wi σ H R →
    wpAny (model X.prog X.w) X.A (eval iter X.env) (fun v s1 => wpAny (model X.prog X.w) X.A (pyIter v) (PIE X pins σ tg R) X.xe s1) X.xe s

/-- the step ahead of the store is nothing for an iterator that keeps no tuple -/
theorem go_of {M : Model} {A : Around} {E : Value → Shared → Prop} {s : Shared} {tg : Expr} {it : Addr} {u : Value} {o : Obj} {n : String} {vs : Array Value} {Q : Unit → Shared → Prop} (ho : s.heap.get? it = some o) (hc : o.cls = .type n) (hd : o.data = .fields vs)
    (hn : ["enumerate", "zip", "dict_itemiterator", "dict_reverseitemiterator", "odict_iterator", "itertools.zip_longest", "itertools.pairwise"].contains n = false) (hQ : Q () s) : wpAny M A (letOwnedTupleGo tg (.ref it) u) Q E s := by
  unfold letOwnedTupleGo
  cases tg <;> first
    | exact wpAny_pure hQ
    | (cases u <;> first
        | exact wpAny_pure hQ
        | (refine wpAny_bind (wpAny_load ho ?_)
           rw [hc, hd]
           show wpAny M A (if (["enumerate", "zip", "dict_itemiterator", "dict_reverseitemiterator", "odict_iterator", "itertools.zip_longest", "itertools.pairwise"].contains n && vs[0]? == some (rawInt _)) = true then _ else _) Q E s
           rw [if_neg (by intro h; rw [hn, Bool.false_and] at h; cases h)]
           exact wpAny_pure hQ))

/-- the list at a, as it stands at each turn (a loop may append to it) -/
def Itl (K : PySem.W.Frag) (a : Addr) : It :=
  ⟨fun i H => ∃ xs x, SqL K H a xs ∧ xs[i]? = some x, fun i H x H' => H' = H ∧ ∀ xs, SqL K H a xs → xs[i]? = some x, fun i H => ∃ xs, SqL K H a xs ∧ xs.length ≤ i⟩
def Itt (K : PySem.W.Frag) (a : Addr) : It :=
  ⟨fun i H => ∃ xs x, SqT K H a xs ∧ xs[i]? = some x, fun i H x H' => H' = H ∧ ∀ xs, SqT K H a xs → xs[i]? = some x, fun i H => ∃ xs, SqT K H a xs ∧ xs.length ≤ i⟩
/-- lo, lo + 1, .. (n of them) -/
def Itr (lo : Int) (n : Nat) : It := ⟨fun i _ => i < n, fun i H x H' => H' = H ∧ x = .int (lo + i), fun i _ => n ≤ i⟩
theorem turn_list {P : Program} {w : World} {K : PySem.W.Frag} {tg : Expr} (a it : Addr) : Turn P w K tg (Itl K a) [it] it (fun i h => h.IsListIter it a i) where
  mem := by simp
  obj := fun i h st b hb => by
    have e : b = it := by simpa using hb
    subst e
    obtain ⟨o, e, c, d⟩ := st
    exact ⟨o, e, fun v z => by rw [d] at z; cases z⟩
  keep := fun i h h' st k => st.at fun o e => k it (by simp) o e
  item := by
    intro X hP hw hK hc i pins s σ H E I hf st hg
    subst hP hw hK
    obtain ⟨xs, x, hq, hx⟩ := hg
    obtain ⟨its, rv, p, hz⟩ := I.list hq
    obtain ⟨u, hu, ru⟩ := rv.get hx
    obtain ⟨f0, f1, f2, f3, f4, f5⟩ := hf it (by simp)
    refine wpAny_pyNext_list_item st p.isList (x := u) (by simpa using hu) fun h' st' sb => ?_
    have I1 : Inv X pins σ H { s with heap := h' } := I.turned (t' := s.toks) (fun b o hb e => (sb.2 b hb).trans e) f0 f1 f3 f4 f5
    obtain ⟨o, e, c, d⟩ := id st'
    exact ⟨u, rfl, go_of (s := { s with heap := h' }) e c d (by decide) ⟨x, H, I1, ru, ⟨rfl, fun ys hy => by rw [I.list_inj hy hq]; exact hx⟩, st', fun b hb => (hf b hb).1⟩⟩
  done := by
    intro X hP hw hK hc i pins s σ H E I hf st hg
    subst hP hw hK
    obtain ⟨xs, hq, hx⟩ := hg
    obtain ⟨its, rv, p, hz⟩ := I.list hq
    obtain ⟨f0, f1, f2, f3, f4, f5⟩ := hf it (by simp)
    have hl := rv.length
    exact wpAny_pyNext_list_end (I.ok.hd hc) st p.isList (by simp; omega) fun h' eb => ⟨rfl, I.turned (t' := s.toks) (fun b o hb e => eb b o hb e) f0 f1 f3 f4 f5⟩
  self := fun _ _ _ _ _ st h => wpAny_pyIter_listiter st h
theorem turn_tuple {P : Program} {w : World} {K : PySem.W.Frag} {tg : Expr} (a it : Addr) : Turn P w K tg (Itt K a) [it] it (fun i h => h.IsTupleIter it a i) where
  mem := by simp
  obj := fun i h st b hb => by
    have e : b = it := by simpa using hb
    subst e
    obtain ⟨o, e, c, d⟩ := st
    exact ⟨o, e, fun v z => by rw [d] at z; cases z⟩
  keep := fun i h h' st k => st.at fun o e => k it (by simp) o e
  item := by
    intro X hP hw hK hc i pins s σ H E I hf st hg
    subst hP hw hK
    obtain ⟨xs, x, hq, hx⟩ := hg
    obtain ⟨its, rv, p, hz⟩ := I.tuple hq
    obtain ⟨u, hu, ru⟩ := rv.get hx
    obtain ⟨f0, f1, f2, f3, f4, f5⟩ := hf it (by simp)
    refine wpAny_pyNext_tuple_item st (show s.heap.IsTuple a its.toArray from p) (x := u) (by simpa using hu) fun h' st' sb => ?_
    have I1 : Inv X pins σ H { s with heap := h' } := I.turned (t' := s.toks) (fun b o hb e => (sb.2 b hb).trans e) f0 f1 f3 f4 f5
    obtain ⟨o, e, c, d⟩ := id st'
    exact ⟨u, rfl, go_of (s := { s with heap := h' }) e c d (by decide) ⟨x, H, I1, ru, ⟨rfl, fun ys hy => by rw [I.tuple_inj hy hq]; exact hx⟩, st', fun b hb => (hf b hb).1⟩⟩
  done := by
    intro X hP hw hK hc i pins s σ H E I hf st hg
    subst hP hw hK
    obtain ⟨xs, hq, hx⟩ := hg
    obtain ⟨its, rv, p, hz⟩ := I.tuple hq
    obtain ⟨f0, f1, f2, f3, f4, f5⟩ := hf it (by simp)
    have hl := rv.length
    exact wpAny_pyNext_tuple_end (I.ok.hd hc) st (show s.heap.IsTuple a its.toArray from p) (by simp; omega) fun h' eb => ⟨rfl, I.turned (t' := s.toks) (fun b o hb e => eb b o hb e) f0 f1 f3 f4 f5⟩
  self := fun _ _ _ _ _ st h => wpAny_pyIter_tupleiter st h
theorem turn_range {P : Program} {w : World} {K : PySem.W.Frag} {tg : Expr} (it : Addr) (lo : Int) (n : Nat) : Turn P w K tg (Itr lo n) [it] it (fun i h => IsRangeIter h it (lo + (i : Nat) * 1) ((n : Int) - (i : Nat)) 1) where
  mem := by simp
  obj := fun i h st b hb => by
    have e : b = it := by simpa using hb
    subst e
    exact ⟨_, st, fun v z => by
      have z' : Data.fields _ = Data.cell v := z
      cases z'⟩
  keep := fun i h h' st k => k it (by simp) _ st
  item := by
    intro X hP hw hK hc i pins s σ H E I hf st hg
    subst hP hw hK
    obtain ⟨f0, f1, f2, f3, f4, f5⟩ := hf it (by simp)
    have W := Walks.range (prog := X.prog) (w := X.w) (I.ok.hd hc) it lo 1 n
    refine W.item i s _ _ hg st fun v h' tk hv st' kk => ?_
    obtain ⟨t, rfl⟩ := hv
    have I1 : Inv X pins σ H { s with heap := h', toks := tk } := I.turned (fun b o hb e => kk b o (by simpa using hb) e) f0 f1 f3 f4 f5
    refine ⟨_, rfl, go_of (s := { s with heap := h', toks := tk }) (n := "range_iterator") st' rfl rfl (by decide) ⟨.int (lo + i), H, I1, ⟨t, ?_⟩, ⟨rfl, rfl⟩, st', fun b hb => (hf b hb).1⟩⟩
    rw [Int.mul_one]
  done := by
    intro X hP hw hK hc i pins s σ H E I hf st hg
    subst hP hw hK
    obtain ⟨f0, f1, f2, f3, f4, f5⟩ := hf it (by simp)
    exact wpAny_pyNext_range_end (I.ok.hd hc) st (by have : n ≤ i := hg; omega) fun h' eb => ⟨rfl, I.turned (t' := s.toks) (fun b o hb e => eb b o hb e) f0 f1 f3 f4 f5⟩
  self := fun _ _ _ _ _ st h => wpAny_pyIter_rangeiter st h
end L2

namespace L2
open PySem PySem.Spec PyProof.Rows
section
variable {X : Cx} {tg : Expr}
def iList (K : PySem.W.Frag) (tl : TE) : TI := fun σ H R => tl σ H fun x H1 => ∃ a, x = .ref a ∧ (∃ xs, SqL K H1 a xs) ∧ R (Itl K a) H1
def iTup (K : PySem.W.Frag) (tl : TE) : TI := fun σ H R => tl σ H fun x H1 => ∃ a, x = .ref a ∧ (∃ xs, SqT K H1 a xs) ∧ R (Itt K a) H1
theorem pi_list {l : Expr} {tl : TE} (hl : PE X l tl) : PI X tg l (iList X.K tl) := by
  intro pins s σ H R I h
  refine thn (hl pins s σ H _ I h) fun v s1 ⟨x, H1, I1, r1, q1⟩ => ?_
  obtain ⟨a, e, ⟨xs, hq⟩, q⟩ := q1
  subst e
  cases r1
  obtain ⟨its, rv, p, hz⟩ := I1.list hq
  refine wpAny_pyIter_list p.isList ?_
  refine ⟨s1.heap.objs.size, [s1.heap.objs.size], _, _, H1, rfl, I1.kept (t' := s1.toks) fun b o e => Heap.get?_push_of_some _ e, turn_list a _, ⟨_, Heap.get?_push_size _ rfl, rfl, rfl⟩, fun b hb => ?_, q⟩
  have e : b = s1.heap.objs.size := by simpa using hb
  subst e
  exact I1.fpOk (Nat.le_refl _) (I1.hok.fresh (Nat.le_refl _))
theorem pi_tup {l : Expr} {tl : TE} (hl : PE X l tl) : PI X tg l (iTup X.K tl) := by
  intro pins s σ H R I h
  refine thn (hl pins s σ H _ I h) fun v s1 ⟨x, H1, I1, r1, q1⟩ => ?_
  obtain ⟨a, e, ⟨xs, hq⟩, q⟩ := q1
  subst e
  cases r1
  obtain ⟨its, rv, p, hz⟩ := I1.tuple hq
  refine wpAny_pyIter_tuple (show s1.heap.IsTuple a its.toArray from p) ?_
  refine ⟨s1.heap.objs.size, [s1.heap.objs.size], _, _, H1, rfl, I1.kept (t' := s1.toks) fun b o e => Heap.get?_push_of_some _ e, turn_tuple a _, ⟨_, Heap.get?_push_size _ rfl, rfl, rfl⟩, fun b hb => ?_, q⟩
  have e : b = s1.heap.objs.size := by simpa using hb
  subst e
  exact I1.fpOk (Nat.le_refl _) (I1.hok.fresh (Nat.le_refl _))
/-- a range object just made, walked -/
theorem range_it {pins : List (Addr × Obj)} {σ : St} {H : Hp} {s : Shared} {R : It → Hp → Prop} {E : Value → Shared → Prop} {lo hi : Int} {t u v : Tok} {tk : Nat} (I : Inv X pins σ H s) (h1 : -(2 ^ 62) ≤ lo) (h2 : lo < 2 ^ 62) (h3 : -(2 ^ 62) ≤ hi) (h4 : hi < 2 ^ 62)
    (q : R (Itr lo (hi - lo).toNat) H) : wpAny (model X.prog X.w) X.A (pyIter (.ref s.heap.objs.size)) (PIE X pins σ tg R) E { s with heap := s.heap.push { cls := .type "range", data := .fields #[.int lo t, .int hi u, .int 1 v] }, toks := tk } := by
  refine wpAny_pyIter_range (IsRange.new ..) (small_one h1 h2 h3 h4) ?_
  have I1 : Inv X pins σ H { s with heap := s.heap.push { cls := .type "range", data := .fields #[.int lo t, .int hi u, .int 1 v] }, toks := tk } := I.kept fun b o e => Heap.get?_push_of_some _ e
  refine ⟨(s.heap.push { cls := .type "range", data := .fields #[.int lo t, .int hi u, .int 1 v] }).objs.size, [(s.heap.push { cls := .type "range", data := .fields #[.int lo t, .int hi u, .int 1 v] }).objs.size], _, _, H, rfl,
    I1.kept (t' := tk) fun b o e => Heap.get?_push_of_some _ e, turn_range _ lo (hi - lo).toNat, ?_, fun b hb => ?_, q⟩
  · have e1 : lo + ((0 : Nat) : Int) * 1 = lo := by simp
    have e2 : (((hi - lo).toNat : Nat) : Int) - ((0 : Nat) : Int) = Builtin.Range.rangeSize lo hi 1 := by rw [rangeSize_one]; split <;> omega
    show IsRangeIter _ _ (lo + ((0 : Nat) : Int) * 1) ((((hi - lo).toNat : Nat) : Int) - ((0 : Nat) : Int)) 1
    rw [e1, e2]
    exact Heap.get?_push_size _ rfl
  · have e : b = (s.heap.push { cls := .type "range", data := .fields #[.int lo t, .int hi u, .int 1 v] }).objs.size := by simpa using hb
    subst e
    exact I1.fpOk (Nat.le_refl _) (I1.hok.fresh (Nat.le_refl _))
def iRng1 (ta : TA) : TI := fun σ H R => ta σ H fun vs H1 => ∃ j : Int, vs = [.int j] ∧ -(2 ^ 62) ≤ j ∧ j < 2 ^ 62 ∧ R (Itr 0 j.toNat) H1
def iRng2 (ta : TA) : TI := fun σ H R => ta σ H fun vs H1 => ∃ i j : Int, vs = [.int i, .int j] ∧ (-(2 ^ 62) ≤ i ∧ i < 2 ^ 62 ∧ -(2 ^ 62) ≤ j ∧ j < 2 ^ 62) ∧ R (Itr i (j - i).toNat) H1
theorem pi_range1 {a : Expr} {ta : TA} {p pos : Pos} (hg : Gl X "range") (hm : X.mg "range" = none) (ha : PA X [a] ta) (hs : starEach [a] X.env = [(false, eval a X.env)] := by rfl) : PI X tg (.Call (.Name "range" p) [a] [] pos) (iRng1 ta) := by
  intro pins s σ H R I h
  refine Call_ (ld_blt I hg hm boot_range (PyProof.Rows.callWith_type1 (thn (ha pos pins s σ H _ I h) fun us s1 ⟨vs, H1, I1, r1, q1⟩ => ?_) hs rfl))
  obtain ⟨j, e, q1, q2, q⟩ := q1
  subst e
  cases r1 with
  | cons r rr =>
    cases rr
    obtain ⟨t, rfl⟩ := r
    exact call_range_1 (range_it I1 (by omega) (by omega) q1 q2 (by simpa using q))
theorem pi_range2 {a b : Expr} {ta : TA} {p pos : Pos} (hg : Gl X "range") (hm : X.mg "range" = none) (ha : PA X [a, b] ta) (hs : starEach [a, b] X.env = [(false, eval a X.env), (false, eval b X.env)] := by rfl) (hs2 : starEach [b] X.env = [(false, eval b X.env)] := by rfl) :
    PI X tg (.Call (.Name "range" p) [a, b] [] pos) (iRng2 ta) := by
  intro pins s σ H R I h
  refine Call_ (ld_blt I hg hm boot_range (PyProof.Rows.callWith_type1 (thn (ha pos pins s σ H _ I h) fun us s1 ⟨vs, H1, I1, r1, q1⟩ => ?_) (by rw [hs, hs2]) (by rw [hs2]; rfl)))
  obtain ⟨i, j, e, ⟨q1, q2, q3, q4⟩, q⟩ := q1
  subst e
  cases r1 with
  | cons r rr =>
    cases rr with
    | cons r' rr =>
      cases rr
      obtain ⟨t, rfl⟩ := r
      obtain ⟨t', rfl⟩ := r'
      exact call_range_2 (range_it I1 q1 q2 q3 q4 q)

/-! ### for -/
/-- W: the invariant by the turn and a measure; N: what the body is to reach -/
def tFor (wi : TI) (g : TG) (tb : TS) : TS := fun D σ H => wi σ H fun J H1 => ∃ W : Nat → Nat → St → Hp → Prop, (∃ m, W 0 m σ H1) ∧ ∀ i m σ H, W i m σ H →
  (J.stop i H ∧ D.nx σ H) ∨ (J.go i H ∧ ∃ N : St → Hp → Prop, (∀ σ' H', N σ' H' → ∃ m', m' < m ∧ W (i + 1) m' σ' H') ∧ ∀ x H', J.yld i H x H' → g x σ H' fun σ2 H2 => tb { D with nx := N, ct := N, bk := D.nx } σ2 H2)
/-- the records at fp as they stand -/
def pinsAt (fp : List Addr) (h : Heap) : List (Addr × Obj) := fp.filterMap fun b => (h.get? b).map fun o => (b, o)
theorem mem_pinsAt {fp : List Addr} {h : Heap} {b : Addr} {o : Obj} (hb : b ∈ fp) (e : h.get? b = some o) : (b, o) ∈ pinsAt fp h := List.mem_filterMap.mpr ⟨b, hb, by rw [e]; rfl⟩
theorem of_pinsAt {fp : List Addr} {h : Heap} {p : Addr × Obj} (hp : p ∈ pinsAt fp h) : p.1 ∈ fp ∧ h.get? p.1 = some p.2 := by
  obtain ⟨b, hb, e⟩ := List.mem_filterMap.mp hp
  cases q : h.get? b with
  | none => rw [q] at e; cases e
  | some o =>
    rw [q] at e
    have e' : (b, o) = p := Option.some.inj e
    subst e'
    exact ⟨hb, q⟩
theorem Inv.pinned {pins : List (Addr × Obj)} {σ : St} {H : Hp} {s : Shared} {fp : List Addr} (I : Inv X pins σ H s) (hf : ∀ b ∈ fp, FpOk X pins H b) (ho : ∀ b ∈ fp, ∃ o, s.heap.get? b = some o ∧ ∀ v, o.data ≠ .cell v) : Inv X (pins ++ pinsAt fp s.heap) σ H s :=
  I.pins_of fun p hp => (List.mem_append.mp hp).elim (fun z => I.pin p (List.mem_append_right _ z)) fun z => by
    obtain ⟨hb, e⟩ := of_pinsAt z
    obtain ⟨f0, f1, f2, _⟩ := hf p.1 hb
    obtain ⟨o, e', d⟩ := ho p.1 hb
    rw [e] at e'; cases e'
    exact ⟨e, f0, f1, f2, d⟩
theorem Inv.unpinned {pins pl : List (Addr × Obj)} {σ : St} {H : Hp} {s : Shared} (I : Inv X (pins ++ pl) σ H s) : Inv X pins σ H s := I.pins_of fun p hp => I.pin p (List.mem_append_right _ (List.mem_append_left _ hp))
theorem ps_for {iter : Expr} {body : List Stmt} {wi : TI} {g : TG} {tb : TS} {pos : Pos} (hp : PassesOwn (model X.prog X.w) X.A X.env X.xe) (hc : X.calm = true) (hi : PI X tg iter wi) (hg : PG X tg g) (hb : PSs X body tb)
    (hs : ∀ x, foldedSetIterable iter X.env x = pure x := by intro _; rfl) : PS X (.For tg iter body [] pos) (tFor wi g tb) := by
  intro pins s σ H D I h
  refine wpAny_For (thn (hi pins s σ H _ I h) fun v s1 h1 => thn h1 fun itv s2 h2 => ?_) hs
  obtain ⟨it, fp, tn, J, H2, e, I2, T, st2, f2, W, ⟨m0, w0⟩, turn⟩ := h2
  subst e
  -- what stays true of the iterator's objects through the loop
  have stat : ∀ {H' : Hp}, (∀ b ∈ fp, H' b = none) → ∀ b ∈ fp, FpOk X pins H' b := fun hn b hb => ⟨hn b hb, (f2 b hb).2⟩
  refine codeAny_forLoop_any (fun n s' => ∃ i σ' H', Inv X pins σ' H' s' ∧ tn i s'.heap ∧ (∀ b ∈ fp, H' b = none) ∧ W i n σ' H') ?_ m0 ⟨0, σ, H2, I2, st2, fun b hb => (f2 b hb).1, w0⟩
  rintro n s3 ⟨i, σ3, H3, I3, st3, fr3, w3⟩
  rcases turn i n σ3 H3 w3 with ⟨stop, qn⟩ | ⟨go, N, hN, step⟩
  · refine wpAny_passesOwn hp (thn (T.done X rfl rfl rfl hc i pins s3 σ3 H3 X.xe I3 (stat fr3) st3 stop) fun r s4 ⟨hr, I4⟩ => ?_)
    subst hr
    exact wpAny_execs_nil ⟨σ3, H3, I4, qn⟩
  · refine wpAny_passesOwn hp (thn (T.item X rfl rfl rfl hc i pins s3 σ3 H3 X.xe I3 (stat fr3) st3 go) fun r s4 ⟨u, hr, h4⟩ => ?_)
    subst hr
    refine wpAny_passesOwn hp (thn h4 fun _ s5 ⟨x, H5, I5, r5, y5, st5, fr5⟩ => ?_)
    have I5' := I5.pinned (stat fr5) (T.obj _ _ st5)
    refine wpAny_passesOwn hp (thn (hg _ s5 σ3 H5 x u _ I5' r5 (step x H5 y5)) fun _ s6 ⟨σ6, H6, I6, q6⟩ => ?_)
    refine wpAny_passesOwn hp (thn (hb _ s6 σ6 H6 _ I6 q6) fun f s7 q7 => ?_)
    have again : ∀ {σ7 : St} {H7 : Hp}, Inv X (pins ++ pinsAt fp s5.heap) σ7 H7 s7 → N σ7 H7 → ∃ m, m < n ∧ ∃ i σ' H', Inv X pins σ' H' s7 ∧ tn i s7.heap ∧ (∀ b ∈ fp, H' b = none) ∧ W i m σ' H' := fun {σ7 H7} I7 n7 => by
      obtain ⟨m', hm, w7⟩ := hN σ7 H7 n7
      refine ⟨m', hm, i + 1, σ7, H7, I7.unpinned, T.keep _ _ _ st5 fun b hb o e => (I7.pin (b, o) (List.mem_append_right _ (List.mem_append_right _ (mem_pinsAt hb e)))).1, fun b hb => ?_, w7⟩
      obtain ⟨o, e, d⟩ := T.obj _ _ st5 b hb
      exact (I7.pin (b, o) (List.mem_append_right _ (List.mem_append_right _ (mem_pinsAt hb e)))).2.1
    cases f with
    | next => obtain ⟨σ7, H7, I7, n7⟩ := q7; exact again I7 n7
    | cont => obtain ⟨σ7, H7, I7, n7⟩ := q7; exact again I7 n7
    | brk => obtain ⟨σ7, H7, I7, q7⟩ := q7; exact ⟨σ7, H7, I7.unpinned, q7⟩
    | ret v => obtain ⟨x7, σ7, H7, I7, r7, q7⟩ := q7; exact ⟨x7, σ7, H7, I7.unpinned, r7, q7⟩
end

/-! ### the forms one uses -/
/-- over a list that the body leaves as it is -/
theorem for_list {K : PySem.W.Frag} {a : Addr} {xs : List V} {g : TG} {tb : TS} {D : Ends} {σ : St} {H : Hp} (Pv : Nat → St → Hp → Prop) (h0 : Pv 0 σ H) (hl : ∀ i σ H, i ≤ xs.length → Pv i σ H → SqL K H a xs)
    (hs : ∀ i x σ H, xs[i]? = some x → Pv i σ H → g x σ H fun σ2 H2 => tb { D with nx := Pv (i + 1), ct := Pv (i + 1), bk := D.nx } σ2 H2) (hd : ∀ σ H, Pv xs.length σ H → D.nx σ H) :
    ∃ W : Nat → Nat → St → Hp → Prop, (∃ m, W 0 m σ H) ∧ ∀ i m σ H, W i m σ H →
      ((Itl K a).stop i H ∧ D.nx σ H) ∨ ((Itl K a).go i H ∧ ∃ N : St → Hp → Prop, (∀ σ' H', N σ' H' → ∃ m', m' < m ∧ W (i + 1) m' σ' H') ∧ ∀ x H', (Itl K a).yld i H x H' → g x σ H' fun σ2 H2 => tb { D with nx := N, ct := N, bk := D.nx } σ2 H2) := by
  refine ⟨fun i m σ H => m = xs.length - i ∧ i ≤ xs.length ∧ Pv i σ H, ⟨xs.length, by simp, Nat.zero_le _, h0⟩, ?_⟩
  rintro i m σ H ⟨rfl, hi, p⟩
  have q := hl i σ H hi p
  by_cases hlt : i < xs.length
  · refine .inr ⟨⟨xs, xs[i], q, by simp [hlt]⟩, Pv (i + 1), fun σ' H' p' => ⟨xs.length - (i + 1), by omega, rfl, hlt, p'⟩, fun x H' y => ?_⟩
    obtain ⟨e, y⟩ := y
    subst e
    exact hs i x σ _ (y xs q) p
  · have e : i = xs.length := by omega
    subst e
    exact .inl ⟨⟨xs, q, Nat.le_refl _⟩, hd σ H p⟩
theorem for_tup {K : PySem.W.Frag} {a : Addr} {xs : List V} {g : TG} {tb : TS} {D : Ends} {σ : St} {H : Hp} (Pv : Nat → St → Hp → Prop) (h0 : Pv 0 σ H) (hl : ∀ i σ H, i ≤ xs.length → Pv i σ H → SqT K H a xs)
    (hs : ∀ i x σ H, xs[i]? = some x → Pv i σ H → g x σ H fun σ2 H2 => tb { D with nx := Pv (i + 1), ct := Pv (i + 1), bk := D.nx } σ2 H2) (hd : ∀ σ H, Pv xs.length σ H → D.nx σ H) :
    ∃ W : Nat → Nat → St → Hp → Prop, (∃ m, W 0 m σ H) ∧ ∀ i m σ H, W i m σ H →
      ((Itt K a).stop i H ∧ D.nx σ H) ∨ ((Itt K a).go i H ∧ ∃ N : St → Hp → Prop, (∀ σ' H', N σ' H' → ∃ m', m' < m ∧ W (i + 1) m' σ' H') ∧ ∀ x H', (Itt K a).yld i H x H' → g x σ H' fun σ2 H2 => tb { D with nx := N, ct := N, bk := D.nx } σ2 H2) := by
  refine ⟨fun i m σ H => m = xs.length - i ∧ i ≤ xs.length ∧ Pv i σ H, ⟨xs.length, by simp, Nat.zero_le _, h0⟩, ?_⟩
  rintro i m σ H ⟨rfl, hi, p⟩
  have q := hl i σ H hi p
  by_cases hlt : i < xs.length
  · refine .inr ⟨⟨xs, xs[i], q, by simp [hlt]⟩, Pv (i + 1), fun σ' H' p' => ⟨xs.length - (i + 1), by omega, rfl, hlt, p'⟩, fun x H' y => ?_⟩
    obtain ⟨e, y⟩ := y
    subst e
    exact hs i x σ _ (y xs q) p
  · have e : i = xs.length := by omega
    subst e
    exact .inl ⟨⟨xs, q, Nat.le_refl _⟩, hd σ H p⟩
theorem for_range {lo : Int} {n : Nat} {g : TG} {tb : TS} {D : Ends} {σ : St} {H : Hp} (Pv : Nat → St → Hp → Prop) (h0 : Pv 0 σ H)
    (hs : ∀ i σ H, i < n → Pv i σ H → g (.int (lo + i)) σ H fun σ2 H2 => tb { D with nx := Pv (i + 1), ct := Pv (i + 1), bk := D.nx } σ2 H2) (hd : ∀ σ H, Pv n σ H → D.nx σ H) :
    ∃ W : Nat → Nat → St → Hp → Prop, (∃ m, W 0 m σ H) ∧ ∀ i m σ H, W i m σ H →
      ((Itr lo n).stop i H ∧ D.nx σ H) ∨ ((Itr lo n).go i H ∧ ∃ N : St → Hp → Prop, (∀ σ' H', N σ' H' → ∃ m', m' < m ∧ W (i + 1) m' σ' H') ∧ ∀ x H', (Itr lo n).yld i H x H' → g x σ H' fun σ2 H2 => tb { D with nx := N, ct := N, bk := D.nx } σ2 H2) := by
  refine ⟨fun i m σ H => m = n - i ∧ i ≤ n ∧ Pv i σ H, ⟨n, by simp, Nat.zero_le _, h0⟩, ?_⟩
  rintro i m σ H ⟨rfl, hi, p⟩
  by_cases hlt : i < n
  · refine .inr ⟨hlt, Pv (i + 1), fun σ' H' p' => ⟨n - (i + 1), by omega, rfl, hlt, p'⟩, fun x H' y => ?_⟩
    obtain ⟨e, y⟩ := y
    subst e y
    exact hs i σ _ hlt p
  · have e : i = n := by omega
    subst e
    exact .inl ⟨Nat.le_refl _, hd σ H p⟩
/-- while, by a word and a measure of the state -/
theorem while_by {c : TT} {tb : TS} {D : Ends} {σ : St} {H : Hp} (Pv : St → Hp → Prop) (μ : St → Hp → Nat) (h0 : Pv σ H)
    (hs : ∀ σ H, Pv σ H → c σ H fun b H1 => if b = true then tb { D with nx := fun σ' H' => Pv σ' H' ∧ μ σ' H' < μ σ H, ct := fun σ' H' => Pv σ' H' ∧ μ σ' H' < μ σ H, bk := D.nx } σ H1 else D.nx σ H1)
    (mono : ∀ σ H Q Q', (∀ b H1, Q b H1 → Q' b H1) → c σ H Q → c σ H Q') : tWhile c tb D σ H := by
  refine ⟨fun m σ H => m = μ σ H ∧ Pv σ H, ⟨_, rfl, h0⟩, ?_⟩
  rintro m σ H ⟨rfl, p⟩
  refine mono σ H _ _ (fun b H1 q => ?_) (hs σ H p)
  cases b with
  | true => exact ⟨_, fun σ' H' ⟨p', l⟩ => ⟨_, l, rfl, p'⟩, q⟩
  | false => exact q
end L2

namespace L2
open PySem PySem.Spec PyProof.Rows

abbrev R2 := V → V → Hp → VK → Prop
/-- a two-place operation on values: f is binaryOp op, inplaceOp op or compareOp op -/
def OpR (X : Cx) (f : Value → Value → Sem Value) (r : R2) : Prop :=
  ∀ (pins : List (Addr × Obj)) (s : Shared) (σ : St) (H : Hp) (x y : V) (v u : Value) (Q : VK), Inv X pins σ H s → RelV x v → RelV y u → r x y H Q →
    wpAny (model X.prog X.w) X.A (f v u) (EP X pins σ Q) X.xe s
/-- a one-place operation -/
def UnR (X : Cx) (f : Value → Sem Value) (r : V → Hp → VK → Prop) : Prop :=
  ∀ (pins : List (Addr × Obj)) (s : Shared) (σ : St) (H : Hp) (x : V) (v : Value) (Q : VK), Inv X pins σ H s → RelV x v → r x H Q →
    wpAny (model X.prog X.w) X.A (f v) (EP X pins σ Q) X.xe s
/-- a call of a value that is known (a builtin, a type) with values -/
def CallR (X : Cx) (f : Value) (r : List V → Hp → VK → Prop) : Prop :=
  ∀ (pins : List (Addr × Obj)) (s : Shared) (σ : St) (H : Hp) (xs : List V) (us : List Value) (Q : VK), Inv X pins σ H s → Vals xs us → r xs H Q →
    wpAny (model X.prog X.w) X.A (call f us) (EP X pins σ Q) X.xe s
/-- a value's truth -/
def TruR (X : Cx) (r : V → Hp → (Bool → Hp → Prop) → Prop) : Prop :=
  ∀ (pins : List (Addr × Obj)) (s : Shared) (σ : St) (H : Hp) (x : V) (v : Value) (Q : Bool → Hp → Prop), Inv X pins σ H s → RelV x v → r x H Q →
    wpAny (model X.prog X.w) X.A (truthy v) (TP X pins σ Q) X.xe s

def tOp (r : R2) (ta tb : TE) : TE := fun σ H Q => ta σ H fun x H1 => tb σ H1 fun y H2 => r x y H2 Q
def tUn (r : V → Hp → VK → Prop) (ta : TE) : TE := fun σ H Q => ta σ H fun x H1 => r x H1 Q
/-- ints in, under C, and a value out -/
def rI (C : Int → Int → Prop) (g : Int → Int → V) : R2 := fun x y H Q => ∃ i j, x = .int i ∧ y = .int j ∧ C i j ∧ Q (g i j) H
def rI0 (g : Int → Int → V) : R2 := fun x y H Q => ∃ i j, x = .int i ∧ y = .int j ∧ Q (g i j) H
def rU (g : Int → V) : V → Hp → VK → Prop := fun x H Q => ∃ i, x = .int i ∧ Q (g i) H

section
variable {X : Cx} {a b c : Expr} {ta tb tc : TE} {pos : Pos}

theorem binT (ha : PE X a ta) (hb : PE X b tb) {pins : List (Addr × Obj)} {s : Shared} {σ : St} {H : Hp} {R : V → V → Hp → Prop} (I : Inv X pins σ H s)
    (h : ta σ H fun x H1 => tb σ H1 fun y H2 => R x y H2) {Q : Value → Shared → Prop} {f : Value → Value → Sem Value}
    (hf : ∀ v u s2 x y H2, Inv X pins σ H2 s2 → RelV x v → RelV y u → R x y H2 → wpAny (model X.prog X.w) X.A (f v u) Q X.xe s2) :
    wpAny (model X.prog X.w) X.A (eval a X.env) (fun v s₁ => wpAny (model X.prog X.w) X.A (eval b X.env) (fun u s₂ => wpAny (model X.prog X.w) X.A (f v u) Q X.xe s₂) X.xe s₁) X.xe s := by
  refine thn (ha pins s σ H _ I h) fun v s1 ⟨x, H1, I1, r1, q1⟩ => ?_
  refine thn (hb pins s1 σ H1 _ I1 q1) fun u s2 ⟨y, H2, I2, r2, q2⟩ => ?_
  exact hf v u s2 x y H2 I2 r1 r2 q2

theorem pe_op {op : Operator} {r : R2} (ho : OpR X (binaryOp op) r) (ha : PE X a ta) (hb : PE X b tb) : PE X (.BinOp a op b pos) (tOp r ta tb) := by
  intro pins s σ H Q I h
  exact wpAny_BinOp (binT ha hb I h fun v u s2 x y H2 I2 rx ry q => ho pins s2 σ H2 x y v u Q I2 rx ry q)
theorem pe_un {op : UnaryOp} {r : V → Hp → VK → Prop} (ho : UnR X (unaryOp op) r) (ha : PE X a ta) : PE X (.UnaryOp op a pos) (tUn r ta) := by
  intro pins s σ H Q I h
  exact UnaryOp_ (thn (ha pins s σ H _ I h) fun v s1 ⟨x, H1, I1, r1, q1⟩ => ho pins s1 σ H1 x v Q I1 r1 q1)
/-- a op= e at a name: the name's slot i -/
theorem augR {op : Operator} {r : R2} (ho : OpR X (inplaceOp op) r) {pins : List (Addr × Obj)} {s : Shared} {σ : St} {H : Hp} {x y : V} {v u : Value} {Q : VK} (I : Inv X pins σ H s)
    (rx : RelV x v) (ry : RelV y u) (q : r x y H Q) : wpAny (model X.prog X.w) X.A (inplaceOp op v u) (EP X pins σ Q) X.xe s := ho pins s σ H x y v u Q I rx ry q

/-! ### ints -/
theorem opI {f : Value → Value → Sem Value} {C : Int → Int → Prop} {g : Int → Int → Int}
    (rule : ∀ (i j : Int) (t u : Tok) (s : Shared) (Q : Value → Shared → Prop) (E : Value → Shared → Prop), C i j → Q (.int (g i j) s.toks) { s with toks := s.toks + 1 } → wpAny (model X.prog X.w) X.A (f (.int i t) (.int j u)) Q E s) :
    OpR X f (rI C fun i j => .int (g i j)) := by
  intro pins s σ H x y v u Q I rx ry h
  obtain ⟨i, j, rfl, rfl, hc, q⟩ := h
  obtain ⟨t, rfl⟩ := rx
  obtain ⟨t', rfl⟩ := ry
  exact rule i j t t' s _ _ hc ⟨.int (g i j), H, I.tok _, ⟨_, rfl⟩, q⟩
theorem opI0 {f : Value → Value → Sem Value} {g : Int → Int → Int}
    (rule : ∀ (i j : Int) (t u : Tok) (s : Shared) (Q : Value → Shared → Prop) (E : Value → Shared → Prop), Q (.int (g i j) s.toks) { s with toks := s.toks + 1 } → wpAny (model X.prog X.w) X.A (f (.int i t) (.int j u)) Q E s) :
    OpR X f (rI0 fun i j => .int (g i j)) := by
  intro pins s σ H x y v u Q I rx ry h
  obtain ⟨i, j, rfl, rfl, q⟩ := h
  obtain ⟨t, rfl⟩ := rx
  obtain ⟨t', rfl⟩ := ry
  exact rule i j t t' s _ _ ⟨.int (g i j), H, I.tok _, ⟨_, rfl⟩, q⟩
theorem opB0 {f : Value → Value → Sem Value} {g : Int → Int → Bool}
    (rule : ∀ (i j : Int) (t u : Tok) (s : Shared) (Q : Value → Shared → Prop) (E : Value → Shared → Prop), Q (.bool (g i j)) s → wpAny (model X.prog X.w) X.A (f (.int i t) (.int j u)) Q E s) :
    OpR X f (rI0 fun i j => .bl (g i j)) := by
  intro pins s σ H x y v u Q I rx ry h
  obtain ⟨i, j, rfl, rfl, q⟩ := h
  obtain ⟨t, rfl⟩ := rx
  obtain ⟨t', rfl⟩ := ry
  exact rule i j t t' s _ _ ⟨.bl (g i j), H, I, rfl, q⟩

def CDiv (i j : Int) : Prop := 0 < j ∧ j < 1073741824
def CDivN (i j : Int) : Prop := j ≠ 0 ∧ j.natAbs < 1073741824
def CPow (i j : Int) : Prop := 0 ≤ j ∧ j ≤ 1000000 ∧ i.natAbs < 2 ^ 64
def CMul (i j : Int) : Prop := (-(2 ^ 64) < i ∧ i < 2 ^ 64) ∨ (-(2 ^ 64) < j ∧ j < 2 ^ 64)
theorem CMul.ok {i j : Int} (h : CMul i j) : IntMulOk i j := by
  rcases h with ⟨h1, h2⟩ | ⟨h1, h2⟩
  · exact .of_left (intBits_le_64 h1 h2)
  · exact .of_right (intBits_le_64 h1 h2)
theorem two_pow_nn (k : Nat) : (0 : Int) ≤ 2 ^ k := by
  rw [two_pow_cast]
  exact Int.natCast_nonneg _

theorem op_add : OpR X (binaryOp .Add) (rI0 fun i j => .int (i + j)) := opI0 fun _ _ _ _ _ _ _ q => add_int q
theorem op_sub : OpR X (binaryOp .Sub) (rI0 fun i j => .int (i - j)) := opI0 fun _ _ _ _ _ _ _ q => sub_int q
theorem op_mul : OpR X (binaryOp .Mult) (rI CMul fun i j => .int (i * j)) := opI fun _ _ _ _ _ _ _ hc q => mul_int q hc.ok
/-- // by a positive divisor -/
theorem op_fdiv : OpR X (binaryOp .FloorDiv) (rI CDiv fun i j => .int (i / j)) := opI fun i j _ _ _ _ _ hc q => by
  have h1 : (0 : Int) < j := hc.1
  have h2 : j < 1073741824 := hc.2
  exact floordiv_int (by omega) (by rw [Int.fdiv_eq_ediv_of_nonneg i (by omega)]; exact q) (.inl (PyProof.noPylong_small (by omega)))
theorem op_fdivN : OpR X (binaryOp .FloorDiv) (rI CDivN fun i j => .int (i.fdiv j)) := opI fun _ _ _ _ _ _ _ hc q => floordiv_int hc.1 q (.inl (PyProof.noPylong_small hc.2))
/-- % by a positive divisor of any size -/
theorem op_mod : OpR X (binaryOp .Mod) (rI (fun _ j => 0 < j) fun i j => .int (i % j)) := opI fun i j _ _ _ _ _ hc q => by
  have h1 : (0 : Int) < j := hc
  exact mod_int' (by omega) (by rw [Int.fmod_eq_emod_of_nonneg i (by omega)]; exact q)
theorem op_modN : OpR X (binaryOp .Mod) (rI (fun _ j => j ≠ 0) fun i j => .int (i.fmod j)) := opI fun _ _ _ _ _ _ _ hc q => mod_int' hc q
theorem op_pow : OpR X (binaryOp .Pow) (rI CPow fun i j => .int (i ^ j.toNat)) := opI fun _ _ _ _ _ _ _ hc q => pow_int_small hc.1 hc.2.1 hc.2.2 q
theorem op_shl : OpR X (binaryOp .LShift) (rI CPow fun i j => .int (i * 2 ^ j.toNat)) := opI fun _ _ _ _ _ _ _ hc q => lshift_int_small hc.1 hc.2.1 hc.2.2 q
theorem op_shr : OpR X (binaryOp .RShift) (rI (fun _ j => 0 ≤ j) fun i j => .int (i / 2 ^ j.toNat)) := opI fun i j _ _ _ _ _ hc q =>
  rshift_int hc (by rw [Int.fdiv_eq_ediv_of_nonneg i (two_pow_nn _)]; exact q)
theorem op_and : OpR X (binaryOp .BitAnd) (rI0 fun i j => .int (Builtin.bitAnd i j)) := opI0 fun _ _ _ _ _ _ _ q => and_int q
theorem op_or : OpR X (binaryOp .BitOr) (rI0 fun i j => .int (Builtin.bitOr i j)) := opI0 fun _ _ _ _ _ _ _ q => or_int q
theorem op_xor : OpR X (binaryOp .BitXor) (rI0 fun i j => .int (Builtin.bitXor i j)) := opI0 fun _ _ _ _ _ _ _ q => xor_int q

theorem iop_add : OpR X (inplaceOp .Add) (rI0 fun i j => .int (i + j)) := opI0 fun _ _ _ _ _ _ _ q => iadd_int q
theorem iop_sub : OpR X (inplaceOp .Sub) (rI0 fun i j => .int (i - j)) := opI0 fun _ _ _ _ _ _ _ q => isub_int q
theorem iop_mul : OpR X (inplaceOp .Mult) (rI CMul fun i j => .int (i * j)) := opI fun _ _ _ _ _ _ _ hc q => imul_int q hc.ok
theorem iop_fdiv : OpR X (inplaceOp .FloorDiv) (rI CDiv fun i j => .int (i / j)) := opI fun i j _ _ _ _ _ hc q => by
  have h1 : (0 : Int) < j := hc.1
  have h2 : j < 1073741824 := hc.2
  exact ifloordiv_int (by omega) (by rw [Int.fdiv_eq_ediv_of_nonneg i (by omega)]; exact q) (.inl (PyProof.noPylong_small (by omega)))
theorem iop_mod : OpR X (inplaceOp .Mod) (rI (fun _ j => 0 < j) fun i j => .int (i % j)) := opI fun i j _ _ _ _ _ hc q => by
  have h1 : (0 : Int) < j := hc
  exact imod_int (by omega) (by rw [Int.fmod_eq_emod_of_nonneg i (by omega)]; exact q)
theorem iop_shl : OpR X (inplaceOp .LShift) (rI CPow fun i j => .int (i * 2 ^ j.toNat)) := opI fun _ _ _ _ _ _ _ hc q => ilshift_int_small hc.1 hc.2.1 hc.2.2 q
theorem iop_shr : OpR X (inplaceOp .RShift) (rI (fun _ j => 0 ≤ j) fun i j => .int (i / 2 ^ j.toNat)) := opI fun i j _ _ _ _ _ hc q =>
  irshift_int hc (by rw [Int.fdiv_eq_ediv_of_nonneg i (two_pow_nn _)]; exact q)
theorem iop_and : OpR X (inplaceOp .BitAnd) (rI0 fun i j => .int (Builtin.bitAnd i j)) := opI0 fun _ _ _ _ _ _ _ q => iand_int q
theorem iop_or : OpR X (inplaceOp .BitOr) (rI0 fun i j => .int (Builtin.bitOr i j)) := opI0 fun _ _ _ _ _ _ _ q => ior_int q
theorem iop_xor : OpR X (inplaceOp .BitXor) (rI0 fun i j => .int (Builtin.bitXor i j)) := opI0 fun _ _ _ _ _ _ _ q => ixor_int q

theorem unI {f : Value → Sem Value} {g : Int → Int}
    (rule : ∀ (i : Int) (t : Tok) (s : Shared) (Q : Value → Shared → Prop) (E : Value → Shared → Prop), Q (.int (g i) s.toks) { s with toks := s.toks + 1 } → wpAny (model X.prog X.w) X.A (f (.int i t)) Q E s) :
    UnR X f (rU fun i => .int (g i)) := by
  intro pins s σ H x v Q I rx h
  obtain ⟨i, rfl, q⟩ := h
  obtain ⟨t, rfl⟩ := rx
  exact rule i t s _ _ ⟨.int (g i), H, I.tok _, ⟨_, rfl⟩, q⟩
theorem un_neg : UnR X (unaryOp .USub) (rU fun i => .int (-i)) := unI fun _ _ _ _ _ q => neg_int q
theorem un_inv : UnR X (unaryOp .Invert) (rU fun i => .int (Builtin.bitNot i)) := unI fun _ _ _ _ _ q => invert_int q

/-! ### bools among ints: n += (a < b) -/
theorem op_add_ib : OpR X (binaryOp .Add) (fun x y H Q => ∃ i k, x = .int i ∧ y = .bl k ∧ Q (.int (i + b2i k)) H) := by
  intro pins s σ H x y v u Q I rx ry h
  obtain ⟨i, k, rfl, rfl, q⟩ := h
  obtain ⟨t, rfl⟩ := rx
  cases ry
  exact add_int_bool ⟨.int (i + b2i k), H, I.tok _, ⟨_, rfl⟩, q⟩
end

/-! ### comparisons -/
/-- the scalars that == tells apart as data does -/
def scal : V → V → Bool
  | .non, .non => true | .non, .int _ => true | .int _, .non => true | .non, .bl _ => true | .bl _, .non => true | .non, .str _ => true | .str _, .non => true
  | .int _, .int _ => true | .bl _, .bl _ => true | .str _, .str _ => true | .byt _, .byt _ => true
  | .int _, .str _ => true | .str _, .int _ => true | .bl _, .str _ => true | .str _, .bl _ => true
  | _, _ => false
def rEq : R2 := fun x y H Q => scal x y = true ∧ Q (.bl (decide (x = y))) H
def rNe : R2 := fun x y H Q => scal x y = true ∧ Q (.bl (!decide (x = y))) H

theorem dec_int {i j : Int} : decide (V.int i = V.int j) = (i == j) := by
  rw [Bool.eq_iff_iff]
  simp
theorem dec_bl {i j : Bool} : decide (V.bl i = V.bl j) = (i == j) := by
  rw [Bool.eq_iff_iff]
  simp
theorem dec_str {i j : Str} : decide (V.str i = V.str j) = (i == j) := by
  rw [Bool.eq_iff_iff]
  simp
theorem dec_byt {i j : Array UInt8} : decide (V.byt i = V.byt j) = (i.toList == j.toList) := by
  rw [Bool.eq_iff_iff]
  cases i
  cases j
  simp

section
variable {X : Cx} {a b c : Expr} {ta tb tc : TE} {pos : Pos}
theorem fin_bl {pins : List (Addr × Obj)} {σ : St} {H : Hp} {s : Shared} {Q : VK} {k k' : Bool} (I : Inv X pins σ H s) (q : Q (.bl k) H) (e : k = k') : EP X pins σ Q (.bool k') s := by
  subst e
  exact ⟨.bl k, H, I, rfl, q⟩
theorem op_eq : OpR X (compareOp .Eq) rEq := by
  intro pins s σ H x y v u Q I rx ry h
  obtain ⟨hs, q⟩ := h
  cases x with
  | non =>
    cases rx
    cases y with
    | non => cases ry; exact PySem.EqNone.eq_none_none (fin_bl I q (by simp))
    | bl j => cases ry; exact PySem.EqNone.eq_none_bool (fin_bl I q (by simp))
    | int j => obtain ⟨t', rfl⟩ := ry; exact PySem.EqNone.eq_none_int (fin_bl I q (by simp))
    | str j => obtain ⟨t', rfl⟩ := ry; exact PySem.EqNone.eq_none_str (fin_bl I q (by simp))
    | _ => exact absurd (show false = true from hs) Bool.false_ne_true
  | bl i =>
    cases rx
    cases y with
    | non => cases ry; exact PySem.EqNone.eq_bool_none (fin_bl I q (by simp))
    | bl j => cases ry; exact eq_bool (fin_bl I q dec_bl)
    | str j => obtain ⟨t', rfl⟩ := ry; exact PySem.EqMixed.eq_bool_str (fin_bl I q (by simp))
    | _ => exact absurd (show false = true from hs) Bool.false_ne_true
  | int i =>
    obtain ⟨t, rfl⟩ := rx
    cases y with
    | non => cases ry; exact PySem.EqNone.eq_int_none (fin_bl I q (by simp))
    | int j => obtain ⟨t', rfl⟩ := ry; exact eq_int (fin_bl I q dec_int)
    | str j => obtain ⟨t', rfl⟩ := ry; exact PySem.EqMixed.eq_int_str (fin_bl I q (by simp))
    | _ => exact absurd (show false = true from hs) Bool.false_ne_true
  | str i =>
    obtain ⟨t, rfl⟩ := rx
    cases y with
    | non => cases ry; exact PySem.EqNone.eq_str_none (fin_bl I q (by simp))
    | bl j => cases ry; exact PySem.EqMixed.eq_str_bool (fin_bl I q (by simp))
    | int j => obtain ⟨t', rfl⟩ := ry; exact PySem.EqMixed.eq_str_int (fin_bl I q (by simp))
    | str j => obtain ⟨t', rfl⟩ := ry; exact eq_str (fin_bl I q dec_str)
    | _ => exact absurd (show false = true from hs) Bool.false_ne_true
  | byt i =>
    obtain ⟨t, rfl⟩ := rx
    cases y with
    | byt j => obtain ⟨t', rfl⟩ := ry; exact PySem.W.eq_bytes (fin_bl I q dec_byt)
    | _ => exact absurd (show false = true from hs) Bool.false_ne_true
  | _ => cases y <;> exact absurd (show false = true from hs) Bool.false_ne_true
theorem op_ne : OpR X (compareOp .NotEq) rNe := by
  intro pins s σ H x y v u Q I rx ry h
  obtain ⟨hs, q⟩ := h
  cases x with
  | non =>
    cases rx
    cases y with
    | non => cases ry; exact PySem.EqNone.ne_none_none (fin_bl I q (by simp))
    | bl j => cases ry; exact PySem.EqNone.ne_none_bool (fin_bl I q (by simp))
    | int j => obtain ⟨t', rfl⟩ := ry; exact PySem.EqNone.ne_none_int (fin_bl I q (by simp))
    | str j => obtain ⟨t', rfl⟩ := ry; exact PySem.EqNone.ne_none_str (fin_bl I q (by simp))
    | _ => exact absurd (show false = true from hs) Bool.false_ne_true
  | bl i =>
    cases rx
    cases y with
    | non => cases ry; exact PySem.EqNone.ne_bool_none (fin_bl I q (by simp))
    | bl j => cases ry; exact ne_bool (fin_bl I q (congrArg not dec_bl))
    | str j => obtain ⟨t', rfl⟩ := ry; exact PySem.EqMixed.ne_bool_str (fin_bl I q (by simp))
    | _ => exact absurd (show false = true from hs) Bool.false_ne_true
  | int i =>
    obtain ⟨t, rfl⟩ := rx
    cases y with
    | non => cases ry; exact PySem.EqNone.ne_int_none (fin_bl I q (by simp))
    | int j => obtain ⟨t', rfl⟩ := ry; exact ne_int (fin_bl I q (congrArg not dec_int))
    | str j => obtain ⟨t', rfl⟩ := ry; exact PySem.EqMixed.ne_int_str (fin_bl I q (by simp))
    | _ => exact absurd (show false = true from hs) Bool.false_ne_true
  | str i =>
    obtain ⟨t, rfl⟩ := rx
    cases y with
    | non => cases ry; exact PySem.EqNone.ne_str_none (fin_bl I q (by simp))
    | bl j => cases ry; exact PySem.EqMixed.ne_str_bool (fin_bl I q (by simp))
    | int j => obtain ⟨t', rfl⟩ := ry; exact PySem.EqMixed.ne_str_int (fin_bl I q (by simp))
    | str j => obtain ⟨t', rfl⟩ := ry; exact ne_str (fin_bl I q (congrArg not dec_str))
    | _ => exact absurd (show false = true from hs) Bool.false_ne_true
  | byt i =>
    obtain ⟨t, rfl⟩ := rx
    cases y with
    | byt j => obtain ⟨t', rfl⟩ := ry; exact PySem.W.ne_bytes (fin_bl I q (congrArg not dec_byt))
    | _ => exact absurd (show false = true from hs) Bool.false_ne_true
  | _ => cases y <;> exact absurd (show false = true from hs) Bool.false_ne_true

theorem op_lt : OpR X (compareOp .Lt) (rI0 fun i j => .bl (decide (i < j))) := opB0 fun _ _ _ _ _ _ _ q => lt_int q
theorem op_le : OpR X (compareOp .LtE) (rI0 fun i j => .bl (decide (i ≤ j))) := opB0 fun _ _ _ _ _ _ _ q => le_int q
theorem op_gt : OpR X (compareOp .Gt) (rI0 fun i j => .bl (decide (j < i))) := opB0 fun _ _ _ _ _ _ _ q => gt_int q
theorem op_ge : OpR X (compareOp .GtE) (rI0 fun i j => .bl (decide (j ≤ i))) := opB0 fun _ _ _ _ _ _ _ q => ge_int q
theorem op_lt_str : OpR X (compareOp .Lt) (fun x y H Q => ∃ i j, x = .str i ∧ y = .str j ∧ Q (.bl (decide (i.cps.toList < j.cps.toList))) H) := by
  intro pins s σ H x y v u Q I rx ry h
  obtain ⟨i, j, rfl, rfl, q⟩ := h
  obtain ⟨t, rfl⟩ := rx
  obtain ⟨t', rfl⟩ := ry
  exact lt_str (fin_bl I q rfl)
/-- the one string within the other -/
theorem op_in_str : OpR X (compareOp .In) (fun x y H Q => ∃ i j, x = .str i ∧ y = .str j ∧ Q (.bl (!(Builtin.Str.occurrences j i 0 j.length 1).isEmpty)) H) := by
  intro pins s σ H x y v u Q I rx ry h
  obtain ⟨i, j, rfl, rfl, q⟩ := h
  obtain ⟨t, rfl⟩ := rx
  obtain ⟨t', rfl⟩ := ry
  exact in_str (fin_bl I q rfl)

/-- is None, is not None: the right side a value none -/
theorem op_isN : OpR X (compareOp .Is) (fun x y H Q => y = .non ∧ Q (.bl (decide (x = .non))) H) := by
  intro pins s σ H x y v u Q I rx ry h
  obtain ⟨rfl, q⟩ := h
  cases ry
  refine is_none_gen (fin_bl I q ?_)
  cases x <;> first
    | (cases rx; rfl)
    | (obtain ⟨t, rfl⟩ := rx; rfl)
theorem op_notN : OpR X (compareOp .IsNot) (fun x y H Q => y = .non ∧ Q (.bl (!decide (x = .non))) H) := by
  intro pins s σ H x y v u Q I rx ry h
  obtain ⟨rfl, q⟩ := h
  cases ry
  refine isnot_none_gen (fin_bl I q ?_)
  cases x <;> first
    | (cases rx; rfl)
    | (obtain ⟨t, rfl⟩ := rx; rfl)

theorem op_notin_str : OpR X (compareOp .NotIn) (fun x y H Q => ∃ i j, x = .str i ∧ y = .str j ∧ Q (.bl (!(!(Builtin.Str.occurrences j i 0 j.length 1).isEmpty))) H) := by
  intro pins s σ H x y v u Q I rx ry h
  obtain ⟨i, j, rfl, rfl, q⟩ := h
  obtain ⟨t, rfl⟩ := rx
  obtain ⟨t', rfl⟩ := ry
  exact notIn_str (fin_bl I q rfl)
/-- is, is not of two objects that are tracked lists or instances -/
def isObj : HO → Bool
  | .lst _ => true
  | .ins _ _ _ => true
  | _ => false
theorem obj_there {pins : List (Addr × Obj)} {s : Shared} {σ : St} {H : Hp} {a : Addr} {o : HO} (I : Inv X pins σ H s) (h : H a = some o) (p : isObj o = true) : ∃ ob, s.heap.get? a = some ob ∧ ob.cls ≠ .type "tuple" := by
  cases o with
  | lst xs =>
    obtain ⟨_, its, n, _, e⟩ : xs.length ≤ sizeLine ∧ ∃ (its : List Value) (n : Nat), Vals xs its ∧ s.heap.get? a = some { cls := .type "list", data := .seq its.toArray n } := I.hok a _ h
    exact ⟨_, e, (by show Value.type "list" ≠ .type "tuple"; decide +kernel)⟩
  | ins C dx fs =>
    have x := I.hok a _ h
    obtain ⟨_, _, _, e, _⟩ := x
    exact ⟨_, e, (by show Value.ref C ≠ .type "tuple"; exact fun z => by cases z)⟩
  | _ => exact absurd (show false = true from p) Bool.false_ne_true
theorem op_is_ref : OpR X (compareOp .Is) (fun x y H Q => ∃ a b oa ob, x = .ref a ∧ y = .ref b ∧ H a = some oa ∧ isObj oa = true ∧ H b = some ob ∧ isObj ob = true ∧ Q (.bl (decide (a = b))) H) := by
  intro pins s σ H x y v u Q I rx ry h
  obtain ⟨a, b, oa, ob, rfl, rfl, ha, pa, hb, pb, q⟩ := h
  cases rx
  cases ry
  obtain ⟨o1, e1, n1⟩ := obj_there I ha pa
  obtain ⟨o2, e2, _⟩ := obj_there I hb pb
  by_cases z : a = b
  · subst z
    exact wpAny_is_ref_self (fin_bl I q (by simp))
  · exact wpAny_is_ref_other z e1 e2 n1 (fin_bl I q (by simp [z]))
theorem op_isnot_ref : OpR X (compareOp .IsNot) (fun x y H Q => ∃ a b oa ob, x = .ref a ∧ y = .ref b ∧ H a = some oa ∧ isObj oa = true ∧ H b = some ob ∧ isObj ob = true ∧ Q (.bl (!decide (a = b))) H) := by
  intro pins s σ H x y v u Q I rx ry h
  obtain ⟨a, b, oa, ob, rfl, rfl, ha, pa, hb, pb, q⟩ := h
  cases rx
  cases ry
  obtain ⟨o1, e1, n1⟩ := obj_there I ha pa
  obtain ⟨o2, e2, _⟩ := obj_there I hb pb
  by_cases z : a = b
  · subst z
    exact wpAny_isNot_ref_self (fin_bl I q (by simp))
  · exact wpAny_isNot_ref_other z e1 e2 n1 (fin_bl I q (by simp [z]))

/-- two rules for one operation: by cases -/
theorem OpR.or {f : Value → Value → Sem Value} {r r' : R2} (h : OpR X f r) (h' : OpR X f r') : OpR X f (fun x y H Q => r x y H Q ∨ r' x y H Q) := by
  intro pins s σ H x y v u Q I rx ry q
  rcases q with q | q
  · exact h pins s σ H x y v u Q I rx ry q
  · exact h' pins s σ H x y v u Q I rx ry q

theorem nomark (b : Expr) {op : CmpOp} (h : op ≠ .In := by decide) (h2 : op ≠ .NotIn := by decide) : behindInMarks op b = false := by
  have e1 : (op == CmpOp.In) = false := by cases op <;> first | rfl | exact absurd rfl h
  have e2 : (op == CmpOp.NotIn) = false := by cases op <;> first | rfl | exact absurd rfl h2
  cases b <;> simp [behindInMarks, e1, e2]
/-- a comparison as a value; hm: nomark b, or (for in, not in) by with_unfolding_all rfl -/
theorem pe_cmpR {op : CmpOp} {r : R2} (ho : OpR X (compareOp op) r) (ha : PE X a ta) (hb : PE X b tb) (hm : behindInMarks op b = false) : PE X (.Compare a [op] [b] pos) (tOp r ta tb) := by
  intro pins s σ H Q I h
  exact wpAny_Compare1 (binT ha hb I h fun v u s2 x y H2 I2 rx ry q => ho pins s2 σ H2 x y v u Q I2 rx ry q) hm
/-- a reading of a value as a test -/
def tTest (t : TE) : TT := fun σ H Q => t σ H fun x H' => ∃ k, x = .bl k ∧ Q k H'
theorem pt_cmpR {op : CmpOp} {r : R2} (ho : OpR X (compareOp op) r) (ha : PE X a ta) (hb : PE X b tb) (hm : behindInMarks op b = false) : PT X (.Compare a [op] [b] pos) (tTest (tOp r ta tb)) := by
  intro pins s σ H Q I h
  refine wpAny_isTrue_Compare1 (thn (ha pins s σ H _ I h) fun v s1 ⟨x, H1, I1, r1, q1⟩ => thn (hb pins s1 σ H1 _ I1 q1) fun u s2 ⟨y, H2, I2, r2, q2⟩ =>
    thn (ho pins s2 σ H2 x y v u _ I2 r1 r2 q2) fun c s3 ⟨z, H3, I3, r3, k, e, q3⟩ => ?_) hm
  subst e
  cases r3
  exact wpAny_truthy_bool ⟨H3, I3, q3⟩
/-- a op1 b op2 c -/
def tChain (r r' : R2) (ta tb tc : TE) : TE := fun σ H Q => ta σ H fun x H1 => tb σ H1 fun y H2 => r x y H2 fun z H3 => ∃ k, z = .bl k ∧
  (if k = true then tc σ H3 fun w' H4 => r' y w' H4 Q else Q (.bl false) H3)
theorem pe_chain {op op' : CmpOp} {r r' : R2} (ho : OpR X (compareOp op) r) (ho' : OpR X (compareOp op') r') (ha : PE X a ta) (hb : PE X b tb) (hc : PE X c tc)
    (hm : lastMarks [op, op'] [b, c] = false := by with_unfolding_all rfl) : PE X (.Compare a [op, op'] [b, c] pos) (tChain r r' ta tb tc) := by
  intro pins s σ H Q I h
  refine Compare_chain (thn (ha pins s σ H _ I h) fun v s1 ⟨x, H1, I1, r1, q1⟩ => chain_link (thn (hb pins s1 σ H1 _ I1 q1) fun u s2 ⟨y, H2, I2, r2, q2⟩ =>
    thn (ho pins s2 σ H2 x y v u _ I2 r1 r2 q2) fun d s3 ⟨z, H3, I3, r3, k, e, q3⟩ => ?_)) hm
  subst e
  cases r3
  refine wpAny_truthy_bool ?_
  cases k with
  | false => exact ite_ff ⟨.bl false, H3, I3, rfl, q3⟩
  | true => exact ite_tt (chain_last (thn (hc pins s3 σ H3 _ I3 q3) fun w' s4 ⟨z', H4, I4, r4, q4⟩ => ho' pins s4 σ H4 y z' u w' Q I4 r2 r4 q4))
theorem pt_chain {op op' : CmpOp} {r r' : R2} (ho : OpR X (compareOp op) r) (ho' : OpR X (compareOp op') r') (ha : PE X a ta) (hb : PE X b tb) (hc : PE X c tc)
    (hm : lastMarks [op, op'] [b, c] = false := by with_unfolding_all rfl) : PT X (.Compare a [op, op'] [b, c] pos) (tTest (tChain r r' ta tb tc)) := by
  intro pins s σ H Q I h
  refine isTrue_chain (thn (ha pins s σ H _ I h) fun v s1 ⟨x, H1, I1, r1, q1⟩ => test_link (thn (hb pins s1 σ H1 _ I1 q1) fun u s2 ⟨y, H2, I2, r2, q2⟩ =>
    thn (ho pins s2 σ H2 x y v u _ I2 r1 r2 q2) fun d s3 ⟨z, H3, I3, r3, k, e, q3⟩ => ?_)) hm
  subst e
  cases r3
  refine wpAny_truthy_bool ?_
  cases k with
  | false =>
    obtain ⟨k', e', q'⟩ := q3
    cases e'
    exact ite_ff ⟨H3, I3, q'⟩
  | true =>
    refine ite_tt (test_last (thn (hc pins s3 σ H3 _ I3 q3) fun w' s4 ⟨z', H4, I4, r4, q4⟩ => thn (ho' pins s4 σ H4 y z' u w' _ I4 r2 r4 q4) fun d' s5 ⟨z2, H5, I5, r5, k2, e2, q5⟩ => ?_))
    subst e2
    cases r5
    exact wpAny_truthy_bool ⟨H5, I5, q5⟩

/-! ### truth -/
/-- a value's truth by the abstract heap -/
def TruV (K : PySem.W.Frag) (x : V) (H : Hp) (k : Bool) : Prop :=
  match x with
  | .non => k = false
  | .bl b => k = b
  | .int i => k = (i != 0)
  | .str y => y.length ≤ sizeLine ∧ k = ((y.length : Int) != 0)
  | .byt y => y.size ≤ sizeLine ∧ k = ((y.size : Int) != 0)
  | .ref p => (∃ xs, SqL K H p xs ∧ k = !xs.isEmpty) ∨ (∃ xs, SqT K H p xs ∧ k = !xs.isEmpty) ∨ ∃ kvs, H p = some (.dK kvs) ∧ k = !kvs.isEmpty
  | _ => False
theorem isEmpty_kv {κ : Type} {kvs : List (κ × V)} {vs : List (κ × Value)} (r : KV kvs vs) : (!vs.isEmpty) = !kvs.isEmpty := by
  cases r <;> rfl
theorem isEmpty_of {xs : List V} {its : List Value} (r : Vals xs its) : (!its.toArray.isEmpty) = !xs.isEmpty := by
  cases r <;> simp
theorem line63 : (sizeLine : Nat) < 2 ^ 63 := by rw [sizeLine_eq]; decide
theorem tru_ok : TruR X (fun x H Q => ∃ k, TruV X.K x H k ∧ Q k H) := by
  intro pins s σ H x v Q I rx h
  obtain ⟨k, e, q⟩ := h
  have hl := line63
  have hs : sizeLine = 16777216 := sizeLine_eq
  cases x with
  | non =>
    cases rx
    have e' : k = false := e
    subst e'
    exact truthy_none ⟨H, I, q⟩
  | bl b =>
    cases rx
    have e' : k = b := e
    subst e'
    exact wpAny_truthy_bool ⟨H, I, q⟩
  | int i =>
    obtain ⟨t, rfl⟩ := rx
    have e' : k = (i != 0) := e
    subst e'
    exact PySem.P.truthy_int ⟨H, I, q⟩
  | str y =>
    obtain ⟨t, rfl⟩ := rx
    obtain ⟨hy, e'⟩ : y.length ≤ sizeLine ∧ k = ((y.length : Int) != 0) := e
    subst e'
    exact PySem.P.truthy_str (by omega) ⟨H, I.tok _, q⟩
  | byt y =>
    obtain ⟨t, rfl⟩ := rx
    obtain ⟨hy, e'⟩ : y.size ≤ sizeLine ∧ k = ((y.size : Int) != 0) := e
    subst e'
    exact PySem.W.truthy_bytes (by omega) ⟨H, I.tok _, q⟩
  | ref p =>
    cases rx
    have e' : (∃ xs, SqL X.K H p xs ∧ k = !xs.isEmpty) ∨ (∃ xs, SqT X.K H p xs ∧ k = !xs.isEmpty) ∨ ∃ kvs, H p = some (.dK kvs) ∧ k = !kvs.isEmpty := e
    rcases e' with ⟨xs, hx, e'⟩ | ⟨xs, hx, e'⟩ | ⟨kvs, hx, e'⟩
    · subst e'
      obtain ⟨its, r, pl, hz⟩ := I.list hx
      have hlen := r.length
      exact wpAny_truthy_list pl.isList (by simp only [List.size_toArray]; omega) ⟨H, I.tok _, by rw [isEmpty_of r]; exact q⟩
    · subst e'
      obtain ⟨its, r, pl, hz⟩ := I.tuple hx
      have hlen := r.length
      exact truthy_tuple pl (by simp only [List.size_toArray]; omega) ⟨H, I.tok _, by rw [isEmpty_of r]; exact q⟩
    · subst e'
      obtain ⟨hz, hS, vs, r, m⟩ : kvs.length ≤ sizeLine ∧ (p == sysModules) = false ∧ ∃ vs, KV kvs vs ∧ s.heap.DictOf (mixKind X.prog X.w) p vs := I.hok p _ hx
      have hlen : kvs.length = vs.length := Paired.length r
      exact wpAny_truthy_dict hS m (by omega) ⟨H, I.tok _, by rw [isEmpty_kv r]; exact q⟩
  | _ => exact (show False from e).elim
/-- any expression whose test is its value's truth (a name, a call, a subscript, a field ..: he by fun _ => rfl) -/
theorem pt_truth (ha : PE X a ta) (he : ∀ whole, isTrue a X.env whole = (do let v ← whole; standAt a.pos; holding [v] (truthy v))) :
    PT X a (fun σ H Q => ta σ H fun x H' => ∃ k, TruV X.K x H' k ∧ Q k H') := by
  intro pins s σ H Q I h
  exact isTrue_plain (thn (ha pins s σ H _ I h) fun v s1 ⟨x, H1, I1, r1, q1⟩ => tru_ok pins s1 σ H1 x v Q I1 r1 q1) (he _)

/-! ### strs and bytes -/
theorem pe_byt {x : List UInt8} {k : Nat} : PE X (.Constant (.bytes x) k pos) (fun _ H Q => Q (.byt x.toArray) H) := fun _ _ _ H _ I h => PySem.W.Constant_bytes ⟨.byt x.toArray, H, I.tok _, ⟨_, rfl⟩, h⟩
theorem op_add_str : OpR X (binaryOp .Add) (fun x y H Q => ∃ i j, x = .str i ∧ y = .str j ∧ i.length + j.length ≤ sizeLine ∧ Q (.str (i ++ j)) H) := by
  intro pins s σ H x y v u Q I rx ry h
  obtain ⟨i, j, rfl, rfl, hz, q⟩ := h
  obtain ⟨t, rfl⟩ := rx
  obtain ⟨t', rfl⟩ := ry
  exact add_str (fun t' tk => ⟨.str (i ++ j), H, I.tok _, ⟨_, rfl⟩, q⟩) hz
theorem iop_add_str : OpR X (inplaceOp .Add) (fun x y H Q => ∃ i j, x = .str i ∧ y = .str j ∧ i.length + j.length ≤ sizeLine ∧ Q (.str (i ++ j)) H) := by
  intro pins s σ H x y v u Q I rx ry h
  obtain ⟨i, j, rfl, rfl, hz, q⟩ := h
  obtain ⟨t, rfl⟩ := rx
  obtain ⟨t', rfl⟩ := ry
  exact iadd_str (fun t' tk => ⟨.str (i ++ j), H, I.tok _, ⟨_, rfl⟩, q⟩) hz
theorem op_add_byt : OpR X (binaryOp .Add) (fun x y H Q => ∃ i j, x = .byt i ∧ y = .byt j ∧ i.size + j.size ≤ 16777216 ∧ Q (.byt (i ++ j)) H) := by
  intro pins s σ H x y v u Q I rx ry h
  obtain ⟨i, j, rfl, rfl, hz, q⟩ := h
  obtain ⟨t, rfl⟩ := rx
  obtain ⟨t', rfl⟩ := ry
  exact PySem.W.KBy.add_bytes hz (fun t' tk => ⟨.byt (i ++ j), H, I.tok _, ⟨_, rfl⟩, q⟩)

def PlainIxT (b : Expr) : Prop := ∀ o i, subscripted b false o i = operate [o, i] (getItem o i)
/-- s[i], 0 ≤ i < len -/
theorem pe_item_str (ha : PE X a ta) (hb : PE X b tb) (hs : PlainIxT b) :
    PE X (.Subscript a b pos) (tOp (fun x y H Q => ∃ z i c, x = .str z ∧ y = .int i ∧ 0 ≤ i ∧ i < 2 ^ 63 ∧ i < z.length ∧ z.cps[i.toNat]? = some c ∧ Q (.str ⟨#[c]⟩) H) ta tb) := by
  intro pins s σ H Q I h
  refine Subscript_ (binT ha hb I h fun v u s2 x y H2 I2 rx ry q => ?_)
  obtain ⟨z, i, c, rfl, rfl, h0, h63, h1, hc, q⟩ := q
  obtain ⟨t, rfl⟩ := rx
  obtain ⟨t', rfl⟩ := ry
  have e : seqIndex? i z.length = some i.toNat := PySem.StrLaws.seqIndex_nonneg h0 h1
  exact tail_any (typeIs_str s2 z t) slot_str_getitem.lookup (getItem_str (c := c) (by
    have e1 : decide (i < -(2 ^ 63 : Int)) = false := decide_eq_false (by omega)
    have e2 : decide (i ≥ 2 ^ 63) = false := decide_eq_false (by omega)
    rw [e1, e2] <;> rfl) (by rw [e]; exact hc) ⟨.str ⟨#[c]⟩, H2, I2.tok _, ⟨_, rfl⟩, q⟩) (hs _ _)
/-- b[i], 0 ≤ i < len -/
theorem pe_item_byt (ha : PE X a ta) (hb : PE X b tb) (hs : PlainIxT b) :
    PE X (.Subscript a b pos) (tOp (fun x y H Q => ∃ (z : List UInt8) (i : Int), x = .byt z.toArray ∧ y = .int i ∧ z.length ≤ sizeLine ∧ 0 ≤ i ∧ i < z.length ∧ Q (.int ((z.getD i.toNat 0).toNat : Nat)) H) ta tb) := by
  intro pins s σ H Q I h
  refine Subscript_ (binT ha hb I h fun v u s2 x y H2 I2 rx ry q => ?_)
  obtain ⟨z, i, rfl, rfl, hz, h0, h1, q⟩ := q
  obtain ⟨t, rfl⟩ := rx
  obtain ⟨t', rfl⟩ := ry
  have hl : sizeLine = 16777216 := sizeLine_eq
  exact tail_any (PySem.W.typeIs_bytes s2 z.toArray t) PySem.W.FB.slot_bytes_getitem.lookup (PySem.W.getItem_bytes (by omega) h0 h1 ⟨.int ((z.getD i.toNat 0).toNat : Nat), H2, I2.tok _, ⟨_, rfl⟩, q⟩) (hs _ _)

/-! ### scalar builtins, by CallR -/
theorem vals1 {x : V} {us : List Value} (r : Vals [x] us) : ∃ u, us = [u] ∧ RelV x u := by
  cases r with
  | cons r1 r2 => cases r2; exact ⟨_, rfl, r1⟩
theorem vals2 {x y : V} {us : List Value} (r : Vals [x, y] us) : ∃ u w', us = [u, w'] ∧ RelV x u ∧ RelV y w' := by
  cases r with
  | cons r1 r2 =>
    cases r2 with
    | cons r3 r4 => cases r4; exact ⟨_, _, rfl, r1, r3⟩
theorem call_abs : CallR X (.builtin "abs") (fun xs H Q => ∃ i, xs = [.int i] ∧ Q (.int (if i < 0 then -i else i)) H) := by
  intro pins s σ H xs us Q I r h
  obtain ⟨i, rfl, q⟩ := h
  obtain ⟨u, rfl, t, rfl⟩ := vals1 r
  exact call_abs_int fun u tk => ⟨.int (if i < 0 then -i else i), H, I.tok _, ⟨_, rfl⟩, q⟩
theorem call_max2 (hc : X.calm = true) : CallR X (.builtin "max") (fun xs H Q => ∃ i j, xs = [.int i, .int j] ∧ Q (.int (if j > i then j else i)) H) := by
  intro pins s σ H xs us Q I r h
  obtain ⟨i, j, rfl, q⟩ := h
  obtain ⟨u, w', rfl, ⟨t, rfl⟩, ⟨t', rfl⟩⟩ := vals2 r
  refine max_two_ints (I.ok.hd hc) fun h' tk k => ⟨_, H, I.kept k, ?_, q⟩
  by_cases hj : j > i
  · rw [if_pos hj, if_pos hj]; exact ⟨_, rfl⟩
  · rw [if_neg hj, if_neg hj]; exact ⟨_, rfl⟩
theorem call_min2 (hc : X.calm = true) : CallR X (.builtin "min") (fun xs H Q => ∃ i j, xs = [.int i, .int j] ∧ Q (.int (if j < i then j else i)) H) := by
  intro pins s σ H xs us Q I r h
  obtain ⟨i, j, rfl, q⟩ := h
  obtain ⟨u, w', rfl, ⟨t, rfl⟩, ⟨t', rfl⟩⟩ := vals2 r
  refine min_two_ints (I.ok.hd hc) fun h' tk k => ⟨_, H, I.kept k, ?_, q⟩
  by_cases hj : j < i
  · rw [if_pos hj, if_pos hj]; exact ⟨_, rfl⟩
  · rw [if_neg hj, if_neg hj]; exact ⟨_, rfl⟩
theorem call_int1 : CallR X (.type "int") (fun xs H Q => (∃ i, xs = [.int i] ∧ Q (.int i) H) ∨ ∃ k, xs = [.bl k] ∧ Q (.int (if k then 1 else 0)) H) := by
  intro pins s σ H xs us Q I r h
  rcases h with ⟨i, rfl, q⟩ | ⟨k, rfl, q⟩
  · obtain ⟨u, rfl, t, rfl⟩ := vals1 r
    exact call_int_int ⟨.int i, H, I, ⟨_, rfl⟩, q⟩
  · obtain ⟨u, rfl, r1⟩ := vals1 r
    cases r1
    exact call_int_bool ⟨.int (if k then 1 else 0), H, I.tok _, ⟨_, rfl⟩, q⟩
theorem call_bool1 : CallR X (.type "bool") (fun xs H Q => (∃ i, xs = [.int i] ∧ Q (.bl (i != 0)) H) ∨ ∃ k, xs = [.bl k] ∧ Q (.bl k) H) := by
  intro pins s σ H xs us Q I r h
  rcases h with ⟨i, rfl, q⟩ | ⟨k, rfl, q⟩
  · obtain ⟨u, rfl, t, rfl⟩ := vals1 r
    exact call_bool_int ⟨.bl (i != 0), H, I, rfl, q⟩
  · obtain ⟨u, rfl, r1⟩ := vals1 r
    cases r1
    exact call_bool_bool ⟨.bl k, H, I, rfl, q⟩
theorem call_str_int : CallR X (.type "str") (fun xs H Q => ∃ i, xs = [.int i] ∧ i.natAbs.log2 < 1920 ∧ Q (.str (toString i)) H) := by
  intro pins s σ H xs us Q I r h
  obtain ⟨i, rfl, hz, q⟩ := h
  obtain ⟨u, rfl, t, rfl⟩ := vals1 r
  exact PySem.P.str_of_int hz ⟨.str _, H, I.tok _, ⟨_, rfl⟩, q⟩
theorem call_ord : CallR X (.builtin "ord") (fun xs H Q => ∃ x, xs = [.str x] ∧ x.length = 1 ∧ Q (.int (x.cps.getD 0 0 : Nat)) H) := by
  intro pins s σ H xs us Q I r h
  obtain ⟨x, rfl, hz, q⟩ := h
  obtain ⟨u, rfl, t, rfl⟩ := vals1 r
  exact ord_of_one hz ⟨.int _, H, I.tok _, ⟨_, rfl⟩, q⟩
theorem call_chr : CallR X (.builtin "chr") (fun xs H Q => ∃ i, xs = [.int i] ∧ 0 ≤ i ∧ i ≤ 1114111 ∧ Q (.str ⟨#[i.toNat]⟩) H) := by
  intro pins s σ H xs us Q I r h
  obtain ⟨i, rfl, h0, h1, q⟩ := h
  obtain ⟨u, rfl, t, rfl⟩ := vals1 r
  exact chr_of_range h0 h1 ⟨.str _, H, I.tok _, ⟨_, rfl⟩, q⟩
/-- len of a str, a bytes, a list, a tuple -/
def LenV (K : PySem.W.Frag) (x : V) (H : Hp) (n : Nat) : Prop :=
  match x with
  | .str y => y.length ≤ sizeLine ∧ n = y.length
  | .byt y => y.size ≤ sizeLine ∧ n = y.size
  | .ref p => (∃ xs, SqL K H p xs ∧ n = xs.length) ∨ ∃ xs, SqT K H p xs ∧ n = xs.length
  | _ => False
theorem call_len : CallR X (.builtin "len") (fun xs H Q => ∃ x n, xs = [x] ∧ LenV X.K x H n ∧ Q (.int n) H) := by
  intro pins s σ H xs us Q I r h
  obtain ⟨x, n, rfl, e, q⟩ := h
  obtain ⟨u, rfl, rx⟩ := vals1 r
  have hl := line63
  have hs : sizeLine = 16777216 := sizeLine_eq
  cases x with
  | str y =>
    obtain ⟨t, rfl⟩ := rx
    obtain ⟨hy, e'⟩ : y.length ≤ sizeLine ∧ n = y.length := e
    subst e'
    exact len_str (by omega) ⟨.int _, H, I.tok _, ⟨_, rfl⟩, q⟩
  | byt y =>
    obtain ⟨t, rfl⟩ := rx
    obtain ⟨hy, e'⟩ : y.size ≤ sizeLine ∧ n = y.size := e
    subst e'
    exact PySem.W.len_bytes (by omega) ⟨.int _, H, I.tok _, ⟨_, rfl⟩, q⟩
  | ref p =>
    cases rx
    have e' : (∃ xs, SqL X.K H p xs ∧ n = xs.length) ∨ ∃ xs, SqT X.K H p xs ∧ n = xs.length := e
    rcases e' with ⟨xs, hx, e'⟩ | ⟨xs, hx, e'⟩
    · subst e'
      obtain ⟨its, r', pl, hz⟩ := I.list hx
      have hlen := r'.length
      exact Calls.call_len_list pl.isList (by simp only [List.size_toArray]; omega) ⟨.int xs.length, H, I.tok _, ⟨_, by simp only [List.size_toArray]; rw [hlen]⟩, q⟩
    · subst e'
      obtain ⟨its, r', pl, hz⟩ := I.tuple hx
      have hlen := r'.length
      exact len_tuple pl (by simp only [List.size_toArray]; omega) ⟨.int xs.length, H, I.tok _, ⟨_, by simp only [List.size_toArray]; rw [hlen]⟩, q⟩
  | _ => exact (show False from e).elim
/-- divmod: a new tuple -/
theorem call_divmod : CallR X (.builtin "divmod") (fun xs H Q => ∃ i j, xs = [.int i, .int j] ∧ CDiv i j ∧ ∀ p, H p = none → Q (.ref p) (upd H p (.tup [.int (i / j), .int (i % j)]))) := by
  intro pins s σ H xs us Q I r h
  obtain ⟨i, j, rfl, ⟨h1, h2⟩, q⟩ := h
  obtain ⟨u, w', rfl, ⟨t, rfl⟩, ⟨t', rfl⟩⟩ := vals2 r
  refine divmod_int (by omega) ?_ (.inl (PyProof.noPylong_small (by omega)))
  rw [Int.fdiv_eq_ediv_of_nonneg i (by omega), Int.fmod_eq_emod_of_nonneg i (by omega)]
  have hn : H s.heap.objs.size = none := I.hok.fresh (Nat.le_refl _)
  refine ⟨.ref s.heap.objs.size, _, ?_, rfl, q _ hn⟩
  refine I.laid (fun b o e => Heap.get?_push_of_some _ e) (Nat.le_refl _) ⟨by simp only [List.length_cons, List.length_nil]; rw [sizeLine_eq]; decide, [.int (i / j) s.toks, .int (i % j) (s.toks + 1)], .cons ⟨_, rfl⟩ (.cons ⟨_, rfl⟩ .nil), ?_⟩
  exact ⟨_, Heap.get?_push_size s.heap rfl, rfl, 0, rfl⟩
end
end L2

namespace L2
open PySem PySem.Spec PyProof.Rows

/-! ### an instance, its attributes a map -/
structure ObjM (h : Heap) (x dx C : Addr) (mA : Str → Option Value) : Prop where
  obj : h.get? x = some (PySem.W.instObj C dx)
  ns : h.Ns1 dx mA
  ne : dx ≠ x

theorem lookIn_ns {h : Heap} {dx : Addr} {mA : Str → Option Value} (n : h.Ns1 dx mA) : ∃ od, h.get? dx = some od ∧ ∀ name, PySem.W.lookIn name od = some (mA name) := by
  obtain ⟨o, es, ep, ho, hd, hk, _, hm⟩ := n
  refine ⟨o, ho, fun name => ?_⟩
  have e := hm name
  unfold nsFind findBy at e
  rw [← Array.find?_toList] at e
  unfold PySem.W.lookIn
  rw [hd]
  dsimp only
  split
  · rename_i y q
    rw [q] at e
    exact congrArg some e
  · rename_i q
    rw [q] at e
    have a : es.toList.any (·.refKey) = false := by
      rw [List.any_eq_false]
      intro y hy
      obtain ⟨z, t, hkey⟩ := hk y (Array.mem_toList_iff.mp hy)
      simp [DictEntry.refKey, hkey]
    have a' : ¬ es.toList.any (·.refKey) = true := by rw [a]; exact Bool.false_ne_true
    rw [if_neg a']
    exact congrArg some e

theorem ObjM.look {h : Heap} {x dx C : Addr} {mA : Str → Option Value} (I : ObjM h x dx C mA) : ∃ od, PySem.W.InstAt h x (PySem.W.instObj C dx) C (some od) ∧ ∀ name, PySem.W.lookIn name od = some (mA name) :=
  let ⟨od, ho, hl⟩ := lookIn_ns I.ns
  ⟨od, ⟨I.obj, rfl, rfl, ho⟩, hl⟩

section
variable {prog : Program} {w : World} {A : Around} {E : Value → Shared → Prop} {s : Shared} {K : PySem.W.Frag} {x dx C f : Addr} {mA : Str → Option Value} {name : Str} {v : Value}

theorem get_map {expr : Bool} {Q : Value → Shared → Prop} (X : K.In s.heap) (I : ObjM s.heap x dx C mA) (hg : PySem.W.plainGet K C name = true) (hh : PySem.W.hasDictIn K C = true)
    (ha : PySem.W.findIn K (.ref C) name = some none) (hv : mA name = some v) (hv' : PySem.W.handedIn v = true) (h : Q v { s with toks := s.toks + 1 }) :
    wpAny (model prog w) A (getAttr (.ref x) name expr) Q E s := by
  obtain ⟨od, J, hl⟩ := I.look
  exact PySem.W.get_value X J (PySem.W.plainGet_of hg).1 (PySem.W.findObj_own hh ha rfl (by rw [hl, hv])) hv' h

theorem get_const {expr : Bool} {a : Value} {Q : Value → Shared → Prop} (X : K.In s.heap) (I : ObjM s.heap x dx C mA) (hg : PySem.W.plainGet K C name = true) (hh : PySem.W.hasDictIn K C = true)
    (ha : PySem.W.findIn K (.ref C) name = some (some a)) (hn : PySem.W.specialIn K a "__get__" = some none) (hc : PySem.W.copiedNames.contains name = false) (hv : mA name = none) (hv' : PySem.W.handedIn a = true)
    (h : Q a { s with toks := s.toks + 1 }) : wpAny (model prog w) A (getAttr (.ref x) name expr) Q E s := by
  obtain ⟨od, J, hl⟩ := I.look
  exact PySem.W.get_value X J (PySem.W.plainGet_of hg).1 (PySem.W.findObj_cls hh ha hn hv' hc (by rw [hl, hv])) hv' h

theorem get_meth {pl : Sem Bool} {Q : Value × List Value → Shared → Prop} (X : K.In s.heap) (I : ObjM s.heap x dx C mA) (hg : PySem.W.plainGet K C name = true)
    (hf : PySem.W.findIn K (.ref C) name = some (some (.ref f))) (ht : PySem.W.isFn K (.ref f) = true) (hv : mA name = none) (h : Q (.ref f, [.ref x]) s) :
    wpAny (model prog w) A (getMethod (.ref x) name pl) Q E s := by
  obtain ⟨od, J, hl⟩ := I.look
  exact PySem.W.method_fn X J (PySem.W.plainGet_of hg).1 (PySem.W.plainGet_of hg).2 hf (beq_iff_eq.mp ht) (by show (PySem.W.lookIn name od).map (·.isSome) = some false; rw [hl, hv]; rfl) h

theorem set_map {ns : List Str} {Q : Unit → Shared → Prop} (X : K.In s.heap) (I : ObjM s.heap x dx C mA)
    (hs : PySem.W.findIn K (.ref C) "__setattr__" = some (some (.builtin "object.__setattr__"))) (hp : PySem.W.plainOver K C = true) (ht : PySem.W.takerIn K C name = some none) (hh : PySem.W.hasDictIn K C = true)
    (hw : PySem.Within mA ns) (hsz : ns.length ≤ sizeLine)
    (h : ∀ h', ObjM h' x dx C (fun y => if y = name then some v else mA y) → Heap.SameBut dx s.heap h' → Q () { s with heap := h', toks := s.toks + 2 }) :
    wpAny (model prog w) A (setAttr (.ref x) name v) Q E s := by
  obtain ⟨od, J, hl⟩ := I.look
  refine PySem.W.set_plain X J hs (PySem.W.osa_open (s := { s with toks := s.toks + 1 }) (r := none) X J hp ht fun b => ?_)
  obtain ⟨cd, hc, hd'⟩ := PySem.W.any_some hh
  have hx : s.heap.get? x = some ⟨.ref C, some dx, .plain, #[]⟩ := I.obj
  refine wpAny_bind (wpAny_pure (wpAny_bind (wpAny_bind (wpAny_loadPart hx (wpAny_bind (PySem.W.Looks.here (s := { s with toks := s.toks + 1 }) (PySem.W.looks_clsIn X hc) ?_))))))
  rw [hd']
  refine wpAny_pure (a := some dx) (wpAny_bind (wpAny_pure (wpAny_bind ?_)))
  refine wpAny_nsSet1 (s := { s with toks := s.toks + 1 }) I.ns fun h' hn2 hs2 => ?_
  obtain ⟨oD, esD, epD, hoD, hdD, hcD⟩ := hn2.count (PySem.Within.cons name v hw)
  refine wpAny_bind (wpAny_lookBehind hoD (by rw [hdD]; exact pastItsLine_dict (Nat.le_trans hcD (by rw [List.length_cons]; omega))) ?_)
  exact wpAny_pure (h _ ⟨(hs2.2 _ (Ne.symm I.ne)).trans I.obj, hn2, I.ne⟩ hs2)

/-- C(..): the dict at the heap's end, the instance behind it; then its __init__ -/
theorem make_map {R : Result → Shared → Prop} {vs : List Value} {kw : List (Str × Value)} (X : K.In s.heap) (hm : PySem.W.makesIn K C = true)
    (hi : PySem.W.findIn K (.ref C) "__init__" = some (some (.ref f))) (hf : PySem.W.typeIn K (.ref f) = some (.type "function"))
    (h : codeAny (model prog w) (A.under (.builtin "type.__call__" ⟨.ref C :: vs, kw⟩)) (.call (.ref f) ⟨.ref (s.heap.objs.size + 1) :: vs, kw⟩) (PySem.W.InitBack (s.heap.objs.size + 1) R)
      { s with heap := (s.heap.push PySem.W.emptyDict).push (PySem.W.instObj C s.heap.objs.size) }) :
    codeAny (model prog w) A (.call (.ref C) ⟨vs, kw⟩) R s := by
  obtain ⟨hh, g, d, t, os⟩ := s
  exact PySem.W.make_core (PySem.W.makes_of X hm) (PySem.W.looks_findIn X hi) (fun self => PySem.W.bind_fn X self hf) (.inl rfl) h
/-- C() where there is no __init__ but object's -/
theorem make_map0 {R : Result → Shared → Prop} (X : K.In s.heap) (hm : PySem.W.makesIn K C = true)
    (hi : PySem.W.findIn K (.ref C) "__init__" = some (some (.builtin "object.__init__")))
    (hb : ∀ self, PySem.W.Looks (model prog w) s.heap (bindSpecial (.builtin "object.__init__") self) (.builtin "object.__init__", [self]))
    (h : codeAny (model prog w) (A.under (.builtin "type.__call__" ⟨[.ref C], []⟩)) (.call (.builtin "object.__init__") ⟨[.ref (s.heap.objs.size + 1)], []⟩) (PySem.W.InitBack (s.heap.objs.size + 1) R)
      { s with heap := (s.heap.push PySem.W.emptyDict).push (PySem.W.instObj C s.heap.objs.size) }) :
    codeAny (model prog w) A (.call (.ref C) ⟨[], []⟩) R s := by
  obtain ⟨hh, g, d, t, os⟩ := s
  exact PySem.W.make_core (PySem.W.makes_of X hm) (PySem.W.looks_findIn X hi) hb (.inr ⟨rfl, rfl⟩) h
end

/-! ### the attributes as a list of pairs -/
def putF (f : Str) (v : V) : List (Str × V) → List (Str × V)
  | [] => [(f, v)]
  | (g, x) :: r => if g = f then (g, v) :: r else (g, x) :: putF f v r
theorem lookup_putF (f g : Str) (v : V) : ∀ fs : List (Str × V), (putF f v fs).lookup g = if g = f then some v else fs.lookup g
  | [] => by
    show List.lookup g [(f, v)] = _
    by_cases h : g = f
    · have hb : (g == f) = true := beq_iff_eq.mpr h
      simp only [List.lookup, hb, if_pos h]
    · have hb : (g == f) = false := beq_eq_false_iff_ne.mpr h
      simp only [List.lookup, hb, if_neg h]
  | (k, x) :: r => by
    have ih := lookup_putF f g v r
    rw [show putF f v ((k, x) :: r) = (if k = f then (k, v) :: r else (k, x) :: putF f v r) from rfl]
    by_cases hk : k = f
    · rw [if_pos hk]
      by_cases h : g = k
      · have hb : (g == k) = true := beq_iff_eq.mpr h
        simp only [List.lookup, hb, if_pos (h.trans hk)]
      · have hb : (g == k) = false := beq_eq_false_iff_ne.mpr h
        simp only [List.lookup, hb, if_neg (fun e : g = f => h (e.trans hk.symm))]
    · rw [if_neg hk]
      by_cases h : g = k
      · have hb : (g == k) = true := beq_iff_eq.mpr h
        simp only [List.lookup, hb, if_neg (fun e : g = f => hk (h.symm.trans e))]
      · have hb : (g == k) = false := beq_eq_false_iff_ne.mpr h
        simp only [List.lookup, hb]
        exact ih
theorem keys_putF (f : Str) (v : V) : ∀ fs : List (Str × V), f ∈ (putF f v fs).map (·.1) ∧ ∀ g, g ∈ fs.map (·.1) → g ∈ (putF f v fs).map (·.1)
  | [] => ⟨by simp [putF], fun g h => by simp at h⟩
  | (k, x) :: r => by
    obtain ⟨i1, i2⟩ := keys_putF f v r
    rw [show putF f v ((k, x) :: r) = (if k = f then (k, v) :: r else (k, x) :: putF f v r) from rfl]
    by_cases hk : k = f
    · rw [if_pos hk]
      subst hk
      exact ⟨by simp, fun g h => by simpa using h⟩
    · rw [if_neg hk]
      refine ⟨?_, fun g h => ?_⟩
      · rw [List.map_cons]
        exact List.mem_cons_of_mem _ i1
      · rw [List.map_cons] at h ⊢
        rcases List.mem_cons.mp h with e | e
        · exact List.mem_cons.mpr (.inl e)
        · exact List.mem_cons_of_mem _ (i2 g e)
theorem length_putF (f : Str) (v : V) : ∀ fs : List (Str × V), (putF f v fs).length ≤ fs.length + 1
  | [] => by simp [putF]
  | (k, x) :: r => by
    have ih := length_putF f v r
    rw [show putF f v ((k, x) :: r) = (if k = f then (k, v) :: r else (k, x) :: putF f v r) from rfl]
    by_cases hk : k = f
    · rw [if_pos hk, List.length_cons, List.length_cons]; omega
    · rw [if_neg hk, List.length_cons, List.length_cons]; omega

theorem RelO.some_of {v : V} {o : Option Value} (r : RelO (some v) o) : ∃ u, o = some u ∧ RelV v u := by
  cases o with
  | none => exact (show False from r).elim
  | some u => exact ⟨u, rfl, r⟩
theorem RelO.none_of {o : Option Value} (r : RelO none o) : o = none := by
  cases o with
  | none => rfl
  | some u => exact (show False from r).elim
theorem handed_of {v : V} {u : Value} (r : RelV v u) : PySem.W.handedIn u = true := by
  cases v with
  | non => cases (show u = Value.none from r); rfl
  | bl b => cases (show u = Value.bool b from r); rfl
  | int i => obtain ⟨t, e⟩ := (show ∃ t, u = Value.int i t from r); cases e; rfl
  | str x => obtain ⟨t, e⟩ := (show ∃ t, u = Value.str x t from r); cases e; rfl
  | byt b => obtain ⟨t, e⟩ := (show ∃ t, u = Value.bytes b t from r); cases e; rfl
  | flt b => obtain ⟨t, e⟩ := (show ∃ t, u = Value.float b t from r); cases e; rfl
  | ref a => cases (show u = Value.ref a from r); rfl
  | ty n => cases (show u = Value.type n from r); rfl

section
variable {P : Program} {w : World} {H H' : Hp} {h h' : Heap} {a C dx : Addr} {fs fs' : List (Str × V)}
theorem ins_get (hok : HOk P w H h) (e : H a = some (.ins C dx fs)) : ∃ mA, ObjM h a dx C mA ∧ (∀ f, RelO (fs.lookup f) (mA f)) ∧ PySem.Within mA (fs.map (·.1)) ∧ fs.length ≤ 1000 ∧ H dx = some (.own a) := by
  obtain ⟨d, z, ne, ob, mA, n, r, q⟩ := (show ObjOk P w H h a (.ins C dx fs) from hok a _ e)
  exact ⟨mA, ⟨ob, n, ne⟩, r, q, z, d⟩
end

/-! ### what of the text a class must have -/
structure Cls (K : PySem.W.Frag) (C : Addr) : Prop where
  pg : PySem.W.plainGet K C Str.empty = true
  hd : PySem.W.hasDictIn K C = true
  po : PySem.W.plainOver K C = true
  sa : PySem.W.findIn K (.ref C) "__setattr__" = some (some (.builtin "object.__setattr__"))
theorem Cls.get {K : PySem.W.Frag} {C : Addr} (c : Cls K C) (f : Str) : PySem.W.plainGet K C f = true := c.pg
/-- no class of it has the name -/
def NoAttr (K : PySem.W.Frag) (C : Addr) (f : Str) : Prop := PySem.W.findIn K (.ref C) f = some none
theorem NoAttr.taker {K : PySem.W.Frag} {C : Addr} {f : Str} (n : NoAttr K C f) : PySem.W.takerIn K C f = some none := by
  unfold PySem.W.takerIn
  rw [show PySem.W.findIn K (.ref C) f = some none from n]
  rfl
/-- a constant of the class -/
structure Con (K : PySem.W.Frag) (C : Addr) (f : Str) (v : V) (u : Value) : Prop where
  at_ : PySem.W.findIn K (.ref C) f = some (some u)
  rel : RelV v u
  get : PySem.W.specialIn K u "__get__" = some none
  cp : PySem.W.copiedNames.contains f = false
/-- a method: a plain def of the class or of one above it -/
structure Meth (K : PySem.W.Frag) (C : Addr) (m : Str) (f : Addr) : Prop where
  at_ : PySem.W.findIn K (.ref C) m = some (some (.ref f))
  fn : PySem.W.isFn K (.ref f) = true
  kp : PySem.W.keepIn K (.ref f) = true

section
variable {X : Cx} {pins : List (Addr × Obj)} {σ : St} {H : Hp} {s : Shared} {a C dx : Addr} {fs : List (Str × V)} {f : Str} {v : V} {A : Around} {E : Value → Shared → Prop}

theorem getattr_ok {b : Bool} {Q : Value → Shared → Prop} (I : Inv X pins σ H s) (e : H a = some (.ins C dx fs)) (c : Cls X.K C) (n : NoAttr X.K C f) (l : fs.lookup f = some v)
    (h : ∀ u s', Inv X pins σ H s' → RelV v u → Q u s') : wpAny (model X.prog X.w) A (getAttr (.ref a) f b) Q E s := by
  obtain ⟨mA, O, r, _, _, _⟩ := ins_get I.hok e
  obtain ⟨u, hu, ru⟩ := RelO.some_of (v := v) (o := mA f) (by rw [← l]; exact r f)
  exact get_map I.kIn O (c.get f) c.hd n hu (handed_of ru) (h u _ (I.tok _) ru)

theorem getcon_ok {b : Bool} {u : Value} {Q : Value → Shared → Prop} (I : Inv X pins σ H s) (e : H a = some (.ins C dx fs)) (c : Cls X.K C) (k : Con X.K C f v u) (l : fs.lookup f = none)
    (h : ∀ s', Inv X pins σ H s' → Q u s') : wpAny (model X.prog X.w) A (getAttr (.ref a) f b) Q E s := by
  obtain ⟨mA, O, r, _, _, _⟩ := ins_get I.hok e
  have hn : mA f = none := RelO.none_of (by rw [← l]; exact r f)
  exact get_const I.kIn O (c.get f) c.hd k.at_ k.get k.cp hn (handed_of k.rel) (h _ (I.tok _))

theorem getmeth_ok {m : Str} {g : Addr} {pl : Sem Bool} {Q : Value × List Value → Shared → Prop} (I : Inv X pins σ H s) (e : H a = some (.ins C dx fs)) (c : Cls X.K C) (k : Meth X.K C m g) (l : fs.lookup m = none)
    (h : Q (.ref g, [.ref a]) s) : wpAny (model X.prog X.w) A (getMethod (.ref a) m pl) Q E s := by
  obtain ⟨mA, O, r, _, _, _⟩ := ins_get I.hok e
  have hn : mA m = none := RelO.none_of (by rw [← l]; exact r m)
  exact get_meth I.kIn O (c.get m) k.at_ k.fn hn h

theorem setattr_ok {y : V} {u : Value} {Q : Unit → Shared → Prop} (I : Inv X pins σ H s) (e : H a = some (.ins C dx fs)) (c : Cls X.K C) (n : NoAttr X.K C f) (hl : fs.length < 1000) (ry : RelV y u)
    (h : ∀ s', Inv X pins σ (upd H a (.ins C dx (putF f y fs))) s' → Q () s') : wpAny (model X.prog X.w) A (setAttr (.ref a) f u) Q E s := by
  obtain ⟨mA, O, r, wi, _, ho⟩ := ins_get I.hok e
  have hz : (fs.map (·.1)).length ≤ sizeLine := by rw [List.length_map, sizeLine_eq]; omega
  refine set_map I.kIn O c.sa c.po n.taker c.hd wi hz fun h' O' sb => h _ ?_
  have hd : ∃ o, h'.get? dx = some o := let ⟨o, _, _, e', _⟩ := O'.ns; ⟨o, e'⟩
  refine I.write (x := a) (e := dx) (by rw [e]; exact True.intro) (.inr ho) (fun b q hb z => (sb.2 b hb).trans z) hd ?_
  refine ⟨by rw [upd_ne O.ne]; exact ho, ?_, O.ne, O'.obj, _, O'.ns, fun g => ?_, fun g hg => ?_⟩
  · have := length_putF f y fs; omega
  · show RelO ((putF f y fs).lookup g) (if g = f then some u else mA g)
    rw [lookup_putF]
    by_cases q : g = f
    · rw [if_pos q, if_pos q]; exact ry
    · rw [if_neg q, if_neg q]; exact r g
  · by_cases q : g = f
    · rw [q]; exact (keys_putF f y fs).1
    · refine (keys_putF f y fs).2 g (wi g fun z => hg ?_)
      show (if g = f then some u else mA g) = none
      rw [if_neg q]; exact z

/-- a new instance, tracked, without attributes -/
theorem Inv.made (I : Inv X pins σ H s) : Inv X pins σ (upd (upd H s.heap.objs.size (.own (s.heap.objs.size + 1))) (s.heap.objs.size + 1) (.ins C s.heap.objs.size []))
    { s with heap := (s.heap.push PySem.W.emptyDict).push (PySem.W.instObj C s.heap.objs.size) } := by
  have e1 : (s.heap.push PySem.W.emptyDict).get? s.heap.objs.size = some PySem.W.emptyDict := Heap.get?_push_size s.heap rfl
  have e2 : ((s.heap.push PySem.W.emptyDict).push (PySem.W.instObj C s.heap.objs.size)).get? (s.heap.objs.size + 1) = some (PySem.W.instObj C s.heap.objs.size) := by
    have := Heap.get?_push_size (s.heap.push PySem.W.emptyDict) (o := PySem.W.instObj C s.heap.objs.size) rfl
    rwa [Heap.size_push] at this
  have e3 : (s.heap.push PySem.W.emptyDict).Ns s.heap.objs.size (fun _ => none) := ⟨PySem.W.emptyDict, #[], _, e1, rfl, (fun e he => absurd he (by simp)), fun _ => rfl⟩
  have I1 := I.laid (a := s.heap.objs.size) (o := .own (s.heap.objs.size + 1)) (h' := s.heap.push PySem.W.emptyDict) (t' := s.toks) (fun b u q => Heap.get?_push_of_some _ q) (Nat.le_refl _) ⟨_, e1⟩
  refine I1.laid (a := s.heap.objs.size + 1) (o := .ins C s.heap.objs.size []) (t' := s.toks) (fun b u q => Heap.get?_push_of_some _ q) (Nat.le_of_eq (Heap.size_push _ _)) ?_
  have ne : s.heap.objs.size ≠ s.heap.objs.size + 1 := Nat.ne_of_lt (Nat.lt_succ_self _)
  refine ⟨by rw [upd_ne ne, upd_same], Nat.zero_le _, ne, e2, fun _ => none, (Heap.Ns1.of_empty e3).at fun o q => Heap.get?_push_of_some _ q, fun _ => True.intro, fun y hy => absurd rfl hy⟩

/-- e.f where nothing but the object is asked: through attributeBase (super) and the last hold -/
theorem attr_of {prog : Program} {w : World} {env : Env} {e : Expr} {f : Str} {pos : Pos} {s : Shared} {Q : Value → Shared → Prop} (hb : attributeBase e f env (eval e env) = eval e env)
    (h : wpAny (model prog w) A (eval e env) (fun o s₁ => wpAny (model prog w) A (getAttr o f true) Q E s₁) E s) : wpAny (model prog w) A (eval (.Attribute e f pos) env) Q E s :=
  Attribute_any_ h (by rw [arm_eval_Attribute, hb])
end

/-! ### readings and rules -/
/-- e.f, an attribute of the instance -/
def tFld (K : PySem.W.Frag) (ta : TE) (f : Str) : TE := fun σ H Q => ta σ H fun x H1 => ∃ a C dx fs v, x = .ref a ∧ H1 a = some (.ins C dx fs) ∧ Cls K C ∧ NoAttr K C f ∧ fs.lookup f = some v ∧ Q v H1
/-- e.f, a constant of the class -/
def tCon (K : PySem.W.Frag) (ta : TE) (f : Str) : TE := fun σ H Q => ta σ H fun x H1 => ∃ a C dx fs v u, x = .ref a ∧ H1 a = some (.ins C dx fs) ∧ Cls K C ∧ Con K C f v u ∧ fs.lookup f = none ∧ Q v H1
/-- e.f = value -/
def sFld (K : PySem.W.Frag) (ta tv : TE) (f : Str) : TS := fun D σ H => tv σ H fun y H1 => ta σ H1 fun x H2 => ∃ a C dx fs, x = .ref a ∧ H2 a = some (.ins C dx fs) ∧ Cls K C ∧ NoAttr K C f ∧ fs.length < 1000 ∧
  D.nx σ (upd H2 a (.ins C dx (putF f y fs)))
/-- an augmented operator on two values -/
def InOp (X : Cx) (op : Operator) (rd : V → V → Hp → VK → Prop) : Prop :=
  ∀ (pins : List (Addr × Obj)) (s : Shared) (σ : St) (H : Hp) (x y : V) (u v : Value) (Q : VK), Inv X pins σ H s → RelV x u → RelV y v → rd x y H Q → wpAny (model X.prog X.w) X.A (inplaceOp op u v) (EP X pins σ Q) X.xe s
/-- e.f op= value -/
def sFldAug (K : PySem.W.Frag) (ta tv : TE) (rd : V → V → Hp → VK → Prop) (f : Str) : TS := fun D σ H => ta σ H fun x H1 => ∃ a C dx fs v, x = .ref a ∧ H1 a = some (.ins C dx fs) ∧ Cls K C ∧ NoAttr K C f ∧ fs.lookup f = some v ∧
  tv σ H1 fun y H2 => rd v y H2 fun z H3 => ∃ dx' fs', H3 a = some (.ins C dx' fs') ∧ fs'.length < 1000 ∧ D.nx σ (upd H3 a (.ins C dx' (putF f z fs')))

section
variable {X : Cx} {o e value : Expr} {f : Str} {pos pos' tpos : Pos} {ta tv : TE}
theorem pe_fld (he : PE X e ta) (hb : attributeBase e f X.env (eval e X.env) = eval e X.env) : PE X (.Attribute e f pos) (tFld X.K ta f) := by
  intro pins s σ H Q I h
  refine attr_of hb (thn (he pins s σ H _ I h) fun u s1 ⟨x, H1, I1, rx, a, C, dx, fs, v, ex, ea, c, n, l, q⟩ => ?_)
  subst ex
  obtain rfl : u = Value.ref a := rx
  exact getattr_ok I1 ea c n l fun u' s2 I2 ru => ⟨v, H1, I2, ru, q⟩
theorem pe_con (he : PE X e ta) (hb : attributeBase e f X.env (eval e X.env) = eval e X.env) : PE X (.Attribute e f pos) (tCon X.K ta f) := by
  intro pins s σ H Q I h
  refine attr_of hb (thn (he pins s σ H _ I h) fun u s1 ⟨x, H1, I1, rx, a, C, dx, fs, v, u0, ex, ea, c, k, l, q⟩ => ?_)
  subst ex
  obtain rfl : u = Value.ref a := rx
  exact getcon_ok I1 ea c k l fun s2 I2 => ⟨v, H1, I2, k.rel, q⟩
theorem ps_fld (ha : PE X o ta) (hv : PE X value tv) (hs : swapsWith value (some (.Attribute o f pos')) pos.line X.env = pure false) : PS X (.Assign [.Attribute o f pos'] value pos) (sFld X.K ta tv f) := by
  intro pins s σ H D I h
  refine plainObj_wpAny_Assign_Attribute (thn (hv pins s σ H _ I h) fun u s1 ⟨y, H1, I1, ry, q⟩ => thn (ha pins s1 σ H1 _ I1 q) fun ov s2 ⟨x, H2, I2, rx, a, C, dx, fs, ex, ea, c, n, l, q2⟩ => ?_) hs
  subst ex
  obtain rfl : ov = Value.ref a := rx
  exact setattr_ok I2 ea c n l ry fun s3 I3 => ⟨σ, _, I3, q2⟩
theorem ps_fldaug {op : Operator} {rd : V → V → Hp → VK → Prop} (ha : PE X o ta) (hv : PE X value tv) (hop : InOp X op rd) : PS X (.AugAssign (.Attribute o f tpos) op value pos) (sFldAug X.K ta tv rd f) := by
  intro pins s σ H D I h
  refine wpAny_AugAssign_AttributeAny (thn (ha pins s σ H _ I h) fun ov s1 ⟨x, H1, I1, rx, a, C, dx, fs, v, ex, ea, c, n, l, q⟩ => ?_)
  subst ex
  obtain rfl : ov = Value.ref a := rx
  refine getattr_ok I1 ea c n l fun u s2 I2 ru => thn (hv pins s2 σ H1 _ I2 q) fun w3 s3 ⟨y, H2, I3, ry, q3⟩ => thn (hop pins s3 σ H2 v y u w3 _ I3 ru ry q3) fun w4 s4 ⟨z, H3, I4, rz, dx', fs', ea', l', q4⟩ => ?_
  exact setattr_ok I4 ea' c n l' rz fun s5 I5 => ⟨σ, _, I5, q4⟩
def rAdd : V → V → Hp → VK → Prop := fun x y H Q => ∃ i j, x = .int i ∧ y = .int j ∧ Q (.int (i + j)) H
def rSub : V → V → Hp → VK → Prop := fun x y H Q => ∃ i j, x = .int i ∧ y = .int j ∧ Q (.int (i - j)) H
theorem in_add : InOp X .Add rAdd := by
  rintro pins s σ H x y u v Q I rx ry ⟨i, j, rfl, rfl, q⟩
  obtain ⟨t, rfl⟩ := (show ∃ t, u = Value.int i t from rx)
  obtain ⟨t', rfl⟩ := (show ∃ t', v = Value.int j t' from ry)
  exact PyProof.Rows.iadd_int ⟨.int (i + j), H, I.tok _, ⟨_, rfl⟩, q⟩
theorem in_sub : InOp X .Sub rSub := by
  rintro pins s σ H x y u v Q I rx ry ⟨i, j, rfl, rfl, q⟩
  obtain ⟨t, rfl⟩ := (show ∃ t, u = Value.int i t from rx)
  obtain ⟨t', rfl⟩ := (show ∃ t', v = Value.int j t' from ry)
  exact PyProof.Rows.isub_int ⟨.int (i - j), H, I.tok _, ⟨_, rfl⟩, q⟩

/-- what is between an instance and its method: the tree of a method call -/
theorem methcall_of {pl : Sem Bool} {m : Str} {apos : Pos} {args : List Expr} {pins : List (Addr × Obj)} {s : Shared} {σ : St} {H : Hp} {Q : Value → Shared → Prop} {te : TE} (he : PE X e te) (I : Inv X pins σ H s)
    (h : te σ H fun x H1 => ∃ a C dx fs g, x = .ref a ∧ H1 a = some (.ins C dx fs) ∧ Cls X.K C ∧ Meth X.K C m g ∧ fs.lookup m = none ∧
      ∀ s1, Inv X pins σ H1 s1 → wpAny (model X.prog X.w) X.A (callWith pos (.ref g) [.ref a] (backTo pos (starEach args X.env)) (backToKw pos (keywordEach [] X.env))) Q X.xe s1)
    (ht : eval (.Call (.Attribute e m apos) args [] pos) X.env = (do
      let ov ← eval e X.env
      standAt apos.atName
      let (f, first) ← holding [ov] (getMethod ov m pl)
      callWith pos f first (backTo pos (starEach args X.env)) (backToKw pos (keywordEach [] X.env)))) :
    wpAny (model X.prog X.w) X.A (eval (.Call (.Attribute e m apos) args [] pos) X.env) Q X.xe s := by
  refine PySem.W.methodCall_KW (pl := pl) (thn (he pins s σ H _ I h) fun u s1 ⟨x, H1, I1, rx, a, C, dx, fs, g, ex, ea, c, k, l, q⟩ => ?_) ht
  subst ex
  obtain rfl : u = Value.ref a := rx
  exact getmeth_ok I1 ea c k l (q s1 I1)
end

/-! ### isinstance -/
section
variable {X : Cx} {pins : List (Addr × Obj)} {σ : St} {H : Hp} {s : Shared} {A : Around} {E : Value → Shared → Prop} {Q : Value → Shared → Prop} {c : Value} {b : Bool}
/-- the type of a value, as the fragment's deciders take it; for an instance its class -/
inductive TyOf (K : PySem.W.Frag) (H : Hp) : V → Value → Prop where
  | non : TyOf K H .non (.type "NoneType")
  | bl (x : Bool) : TyOf K H (.bl x) (.type "bool")
  | int (i : Int) : TyOf K H (.int i) (.type "int")
  | str (x : Str) : TyOf K H (.str x) (.type "str")
  | flt (x : UInt64) : TyOf K H (.flt x) (.type "float")
  | lst {a : Addr} {xs : List V} (e : H a = some (.lst xs)) : TyOf K H (.ref a) (.type "list")
  | frz {a : Addr} {o : Obj} {xs : List V} (e : H a = some (.frz o (.lst xs))) : TyOf K H (.ref a) (.type "list")
  | tup {a : Addr} {xs : List V} (e : H a = some (.tup xs)) : TyOf K H (.ref a) (.type "tuple")
  | dK {a : Addr} {kvs : List (Key × V)} (e : H a = some (.dK kvs)) : TyOf K H (.ref a) (.type "dict")
  | dT {a : Addr} {kvs : List (List Key × V)} (e : H a = some (.dT kvs)) : TyOf K H (.ref a) (.type "dict")
  | ins {a C dx : Addr} {fs : List (Str × V)} (e : H a = some (.ins C dx fs)) (cl : Cls K C) (ha : PySem.W.findIn K (.ref C) "__class__" = some (some (.builtin "object.__class__")))
      (hn : PySem.W.specialIn K (.builtin "object.__class__") "__get__" = some (some (.builtin "getset_descriptor.__get__"))) (htk : PySem.W.takesIn K (.builtin "object.__class__") = some true)
      (hm : PySem.W.mroIn K C (.type "object") = some true) : TyOf K H (.ref a) (.ref C)
/-- isinstance(x, c) for one class c, a built-in or an own one: kitOne's answer -/
theorem isinst_ok {x : V} {u t : Value} (I : Inv X pins σ H s) (rx : RelV x u) (ty : TyOf X.K H x t) (e : PySem.W.kitOne X.K t c = some b) (h : ∀ tk, Q (.bool b) { s with toks := tk }) :
    wpAny (model X.prog X.w) A (call (.builtin "isinstance") [u, c]) Q E s := by
  cases ty with
  | non => cases (show u = Value.none from rx); exact PySem.W.kia_one PySem.W.kitx_none I.kIn True.intro e (fun z => nomatch z) h
  | bl y => cases (show u = Value.bool y from rx); exact PySem.W.kia_one PySem.W.kitx_bool I.kIn True.intro e (fun z => nomatch z) h
  | int i => obtain ⟨t, q⟩ := (show ∃ t, u = Value.int i t from rx); cases q; exact PySem.W.kia_one PySem.W.kitx_int I.kIn True.intro e (fun z => nomatch z) h
  | str y => obtain ⟨t, q⟩ := (show ∃ t, u = Value.str y t from rx); cases q; exact PySem.W.kia_one PySem.W.kitx_str I.kIn True.intro e (fun z => nomatch z) h
  | flt y => obtain ⟨t, q⟩ := (show ∃ t, u = Value.float y t from rx); cases q; exact PySem.W.kia_one PySem.W.kitx_float I.kIn True.intro e (fun z => nomatch z) h
  | @lst a xs ea =>
    cases (show u = Value.ref a from rx)
    obtain ⟨_, _, n, _, h1⟩ := (show ObjOk X.prog X.w H s.heap a (.lst xs) from I.hok a _ ea)
    exact PySem.W.kia_one PySem.W.kitx_list I.kIn ⟨_, h1, rfl⟩ e (fun z => nomatch z) h
  | @frz a ob xs ea =>
    cases (show u = Value.ref a from rx)
    obtain ⟨_, _, _, n, _, h1⟩ := (show ObjOk X.prog X.w H s.heap a (.frz ob (.lst xs)) from I.hok a _ ea)
    exact PySem.W.kia_one PySem.W.kitx_list I.kIn ⟨_, h1, rfl⟩ e (fun z => nomatch z) h
  | @tup a xs ea =>
    cases (show u = Value.ref a from rx)
    obtain ⟨_, _, _, p⟩ := (show ObjOk X.prog X.w H s.heap a (.tup xs) from I.hok a _ ea)
    obtain ⟨o, h1, h2, _⟩ := p
    exact PySem.W.kia_one PySem.W.kitx_tuple I.kIn ⟨o, h1, h2⟩ e (fun z => nomatch z) h
  | @dK a kvs ea =>
    cases (show u = Value.ref a from rx)
    obtain ⟨_, _, vs, _, p⟩ := (show ObjOk X.prog X.w H s.heap a (.dK kvs) from I.hok a _ ea)
    obtain ⟨o, es, ep, h1, h2, _⟩ := p
    exact PySem.W.kia_one PySem.W.kitx_dict I.kIn ⟨o, h1, h2.1⟩ e (fun z => nomatch z) h
  | @dT a kvs ea =>
    cases (show u = Value.ref a from rx)
    obtain ⟨_, _, xs, _, o, es, ep, h1, h2, _⟩ := (show ObjOk X.prog X.w H s.heap a (.dT kvs) from I.hok a _ ea)
    exact PySem.W.kia_one PySem.W.kitx_dict I.kIn ⟨o, h1, h2.1⟩ e (fun z => nomatch z) h
  | @ins a C dx fs ea cl ha hn htk hm =>
    cases (show u = Value.ref a from rx)
    obtain ⟨mA, O, _⟩ := ins_get I.hok ea
    obtain ⟨od, J, _⟩ := O.look
    exact PySem.W.kia_one (PySem.W.kitx_own (cl.get _) cl.hd ha hn htk hm) I.kIn J e (fun z => nomatch z) h
end
end L2

namespace L2
open PySem PySem.Spec PyProof.Rows

/-! ### room -/
structure Room (k : Nat) (A : Around) : Prop where
  hd : A.handled = none
  dp : A.depth + 3 * k + 5 < recursionLimit
  un : A.units + 16 * k + 200 < cLine
  gd : A.guards = some []
theorem Room.mono {j k : Nat} {A : Around} (r : Room k A) (h : j ≤ k) : Room j A := ⟨r.hd, by have := r.dp; omega, by have := r.un; omega, r.gd⟩
theorem Room.deeper {k : Nat} {A : Around} (r : Room (k + 1) A) (env : Env) : Room k (A.deeper env) :=
  ⟨r.hd, by have := r.dp; show A.depth + 1 + 3 * k + 5 < _; omega, by have := r.un; show A.units + 3 + 16 * k + 200 < _; omega, r.gd⟩
theorem Room.in1 {k : Nat} {A : Around} (r : Room (k + 1) A) : Room k A.in1 :=
  ⟨r.hd, by have := r.dp; show A.depth + 3 * k + 5 < _; omega, by have := r.un; show A.units + 1 + 16 * k + 200 < _; omega, r.gd⟩
theorem make_depth {A : Around} {C : Addr} {us : List Value} {kw : List (Str × Value)} : (A.under (.builtin "type.__call__" ⟨.ref C :: us, kw⟩)).depth = A.depth + 1 := by
  first | rfl | simp [Around.under, Code.weight, Code.isCreation, Code.isGuard, Code.isCaller, Code.frames, Code.isFrame, guardIds]
theorem make_units {A : Around} {C : Addr} {us : List Value} {kw : List (Str × Value)} : (A.under (.builtin "type.__call__" ⟨.ref C :: us, kw⟩)).units = A.units + 1 := by
  first | rfl | simp [Around.under, Code.cUnits, Code.frames, Code.isFrame]
theorem make_guards {A : Around} {C : Addr} {us : List Value} {kw : List (Str × Value)} (h : A.guards = some []) : (A.under (.builtin "type.__call__" ⟨.ref C :: us, kw⟩)).guards = some [] := by
  first | exact h | (show pushGuards _ A.guards = _; rw [h]; rfl) | (simp [Around.under, Code.guards, pushGuards, Code.isGuard, guardIds, h])
theorem Room.make {k : Nat} {A : Around} (r : Room (k + 1) A) (C : Addr) (us : List Value) (kw : List (Str × Value)) : Room k (A.under (.builtin "type.__call__" ⟨.ref C :: us, kw⟩)) :=
  ⟨r.hd, by have := r.dp; rw [make_depth]; omega, by have := r.un; rw [make_units]; omega, make_guards r.gd⟩
theorem Room.depth {k : Nat} {A : Around} (r : Room k A) : A.depth < recursionLimit := by have := r.dp; omega
theorem Room.units {k : Nat} {A : Around} (r : Room k A) : A.units + 64 < cLine := by have := r.un; omega
theorem Room.units0 {k : Nat} {A : Around} (r : Room k A) : A.units < cLine := by have := r.un; omega

/-! ### argument lists and displays -/
def tNil : TA := fun _ H Q => Q [] H
def tCons (ta : TE) (tr : TA) : TA := fun σ H Q => ta σ H fun x H1 => tr σ H1 fun xs H2 => Q (x :: xs) H2
section
variable {X : Cx} {e : Expr} {es : List Expr} {te : TE} {t : TA} {pos : Pos}
theorem pa_nil : PA X [] tNil := fun _ _ _ _ H Q I h => Calls.spliced_nil ⟨[], H, I, .nil, h⟩
theorem pa_cons (ha : PE X e te) (hr : PA X es t) (hs : starEach (e :: es) X.env = (false, eval e X.env) :: starEach es X.env := by rfl) : PA X (e :: es) (tCons te t) := by
  intro pos pins s σ H Q I h
  rw [hs]
  show wpAny _ _ (spliced ((false, eval e X.env) :: backTo pos (starEach es X.env))) _ _ s
  refine Calls.spliced_cons (thn (ha pins s σ H _ I h) fun u s1 ⟨x, H1, I1, r1, q1⟩ => ?_)
  exact thn (hr pos pins s1 σ H1 _ I1 q1) fun us s2 ⟨xs, H2, I2, r2, q2⟩ => ⟨x :: xs, H2, I2, .cons r1 r2, q2⟩

/-- a tuple, a list of written items -/
def tTup (t : TA) : TE := fun σ H Q => t σ H fun xs H1 => xs.length ≤ sizeLine ∧ ∀ p, H1 p = none → Q (.ref p) (upd H1 p (.tup xs))
def tLst (t : TA) : TE := fun σ H Q => t σ H fun xs H1 => xs.length ≤ sizeLine ∧ ∀ p, H1 p = none → Q (.ref p) (upd H1 p (.lst xs))
theorem pe_tup {x1} (h : PA X es t) : PE X (.Tuple es x1 pos) (tTup t) := by
  intro pins s σ H Q I hq
  refine wpAny_Tuple_spliced (thn (h pos pins s σ H _ I hq) fun us s1 ⟨xs, H1, I1, r, z, q⟩ => ⟨by rw [← r.length]; exact z, ?_⟩)
  have hf : H1 s1.heap.objs.size = none := I1.hok.fresh (Nat.le_refl _)
  refine ⟨.ref s1.heap.objs.size, upd H1 s1.heap.objs.size (.tup xs), I1.laid (t' := s1.toks) (fun b u e => Heap.get?_push_of_some _ e) (Nat.le_refl _) ?_, rfl, q _ hf⟩
  exact ⟨z, us, r, ⟨_, Heap.get?_push_size _ rfl, rfl, _, rfl⟩⟩
theorem pe_lst (h : PA X es t) : PE X (.List es pos) (tLst t) := by
  intro pins s σ H Q I hq
  refine wpAny_List_spliced (thn (h pos pins s σ H _ I hq) fun us s1 ⟨xs, H1, I1, r, z, q⟩ => ⟨by rw [← r.length]; exact z, ?_⟩)
  have hf : H1 s1.heap.objs.size = none := I1.hok.fresh (Nat.le_refl _)
  refine ⟨.ref s1.heap.objs.size, upd H1 s1.heap.objs.size (.lst xs), I1.laid (t' := s1.toks) (fun b u e => Heap.get?_push_of_some _ e) (Nat.le_refl _) ?_, rfl, q _ hf⟩
  exact ⟨z, us, 0, r, Heap.get?_push_size _ rfl⟩
end

/-! ### what a def promises -/
/-- a def's promise: the bound arguments in the parameters' order, the heap, the wanted end, the wanted exception -/
abbrev Sp := List V → Hp → VK → XK → Prop
/-- how an exception lies behind a call (file 08 gives it): the callers' frames, abstract heap and state ahead of the call, the wish, the exception, the state -/
abbrev CXT := List Env → Hp → Shared → XK → Value → Shared → Prop

/-- the state at a call -/
structure Env0 (P : Program) (w : World) (K : PySem.W.Frag) (mg : Str → Option Value) (base : Heap) (A : Around) (outer : List Env) (s : Shared) (H : Hp) : Prop where
  frames : A.frames = some outer
  mod : Mod K mg base
  bs : ∀ b o, base.get? b = some o → s.heap.get? b = some o ∧ H b = none
  bsz : base.objs.size ≤ s.heap.objs.size
  funs : s.heap.FunFrames base outer
  frf : ∀ b ∈ frs outer, H b = none
  hok : HOk P w H s.heap
  bare : AllBare s.gens
/-- a call's end -/
def CE (outer : List Env) (P : Program) (w : World) (H : Hp) (s : Shared) (Q : VK) (u : Value) (s' : Shared) : Prop :=
  ∃ v H', s'.os = s.os ∧ AllBare s'.gens ∧ Un (frs outer) [] H H' s.heap s'.heap ∧ HOk P w H' s'.heap ∧ RelV v u ∧ Q v H'
def CR (CX : CXT) (outer : List Env) (P : Program) (w : World) (H : Hp) (s : Shared) (Q : VK) (E : XK) (r : Result) (s' : Shared) : Prop :=
  match r with
  | .ok (.ret u) => CE outer P w H s Q u s'
  | .ok _ => False
  | .error e => CX outer H s E e s'
structure FnOk (P : Program) (w : World) (K : PySem.W.Frag) (mg : Str → Option Value) (base : Heap) (CX : CXT) (k : Nat) (f : Addr) (fd : FuncData) (ps : List Str) (sp : Sp) : Prop where
  len : ∀ vs H Q E, sp vs H Q E → vs.length = ps.length
  run : ∀ (A : Around) (outer : List Env) (s : Shared) (H : Hp) (args : Args) (us : List Value) (vs : List V) (Q : VK) (E : XK), Room k A → Env0 P w K mg base A outer s H → BindsTo s fd args (ps.zip us) → Vals vs us → sp vs H Q E →
    codeAny (model P w) A (.call (.ref f) args) (CR CX outer P w H s Q E) s
theorem FnOk.mono {P : Program} {w : World} {K : PySem.W.Frag} {mg : Str → Option Value} {base : Heap} {CX : CXT} {j k : Nat} {f : Addr} {fd : FuncData} {ps : List Str} {sp : Sp} (F : FnOk P w K mg base CX j f fd ps sp) (h : j ≤ k) :
    FnOk P w K mg base CX k f fd ps sp := ⟨F.len, fun A outer s H args us vs Q E hr => F.run A outer s H args us vs Q E (hr.mono h)⟩
/-- a weaker promise -/
theorem FnOk.imp {P : Program} {w : World} {K : PySem.W.Frag} {mg : Str → Option Value} {base : Heap} {CX : CXT} {k : Nat} {f : Addr} {fd : FuncData} {ps : List Str} {sp sp' : Sp} (F : FnOk P w K mg base CX k f fd ps sp)
    (h : ∀ vs H Q E, sp' vs H Q E → sp vs H Q E) : FnOk P w K mg base CX k f fd ps sp' :=
  ⟨fun vs H Q E q => F.len vs H Q E (h _ _ _ _ q), fun A outer s H args us vs Q E hr he hb hv hs => F.run A outer s H args us vs Q E hr he hb hv (h _ _ _ _ hs)⟩

theorem Env0.make {P : Program} {w : World} {K : PySem.W.Frag} {mg : Str → Option Value} {base : Heap} {A : Around} {outer : List Env} {s : Shared} {H : Hp} (e : Env0 P w K mg base A outer s H) (C : Addr) (us : List Value) (kw : List (Str × Value)) :
    Env0 P w K mg base (A.under (.builtin "type.__call__" ⟨.ref C :: us, kw⟩)) outer s H := ⟨by first | exact e.frames | (simpa [Around.under, Code.envs, Code.isFrame, pushEnvs] using e.frames), e.mod, e.bs, e.bsz, e.funs, e.frf, e.hok, e.bare⟩
theorem Env0.in1 {P : Program} {w : World} {K : PySem.W.Frag} {mg : Str → Option Value} {base : Heap} {A : Around} {outer : List Env} {s : Shared} {H : Hp} (e : Env0 P w K mg base A outer s H) :
    Env0 P w K mg base A.in1 outer s H := ⟨e.frames, e.mod, e.bs, e.bsz, e.funs, e.frf, e.hok, e.bare⟩

section
variable {X : Cx} {pins : List (Addr × Obj)} {σ : St} {H : Hp} {s s' : Shared}
/-- from a body: what a callee wants -/
theorem Inv.env0 (I : Inv X pins σ H s) : Env0 X.prog X.w X.K X.mg X.base X.A X.stack s H :=
  ⟨I.ok.frames, I.ok.mod, I.bs, Nat.le_trans I.ok.bsz I.sz, I.stack, I.stkFree, I.hok, I.bare⟩
/-- behind a call -/
theorem Inv.after {Q : VK} {u : Value} (I : Inv X pins σ H s) (h : CE X.stack X.prog X.w H s Q u s') : EP X pins σ Q u s' := by
  obtain ⟨v, H', os, bare, un, hok, r, q⟩ := h
  obtain ⟨hh, g, d, t, os'⟩ := s'
  obtain rfl : os' = s.os := os
  exact ⟨v, H', I.call (h' := hh) (g' := g) (d' := d) (t' := t) (ch := []) un hok bare (fun b z => absurd z (by simp)), r, q⟩
end

/-! ### calls -/
/-- f(..): the written arguments, then the defaults dvs; E: what is wanted of an exception -/
def tCall (sp : Sp) (dvs : List V) (E : XK) (t : TA) : TE := fun σ H Q => t σ H fun vs H1 => sp (vs ++ dvs) H1 Q E
/-- o.m(..) of an instance of the class at C -/
def tMeth (C : Addr) (m : Str) (sp : Sp) (dvs : List V) (E : XK) (ta : TE) (t : TA) : TE := fun σ H Q => ta σ H fun x H1 => ∃ a dx fs, x = .ref a ∧ H1 a = some (.ins C dx fs) ∧ fs.lookup m = none ∧
  t σ H1 fun vs H2 => sp (x :: (vs ++ dvs)) H2 Q E
/-- C(..): a new instance and its dict, then __init__ -/
def tMake (C : Addr) (sp : Sp) (dvs : List V) (E : XK) (t : TA) : TE := fun σ H Q => t σ H fun vs H1 => ∀ x dx, H1 x = none → H1 dx = none → dx ≠ x →
  sp (.ref x :: (vs ++ dvs)) (upd (upd H1 dx (.own x)) x (.ins C dx [])) (fun v H2 => v = .non ∧ Q (.ref x) H2) E

/-- how the parameters are bound: us the positional arguments, kw the keywords' values by name, ds the defaults that fill up -/
def Binds (K : PySem.W.Frag) (fd : FuncData) (ps : List Str) (ds : List Value) : Prop :=
  ∀ (s : Shared) (us : List Value), K.In s.heap → (us ++ ds).length = ps.length → BindsTo s fd ⟨us, []⟩ (ps.zip (us ++ ds))
/-- every parameter is given -/
theorem Binds.all {K : PySem.W.Frag} {fd : FuncData} {ps : List Str} (h : ∀ us : List Value, us.length = ps.length → bindArgs fd ⟨us, []⟩ = pure (ps.zip us)) : Binds K fd ps [] := fun s us _ hl => by
  rw [List.append_nil] at hl ⊢
  exact .of_eq (h us hl)

/-- an exception of a callee reaches what this body wants of exceptions -/
def Passes (CX : CXT) (X : Cx) (E : XK) : Prop := ∀ (pins : List (Addr × Obj)) (σ : St) (H : Hp) (s : Shared) (e : Value) (s' : Shared), Inv X pins σ H s → CX X.stack H s E e s' → X.xe e s'

section
variable {X : Cx} {CX : CXT} {k : Nat} {f C : Addr} {fd : FuncData} {ps : List Str} {sp : Sp} {dvs : List V} {ds : List Value} {E : XK} {x m : Str} {p pos apos : Pos} {e o : Expr} {es : List Expr} {ta : TE} {t : TA}

/-- the callee runs -/
theorem run_fn {pins : List (Addr × Obj)} {σ : St} {H : Hp} {s : Shared} {Q : VK} {us : List Value} {vs : List V} (F : FnOk X.prog X.w X.K X.mg X.base CX k f fd ps sp) (hr : Room k X.A) (hb : Binds X.K fd ps ds) (hd : Vals dvs ds) (hx : Passes CX X E)
    (I : Inv X pins σ H s) (r : Vals vs us) (h : sp (vs ++ dvs) H Q E) : wpAny (model X.prog X.w) X.A (call (.ref f) us) (EP X pins σ Q) X.xe s := by
  have r2 : Vals (vs ++ dvs) (us ++ ds) := r.append hd
  have hl : (us ++ ds).length = ps.length := by rw [← r2.length]; exact F.len _ _ _ _ h
  refine wpAny_call (codeAny_mono (F.run X.A X.stack s H ⟨us, []⟩ (us ++ ds) (vs ++ dvs) Q E hr I.env0 (hb s us I.kIn hl) r2 h) fun r s' hq => ?_)
  cases r with
  | error e => exact hx pins σ H s e s' I hq
  | ok fl =>
    cases fl with
    | ret u => exact I.after hq
    | next => exact False.elim hq
    | brk => exact False.elim hq
    | cont => exact False.elim hq

theorem pe_call (F : FnOk X.prog X.w X.K X.mg X.base CX k f fd ps sp) (hr : Room k X.A) (hg : Gl X x) (hm : X.mg x = some (.ref f)) (hk : PySem.W.keepIn X.K (.ref f) = true) (hb : Binds X.K fd ps ds) (hd : Vals dvs ds) (hx : Passes CX X E)
    (ha : PA X (e :: es) t) (hdb : (x == ("__debug__" : Str)) = false := by decide) (he : starEach (e :: es) X.env = (false, eval e X.env) :: starEach es X.env := by rfl) (hpl : (backTo pos (starEach es X.env)).any (·.1) = false := by rfl) :
    PE X (.Call (.Name x p) (e :: es) [] pos) (tCall sp dvs E t) := by
  intro pins s σ H Q I h
  refine wpAny_Call_Name_kw (ld_glob I hg hm ?_ hdb)
  refine PySem.W.callWith_K (h₀ := X.base) I.ok.mod.kin hk (thn (ha pos pins s σ H _ I h) fun us s1 ⟨vs, H1, I1, r, q⟩ => ⟨I1.kIn, ?_⟩) he hpl
  exact run_fn F hr hb hd hx I1 r q
theorem pe_call0 (F : FnOk X.prog X.w X.K X.mg X.base CX k f fd ps sp) (hr : Room k X.A) (hg : Gl X x) (hm : X.mg x = some (.ref f)) (hk : PySem.W.keepIn X.K (.ref f) = true) (hb : Binds X.K fd ps ds) (hd : Vals dvs ds) (hx : Passes CX X E)
    (hdb : (x == ("__debug__" : Str)) = false := by decide) : PE X (.Call (.Name x p) [] [] pos) (tCall sp dvs E tNil) := by
  intro pins s σ H Q I h
  refine wpAny_Call_Name_kw (ld_glob I hg hm ?_ hdb)
  exact PySem.W.callWith_K0 I.kIn hk (run_fn (us := []) F hr hb hd hx I .nil h)

/-- o.m(e, ..) -/
theorem pe_meth {pl : Sem Bool} (he : PE X o ta) (c : Cls X.K C) (hm : Meth X.K C m f) (F : FnOk X.prog X.w X.K X.mg X.base CX k f fd ps sp) (hr : Room k X.A) (hb : Binds X.K fd ps ds) (hd : Vals dvs ds) (hx : Passes CX X E) (ha : PA X (e :: es) t)
    (hst : starEach (e :: es) X.env = (false, eval e X.env) :: starEach es X.env := by rfl) (hpl : (backTo pos (starEach es X.env)).any (·.1) = false := by rfl)
    (ht : eval (.Call (.Attribute o m apos) (e :: es) [] pos) X.env = (do
      let ov ← eval o X.env
      standAt apos.atName
      let (f, first) ← holding [ov] (getMethod ov m pl)
      callWith pos f first (backTo pos (starEach (e :: es) X.env)) (backToKw pos (keywordEach [] X.env))) := by rfl) :
    PE X (.Call (.Attribute o m apos) (e :: es) [] pos) (tMeth C m sp dvs E ta t) := by
  intro pins s σ H Q I h
  refine PySem.W.methodCall_KW (pl := pl) (thn (he pins s σ H _ I h) fun u s1 ⟨x, H1, I1, rx, a, dx, fs, ex, ea, l, q⟩ => ?_) ht
  subst ex
  obtain rfl : u = Value.ref a := rx
  refine getmeth_ok I1 ea c hm l ?_
  refine PySem.W.callWith_K (first := [.ref a]) (h₀ := X.base) I.ok.mod.kin hm.kp (thn (ha pos pins s1 σ H1 _ I1 q) fun us s2 ⟨vs, H2, I2, r, q2⟩ => ⟨I2.kIn, ?_⟩) hst hpl
  exact run_fn (us := .ref a :: us) (vs := .ref a :: vs) F hr hb hd hx I2 (.cons rfl r) q2
/-- o.m() -/
theorem pe_meth0 {pl : Sem Bool} (he : PE X o ta) (c : Cls X.K C) (hm : Meth X.K C m f) (F : FnOk X.prog X.w X.K X.mg X.base CX k f fd ps sp) (hr : Room k X.A) (hb : Binds X.K fd ps ds) (hd : Vals dvs ds) (hx : Passes CX X E)
    (ht : eval (.Call (.Attribute o m apos) [] [] pos) X.env = (do
      let ov ← eval o X.env
      standAt apos.atName
      let (f, first) ← holding [ov] (getMethod ov m pl)
      callWith pos f first (backTo pos (starEach [] X.env)) (backToKw pos (keywordEach [] X.env))) := by rfl) :
    PE X (.Call (.Attribute o m apos) [] [] pos) (tMeth C m sp dvs E ta tNil) := by
  intro pins s σ H Q I h
  refine PySem.W.methodCall_KW (pl := pl) (thn (he pins s σ H _ I h) fun u s1 ⟨x, H1, I1, rx, a, dx, fs, ex, ea, l, q⟩ => ?_) ht
  subst ex
  obtain rfl : u = Value.ref a := rx
  refine getmeth_ok I1 ea c hm l ?_
  exact PySem.W.callWith_K0 (first := [.ref a]) I1.kIn hm.kp (run_fn (us := [.ref a]) (vs := [.ref a]) F hr hb hd hx I1 (.cons rfl .nil) q)

/-- what a class must have to be made -/
structure Mk (K : PySem.W.Frag) (C f : Addr) : Prop where
  makes : PySem.W.makesIn K C = true
  init : PySem.W.findIn K (.ref C) "__init__" = some (some (.ref f))
  fn : PySem.W.isFn K (.ref f) = true
  kp : PySem.W.keepIn K (.ref C) = true

theorem run_make {pins : List (Addr × Obj)} {σ : St} {H : Hp} {s : Shared} {Q : VK} {us : List Value} {vs : List V} (M : Mk X.K C f) (F : FnOk X.prog X.w X.K X.mg X.base CX k f fd ps sp) (hr : Room (k + 1) X.A) (hb : Binds X.K fd ps ds) (hd : Vals dvs ds)
    (hx : Passes CX X E) (I : Inv X pins σ H s) (r : Vals vs us)
    (h : ∀ x dx, H x = none → H dx = none → dx ≠ x → sp (.ref x :: (vs ++ dvs)) (upd (upd H dx (.own x)) x (.ins C dx [])) (fun v H2 => v = .non ∧ Q (.ref x) H2) E) :
    wpAny (model X.prog X.w) X.A (call (.ref C) us) (EP X pins σ Q) X.xe s := by
  have hq := h (s.heap.objs.size + 1) s.heap.objs.size (I.hok.fresh (Nat.le_succ _)) (I.hok.fresh (Nat.le_refl _)) (Nat.ne_of_lt (Nat.lt_succ_self _))
  have I2 := Inv.made (C := C) I
  have r2 : Vals (V.ref (s.heap.objs.size + 1) :: (vs ++ dvs)) (Value.ref (s.heap.objs.size + 1) :: (us ++ ds)) := .cons rfl (r.append hd)
  have hl : (Value.ref (s.heap.objs.size + 1) :: us ++ ds).length = ps.length := by
    have e := r2.length
    rw [F.len _ _ _ _ hq] at e
    exact e.symm
  refine wpAny_call (make_map (f := f) I.kIn M.makes M.init (beq_iff_eq.mp M.fn) (codeAny_mono (F.run _ X.stack _ _ ⟨Value.ref (s.heap.objs.size + 1) :: us, []⟩ (Value.ref (s.heap.objs.size + 1) :: (us ++ ds)) _ _ E (hr.make C us [])
    (I2.env0.make C us []) (hb _ (Value.ref (s.heap.objs.size + 1) :: us) I2.kIn hl) r2 hq) fun r s' hq' => ?_))
  cases r with
  | error e => exact hx pins σ _ _ e s' I2 hq'
  | ok fl =>
    cases fl with
    | ret u =>
      obtain ⟨v, H', I3, rv, ev, q3⟩ := I2.after hq'
      subst ev
      exact ⟨rv, ⟨V.ref (s.heap.objs.size + 1), H', I3, rfl, q3⟩⟩
    | next => exact False.elim hq'
    | brk => exact False.elim hq'
    | cont => exact False.elim hq'
theorem pe_make (M : Mk X.K C f) (F : FnOk X.prog X.w X.K X.mg X.base CX k f fd ps sp) (hr : Room (k + 1) X.A) (hg : Gl X x) (hm : X.mg x = some (.ref C)) (hb : Binds X.K fd ps ds) (hd : Vals dvs ds) (hx : Passes CX X E)
    (ha : PA X (e :: es) t) (hdb : (x == ("__debug__" : Str)) = false := by decide) (he : starEach (e :: es) X.env = (false, eval e X.env) :: starEach es X.env := by rfl) (hpl : (backTo pos (starEach es X.env)).any (·.1) = false := by rfl) :
    PE X (.Call (.Name x p) (e :: es) [] pos) (tMake C sp dvs E t) := by
  intro pins s σ H Q I h
  refine wpAny_Call_Name_kw (ld_glob I hg hm ?_ hdb)
  refine PySem.W.callWith_K (h₀ := X.base) I.ok.mod.kin M.kp (thn (ha pos pins s σ H _ I h) fun us s1 ⟨vs, H1, I1, r, q⟩ => ⟨I1.kIn, ?_⟩) he hpl
  exact run_make M F hr hb hd hx I1 r q
theorem pe_make0 (M : Mk X.K C f) (F : FnOk X.prog X.w X.K X.mg X.base CX k f fd ps sp) (hr : Room (k + 1) X.A) (hg : Gl X x) (hm : X.mg x = some (.ref C)) (hb : Binds X.K fd ps ds) (hd : Vals dvs ds) (hx : Passes CX X E)
    (hdb : (x == ("__debug__" : Str)) = false := by decide) : PE X (.Call (.Name x p) [] [] pos) (tMake C sp dvs E tNil) := by
  intro pins s σ H Q I h
  refine wpAny_Call_Name_kw (ld_glob I hg hm ?_ hdb)
  exact PySem.W.callWith_K0 I.kIn M.kp (run_make (us := []) M F hr hb hd hx I .nil h)
end

/-! ### keywords -/
/-- the values of the keywords, from the left -/
def PK (X : Cx) (kws : List Keyword) (t : TA) : Prop :=
  ∀ (pos : Pos) (pins : List (Addr × Obj)) (s : Shared) (σ : St) (H : Hp) (Q : List V → Hp → Prop), Inv X pins σ H s → t σ H Q → wpAny (model X.prog X.w) X.A (evalAll ((backToKw pos (keywordEach kws X.env)).map (·.2))) (AP X pins σ Q) X.xe s
section
variable {X : Cx} {CX : CXT} {k : Nat} {f C : Addr} {fd : FuncData} {ps ks : List Str} {sp : Sp} {E : XK} {x m : Str} {p pos apos kpos : Pos} {e o : Expr} {es : List Expr} {kws : List Keyword} {te ta : TE} {t tk : TA} {nm : Option Str}
theorem pk_nil : PK X [] tNil := fun _ _ _ _ H Q I h => wpAny_evalAll_nil ⟨[], H, I, .nil, h⟩
theorem pk_cons (ha : PE X e te) (hr : PK X kws t) : PK X (⟨nm, e, kpos⟩ :: kws) (tCons te t) := by
  intro pos pins s σ H Q I h
  show wpAny _ _ (evalAll ((do let v ← eval e X.env; standAt pos; pure v) :: (backToKw pos (keywordEach kws X.env)).map (·.2))) _ _ s
  refine wpAny_evalAll_cons (wpAny_bind (thn (ha pins s σ H _ I h) fun u s1 ⟨x, H1, I1, r1, q1⟩ => wpAny_bind (wpAny_standAt (wpAny_pure ?_))))
  exact thn (hr pos pins s1 σ H1 _ I1 q1) fun us s2 ⟨xs, H2, I2, r2, q2⟩ => ⟨x :: xs, H2, I2, .cons r1 r2, q2⟩

/-- how a call with keywords binds: g puts the positional values us and the keywords' values ws (names ks) in the parameters' order, defaults among them -/
structure KBinds (K : PySem.W.Frag) (fd : FuncData) (ps ks : List Str) (g : List Value → List Value → List Value) (gV : List V → List V → List V) : Prop where
  to : ∀ (s : Shared) (us ws : List Value), K.In s.heap → (g us ws).length = ps.length → BindsTo s fd ⟨us, ks.zip ws⟩ (ps.zip (g us ws))
  rel : ∀ {vs : List V} {us : List Value} {zs : List V} {ws : List Value}, Vals vs us → Vals zs ws → Vals (gV vs zs) (g us ws)
def tCallK (sp : Sp) (gV : List V → List V → List V) (E : XK) (t tk : TA) : TE := fun σ H Q => t σ H fun vs H1 => tk σ H1 fun zs H2 => sp (gV vs zs) H2 Q E
variable {g : List Value → List Value → List Value} {gV : List V → List V → List V}
theorem run_fnk {pins : List (Addr × Obj)} {σ : St} {H : Hp} {s : Shared} {Q : VK} {us ws : List Value} {vs zs : List V} (F : FnOk X.prog X.w X.K X.mg X.base CX k f fd ps sp) (hr : Room k X.A) (hb : KBinds X.K fd ps ks g gV) (hx : Passes CX X E)
    (I : Inv X pins σ H s) (r : Vals vs us) (rz : Vals zs ws) (h : sp (gV vs zs) H Q E) : wpAny (model X.prog X.w) X.A (call (.ref f) us (ks.zip ws)) (EP X pins σ Q) X.xe s := by
  have r2 := hb.rel r rz
  have hl : (g us ws).length = ps.length := by rw [← r2.length]; exact F.len _ _ _ _ h
  refine wpAny_call (codeAny_mono (F.run X.A X.stack s H ⟨us, ks.zip ws⟩ (g us ws) (gV vs zs) Q E hr I.env0 (hb.to s us ws I.kIn hl) r2 h) fun r s' hq => ?_)
  cases r with
  | error e => exact hx pins σ H s e s' I hq
  | ok fl =>
    cases fl with
    | ret u => exact I.after hq
    | next => exact False.elim hq
    | brk => exact False.elim hq
    | cont => exact False.elim hq
/-- f(e, .., k = v, ..) -/
theorem pe_callK (F : FnOk X.prog X.w X.K X.mg X.base CX k f fd ps sp) (hr : Room k X.A) (hg : Gl X x) (hm : X.mg x = some (.ref f)) (hk : PySem.W.keepIn X.K (.ref f) = true) (hb : KBinds X.K fd ps ks g gV) (hx : Passes CX X E)
    (ha : PA X (e :: es) t) (hkw : PK X kws tk) (hall : (backToKw pos (keywordEach kws X.env)).all (·.1.isSome) = true := by rfl) (hks : (backToKw pos (keywordEach kws X.env)).filterMap (·.1) = ks := by rfl)
    (hdb : (x == ("__debug__" : Str)) = false := by decide) (he : starEach (e :: es) X.env = (false, eval e X.env) :: starEach es X.env := by rfl)
    (hpl : ((backTo pos (starEach (e :: es) X.env)).any (·.1) || (backToKw pos (keywordEach kws X.env)).any (·.1.isNone)) = false := by rfl) :
    PE X (.Call (.Name x p) (e :: es) kws pos) (tCallK sp gV E t tk) := by
  intro pins s σ H Q I h
  refine wpAny_Call_Name_kw (ld_glob I hg hm ?_ hdb)
  refine PySem.W.callWith_KW (h₀ := X.base) I.ok.mod.kin hk hall (thn (ha pos pins s σ H _ I h) fun us s1 ⟨vs, H1, I1, r, q⟩ => ?_) hpl he
  refine thn (hkw pos pins s1 σ H1 _ I1 q) fun ws s2 ⟨zs, H2, I2, rz, q2⟩ => ⟨I2.kIn, ?_⟩
  rw [hks]
  exact run_fnk F hr hb hx I2 r rz q2
end

/-! ### a def's body keeps its promise -/
/-- names: the parameters first -/
structure FnScope (N P : List Str) (sc : Scope) : Prop where
  kind : sc.kind = .function
  co : sc.isCoroutine = false
  gen : sc.isGenerator = false
  nd : N.Nodup
  pre : N.take P.length = P
  par : ∀ x ∈ P, sc.names.lookup x = some .local ∨ sc.names.lookup x = some .cell
  nofree : ∀ y ∈ sc.names, y.2 ≠ .free

theorem bindL_out {kindOf : Str → Option NameKind} {x : Str} : ∀ {binds : List (Str × Value)} {m : Str → Option Value}, (∀ v, (x, v) ∉ binds) → bindL kindOf binds m x = m x
  | [], _, _ => rfl
  | (n, v) :: r, m, h => by
    unfold bindL
    rw [bindL_out fun w hw => h w (List.mem_cons_of_mem _ hw)]
    split
    · have : x ≠ n := by rintro rfl; exact h v List.mem_cons_self
      simp [this]
    · rfl
theorem bindC_out {kindOf : Str → Option NameKind} {x : Str} : ∀ {binds : List (Str × Value)} {m : Str → Option Value}, (∀ v, (x, v) ∉ binds) → bindC kindOf binds m x = m x
  | [], _, _ => rfl
  | (n, v) :: r, m, h => by
    unfold bindC
    rw [bindC_out fun w hw => h w (List.mem_cons_of_mem _ hw)]
    split
    · rfl
    · have : x ≠ n := by rintro rfl; exact h v List.mem_cons_self
      simp [this]
theorem bindL_get {kindOf : Str → Option NameKind} {x : Str} {v : Value} : ∀ {P : List Str} {vs : List Value} {i : Nat} {m : Str → Option Value}, P.Nodup → P[i]? = some x → vs[i]? = some v → kindOf x = some .local →
    bindL kindOf (P.zip vs) m x = some v
  | [], _, _, _, _, h, _, _ => by simp at h
  | _ :: _, [], _, _, _, _, h, _ => by simp at h
  | p :: P, w :: vs, 0, m, nd, h1, h2, hk => by
    simp at h1 h2; subst h1; subst h2
    show bindL kindOf ((p, w) :: P.zip vs) m p = _
    unfold bindL
    rw [bindL_out fun v hv => (List.nodup_cons.mp nd).1 (List.of_mem_zip hv).1, if_pos hk]
    simp
  | p :: P, w :: vs, i + 1, m, nd, h1, h2, hk => by
    show bindL kindOf ((p, w) :: P.zip vs) m x = _
    unfold bindL
    exact bindL_get (i := i) (List.nodup_cons.mp nd).2 (by simpa using h1) (by simpa using h2) hk
theorem bindC_get {kindOf : Str → Option NameKind} {x : Str} {v : Value} : ∀ {P : List Str} {vs : List Value} {i : Nat} {m : Str → Option Value}, P.Nodup → P[i]? = some x → vs[i]? = some v → kindOf x ≠ some .local →
    bindC kindOf (P.zip vs) m x = some v
  | [], _, _, _, _, h, _, _ => by simp at h
  | _ :: _, [], _, _, _, _, h, _ => by simp at h
  | p :: P, w :: vs, 0, m, nd, h1, h2, hk => by
    simp at h1 h2; subst h1; subst h2
    show bindC kindOf ((p, w) :: P.zip vs) m p = _
    unfold bindC
    rw [bindC_out fun v hv => (List.nodup_cons.mp nd).1 (List.of_mem_zip hv).1, if_neg hk]
    simp
  | p :: P, w :: vs, i + 1, m, nd, h1, h2, hk => by
    show bindC kindOf ((p, w) :: P.zip vs) m x = _
    unfold bindC
    exact bindC_get (i := i) (List.nodup_cons.mp nd).2 (by simpa using h1) (by simpa using h2) hk

/-- the names' values at the entry -/
def start (N : List Str) (vs : List V) : St := vs.map some ++ List.replicate (N.length - vs.length) none

/-- the context of a def's body, at its entry; an exception leaves the frame, then lies as CX says -/
def cxOf (CX : CXT) (P : Program) (w : World) (K : PySem.W.Frag) (mg : Str → Option Value) (base : Heap) (N : List Str) (qual : Str) (scope : Scope) (f : Addr) (cd : Value) (A : Around) (outer : List Env) (s : Shared) (H : Hp) (E : XK) : Cx where
  prog := P
  w := w
  K := K
  mg := mg
  base := base
  A := A.deeper (envOfC qual scope s.heap.objs.size f cd)
  N := N
  s₀ := s
  H₀ := H
  env := envOfC qual scope s.heap.objs.size f cd
  outer := outer
  stack := envOfC qual scope s.heap.objs.size f cd :: outer
  ex := []
  calm := true
  fn := fun _ => true
  pn := []
  xe := fun e s' => wpAny (model P w) (A.deeper (envOfC qual scope s.heap.objs.size f cd)) (leaving (envOfC qual scope s.heap.objs.size f cd) e) (fun _ s'' => CX outer H s E e s'') (fun e' s'' => CX outer H s E e' s'') s'

theorem cell_has {sc : Scope} {n : Nat} {x : Str} (h : sc.names.lookup x = some .cell) : ∃ c, (cellsFrom n sc.names []).lookup x = some c := by
  have q := PySem.W.cellsFrom_some sc.names n [] (.inl h)
  exact Option.isSome_iff_exists.mp q

theorem inv_start {CX : CXT} {P : Program} {w : World} {K : PySem.W.Frag} {mg : Str → Option Value} {base : Heap} {N ps : List Str} {qual : Str} {scope : Scope} {f : Addr} {cd : Value} {A : Around} {outer : List Env} {s s1 : Shared} {H : Hp} {E : XK} {us : List Value} {vs : List V}
    (S : FnScope N ps scope) (hd : A.handled = none) (e0 : Env0 P w K mg base A outer s H) (hl : vs.length = ps.length) (r : Vals vs us)
    (x : InCallC s s.heap.objs.size (bindL (envOfC qual scope s.heap.objs.size f cd).kindOf (ps.zip us) fun _ => none) (cellsFrom (s.heap.objs.size + 1) scope.names []) (bindC (envOfC qual scope s.heap.objs.size f cd).kindOf (ps.zip us) fun _ => none) s1) :
    Inv (cxOf CX P w K mg base N qual scope f cd A outer s H E) [] (start N vs) H s1 := by
  have hpl : ps.length ≤ N.length := by have := congrArg List.length S.pre; rw [List.length_take] at this; omega
  obtain ⟨h1, tk, rfl, hk⟩ := x.done
  have noA : ∀ b : Addr, b ∉ (cxOf CX P w K mg base N qual scope f cd A outer s H E).ex := fun b z => absurd (show b ∈ ([] : List Addr) from z) (by simp)
  refine ⟨⟨e0.mod, S.kind, rfl, rfl, Nat.le_refl _, fun y z c h1 h2 => ?_, fun y hy => ?_, fun y c _ h => ?_, fun _ => hd, Around.frames_deeper e0.frames, .inr ⟨rfl, rfl⟩, fun b z => absurd z (noA b), e0.bs, e0.bsz, fun b _ _ => noA b, fun b z => absurd z (noA b), e0.funs, e0.frf⟩,
    rfl, e0.bare, Un.kept hk, ⟨_, x.toInCall.ns, fun i y v h1 h2 h3 => ?_⟩, fun y c h => ⟨_, x.cell y c h⟩, e0.hok.fresh (Nat.le_refl _), fun y c h => ?_, fun p hp => absurd (show p ∈ ([] : List (Addr × Obj)) from hp) (by simp), e0.hok.kept hk, ?_⟩
  · exact name_of_addr x.apart (PySem.mem_of_lookup h1) (PySem.mem_of_lookup h2)
  · have hy : scope.names.lookup y = some .cell ∨ scope.names.lookup y = some .free := hy
    rcases hy with hy | hy
    · exact cell_has hy
    · exact absurd rfl (S.nofree _ (PySem.mem_of_lookup hy))
  · exact Nat.le_of_lt (x.above y c (PySem.mem_of_lookup h))
  · have hi : i < vs.length := by
      unfold start at h2
      by_cases hi : i < vs.length
      · exact hi
      · rw [List.getElem?_append_right (by simpa using hi)] at h2
        rw [List.getElem?_replicate] at h2
        split at h2 <;> cases h2
    have ha : vs[i]? = some v := by
      unfold start at h2
      rw [List.getElem?_append_left (by simpa using hi), List.getElem?_map] at h2
      cases e : vs[i]? with
      | none => rw [e] at h2; cases h2
      | some a => rw [e] at h2; cases h2; rfl
    obtain ⟨u, hu, rv⟩ := r.get ha
    have hp : ps[i]? = some y := by
      rw [← S.pre, List.getElem?_take_of_lt (by omega)]; exact h1
    have ndP : ps.Nodup := by rw [← S.pre]; exact S.nd.sublist (List.take_sublist _ _)
    refine ⟨u, rv, ?_⟩
    rcases S.par y (List.mem_of_getElem? hp) with k | k
    · exact .inl ⟨k, bindL_get ndP hp hu k⟩
    · obtain ⟨c, e⟩ := cell_has (n := s.heap.objs.size + 1) k
      refine .inr ⟨.inl k, c, e, ?_⟩
      have q := x.cell y c e
      rw [bindC_get ndP hp hu (by show scope.names.lookup y ≠ _; rw [k]; decide)] at q
      exact q
  · exact e0.hok.fresh (Nat.le_of_lt (x.above y c (PySem.mem_of_lookup h)))
  · unfold start
    show _ = N.length
    rw [List.length_append, List.length_map, List.length_replicate]
    omega

/-- THE RULE: a def (or a method) of the text, by its body. The body's reading t is chosen for each entry; it is run at the parameters' values -/
theorem fn_of {CX : CXT} {P : Program} {w : World} {K : PySem.W.Frag} {mg : Str → Option Value} {base : Heap} {k : Nat} {f : Addr} {name qual : Str} {params : Arguments} {body : List Stmt} {scope : Scope} {dV kV doc pm cdv ct oc : Value} {an od : Option Addr}
    {osl : Array (Option Value)} {N ps : List Str} {sp : Sp} (lk : K.lookup f = some ⟨oc, od, .func (PySem.W.fnOf name qual params body scope dV kV doc pm an cdv ct), osl⟩) (hcd : PySem.W.codeIn K cdv qual = true) (S : FnScope N ps scope)
    (len : ∀ vs H Q E, sp vs H Q E → vs.length = ps.length)
    (hbody : ∀ (A : Around) (outer : List Env) (s : Shared) (H : Hp) (vs : List V) (Q : VK) (E : XK), Room k (A.deeper (envOfC qual scope s.heap.objs.size f cdv)) → sp vs H Q E →
      ∃ t, PSs (cxOf CX P w K mg base N qual scope f cdv A outer s H E) body t ∧ t { nx := fun _ H' => Q .non H', rt := Q } (start N vs) H) :
    FnOk P w K mg base CX (k + 1) f (PySem.W.fnOf name qual params body scope dV kV doc pm an cdv ct) ps sp := by
  refine ⟨len, fun A outer s H args us vs Q E hr e0 hb r hsp => ?_⟩
  have hl := len _ _ _ _ hsp
  have KX : K.In s.heap := e0.mod.kin.keeps fun b o e => (e0.bs b o e).1
  have lim : s.heap.NoLimit := e0.mod.nolimit.keeps fun b o e => (e0.bs b o e).1
  have hkind : ∀ y ∈ ps.zip us, scope.names.lookup y.1 = some .local ∨ (scope.names.lookup y.1 = some .cell ∧ ((cellsFrom (s.heap.objs.size + 1) scope.names []).lookup y.1).isSome = true) := fun ⟨n, v⟩ hy => by
    rcases S.par n (List.of_mem_zip hy).1 with q | q
    · exact .inl q
    · exact .inr ⟨q, PySem.W.cellsFrom_some _ _ _ (.inl q)⟩
  refine codeAny_call_function hr.depth (KX _ _ lk) rfl S.co S.gen rfl (PySem.W.codeRec_of KX hcd) (hb _ _ _ _ ?_)
  refine wpAny_newFunctionEnv_cells S.kind hkind fun env he s1 x => ?_
  subst he
  refine ⟨lim.keeps x.toInCall.keep, codeAny_func ?_⟩
  obtain ⟨t, ht, hq⟩ := hbody A outer s H vs Q E (hr.deeper _) hsp
  have I : Inv (cxOf CX P w K mg base N qual scope f cdv A outer s H E) [] (start N vs) H s1 := inv_start S hr.hd e0 hl r x
  refine wpAny_mono (ht [] s1 (start N vs) H _ I hq) (fun fl s' hs => ?_) fun e s' hs => hs
  have fin : ∀ {σ' : St} {H' : Hp} {v : V} {u : Value}, Inv (cxOf CX P w K mg base N qual scope f cdv A outer s H E) [] σ' H' s' → RelV v u → Q v H' → CE outer P w H s Q u s' :=
    fun {σ' H' v u} J rv q => ⟨v, H', J.os, J.bare, J.base, J.hok, rv, q⟩
  cases fl with
  | ret u =>
    obtain ⟨v, σ', H', J, rv, q⟩ := hs
    exact fin J rv q
  | next =>
    obtain ⟨σ', H', J, q⟩ := hs
    exact fin (v := V.non) (u := Value.none) J rfl q
  | brk =>
    obtain ⟨_, _, _, q⟩ := hs
    exact False.elim q
  | cont =>
    obtain ⟨_, _, _, q⟩ := hs
    exact False.elim q
end L2

namespace L2
open PySem PySem.Spec PyProof.Rows
section
variable {X : Cx} {x : Str} {p pos : Pos} {e : Expr} {es : List Expr} {t : TA} {id T : String} {r : List V → Hp → VK → Prop}

def tCB (r : List V → Hp → VK → Prop) (t : TA) : TE := fun σ H Q => t σ H fun vs H1 => r vs H1 Q
/-- f(e, ..), f a built-in function -/
theorem pe_callB (hc : CallR X (.builtin id) r) (hg : Gl X x) (hm : X.mg x = none) (hv : bootBuiltins x = some (.builtin id)) (ha : PA X (e :: es) t) (hn : x ≠ "__name__" := by decide) (hdb : (x == ("__debug__" : Str)) = false := by decide)
    (he : starEach (e :: es) X.env = (false, eval e X.env) :: starEach es X.env := by rfl) (hpl : (backTo pos (starEach es X.env)).any (·.1) = false := by rfl) : PE X (.Call (.Name x p) (e :: es) [] pos) (tCB r t) := by
  intro pins s σ H Q I h
  refine wpAny_Call_Name_kw (ld_blt I hg hm hv ?_ hn hdb)
  exact PyProof.Rows.callWith_builtin1 (thn (ha pos pins s σ H _ I h) fun us s1 ⟨vs, H1, I1, r1, q1⟩ => hc pins s1 σ H1 vs us Q I1 r1 q1) he hpl
/-- T(e, ..), T a built-in type -/
theorem pe_callTy (hc : CallR X (.type T) r) (hg : Gl X x) (hm : X.mg x = none) (hv : bootBuiltins x = some (.type T)) (ha : PA X (e :: es) t) (hn : x ≠ "__name__" := by decide) (hdb : (x == ("__debug__" : Str)) = false := by decide)
    (he : starEach (e :: es) X.env = (false, eval e X.env) :: starEach es X.env := by rfl) (hpl : (backTo pos (starEach es X.env)).any (·.1) = false := by rfl) : PE X (.Call (.Name x p) (e :: es) [] pos) (tCB r t) := by
  intro pins s σ H Q I h
  refine wpAny_Call_Name_kw (ld_blt I hg hm hv ?_ hn hdb)
  exact PyProof.Rows.callWith_type1 (thn (ha pos pins s σ H _ I h) fun us s1 ⟨vs, H1, I1, r1, q1⟩ => hc pins s1 σ H1 vs us Q I1 r1 q1) he hpl
/-- T() -/
theorem pe_callTy0 (hc : CallR X (.type T) r) (hg : Gl X x) (hm : X.mg x = none) (hv : bootBuiltins x = some (.type T)) (hn : x ≠ "__name__" := by decide) (hdb : (x == ("__debug__" : Str)) = false := by decide) :
    PE X (.Call (.Name x p) [] [] pos) (tCB r tNil) := by
  intro pins s σ H Q I h
  refine wpAny_Call_Name_kw (ld_blt I hg hm hv ?_ hn hdb)
  exact PyProof.Rows.callWith_type0 (hc pins s σ H [] [] Q I .nil h)
end
end L2

namespace HT
open PySem PyProof.Rows

/-- t < u of tuples of ints -/
def lexLt : List Int → List Int → Bool
  | [], [] => false
  | [], _ :: _ => true
  | _ :: _, [] => false
  | x :: xs, y :: ys => if x = y then lexLt xs ys else decide (x < y)
theorem lexLt_cons (x y : Int) (xs ys : List Int) : lexLt (x :: xs) (y :: ys) = if x = y then lexLt xs ys else decide (x < y) := rfl
theorem lexLt_nil_nil : lexLt [] [] = false := rfl
theorem lexLt_nil_cons (y : Int) (ys : List Int) : lexLt [] (y :: ys) = true := rfl
theorem lexLt_cons_nil (x : Int) (xs : List Int) : lexLt (x :: xs) [] = false := rfl

theorem eqAt_int (A : Around) (s : Shared) (a : Int) (t : Tok) (c : Int) (u : Tok) : ∃ e, SeqAt.EqAt A s (.int a t) (.int c u) e ∧ (e = true ↔ a = c) :=
  ⟨(a == c), SeqAt.EqAt.int_int a t c u, by simp⟩
theorem rcLt_int (A : Around) (s : Shared) (a : Int) (t : Tok) (c : Int) (u : Tok) (prog : Program) (w : World) (E : Value → Shared → Prop) (Q : Value → Shared → Prop) (h : Q (.bool (decide (a < c))) s) :
    wpAny (model prog w) A (richCompare .Lt (.int a t) (.int c u)) Q E s :=
  (PyProof.Rows.lt_int h : wpAny (model prog w) A (compareOp .Lt (.int a t) (.int c u)) Q E s)

section
open PySem.SeqAt
open PySem.AutoSeq1 (wpAny_loadPart')
open PySem.MeetsSeq PySem.MeetsSeq2 PySem.MeetsSeq3

theorem tuple_lt_ints (l b : Addr) (items items2 : Array Value) (n n2 : Nat) (dd dd2 : Option Addr) (sl sl2 : Array (Option Value)) (ns ms : List Int) (hi : IntsAre items.toList ns) (hj : IntsAre items2.toList ms) :
    Meets (Builtin.«tuple.__lt__» ⟨[.ref l, .ref b], []⟩)
      (fun _ R s => s.heap.get? l = some { cls := .type "tuple", dict := dd, data := .seq items n, slots := sl } ∧ s.heap.get? b = some { cls := .type "tuple", dict := dd2, data := .seq items2 n2, slots := sl2 } ∧
        R (.ok (.ret (.bool (lexLt ns ms)))) s) :=
  .of_wp fun prog w A R s h => by
    obtain ⟨hp, g, d, tk, os⟩ := s; obtain ⟨hl, hb, h⟩ := h
    have f2 := AutoSeq1.sub_tuple_tuple
    have z1 : items.size = ns.length := by rw [← hi.length]; simp
    have z2 : items2.size = ms.length := by rw [← hj.length]; simp
    wp_walk using wpAny_loadPart' hl, wpAny_loadPart' hb, wpAny_forIn_list _ (fun rest b s' => b.1 = none ∧ s' = ⟨hp, g, d, tk, os⟩ ∧ ∃ (vs ws : List Value) (ns' ms' : List Int), rest = vs.zip ws ∧
      IntsAre vs ns' ∧ IntsAre ws ms' ∧ ns'.length + items2.size = ms'.length + items.size ∧ R (.ok (.ret (.bool (lexLt ns' ms')))) ⟨hp, g, d, tk, os⟩) _
    case turn =>
      rintro ⟨y, x⟩ rest b s' ⟨hb', rfl, vs, ws, ns', ms', hz, hvi, hwi, hlen, hR⟩
      cases hvi with
      | nil => rw [List.zip_nil_left] at hz; cases hz
      | cons a t hvi' =>
        cases hwi with
        | nil => rw [List.zip_nil_right] at hz; cases hz
        | cons c u hwi' =>
          rw [List.zip_cons_cons] at hz
          injection hz with hyx hrest
          injection hyx with hy hx
          subst hy hx
          rw [lexLt_cons] at hR
          simp only [List.length_cons] at hlen
          obtain ⟨e, he, hiff⟩ := eqAt_int A.in1 ⟨hp, g, d, tk, os⟩ a t c u
          refine wpAny_bind (he prog w _ _ ?_)
          cases e with
          | true =>
            rw [if_pos (hiff.mp rfl)] at hR
            wp_walk
            exact ⟨rfl, rfl, _, _, _, _, hrest, hvi', hwi', by omega, hR⟩
          | false =>
            rw [if_neg (fun q => absurd (hiff.mpr q) Bool.false_ne_true)] at hR
            have hri := rcLt_int A.in1 ⟨hp, g, d, tk, os⟩ a t c u prog w
            wp_walk using hri
            exact ⟨_, rfl, by simpa using hR⟩
    case fin =>
      rintro ⟨b1, b2⟩ s' ⟨hb', rfl, vs, ws, ns', ms', hz, hvi, hwi, hlen, hR⟩
      simp only at hb'
      subst hb'
      have hv : lexLt ns' ms' = decide (items.size < items2.size) := by
        cases hvi with
        | nil =>
          cases hwi with
          | nil =>
            simp only [List.length_nil] at hlen
            rw [lexLt_nil_nil]
            exact (decide_eq_false (by omega)).symm
          | cons c u hw =>
            simp only [List.length_nil, List.length_cons] at hlen
            rw [lexLt_nil_cons]
            exact (decide_eq_true (by omega)).symm
        | cons a t hv =>
          cases hwi with
          | nil =>
            simp only [List.length_nil, List.length_cons] at hlen
            rw [lexLt_cons_nil]
            exact (decide_eq_false (by omega)).symm
          | cons c u hw =>
            rw [List.zip_cons_cons] at hz
            cases hz
      rw [hv] at hR
      wp_walk
      exact ⟨_, rfl, by simpa [Builtin.Tuple.tupleCompareSizes] using hR⟩
    case h =>
      exact ⟨rfl, rfl, items.toList, items2.toList, ns, ms, rfl, hi, hj, by omega, h⟩
end

section
variable {prog : Program} {w : World} {A : Around} {E : Value → Shared → Prop} {s : Shared}

theorem lt_tupInts {l b : Addr} {items items2 : Array Value} {ns ms : List Int} {Q : Value → Shared → Prop} (hl : IsTup s.heap l items) (hb : IsTup s.heap b items2) (hi : IntsAre items.toList ns) (hj : IntsAre items2.toList ms)
    (hu : A.units < cLine) (h : Q (.bool (lexLt ns ms)) s) : wpAny (model prog w) A (compareOp .Lt (.ref l) (.ref b)) Q E s := by
  obtain ⟨⟨cls, dd, data, sl⟩, ho, hc, n, hd⟩ := id hl
  obtain ⟨⟨cls2, dd2, data2, sl2⟩, ho2, hc2, n2, hd2⟩ := id hb
  simp only at hc hd hc2 hd2
  subst hc hd hc2 hd2
  exact richCompare_meets_room (op := .Lt) ⟨_, ho, rfl⟩ ⟨_, ho2, rfl⟩ PySem.F.slot_tuple_lt PySem.F.entry_tuple_lt (PySem.F.args_tuple_lt_2 _ _) (tuple_lt_ints l b items items2 n n2 dd dd2 sl sl2 ns ms hi hj)
    ⟨ho, ho2, show Value.bool (lexLt ns ms) ≠ Value.notImplemented ∧ Q (.bool (lexLt ns ms)) s from ⟨(fun x => nomatch x), h⟩⟩ hu

/-- t + u, t not empty -/
theorem cat_tup {t b : Addr} {vs ws : List Value} {Q : Value → Shared → Prop} (ht : IsTup s.heap t vs.toArray) (hb : IsTup s.heap b ws.toArray) (hv : vs ≠ [])
    (h1 : ws = [] → Q (.ref t) s) (h2 : ws ≠ [] → Q (.ref s.heap.objs.size) { s with heap := s.heap.push { cls := .type "tuple", data := .seq (vs ++ ws).toArray } })
    (hsz : vs.length + ws.length ≤ sizeLine) : wpAny (model prog w) A (binaryOp .Add (.ref t) (.ref b)) Q E s := by
  obtain ⟨⟨cls, dd, data, sl⟩, ho, hc, n, hd⟩ := id ht
  obtain ⟨⟨cls2, dd2, data2, sl2⟩, ho2, hc2, n2, hd2⟩ := id hb
  simp only at hc hd hc2 hd2
  subst hc hd hc2 hd2
  have e : vs.toArray ++ ws.toArray = (vs ++ ws).toArray := by simp
  by_cases hw : ws = []
  · exact concat_meets ⟨_, ho, rfl⟩ ⟨_, ho2, rfl⟩ noFill_tuple_add seq_tuple_add PySem.F.slot_tuple_add PySem.F.entry_tuple_add (PySem.F.args_tuple_add_2 _ _)
      (tuple_addW1 t b vs.toArray ws.toArray n n2 dd dd2 sl sl2 (by simpa using hv) (by simp [hw])) ⟨ho, ho2, h1 hw⟩
  · refine concat_meets ⟨_, ho, rfl⟩ ⟨_, ho2, rfl⟩ noFill_tuple_add seq_tuple_add PySem.F.slot_tuple_add PySem.F.entry_tuple_add (PySem.F.args_tuple_add_2 _ _)
      (tuple_addW2 t b vs.toArray ws.toArray n n2 dd dd2 sl sl2 (by simpa using hv) (by simpa using hw) (by rw [List.size_toArray, List.size_toArray]; exact hsz)) ⟨ho, ho2, ?_⟩
    rw [e]
    exact h2 hw

/-! ### t[a:b], not the whole -/
/-- a slice's bound as a place among n (d where it is left out) -/
def sIx (n d : Nat) : Option Int → Nat
  | none => d
  | some v => if v < 0 then (v + (n : Int)).toNat else min v.toNat n
theorem sIx_none (n d : Nat) : sIx n d none = d := rfl
theorem sIx_nat (n d k : Nat) : sIx n d (some (k : Int)) = min k n := by
  show (if (k : Int) < 0 then ((k : Int) + (n : Int)).toNat else min (k : Int).toNat n) = min k n
  rw [if_neg (by omega), Int.toNat_natCast]
theorem sIx_le (n d : Nat) (hd : d ≤ n) (o : Option Int) : sIx n d o ≤ n := by
  cases o with
  | none => exact hd
  | some v =>
    show (if v < 0 then (v + (n : Int)).toNat else min v.toNat n) ≤ n
    by_cases hv : v < 0
    · rw [if_pos hv]; omega
    · rw [if_neg hv]; exact Nat.min_le_right _ _
theorem clip_eq (v : Int) (n d : Nat) : (if v < 0 then max (v + (n : Int)) 0 else min v (n : Int)) = ((sIx n d (some v) : Nat) : Int) := by
  show (if v < 0 then max (v + (n : Int)) 0 else min v (n : Int)) = (((if v < 0 then (v + (n : Int)).toNat else min v.toNat n) : Nat) : Int)
  by_cases hv : v < 0
  · simp only [if_pos hv]; omega
  · simp only [if_neg hv]; omega
theorem adjust_gen (lo hi : Option Int) (n : Nat) : Builtin.Slice.sliceAdjust lo hi 1 (n : Int) = (((sIx n 0 lo : Nat) : Int), ((sIx n n hi : Nat) : Int)) := by
  have h1 : ¬ ((1 : Int) < 0) := by omega
  unfold Builtin.Slice.sliceAdjust
  simp only [h1, if_false]
  refine Prod.ext ?_ ?_
  · cases lo with
    | none => rfl
    | some v => exact clip_eq v n 0
  · cases hi with
    | none => rfl
    | some v => exact clip_eq v n n
theorem places_gen (i j : Nat) : Builtin.Slice.slicePlaces (i : Int) (j : Int) 1 = j - i := by
  unfold Builtin.Slice.slicePlaces
  have h1 : (1 : Int) > 0 := by omega
  simp only [h1, if_true, Int.ediv_one]
  split <;> omega
theorem slicePart_ {v : Value} {o : Option Int} {Q : Option Int → Shared → Prop} (p : IsPart v o) (h : Q o s) : wpAny (model prog w) A (Builtin.Slice.slicePartIndex v) Q E s := by
  cases p with
  | none => exact slicePart_none h
  | int i t => exact slicePart_int h
theorem sliceApplied_gen {sl : Addr} {vl vu : Value} {lo hi : Option Int} {n : Nat} {Q : Int × Int × Nat → Shared → Prop} (hs : s.heap.IsSliceOf sl vl vu .none) (pl : IsPart vl lo) (pu : IsPart vu hi)
    (h : Q (((sIx n 0 lo : Nat) : Int), 1, sIx n n hi - sIx n 0 lo) s) : wpAny (model prog w) A (Builtin.Slice.sliceApplied (.ref sl) (pure (n : Int))) Q E s := by
  obtain ⟨os, hos, hcs, hds⟩ := id hs
  unfold Builtin.Slice.sliceApplied Builtin.Slice.sliceFields
  refine wpAny_bind (wpAny_bind (wpAny_field hos hds (x := vl) rfl (wpAny_bind (wpAny_field hos hds (x := vu) rfl (wpAny_bind (wpAny_field hos hds (x := .none) rfl (wpAny_pure ?_)))))))
  refine wpAny_bind (slicePart_none ?_)
  show wpAny _ _ (if ((1 : Int) == 0) = true then _ else _) _ _ s
  rw [if_neg (by decide)]
  refine wpAny_bind (slicePart_ pl (wpAny_bind (slicePart_ pu (wpAny_bind (wpAny_pure ?_)))))
  show wpAny _ _ (match Builtin.Slice.sliceAdjust lo hi 1 (n : Int) with | (lo, hi) => pure (lo, (1 : Int), Builtin.Slice.slicePlaces lo hi 1)) _ _ s
  rw [adjust_gen lo hi n]
  show wpAny _ _ (pure (((sIx n 0 lo : Nat) : Int), (1 : Int), Builtin.Slice.slicePlaces ((sIx n 0 lo : Nat) : Int) ((sIx n n hi : Nat) : Int) 1)) _ _ s
  rw [places_gen]
  exact wpAny_pure h
theorem pick_gen (xs : Array Value) (i k : Nat) : ((List.range k).filterMap fun (m : Nat) => xs[((i : Int) + (m : Int) * 1).toNat]?).toArray = ((xs.toList.drop i).take k).toArray := by
  have e : (fun (m : Nat) => xs[((i : Int) + (m : Int) * 1).toNat]?) = fun m => xs[i + m]? := by
    funext m
    have : ((i : Int) + (m : Int) * 1).toNat = i + m := by omega
    rw [this]
  rw [e]
  have := pick_run xs i k
  rw [List.filterMap_map] at this
  have e2 : ((fun x => xs[x]?) ∘ fun x => i + x) = fun m => xs[i + m]? := rfl
  rw [e2] at this
  rw [this]

theorem getItem_tuple_cut {t sl : Addr} {items : Array Value} {vl vu : Value} {lo hi : Option Int} {Q : Value → Shared → Prop} (ht : IsTup s.heap t items) (hs : s.heap.IsSliceOf sl vl vu .none) (pl : IsPart vl lo) (pu : IsPart vu hi)
    (hw : ¬ (sIx items.size 0 lo = 0 ∧ sIx items.size items.size hi = items.size))
    (h : Q (.ref s.heap.objs.size) { s with heap := s.heap.push { cls := .type "tuple", data := .seq ((items.toList.drop (sIx items.size 0 lo)).take (sIx items.size items.size hi - sIx items.size 0 lo)).toArray } })
    (hsz : items.size ≤ sizeLine) : wpAny (model prog w) A (getItem (.ref t) (.ref sl)) Q E s := by
  have htake : sizeOk (.seq ((items.toList.drop (sIx items.size 0 lo)).take (sIx items.size items.size hi - sIx items.size 0 lo)).toArray) := by
    show ((items.toList.drop (sIx items.size 0 lo)).take (sIx items.size items.size hi - sIx items.size 0 lo)).toArray.size ≤ sizeLine
    rw [List.size_toArray, List.length_take, List.length_drop, Array.length_toList]
    omega
  have hj : sIx items.size items.size hi ≤ items.size := sIx_le _ _ (Nat.le_refl _) hi
  obtain ⟨os, hos, hcs, hds⟩ := id hs
  have hTs : s.TypeIs (.ref sl) "slice" := ⟨os, hos, hcs⟩
  unfold getItem
  try with_reducible refine wpAny_holding ?_
  first | refine wpAny_bind (wpAny_pure ?_) | skip
  refine wpAny_bind (wpAny_sequenceKey ht.typeIs (by decide) ?_)
  refine wpAny_bind (wpAny_callSpecial?_slot (name := Str.ofString "__getitem__") ht.typeIs PyProof.Rows.slot_tuple_getitem
    (wpAny_call_entry PyProof.Rows.slot_tuple_getitem ht.typeIs entry_tuple_getitem ?_ (args_tuple_getitem _ _)))
  show wpAny _ _ (Builtin.Tuple.tupleItemsOf (.ref t) >>= _) _ _ s
  refine wpAny_bind (tupleItemsOf_ ht ?_)
  refine wpAny_bind (wpAny_typeOf hTs ?_)
  rw [if_pos (by decide)]
  refine wpAny_bind (sliceApplied_gen hs pl pu ?_)
  have hno : ¬ ((((sIx items.size 0 lo : Nat) : Int) == 0 && (1 : Int) == 1 && (sIx items.size items.size hi - sIx items.size 0 lo) == items.size) = true) := by
    intro q
    rw [Bool.and_eq_true, Bool.and_eq_true] at q
    have q1 : ((sIx items.size 0 lo : Nat) : Int) = 0 := eq_of_beq q.1.1
    have q2 : sIx items.size items.size hi - sIx items.size 0 lo = items.size := eq_of_beq q.2
    exact hw ⟨by omega, by omega⟩
  show wpAny _ _ (if (((sIx items.size 0 lo : Nat) : Int) == 0 && (1 : Int) == 1 && (sIx items.size items.size hi - sIx items.size 0 lo) == items.size) = true then _ else _) _ _ s
  rw [if_neg hno, pick_gen]
  first
    | exact wpAny_bind (m := Builtin.Tuple.tupleExact _) (wpAny_newObj_type (wpAny_pure ⟨_, rfl, wpAny_pure h⟩) htake)
    | exact wpAny_bind (m := Builtin.Tuple.tupleExact _) (wpAny_newObj_type (wpAny_bind (wpAny_pure (wpAny_pure ⟨_, rfl, wpAny_pure h⟩))) htake)
    | exact wpAny_bind (wpAny_bind (m := Builtin.Tuple.tupleExact _) (wpAny_newObj_type (wpAny_pure (wpAny_pure ⟨_, rfl, wpAny_pure h⟩)) htake))
    | exact wpAny_bind (wpAny_bind (m := Builtin.Tuple.tupleExact _) (wpAny_newObj_type (wpAny_pure ⟨_, rfl, wpAny_pure h⟩) htake))
end
end HT

namespace L2
open PySem PySem.Spec PyProof.Rows

/-! ### the parts of a slice -/
abbrev TO := St → Hp → (Option Int → Hp → Prop) → Prop
/-- a slice's part (left out, or an int) -/
def PO (X : Cx) (e : Option Expr) (t : TO) : Prop :=
  ∀ (pins : List (Addr × Obj)) (s : Shared) (σ : St) (H : Hp) (Q : Option Int → Hp → Prop), Inv X pins σ H s → t σ H Q →
    wpAny (model X.prog X.w) X.A (evalPart e X.env) (fun u s' => ∃ o H', Inv X pins σ H' s' ∧ IsPart u o ∧ Q o H') X.xe s
def tNoPart : TO := fun _ H Q => Q none H
def tPart (t : TE) : TO := fun σ H Q => t σ H fun x H1 => ∃ i, x = .int i ∧ Q (some i) H1

theorem intsAre_of {ns : List Int} : ∀ {us : List Value}, Vals (ns.map V.int) us → IntsAre us ns := by
  induction ns with
  | nil => intro us r; rw [List.map_nil] at r; cases r; exact .nil
  | cons n ns ih =>
    intro us r
    rw [List.map_cons] at r
    cases r with
    | cons r1 r2 =>
      obtain ⟨t, e⟩ := r1
      subst e
      exact .cons n t (ih r2)

section
variable {X : Cx} {e : Expr} {te : TE} {lo hi : Option Expr} {tl th : TO} {pos p2 : Pos}

theorem po_none : PO X none tNoPart := by
  intro pins s σ H Q I h
  rw [evalPart_none]
  exact wpAny_pure ⟨none, H, I, .none, h⟩
theorem po_some (h : PE X e te) : PO X (some e) (tPart te) := by
  intro pins s σ H Q I hw
  rw [evalPart_some]
  refine thn (h pins s σ H _ I hw) fun u s1 ⟨x, H1, I1, r1, q1⟩ => ?_
  obtain ⟨i, rfl, q⟩ := q1
  obtain ⟨t, rfl⟩ := r1
  exact ⟨some i, H1, I1, .int i t, q⟩

/-- what a slice of a value is, by values: the slice object stands at sl -/
def SlR (X : Cx) (r : V → Option Int → Option Int → Hp → VK → Prop) : Prop :=
  ∀ (pins : List (Addr × Obj)) (s : Shared) (σ : St) (H : Hp) (x : V) (v vl vu : Value) (lo hi : Option Int) (sl : Addr) (Q : VK), Inv X pins σ H s → RelV x v → s.heap.IsSliceOf sl vl vu .none → IsPart vl lo → IsPart vu hi → r x lo hi H Q →
    ∃ T id, typeLookup (.type T) "__getitem__" = pure (some (.builtin id)) ∧ s.TypeIs v T ∧ wpAny (model X.prog X.w) X.A (getItem v (.ref sl)) (EP X pins σ Q) X.xe s
theorem SlR.or {r r' : V → Option Int → Option Int → Hp → VK → Prop} (h : SlR X r) (h' : SlR X r') : SlR X (fun x lo hi H Q => r x lo hi H Q ∨ r' x lo hi H Q) := by
  intro pins s σ H x v vl vu lo hi sl Q I rx hs pl pu q
  rcases q with q | q
  · exact h pins s σ H x v vl vu lo hi sl Q I rx hs pl pu q
  · exact h' pins s σ H x v vl vu lo hi sl Q I rx hs pl pu q
def tSl (r : V → Option Int → Option Int → Hp → VK → Prop) (te : TE) (tl th : TO) : TE := fun σ H Q => te σ H fun x H1 => tl σ H1 fun l H2 => th σ H2 fun u H3 => r x l u H3 Q
/-- a[lo:hi], any a -/
theorem pe_slice {r : V → Option Int → Option Int → Hp → VK → Prop} (hr : SlR X r) (he : PE X e te) (hl : PO X lo tl) (hu : PO X hi th) : PE X (.Subscript e (.Slice lo hi none p2) pos) (tSl r te tl th) := by
  intro pins s σ H Q I h
  refine Subscript_ (thn (he pins s σ H _ I h) fun v s1 ⟨x, H1, I1, r1, q1⟩ => ?_)
  refine wpAny_Slice (thn (hl pins s1 σ H1 _ I1 q1) fun vl s2 ⟨l, H2, I2, pl, q2⟩ => thn (hu pins s2 σ H2 _ I2 q2) fun vu s3 ⟨u, H3, I3, pu, q3⟩ => ?_)
  rw [evalPart_none]
  refine wpAny_pure ?_
  have I4 : Inv X pins σ H3 { s3 with heap := s3.heap.push { cls := .type "slice", data := .fields #[vl, vu, .none] } } := I3.kept (t' := s3.toks) fun b ob q => Heap.get?_push_of_some _ q
  obtain ⟨T, id, hT, ht, hg⟩ := hr pins { s3 with heap := s3.heap.push { cls := .type "slice", data := .fields #[vl, vu, .none] } } σ H3 x v vl vu l u s3.heap.objs.size Q I4 r1 (Heap.IsSliceOf.new ..) pl pu q3
  show wpAny (model X.prog X.w) X.A (subscriptTail e (.Slice lo hi none p2) v (.ref s3.heap.objs.size)) (EP X pins σ Q) X.xe { s3 with heap := s3.heap.push { cls := .type "slice", data := .fields #[vl, vu, .none] } }
  exact tail_any (ops := [.ref s3.heap.objs.size, v]) ht hT hg (by with_unfolding_all rfl)

/-- the items of xs[lo:hi] -/
def cutV (xs : List V) (lo hi : Option Int) : List V := (xs.drop (HT.sIx xs.length 0 lo)).take (HT.sIx xs.length xs.length hi - HT.sIx xs.length 0 lo)
theorem cutV_length (xs : List V) (lo hi : Option Int) : (cutV xs lo hi).length ≤ xs.length := by
  unfold cutV
  rw [List.length_take, List.length_drop]
  omega
/-- t[lo:hi], not the whole of it (the whole would be t itself) -/
def rSlT (K : PySem.W.Frag) : V → Option Int → Option Int → Hp → VK → Prop := fun x lo hi H Q => ∃ a xs, x = .ref a ∧ SqT K H a xs ∧
  ¬ (HT.sIx xs.length 0 lo = 0 ∧ HT.sIx xs.length xs.length hi = xs.length) ∧ ∀ p, H p = none → Q (.ref p) (upd H p (.tup (cutV xs lo hi)))
theorem sl_tup : SlR X (rSlT X.K) := by
  intro pins s σ H x v vl vu lo hi sl Q I rx hs pl pu h
  obtain ⟨a, xs, rfl, hx, hw, q⟩ := h
  cases rx
  obtain ⟨its, r, ht, hz⟩ := I.tuple hx
  have hlen : its.toArray.size = xs.length := by rw [List.size_toArray]; exact r.length.symm
  refine ⟨"tuple", _, PyProof.Rows.slot_tuple_getitem.lookup, ht.typeIs, ?_⟩
  refine HT.getItem_tuple_cut ht hs pl pu (by rw [hlen]; exact hw) ?_ (by rw [hlen]; exact hz)
  rw [hlen]
  refine ⟨.ref s.heap.objs.size, _, I.laid (t' := s.toks) (o := .tup (cutV xs lo hi)) (fun b ob q => Heap.get?_push_of_some _ q) (Nat.le_refl _) ?_, rfl, q _ (I.hok.fresh (Nat.le_refl _))⟩
  exact ⟨Nat.le_trans (cutV_length xs lo hi) hz, _, (r.drop (HT.sIx xs.length 0 lo)).take (HT.sIx xs.length xs.length hi - HT.sIx xs.length 0 lo), IsTup.new _ _⟩

/-! ### t < u, t + u -/
def rLtT (K : PySem.W.Frag) : R2 := fun x y H Q => ∃ a b ns ms, x = .ref a ∧ y = .ref b ∧ SqT K H a (ns.map V.int) ∧ SqT K H b (ms.map V.int) ∧ Q (.bl (HT.lexLt ns ms)) H
theorem op_ltT (hu : X.A.units < cLine) : OpR X (compareOp .Lt) (rLtT X.K) := by
  intro pins s σ H x y v u Q I rx ry h
  obtain ⟨a, b, ns, ms, rfl, rfl, ha, hb, q⟩ := h
  cases rx
  cases ry
  obtain ⟨its, r1, p1, _⟩ := I.tuple ha
  obtain ⟨its2, r2, p2, _⟩ := I.tuple hb
  have i1 : IntsAre its.toArray.toList ns := intsAre_of r1
  have i2 : IntsAre its2.toArray.toList ms := intsAre_of r2
  exact HT.lt_tupInts p1 p2 i1 i2 hu ⟨.bl (HT.lexLt ns ms), H, I, rfl, q⟩
/-- t + u, t not empty: u empty gives t itself -/
def rCatT (K : PySem.W.Frag) : R2 := fun x y H Q => ∃ a b xs ys, x = .ref a ∧ y = .ref b ∧ SqT K H a xs ∧ SqT K H b ys ∧ xs ≠ [] ∧ xs.length + ys.length ≤ sizeLine ∧
  (ys = [] → Q (.ref a) H) ∧ (ys ≠ [] → ∀ p, H p = none → Q (.ref p) (upd H p (.tup (xs ++ ys))))
theorem Vals.nil_iff {xs : List V} {us : List Value} (r : Vals xs us) : us = [] ↔ xs = [] := by
  cases r with
  | nil => simp
  | cons _ _ => simp
theorem op_catT : OpR X (binaryOp .Add) (rCatT X.K) := by
  intro pins s σ H x y v u Q I rx ry h
  obtain ⟨a, b, xs, ys, rfl, rfl, ha, hb, hx, hz, q1, q2⟩ := h
  cases rx
  cases ry
  obtain ⟨its, r1, p1, _⟩ := I.tuple ha
  obtain ⟨its2, r2, p2, _⟩ := I.tuple hb
  refine HT.cat_tup p1 p2 (fun z => hx (r1.nil_iff.mp z)) (fun z => ⟨.ref a, H, I, rfl, q1 (r2.nil_iff.mp z)⟩) (fun z => ?_) (by rw [← r1.length, ← r2.length]; exact hz)
  refine ⟨.ref s.heap.objs.size, _, I.laid (t' := s.toks) (o := .tup (xs ++ ys)) (fun b ob q => Heap.get?_push_of_some _ q) (Nat.le_refl _) ?_, rfl, q2 (fun w => z (r2.nil_iff.mpr w)) _ (I.hok.fresh (Nat.le_refl _))⟩
  exact ⟨by rw [List.length_append]; exact hz, _, r1.append r2, IsTup.new _ _⟩
/-- tuple(t) -/
theorem call_tupleT : CallR X (.type "tuple") (fun xs H Q => ∃ a ys, xs = [.ref a] ∧ SqT X.K H a ys ∧ Q (.ref a) H) := by
  intro pins s σ H xs us Q I r h
  obtain ⟨a, ys, rfl, ha, q⟩ := h
  obtain ⟨u, rfl, ru⟩ := vals1 r
  cases ru
  obtain ⟨its, _, p1, _⟩ := I.tuple ha
  exact call_tuple_same (items := its.toArray) p1 ⟨.ref a, H, I, rfl, q⟩
end
end L2

namespace L2
open PySem PySem.Spec PyProof.Rows

/-! ### places -/
/-- the place that an index of any sign means -/
def ixN (n : Nat) (i : Int) : Option Nat := if 0 ≤ i then (if i < n then some i.toNat else none) else if -(n : Int) ≤ i then some (i + n).toNat else none
def atI {α : Type} (xs : List α) (i : Int) : Option α := (ixN xs.length i).bind fun j => xs[j]?
theorem ixN_seq {n : Nat} {i : Int} {j : Nat} (h : ixN n i = some j) : seqIndex? i n = some j ∧ j < n ∧ -(n : Int) ≤ i ∧ i < n := by
  unfold ixN at h
  by_cases h0 : 0 ≤ i
  · rw [if_pos h0] at h
    by_cases h1 : i < n
    · rw [if_pos h1] at h
      have e : i.toNat = j := Option.some.inj h
      exact ⟨by rw [seqIndex_of h0 h1, e], by omega, by omega, h1⟩
    · rw [if_neg h1] at h; cases h
  · rw [if_neg h0] at h
    by_cases h1 : -(n : Int) ≤ i
    · rw [if_pos h1] at h
      have e : (i + n).toNat = j := Option.some.inj h
      exact ⟨by rw [seqIndex_neg (by omega) h1, e], by omega, h1, by omega⟩
    · rw [if_neg h1] at h; cases h
theorem atI_get {α : Type} {xs : List α} {i : Int} {v : α} (h : atI xs i = some v) : ∃ j, seqIndex? i xs.length = some j ∧ xs[j]? = some v ∧ j < xs.length ∧ -(xs.length : Int) ≤ i ∧ i < xs.length := by
  unfold atI at h
  cases e : ixN xs.length i with
  | none => rw [e] at h; cases h
  | some j =>
    rw [e] at h
    obtain ⟨h1, h2, h3, h4⟩ := ixN_seq e
    exact ⟨j, h1, h, h2, h3, h4⟩
theorem atI_nat {α : Type} {xs : List α} {j : Nat} {v : α} (h : xs[j]? = some v) : atI xs (j : Int) = some v := by
  have hj : j < xs.length := (List.getElem?_eq_some_iff.mp h).1
  have e : ixN xs.length (j : Int) = some j := by
    unfold ixN
    rw [if_pos (by omega), if_pos (by omega)]; simp
  unfold atI; rw [e]; exact h
theorem atI_last {α : Type} (xs : List α) (v : α) : atI (xs ++ [v]) (-1) = some v := by
  have hl : (xs ++ [v]).length = xs.length + 1 := by simp
  have e : ixN (xs ++ [v]).length (-1) = some xs.length := by
    unfold ixN
    rw [hl, if_neg (by decide), if_pos (by omega)]
    congr 1
    omega
  unfold atI
  rw [e]
  show (xs ++ [v])[xs.length]? = some v
  simp

/-! ### what may be subscripted -/
/-- what stands as an index of a plain subscript -/
def PlainIx (b : Expr) : Prop := ∀ o i, subscripted b false o i = operate [o, i] (getItem o i)
/-- a subscript by values -/
def IxR (X : Cx) (r : R2) : Prop :=
  ∀ (value slice : Expr) (pins : List (Addr × Obj)) (s : Shared) (σ : St) (H : Hp) (x y : V) (v u : Value) (Q : VK), Inv X pins σ H s → RelV x v → RelV y u → r x y H Q →
    subscripted slice false v u = operate [v, u] (getItem v u) → wpAny (model X.prog X.w) X.A (subscriptTail value slice v u) (EP X pins σ Q) X.xe s
/-- a call of a builtin's method by values: the receiver, the arguments -/
def MtR (X : Cx) (id : String) (r : V → List V → Hp → VK → Prop) : Prop :=
  ∀ (pins : List (Addr × Obj)) (s : Shared) (σ : St) (H : Hp) (x : V) (xs : List V) (v : Value) (us : List Value) (Q : VK), Inv X pins σ H s → RelV x v → Vals xs us → r x xs H Q →
    wpAny (model X.prog X.w) X.A (call (.builtin id) (v :: us)) (EP X pins σ Q) X.xe s
section
variable {X : Cx} {a b : Expr} {ta tb : TE} {pos : Pos}
theorem IxR.or {r r' : R2} (h : IxR X r) (h' : IxR X r') : IxR X (fun x y H Q => r x y H Q ∨ r' x y H Q) := by
  intro value slice pins s σ H x y v u Q I rx ry q hs
  rcases q with q | q
  · exact h value slice pins s σ H x y v u Q I rx ry q hs
  · exact h' value slice pins s σ H x y v u Q I rx ry q hs
theorem MtR.or {id : String} {r r' : V → List V → Hp → VK → Prop} (h : MtR X id r) (h' : MtR X id r') : MtR X id (fun x xs H Q => r x xs H Q ∨ r' x xs H Q) := by
  intro pins s σ H x xs v us Q I rx rs q
  rcases q with q | q
  · exact h pins s σ H x xs v us Q I rx rs q
  · exact h' pins s σ H x xs v us Q I rx rs q
/-- a[b] -/
theorem pe_ix {r : R2} (hr : IxR X r) (ha : PE X a ta) (hb : PE X b tb) (hs : PlainIx b) : PE X (.Subscript a b pos) (tOp r ta tb) := by
  intro pins s σ H Q I h
  exact Subscript_ (binT ha hb I h fun v u s2 x y H2 I2 rx ry q => hr a b pins s2 σ H2 x y v u Q I2 rx ry q (hs _ _))

def rIxL (K : PySem.W.Frag) : R2 := fun x y H Q => ∃ p xs i v, x = .ref p ∧ y = .int i ∧ SqL K H p xs ∧ atI xs i = some v ∧ Q v H
def rIxT (K : PySem.W.Frag) : R2 := fun x y H Q => ∃ p xs i v, x = .ref p ∧ y = .int i ∧ SqT K H p xs ∧ atI xs i = some v ∧ Q v H
def rIxS : R2 := fun x y H Q => ∃ z i c, x = .str z ∧ y = .int i ∧ z.length ≤ sizeLine ∧ atI z.cps.toList i = some c ∧ Q (.str ⟨#[c]⟩) H
theorem ix_list : IxR X (rIxL X.K) := by
  intro value slice pins s σ H x y v u Q I rx ry h hs
  obtain ⟨p, xs, i, z, rfl, rfl, hq, he, q⟩ := h
  cases rx
  obtain ⟨t, rfl⟩ := ry
  obtain ⟨its, r, pl, hz⟩ := I.list hq
  obtain ⟨j, h1, h2, h3, h4, h5⟩ := atI_get he
  obtain ⟨w, ew, rw'⟩ := r.get h2
  have hl := r.length
  have hn := line63
  have fin : EP X pins σ Q w s := ⟨z, H, I, rw', q⟩
  by_cases h0 : 0 ≤ i
  · have hj : i.toNat = j := by
      rw [seqIndex_of h0 h5] at h1
      exact Option.some.inj h1
    exact item_listR pl.isList h0 (by omega) (by rw [hj]; simpa using ew) fin hs
  · have hj : (i + (its.toArray.size : Int)).toNat = j := by
      rw [seqIndex_neg (by omega) h4] at h1
      rw [List.size_toArray, ← hl]
      exact Option.some.inj h1
    exact subscriptTail_builtinR (x := w) pl.isList.typeIs slot_list_getitem.lookup
      (wpAny_getItem_list_neg (Q := fun r s' => r = w ∧ EP X pins σ Q r s') pl.isList (by omega) (by rw [List.size_toArray] <;> omega) (by omega) (by rw [hj]; simpa using ew) ⟨rfl, fin⟩) hs
theorem ix_tup : IxR X (rIxT X.K) := by
  intro value slice pins s σ H x y v u Q I rx ry h hs
  obtain ⟨p, xs, i, z, rfl, rfl, hq, he, q⟩ := h
  cases rx
  obtain ⟨t, rfl⟩ := ry
  obtain ⟨its, r, pl, hz⟩ := I.tuple hq
  obtain ⟨j, h1, h2, h3, h4, h5⟩ := atI_get he
  obtain ⟨w, ew, rw'⟩ := r.get h2
  have hl := r.length
  have hn := line63
  have fin : EP X pins σ Q w s := ⟨z, H, I, rw', q⟩
  exact subscriptTail_builtinR (x := w) pl.typeIs slot_tuple_getitem.lookup
    (getItem_tuple (j := j) (Q := fun r s' => r = w ∧ EP X pins σ Q r s') pl (by omega) (by omega) (by rw [List.size_toArray, ← hl]; exact h1) (by simpa using ew) ⟨rfl, fin⟩) hs
theorem ix_str : IxR X rIxS := by
  intro value slice pins s σ H x y v u Q I rx ry h hs
  obtain ⟨z, i, c, rfl, rfl, hz, he, q⟩ := h
  obtain ⟨t, rfl⟩ := rx
  obtain ⟨t', rfl⟩ := ry
  obtain ⟨j, h1, h2, h3, h4, h5⟩ := atI_get he
  have hl : z.cps.toList.length = z.length := by simp [Str.length]
  rw [hl] at h1 h4 h5
  have hn := line63
  exact tail_any (typeIs_str s z t) slot_str_getitem.lookup (getItem_str (c := c) (by
    have e1 : decide (i < -(2 ^ 63 : Int)) = false := decide_eq_false (by omega)
    have e2 : decide (i ≥ 2 ^ 63) = false := decide_eq_false (by omega)
    rw [e1, e2, Bool.or_false]) (by rw [h1]; simpa using h2) ⟨.str ⟨#[c]⟩, H, I.tok _, ⟨_, rfl⟩, q⟩) hs
/-- list, tuple or str -/
def rIx (K : PySem.W.Frag) : R2 := fun x y H Q => rIxL K x y H Q ∨ rIxT K x y H Q ∨ rIxS x y H Q
theorem ix_seq : IxR X (rIx X.K) := ix_list.or (ix_tup.or ix_str)

/-! ### xs[i] = v, any sign -/
/-- the list's object behind a store -/
theorem mapSeq_set (its : List Value) (n j : Nat) (u : Value) : Obj.mapSeq (·.setIfInBounds j u) { cls := .type "list", data := .seq its.toArray n } = { cls := .type "list", data := .seq (its.set j u).toArray n } := by
  simp [Obj.mapSeq]
theorem Inv.lst {pins : List (Addr × Obj)} {σ : St} {H : Hp} {s : Shared} {p : Addr} {xs : List V} (I : Inv X pins σ H s) (h : H p = some (.lst xs)) :
    ∃ (its : List Value) (n : Nat), Vals xs its ∧ s.heap.get? p = some { cls := .type "list", data := .seq its.toArray n } ∧ xs.length ≤ sizeLine := by
  obtain ⟨z, its, n, r, e⟩ := I.hok p _ h
  exact ⟨its, n, r, e, z⟩
/-- the list at p is written by an update of its object -/
theorem Inv.lstUpd {pins : List (Addr × Obj)} {σ : St} {H : Hp} {s : Shared} {p : Addr} {xs ys : List V} {its its' : List Value} {n n' : Nat} {f : Obj → Obj} (I : Inv X pins σ H s) (h : H p = some (.lst xs))
    (ho : s.heap.get? p = some { cls := .type "list", data := .seq its.toArray n }) (hf : f { cls := .type "list", data := .seq its.toArray n } = { cls := .type "list", data := .seq its'.toArray n' }) (r : Vals ys its') (hz : ys.length ≤ sizeLine) (t : Nat) :
    Inv X pins σ (upd H p (.lst ys)) { s with heap := s.heap.update p f, toks := t } := by
  have e : (s.heap.update p f).get? p = some { cls := .type "list", data := .seq its'.toArray n' } := by
    rw [Heap.get?_update_self f ho (by rw [hf] <;> rfl), hf]
  refine I.write (x := p) (e := p) (by rw [h]; trivial) (.inl rfl) (fun b u hb q => (Heap.get?_update_other _ _ (Ne.symm hb)).trans q) ⟨_, e⟩ ?_
  exact ⟨hz, its', n', r, e⟩
def rSetL : V → V → V → Hp → (Hp → Prop) → Prop := fun o i v H Q => ∃ p xs k j, o = .ref p ∧ i = .int k ∧ H p = some (.lst xs) ∧ ixN xs.length k = some j ∧ Q (upd H p (.lst (xs.set j v)))
theorem set_list : PSet X rSetL := by
  intro pins s σ H o i v ov iv u Q I ro ri rv h
  obtain ⟨p, xs, k, j, rfl, rfl, hp, hj, q⟩ := h
  cases ro
  obtain ⟨t, rfl⟩ := ri
  obtain ⟨its, n, r, ho, hz⟩ := I.lst hp
  obtain ⟨h1, h2, h3, h4⟩ := ixN_seq hj
  have hl := r.length
  have hn := line63
  have I' : Inv X pins σ (upd H p (.lst (xs.set j v))) { s with heap := s.heap.update p (Obj.mapSeq (·.setIfInBounds j u)) } :=
    I.lstUpd hp ho (mapSeq_set its n j u) (r.set rv j) (by rw [List.length_set]; exact hz) s.toks
  by_cases h0 : 0 ≤ k
  · have hk : k.toNat = j := by
      rw [seqIndex_of h0 h4] at h1
      exact Option.some.inj h1
    exact PySem.W.ki_setAt ho h0 (by omega) (by rw [List.size_toArray, ← hl]; exact h4) (by rw [hk]; exact ⟨_, I', q⟩)
  · have hk : (k + (its.toArray.size : Int)).toNat = j := by
      rw [seqIndex_neg (by omega) h3] at h1
      rw [List.size_toArray, ← hl]
      exact Option.some.inj h1
    exact PySem.W.ki_setBack ho (by omega) (by rw [List.size_toArray, ← hl]; exact h3) (by omega) (by rw [hk]; exact ⟨_, I', q⟩)

/-! ### slices -/
theorem slice_bounds (lo hi : Option Int) (n : Nat) : (sliceBounds lo hi none n).1 = ((HT.sIx n 0 lo : Nat) : Int) ∧ (sliceBounds lo hi none n).2.1 = ((HT.sIx n n hi : Nat) : Int) ∧ (sliceBounds lo hi none n).2.2 = 1 := by
  refine ⟨?_, ?_, rfl⟩
  · cases lo with
    | none => simp [sliceBounds, HT.sIx]
    | some i =>
      simp only [sliceBounds, HT.sIx, Option.getD_none, show (1 : Int) > 0 by decide, if_true]
      by_cases h : i < 0
      · simp only [h, if_true] <;> omega
      · simp only [h, if_false] <;> omega
  · cases hi with
    | none => simp [sliceBounds, HT.sIx]
    | some i =>
      simp only [sliceBounds, HT.sIx, Option.getD_none, show (1 : Int) > 0 by decide, if_true]
      by_cases h : i < 0
      · simp only [h, if_true] <;> omega
      · simp only [h, if_false] <;> omega
theorem slicePick_cut (its : List Value) (lo hi : Option Int) : slicePick its.toArray lo hi none = ((its.drop (HT.sIx its.length 0 lo)).take (HT.sIx its.length its.length hi - HT.sIx its.length 0 lo)).toArray := by
  obtain ⟨h1, h2, h3⟩ := slice_bounds lo hi its.toArray.size
  unfold slicePick
  rw [h1, h2, h3]
  simp only [sliceRange_one, pick_run, List.size_toArray] <;> rfl
/-- xs[lo:hi] of a list: a new list -/
def rSlL (K : PySem.W.Frag) : V → Option Int → Option Int → Hp → VK → Prop := fun x lo hi H Q => ∃ a xs, x = .ref a ∧ SqL K H a xs ∧ ∀ p, H p = none → Q (.ref p) (upd H p (.lst (cutV xs lo hi)))
theorem sl_list : SlR X (rSlL X.K) := by
  intro pins s σ H x v vl vu lo hi sl Q I rx hs pl pu h
  obtain ⟨a, xs, rfl, hx, q⟩ := h
  cases rx
  obtain ⟨its, r, ht, hz⟩ := I.list hx
  have hlen := r.length
  refine ⟨"list", _, slot_list_getitem.lookup, ht.isList.typeIs, ?_⟩
  refine wpAny_getItem_list_slice ht.isList hs pl pu .none (by simp) ?_ (by rw [List.size_toArray] <;> omega)
  rw [slicePick_cut, ← hlen]
  refine ⟨.ref s.heap.objs.size, _, I.laid (t' := s.toks) (o := .lst (cutV xs lo hi)) (fun b ob q => Heap.get?_push_of_some _ q) (Nat.le_refl _) ?_, rfl, q _ (I.hok.fresh (Nat.le_refl _))⟩
  exact ⟨Nat.le_trans (cutV_length xs lo hi) hz, _, 0, (r.drop (HT.sIx xs.length 0 lo)).take (HT.sIx xs.length xs.length hi - HT.sIx xs.length 0 lo), Heap.get?_push_size _ rfl⟩

/-! ### in, not in: flat items -/
def flatV : V → Bool
  | .non => true
  | .bl _ => true
  | .int _ => true
  | .str _ => true
  | _ => false
/-- == of flat values -/
def eqV : V → V → Bool
  | .non, .non => true
  | .bl a, .bl b => a == b
  | .bl a, .int b => (if a then 1 else 0) == b
  | .int a, .bl b => a == (if b then 1 else 0)
  | .int a, .int b => a == b
  | .str a, .str b => a == b
  | _, _ => false
theorem eqAt_V {A : Around} {s : Shared} {y x : V} {u v : Value} (ry : RelV y u) (rx : RelV x v) (fy : flatV y = true) (fx : flatV x = true) : SeqAt.EqAt A s u v (eqV y x) := by
  cases y with
  | non =>
    cases ry
    cases x with
    | non => cases rx; exact SeqAt.EqAt.same _
    | bl b => cases rx; exact SeqAt.EqAt.none_bool b
    | int b => obtain ⟨t, rfl⟩ := rx; exact SeqAt.EqAt.none_int b t
    | str b => obtain ⟨t, rfl⟩ := rx; exact SeqAt.EqAt.none_str b t
    | _ => exact absurd (show false = true from fx) Bool.false_ne_true
  | bl a =>
    cases ry
    cases x with
    | non => cases rx; exact SeqAt.EqAt.bool_none a
    | bl b => cases rx; exact SeqAt.EqAt.bool_bool a b
    | int b => obtain ⟨t, rfl⟩ := rx; exact SeqAt.EqAt.bool_int a b t
    | str b => obtain ⟨t, rfl⟩ := rx; exact SeqAt.EqAt.bool_str a b t
    | _ => exact absurd (show false = true from fx) Bool.false_ne_true
  | int a =>
    obtain ⟨t', rfl⟩ := ry
    cases x with
    | non => cases rx; exact SeqAt.EqAt.int_none a t'
    | bl b => cases rx; exact SeqAt.EqAt.int_bool a t' b
    | int b => obtain ⟨t, rfl⟩ := rx; exact SeqAt.EqAt.int_int a t' b t
    | str b => obtain ⟨t, rfl⟩ := rx; exact SeqAt.EqAt.int_str a t' b t
    | _ => exact absurd (show false = true from fx) Bool.false_ne_true
  | str a =>
    obtain ⟨t', rfl⟩ := ry
    cases x with
    | non => cases rx; exact SeqAt.EqAt.str_none a t'
    | bl b => cases rx; exact SeqAt.EqAt.str_bool a t' b
    | int b => obtain ⟨t, rfl⟩ := rx; exact SeqAt.EqAt.str_int a t' b t
    | str b => obtain ⟨t, rfl⟩ := rx; exact SeqAt.EqAt.str_str a t' b t
    | _ => exact absurd (show false = true from fx) Bool.false_ne_true
  | _ => exact absurd (show false = true from fy) Bool.false_ne_true
/-- the items' answers, read off the values (a value's own answer does not lean on its token) -/
def eqU (x : V) (u : Value) : Bool := match u with
  | .none => eqV .non x
  | .bool b => eqV (.bl b) x
  | .int i _ => eqV (.int i) x
  | .str z _ => eqV (.str z) x
  | _ => false
theorem eqU_of {x y : V} {u : Value} (r : RelV y u) (f : flatV y = true) : eqU x u = eqV y x := by
  cases y with
  | non => cases r; rfl
  | bl b => cases r; rfl
  | int i => obtain ⟨t, rfl⟩ := r; rfl
  | str z => obtain ⟨t, rfl⟩ := r; rfl
  | _ => exact absurd (show false = true from f) Bool.false_ne_true
theorem any_eqU {x : V} : ∀ {xs : List V} {us : List Value}, Vals xs us → xs.all flatV = true → us.any (eqU x) = xs.any fun y => eqV y x
  | _, _, .nil, _ => rfl
  | y :: xs, u :: us, .cons r t, f => by
    rw [List.all_cons, Bool.and_eq_true] at f
    rw [List.any_cons, List.any_cons, eqU_of r f.1, any_eqU t f.2]
theorem mem_eqAt {A : Around} {s : Shared} {x : V} {v : Value} (rx : RelV x v) (fx : flatV x = true) : ∀ {xs : List V} {us : List Value}, Vals xs us → xs.all flatV = true → ∀ u ∈ us, SeqAt.EqAt A s u v (eqU x u)
  | _, _, .nil, _ => fun u hu => by cases hu
  | y :: xs, u :: us, .cons r t, f => fun u' hu => by
    rw [List.all_cons, Bool.and_eq_true] at f
    rcases List.mem_cons.mp hu with rfl | hu
    · rw [eqU_of r f.1]; exact eqAt_V r rx f.1 fx
    · exact mem_eqAt rx fx t f.2 u' hu
def inV (x : V) (xs : List V) : Bool := xs.any fun y => eqV y x
/-- x in a list or tuple of flat items -/
def rIn (K : PySem.W.Frag) (neg : Bool) : R2 := fun x y H Q => ∃ p xs, y = .ref p ∧ (SqL K H p xs ∨ SqT K H p xs) ∧ flatV x = true ∧ xs.all flatV = true ∧ Q (.bl (if neg then !inV x xs else inV x xs)) H
theorem op_in_seq : OpR X (compareOp .In) (rIn X.K false) := by
  intro pins s σ H x y v u Q I rx ry h
  obtain ⟨p, xs, rfl, hq, fx, fs, q⟩ := h
  cases ry
  rcases hq with hq | hq
  · obtain ⟨its, r, pl, hz⟩ := I.list hq
    refine SeqAt.in_listAt (eqU x) pl.isList (fun w hw => mem_eqAt rx fx r fs w (by simpa using hw)) ⟨.bl _, H, I, rfl, ?_⟩
    rw [show its.toArray.any (eqU x) = its.any (eqU x) by simp, any_eqU r fs]
    exact q
  · obtain ⟨its, r, pl, hz⟩ := I.tuple hq
    refine SeqAt.in_tupleAt (eqU x) pl (fun w hw => mem_eqAt rx fx r fs w (by simpa using hw)) ⟨.bl _, H, I, rfl, ?_⟩
    rw [show its.toArray.any (eqU x) = its.any (eqU x) by simp, any_eqU r fs]
    exact q
theorem op_notIn_seq : OpR X (compareOp .NotIn) (rIn X.K true) := by
  intro pins s σ H x y v u Q I rx ry h
  obtain ⟨p, xs, rfl, hq, fx, fs, q⟩ := h
  cases ry
  rcases hq with hq | hq
  · obtain ⟨its, r, pl, hz⟩ := I.list hq
    refine SeqAt.notIn_listAt (eqU x) pl.isList (fun w hw => mem_eqAt rx fx r fs w (by simpa using hw)) ⟨.bl _, H, I, rfl, ?_⟩
    rw [show its.toArray.any (eqU x) = its.any (eqU x) by simp, any_eqU r fs]
    exact q
  · obtain ⟨its, r, pl, hz⟩ := I.tuple hq
    refine SeqAt.notIn_tupleAt (eqU x) pl (fun w hw => mem_eqAt rx fx r fs w (by simpa using hw)) ⟨.bl _, H, I, rfl, ?_⟩
    rw [show its.toArray.any (eqU x) = its.any (eqU x) by simp, any_eqU r fs]
    exact q
theorem op_notIn_str : OpR X (compareOp .NotIn) (fun x y H Q => ∃ i j, x = .str i ∧ y = .str j ∧ Q (.bl (!(!(Builtin.Str.occurrences j i 0 j.length 1).isEmpty))) H) := by
  intro pins s σ H x y v u Q I rx ry h
  obtain ⟨i, j, rfl, rfl, q⟩ := h
  obtain ⟨t, rfl⟩ := rx
  obtain ⟨t', rfl⟩ := ry
  exact notIn_str ⟨.bl _, H, I, rfl, q⟩

/-! ### len, list(x), tuple(x) of any list or tuple that is read -/
theorem call_len_seq : CallR X (.builtin "len") (fun xs H Q => ∃ p ys, xs = [.ref p] ∧ (SqL X.K H p ys ∨ SqT X.K H p ys) ∧ Q (.int ys.length) H) := by
  intro pins s σ H xs us Q I r h
  obtain ⟨p, ys, rfl, hq, q⟩ := h
  obtain ⟨u, rfl, rx⟩ := vals1 r
  cases rx
  have hn := line63
  rcases hq with hq | hq
  · obtain ⟨its, r', pl, hz⟩ := I.list hq
    have hlen := r'.length
    exact Calls.call_len_list pl.isList (by simp only [List.size_toArray] <;> omega) ⟨.int ys.length, H, I.tok _, ⟨s.toks + 1, by rw [List.size_toArray, hlen]⟩, q⟩
  · obtain ⟨its, r', pl, hz⟩ := I.tuple hq
    have hlen := r'.length
    exact len_tuple pl (by simp only [List.size_toArray] <;> omega) ⟨.int ys.length, H, I.tok _, ⟨s.toks + 1, by rw [List.size_toArray, hlen]⟩, q⟩
theorem call_len_str : CallR X (.builtin "len") (fun xs H Q => ∃ z, xs = [.str z] ∧ z.length ≤ sizeLine ∧ Q (.int z.length) H) := by
  intro pins s σ H xs us Q I r h
  obtain ⟨z, rfl, hz, q⟩ := h
  obtain ⟨u, rfl, t, rfl⟩ := vals1 r
  have hn := line63
  exact len_str (by omega) ⟨.int z.length, H, I.tok _, ⟨_, rfl⟩, q⟩
theorem CallR.or {f : Value} {r r' : List V → Hp → VK → Prop} (h : CallR X f r) (h' : CallR X f r') : CallR X f (fun xs H Q => r xs H Q ∨ r' xs H Q) := by
  intro pins s σ H xs us Q I rs q
  rcases q with q | q
  · exact h pins s σ H xs us Q I rs q
  · exact h' pins s σ H xs us Q I rs q
theorem call_list_of : CallR X (.type "list") (fun xs H Q => ∃ p ys, xs = [.ref p] ∧ (SqL X.K H p ys ∨ SqT X.K H p ys) ∧ ∀ l, H l = none → Q (.ref l) (upd H l (.lst ys))) := by
  intro pins s σ H xs us Q I r h
  obtain ⟨p, ys, rfl, hq, q⟩ := h
  obtain ⟨u, rfl, rx⟩ := vals1 r
  cases rx
  have fin : ∀ (its : List Value), Vals ys its → ys.length ≤ sizeLine → ∀ (h' : Heap) (c' : Nat), (∀ b o', s.heap.get? b = some o' → h'.get? b = some o') →
      h'.get? s.heap.objs.size = some { cls := .type "list", dict := none, data := .seq its.toArray c', slots := #[] } → EP X pins σ Q (.ref s.heap.objs.size) { s with heap := h' } := fun its r' hz h' c' kp e =>
    ⟨.ref s.heap.objs.size, _, I.laid (t' := s.toks) kp (Nat.le_refl _) (show ObjOk X.prog X.w _ h' _ (.lst ys) from ⟨hz, its, c', r', e⟩), rfl, q _ (I.hok.fresh (Nat.le_refl _))⟩
  rcases hq with hq | hq
  · obtain ⟨its, r', pl, hz⟩ := I.list hq
    have hlen := r'.length
    obtain ⟨o, ho, hc, n, hd⟩ := pl.isList
    exact call_list_seq p (.inl rfl) ho hc hd (fun h' c' kp e => fin its r' hz h' c' kp e) (by simp only [List.size_toArray] <;> omega)
  · obtain ⟨its, r', pl, hz⟩ := I.tuple hq
    have hlen := r'.length
    obtain ⟨o, ho, hc, n, hd⟩ := pl
    exact call_list_seq p (.inr rfl) ho hc hd (fun h' c' kp e => fin its r' hz h' c' kp e) (by simp only [List.size_toArray] <;> omega)
theorem call_tuple_of : CallR X (.type "tuple") (fun xs H Q => ∃ p ys, xs = [.ref p] ∧ ((SqL X.K H p ys ∧ ∀ l, H l = none → Q (.ref l) (upd H l (.tup ys))) ∨ (SqT X.K H p ys ∧ Q (.ref p) H))) := by
  intro pins s σ H xs us Q I r h
  obtain ⟨p, ys, rfl, h⟩ := h
  obtain ⟨u, rfl, rx⟩ := vals1 r
  cases rx
  rcases h with ⟨hq, q⟩ | ⟨hq, q⟩
  · obtain ⟨its, r', pl, hz⟩ := I.list hq
    have hlen := r'.length
    refine call_tuple_list pl.isList (fun h' kp => ?_) (by simp only [List.size_toArray] <;> omega)
    have I1 : Inv X pins σ H { s with heap := h' } := I.kept (t' := s.toks) kp
    have I2 : Inv X pins σ (upd H h'.objs.size (.tup ys)) { s with heap := h'.push { cls := .type "tuple", data := .seq its.toArray } } :=
      I1.laid (t' := s.toks) (fun b o e => Heap.get?_push_of_some _ e) (Nat.le_refl _) (show ObjOk X.prog X.w _ _ _ (.tup ys) from ⟨hz, its, r', IsTup.new _ _⟩)
    exact ⟨.ref h'.objs.size, _, I2, rfl, q _ (I1.hok.fresh (Nat.le_refl _))⟩
  · obtain ⟨its, r', pl, hz⟩ := I.tuple hq
    exact call_tuple_same pl ⟨.ref p, H, I, rfl, q⟩

/-! ### the call of a builtin's method: o.m(..) -/
/-- the value is of that builtin type -/
def tyV (K : PySem.W.Frag) (T : String) (x : V) (H : Hp) : Prop := match x with
  | .str _ => T = "str"
  | .int _ => T = "int"
  | .ref p => (T = "list" ∧ ∃ xs, SqL K H p xs) ∨ (T = "tuple" ∧ ∃ o, K.lookup p = some o ∧ o.cls = .type "tuple" ∧ o.dict = none) ∨
      (T = "dict" ∧ ((∃ kvs, H p = some (.dK kvs)) ∨ ∃ kvs, H p = some (.dT kvs))) ∨ (T = "set" ∧ ∃ S n, H p = some (.set S n))
  | _ => False
theorem tyV_is {pins : List (Addr × Obj)} {σ : St} {H : Hp} {s : Shared} {T : String} {x : V} {v : Value} (I : Inv X pins σ H s) (r : RelV x v) (ty : tyV X.K T x H) :
    s.TypeIs v T ∧ ∀ a, v = .ref a → ∃ ob, s.heap.get? a = some ob ∧ ob.dict = none := by
  cases x with
  | str z =>
    obtain ⟨t, rfl⟩ := r
    cases (show T = "str" from ty)
    exact ⟨typeIs_str s z t, fun _ e => nomatch e⟩
  | int i =>
    obtain ⟨t, rfl⟩ := r
    cases (show T = "int" from ty)
    exact ⟨typeIs_int s i t, fun _ e => nomatch e⟩
  | ref p =>
    cases r
    rcases ty with ⟨rfl, xs, hq⟩ | ⟨rfl, o, hk, hc, hd⟩ | ⟨rfl, hk⟩ | ⟨rfl, S, n, hk⟩
    · obtain ⟨its, _, pl, _⟩ := I.list hq
      refine ⟨pl.isList.typeIs, fun a e => ?_⟩
      cases e
      obtain ⟨o, n, e, c, hd, _⟩ := pl
      exact ⟨o, e, hd⟩
    · refine ⟨⟨o, I.kIn p o hk, hc⟩, fun a e => ?_⟩
      cases e
      exact ⟨o, I.kIn _ o hk, hd⟩
    · have z : ∃ o, s.heap.get? p = some o ∧ o.ExactDict := by
        rcases hk with ⟨kvs, hk⟩ | ⟨kvs, hk⟩
        · obtain ⟨_, _, _, _, o, _, _, e, ex, _⟩ := I.hok p _ hk
          exact ⟨o, e, ex⟩
        · obtain ⟨_, _, _, _, o, _, _, e, ex, _⟩ := I.hok p _ hk
          exact ⟨o, e, ex⟩
      obtain ⟨o, e, ex⟩ := z
      refine ⟨⟨o, e, ex.1⟩, fun a e2 => ?_⟩
      cases e2
      exact ⟨o, e, ex.2.1⟩
    · obtain ⟨o, _, _, _, e, ex, _⟩ := I.hok p _ hk
      refine ⟨⟨o, e, ex.1⟩, fun a e2 => ?_⟩
      cases e2
      exact ⟨o, e, ex.2.1⟩
  | _ => exact False.elim ty
def tBM0 (K : PySem.W.Frag) (T : String) (r : V → List V → Hp → VK → Prop) (to : TE) : TE := fun σ H Q => to σ H fun x H1 => tyV K T x H1 ∧ r x [] H1 Q
def tBM (K : PySem.W.Frag) (T : String) (r : V → List V → Hp → VK → Prop) (to : TE) (t : TA) : TE := fun σ H Q => to σ H fun x H1 => tyV K T x H1 ∧ t σ H1 fun xs H2 => r x xs H2 Q
variable {o e : Expr} {es : List Expr} {to : TE} {t : TA} {name : Str} {apos cpos : Pos} {T id : String} {r : V → List V → Hp → VK → Prop}
theorem pe_bm0 (pa : PlainAttrs T) (slot : Slot T name id) (hty : typeOf (.builtin id) = pure (.type "method_descriptor")) (hm : MtR X id r) (ho : PE X o to)
    (hbase : attributeBase o name X.env (eval o X.env) = eval o X.env := by rfl) (hline : (apos.endLine == cpos.line) = true := by rfl) : PE X (.Call (.Attribute o name apos) [] [] cpos) (tBM0 X.K T r to) := by
  intro pins s σ H Q I h
  refine wpAny_Call_method0_late hbase hline (thn (ho pins s σ H _ I h) fun v s1 ⟨x, H1, I1, r1, ty, q1⟩ => ?_)
  obtain ⟨h1, h2⟩ := tyV_is I1 r1 ty
  exact ⟨T, id, pa, slot, hty, h1, h2, Calls.callWith_builtin rfl (PySem.evalArgs_none (hm pins s1 σ H1 x [] v [] Q I1 r1 .nil q1))⟩
theorem pe_bm (pa : PlainAttrs T) (slot : Slot T name id) (hty : typeOf (.builtin id) = pure (.type "method_descriptor")) (hm : MtR X id r) (ho : PE X o to) (ha : PA X (e :: es) t)
    (hbase : attributeBase o name X.env (eval o X.env) = eval o X.env := by rfl)
    (hfew : ((backTo cpos (starEach (e :: es) X.env)).all (fun x => !x.1) && (backToKw cpos (keywordEach [] X.env)).all (fun x => x.1.isSome)
      && decide ((e :: es).length + ([] : List Keyword).length + (if ([] : List Keyword).isEmpty then 0 else 1) < 30)) = true := by rfl)
    (hline : (apos.endLine == cpos.line) = true := by rfl) (hs : starEach (e :: es) X.env = (false, eval e X.env) :: starEach es X.env := by rfl) (hplain : (backTo cpos (starEach es X.env)).any (·.1) = false := by rfl) :
    PE X (.Call (.Attribute o name apos) (e :: es) [] cpos) (tBM X.K T r to t) := by
  intro pins s σ H Q I h
  refine wpAny_Call_method_late hbase hfew hline rfl (thn (ho pins s σ H _ I h) fun v s1 ⟨x, H1, I1, r1, ty, q1⟩ => ?_)
  obtain ⟨h1, h2⟩ := tyV_is I1 r1 ty
  refine ⟨T, id, pa, slot, hty, h1, h2, ?_⟩
  have hA := ha cpos pins s1 σ H1 _ I1 q1
  rw [hs] at hA ⊢
  refine Calls.callWith_builtin (by show (false || (backTo cpos (starEach es X.env)).any (·.1)) = false; rw [hplain] <;> rfl) (Calls.evalArgs_plain ?_)
  exact thn hA fun us s2 ⟨vs, H2, I2, r2, q2⟩ => hm pins s2 σ H2 x vs v us Q I2 r1 r2 q2
/- xs.append(e), list.index on a module's tuple .. are MtR facts of 06m -/
end
end L2

namespace L2
open PySem PySem.Spec PyProof.Rows

def MtM (X : Cx) (id : String) (r : V → List V → Hp → VK → Prop) : Prop :=
  ∀ (pins : List (Addr × Obj)) (s : Shared) (σ : St) (H : Hp) (x : V) (xs : List V) (v : Value) (us : List Value) (Q : VK), Inv X pins σ H s → RelV x v → Vals xs us → r x xs H Q →
    wpAny (model X.prog X.w) X.A (call (.builtin id) (v :: us)) (EP X pins σ Q) X.xe s

/-! ### lists of values -/
theorem Vals.one : ∀ {x : V} {us : List Value}, Vals [x] us → ∃ u, us = [u] ∧ RelV x u
  | _, _, .cons r .nil => ⟨_, rfl, r⟩
theorem Vals.two : ∀ {x y : V} {us : List Value}, Vals [x, y] us → ∃ u v, us = [u, v] ∧ RelV x u ∧ RelV y v
  | _, _, _, .cons r (.cons q .nil) => ⟨_, _, rfl, r, q⟩
theorem Vals.zero : ∀ {us : List Value}, Vals [] us → us = []
  | _, .nil => rfl
theorem Vals.dropLast {xs : List V} {us : List Value} (h : Vals xs us) : Vals xs.dropLast us.dropLast := by
  induction h with
  | nil => exact .nil
  | cons r t ih =>
    cases t with
    | nil => exact .nil
    | cons q t' => exact .cons r ih
theorem Vals.eraseIdx : ∀ {xs : List V} {us : List Value} (i : Nat), Vals xs us → Vals (xs.eraseIdx i) (us.eraseIdx i)
  | _, _, _, .nil => .nil
  | _, _, 0, .cons _ t => t
  | _, _, i + 1, .cons r t => .cons r (Vals.eraseIdx i t)
theorem Vals.reverse {xs : List V} {us : List Value} (h : Vals xs us) : Vals xs.reverse us.reverse := by
  induction h with
  | nil => exact .nil
  | cons r t ih => rw [List.reverse_cons, List.reverse_cons]; exact Vals.append ih (.cons r .nil)
theorem Vals.rep {xs : List V} {us : List Value} (h : Vals xs us) : ∀ k : Nat, Vals (List.replicate k xs).flatten (List.replicate k us).flatten
  | 0 => .nil
  | k + 1 => by
    rw [List.replicate_succ, List.replicate_succ, List.flatten_cons, List.flatten_cons]
    exact Vals.append h (Vals.rep h k)
theorem erase_last {α : Type} (l : List α) : l.eraseIdx (l.length - 1) = l.dropLast := by
  induction l with
  | nil => rfl
  | cons a r ih =>
    cases r with
    | nil => rfl
    | cons b r =>
      have e : (a :: b :: r).length - 1 = ((b :: r).length - 1) + 1 := by
        have h1 : (a :: b :: r).length = r.length + 2 := rfl
        have h2 : (b :: r).length = r.length + 1 := rfl
        omega
      rw [e, List.eraseIdx_cons_succ, ih]
      all_goals rfl
theorem len_erase {α : Type} : ∀ (l : List α) (i : Nat), (l.eraseIdx i).length ≤ l.length
  | [], _ => Nat.le_refl _
  | _ :: _, 0 => Nat.le_succ _
  | _ :: r, i + 1 => Nat.succ_le_succ (len_erase r i)
theorem foldl_rep (its : List Value) : ∀ (k : Nat) (acc : List Value),
    List.foldl (fun x1 x2 => x1 ++ x2) acc.toArray (List.replicate k its.toArray) = (acc ++ (List.replicate k its).flatten).toArray
  | 0, acc => by simp
  | k + 1, acc => by
    have e : acc.toArray ++ its.toArray = (acc ++ its).toArray := by simp
    have e2 : (acc ++ its) ++ (List.replicate k its).flatten = acc ++ (List.replicate (k + 1) its).flatten := by
      rw [List.replicate_succ, List.flatten_cons, List.append_assoc]
    rw [← e2, ← foldl_rep its k (acc ++ its), ← e, List.replicate_succ, List.foldl_cons]

section
variable {X : Cx} {pins : List (Addr × Obj)} {σ : St} {H : Hp} {s : Shared} {l b : Addr} {xs ys zs : List V}

/-! ### the two steps: a tracked list is rewritten, a new list is laid -/
theorem Inv.lset {its its' : List Value} {n : Nat} {f : Array Value → Array Value} {t' : Nat} (I : Inv X pins σ H s) (hH : H l = some (.lst xs))
    (e : s.heap.get? l = some { cls := .type "list", data := .seq its.toArray n }) (hf : f its.toArray = its'.toArray) (hv : Vals ys its') (hz : ys.length ≤ sizeLine) :
    Inv X pins σ (upd H l (.lst ys)) { s with heap := s.heap.update l (Obj.mapSeq f), toks := t' } := by
  have q := PySem.IsL.update e f
  rw [hf] at q
  refine I.write (x := l) (e := l) (by rw [hH]; exact trivial) (.inl rfl) (fun b' u hb hu => (Heap.get?_update_other s.heap (Obj.mapSeq f) (Ne.symm hb)).trans hu) ⟨_, q⟩ ?_
  exact ⟨hz, its', _, hv, q⟩
theorem Inv.lnew {its : List Value} {t' : Nat} (I : Inv X pins σ H s) (hv : Vals ys its) (hz : ys.length ≤ sizeLine) :
    Inv X pins σ (upd H s.heap.objs.size (.lst ys)) { s with heap := s.heap.push { cls := .type "list", data := .seq its.toArray }, toks := t' } :=
  I.laid (fun _ _ q => Heap.get?_push_of_some _ q) (Nat.le_refl _) ⟨hz, its, 0, hv, Heap.get?_push_size _ rfl⟩
theorem Inv.fresh (I : Inv X pins σ H s) : H s.heap.objs.size = none := I.hok.fresh (Nat.le_refl _)
theorem Inv.lstM (I : Inv X pins σ H s) (hH : H l = some (.lst xs)) : xs.length ≤ sizeLine ∧ ∃ (its : List Value) (n : Nat), Vals xs its ∧ xs.length = its.length ∧ s.heap.get? l = some { cls := .type "list", data := .seq its.toArray n } := by
  obtain ⟨z, its, n, r, e⟩ := I.hok l _ hH
  exact ⟨z, its, n, r, r.length, e⟩

theorem notLongL {n : Nat} (h : n ≤ sizeLine) : Builtin.List.listTooLong n = false := by
  unfold Builtin.List.listTooLong
  exact decide_eq_false (by omega)
end

section
variable {X : Cx}

/-! ### methods -/
def rAppend : V → List V → Hp → VK → Prop := fun x vs H Q => ∃ l xs y, x = .ref l ∧ vs = [y] ∧ H l = some (.lst xs) ∧ xs.length < sizeLine ∧ Q .non (upd H l (.lst (xs ++ [y])))
theorem mt_append : MtM X "list.append" rAppend := by
  intro pins s σ H x vs v us Q I rx rv h
  obtain ⟨l, xs, y, rfl, rfl, hH, hz, q⟩ := h
  cases rx
  obtain ⟨u, rfl, ru⟩ := rv.one
  obtain ⟨z, its, n, r, hl, e⟩ := I.lstM hH
  refine call_meets F.slot_list_append ⟨_, e, rfl⟩ F.entry_list_append (F.args_list_append_2 _ _) (PySem.list_append l its.toArray n u (by rw [List.size_toArray]; omega)) ⟨e, ?_⟩
  refine ⟨.non, _, I.lset (its' := its ++ [u]) hH e (by simp) (r.append (.cons ru .nil)) ?_, rfl, q⟩
  rw [List.length_append, List.length_singleton]
  omega

def rExtend : V → List V → Hp → VK → Prop := fun x vs H Q => ∃ l b xs zs, x = .ref l ∧ vs = [.ref b] ∧ H l = some (.lst xs) ∧ H b = some (.lst zs) ∧ xs.length + zs.length ≤ sizeLine ∧ Q .non (upd H l (.lst (xs ++ zs)))
theorem mt_extend : MtM X "list.extend" rExtend := by
  intro pins s σ H x vs v us Q I rx rv h
  obtain ⟨l, b, xs, zs, rfl, rfl, hH, hB, hz, q⟩ := h
  cases rx
  obtain ⟨u, rfl, ru⟩ := rv.one
  cases ru
  obtain ⟨z, its, n, r, hl, e⟩ := I.lstM hH
  obtain ⟨z2, its2, n2, r2, hl2, e2⟩ := I.lstM hB
  have hsz : its.toArray.size + its2.toArray.size ≤ sizeLine := by rw [List.size_toArray, List.size_toArray]; omega
  have hlong : ¬ (!its.toArray.isEmpty && Builtin.List.listTooLong (its.toArray.size + its2.toArray.size)) = true := by
    rw [notLongL hsz, Bool.and_false]
    exact Bool.false_ne_true
  refine call_meets F.slot_list_extend ⟨_, e, rfl⟩ F.entry_list_extend (F.args_list_extend_2 _ _)
    (AutoSeq1.list_extend_list_list_0 l its.toArray n b its2.toArray n2 hlong (by rw [List.size_toArray]; omega) (by omega)) ⟨e, e2, ?_⟩
  refine ⟨.non, _, I.lset (its' := its ++ its2) hH e (by simp) (r.append r2) ?_, rfl, q⟩
  rw [List.length_append]
  omega

def rPop : V → List V → Hp → VK → Prop := fun x vs H Q => ∃ l xs y, x = .ref l ∧ vs = [] ∧ H l = some (.lst xs) ∧ xs[xs.length - 1]? = some y ∧ Q y (upd H l (.lst xs.dropLast))
theorem mt_pop : MtM X "list.pop" rPop := by
  intro pins s σ H x vs v us Q I rx rv h
  obtain ⟨l, xs, y, rfl, rfl, hH, hy, q⟩ := h
  cases rx
  have hus := rv.zero
  subst hus
  obtain ⟨z, its, n, r, hl, e⟩ := I.lstM hH
  obtain ⟨u, hu, ru⟩ := r.get hy
  have hy' : its.toArray[its.toArray.size - 1]? = some u := by
    show its.toArray[its.length - 1]? = some u
    rw [← Array.getElem?_toList, ← hl]
    exact hu
  refine call_meets F.slot_list_pop ⟨_, e, rfl⟩ F.entry_list_pop (F.args_list_pop_1 _) (MeetsSeq.list_pop_last l its.toArray n u hy' (by rw [List.size_toArray]; omega)) ⟨e, ?_⟩
  refine ⟨y, _, I.lset (its' := its.dropLast) hH e ?_ r.dropLast ?_, ru, q⟩
  · show its.toArray.eraseIdxIfInBounds (its.toArray.size - 1) = its.dropLast.toArray
    rw [List.size_toArray, List.eraseIdxIfInBounds_toArray, erase_last]
  · rw [List.length_dropLast]
    omega

def rPopAt : V → List V → Hp → VK → Prop := fun x vs H Q => ∃ l xs i k y, x = .ref l ∧ vs = [.int i] ∧ H l = some (.lst xs) ∧ -(2 ^ 63) ≤ i ∧ i < 2 ^ 63 ∧ seqIndex? i xs.length = some k ∧ xs[k]? = some y ∧ Q y (upd H l (.lst (xs.eraseIdx k)))
theorem mt_popAt : MtM X "list.pop" rPopAt := by
  intro pins s σ H x vs v us Q I rx rv h
  obtain ⟨l, xs, i, k, y, rfl, rfl, hH, h1, h2, hk, hy, q⟩ := h
  cases rx
  obtain ⟨u, rfl, ru⟩ := rv.one
  obtain ⟨t, rfl⟩ := ru
  obtain ⟨z, its, n, r, hl, e⟩ := I.lstM hH
  obtain ⟨w, hw, rw'⟩ := r.get hy
  refine call_meets F.slot_list_pop ⟨_, e, rfl⟩ F.entry_list_pop (F.args_list_pop_2 _ _)
    (MeetsSeq.list_pop_at l its.toArray n i t k w (fitsIndex_both h1 h2) (by rw [List.size_toArray, ← hl]; exact hk) (by rw [← Array.getElem?_toList]; exact hw) (by rw [List.size_toArray]; omega)) ⟨e, ?_⟩
  refine ⟨y, _, I.lset (its' := its.eraseIdx k) hH e ?_ (r.eraseIdx k) ?_, rw', q⟩
  · show its.toArray.eraseIdxIfInBounds k = (its.eraseIdx k).toArray
    rw [List.eraseIdxIfInBounds_toArray]
  · have := len_erase xs k
    omega

def rReverse : V → List V → Hp → VK → Prop := fun x vs H Q => ∃ l xs, x = .ref l ∧ vs = [] ∧ H l = some (.lst xs) ∧ Q .non (upd H l (.lst xs.reverse))
theorem mt_reverse : MtM X "list.reverse" rReverse := by
  intro pins s σ H x vs v us Q I rx rv h
  obtain ⟨l, xs, rfl, rfl, hH, q⟩ := h
  cases rx
  have hus := rv.zero
  subst hus
  obtain ⟨z, its, n, r, hl, e⟩ := I.lstM hH
  refine call_meets F.slot_list_reverse ⟨_, e, rfl⟩ F.entry_list_reverse (F.args_list_reverse_1 _) (AutoSeq1.list_reverse_list_0 l its.toArray n (by rw [List.size_toArray]; omega)) ⟨e, ?_⟩
  refine ⟨.non, _, I.lset (its' := its.reverse) hH e (by simp) r.reverse ?_, rfl, q⟩
  rw [List.length_reverse]
  omega

def rClear : V → List V → Hp → VK → Prop := fun x vs H Q => ∃ l xs, x = .ref l ∧ vs = [] ∧ H l = some (.lst xs) ∧ Q .non (upd H l (.lst []))
theorem mt_clear : MtM X "list.clear" rClear := by
  intro pins s σ H x vs v us Q I rx rv h
  obtain ⟨l, xs, rfl, rfl, hH, q⟩ := h
  cases rx
  have hus := rv.zero
  subst hus
  obtain ⟨z, its, n, r, hl, e⟩ := I.lstM hH
  refine call_meets F.slot_list_clear ⟨_, e, rfl⟩ F.entry_list_clear (F.args_list_clear_1 _) (AutoSeq1.list_clear_list_0 l its.toArray n (by rw [List.size_toArray]; omega)) ⟨e, ?_⟩
  exact ⟨.non, _, I.lset (its' := []) (ys := []) hH e rfl .nil (Nat.zero_le _), rfl, q⟩

/-! ### list + list, list += list, list * int -/
def rCat : R2 := fun x y H Q => ∃ l b xs zs, x = .ref l ∧ y = .ref b ∧ H l = some (.lst xs) ∧ H b = some (.lst zs) ∧ xs.length + zs.length ≤ sizeLine ∧ ∀ p, H p = none → Q (.ref p) (upd H p (.lst (xs ++ zs)))
theorem op_cat : OpR X (binaryOp .Add) rCat := by
  intro pins s σ H x y v u Q I rx ry h
  obtain ⟨l, b, xs, zs, rfl, rfl, hH, hB, hz, q⟩ := h
  cases rx
  cases ry
  obtain ⟨z, its, n, r, hl, e⟩ := I.lstM hH
  obtain ⟨z2, its2, n2, r2, hl2, e2⟩ := I.lstM hB
  refine PySem.P.add_list e e2 ?_ (by rw [List.size_toArray, List.size_toArray]; omega)
  have ea : its.toArray ++ its2.toArray = (its ++ its2).toArray := by simp
  rw [ea]
  exact ⟨.ref _, _, I.lnew (t' := s.toks) (r.append r2) (by rw [List.length_append]; omega), rfl, q _ I.fresh⟩
/-- a list times an int (a negative one is nothing) -/
def rRep : R2 := fun x y H Q => ∃ l k xs, x = .ref l ∧ y = .int k ∧ H l = some (.lst xs) ∧ -(2 ^ 63) ≤ k ∧ k < 2 ^ 63 ∧ xs.length * k.toNat ≤ sizeLine ∧
  ∀ p, H p = none → Q (.ref p) (upd H p (.lst (List.replicate k.toNat xs).flatten))
theorem len_rep {α : Type} (xs : List α) (k : Nat) : (List.replicate k xs).flatten.length = k * xs.length := by
  induction k with
  | zero => simp
  | succ k ih => rw [List.replicate_succ, List.flatten_cons, List.length_append, ih, Nat.succ_mul, Nat.add_comm]
theorem op_rep : OpR X (binaryOp .Mult) rRep := by
  intro pins s σ H x y v u Q I rx ry h
  obtain ⟨l, k, xs, rfl, rfl, hH, h1, h2, hz, q⟩ := h
  cases rx
  obtain ⟨t, rfl⟩ := ry
  obtain ⟨z, its, n, r, hl, e⟩ := I.lstM hH
  have hlen : its.toArray.size * k.toNat ≤ sizeLine := by rw [List.size_toArray, ← hl]; exact hz
  have hcap : ¬ its.toArray.size * k.toNat > (2 ^ 63 - 1) / 8 := by
    have : (sizeLine : Nat) ≤ (2 ^ 63 - 1) / 8 := by decide
    omega
  have hfit : ¬ (!Builtin.List.listFitsIndex k) = true := by
    rw [fitsIndex_both h1 h2]
    exact Bool.false_ne_true
  have hlong : ¬ Builtin.List.listTooLong (its.toArray.size * k.toNat) = true := by
    rw [notLongL hlen]
    exact Bool.false_ne_true
  have hnew : List.foldl (fun x1 x2 => x1 ++ x2) #[] (List.replicate (if its.toArray.isEmpty = true then 0 else k.toNat) its.toArray) = (List.replicate k.toNat its).flatten.toArray := by
    have f0 : ∀ m : Nat, List.foldl (fun x1 x2 => x1 ++ x2) #[] (List.replicate m its.toArray) = (List.replicate m its).flatten.toArray := fun m => by
      have := foldl_rep its m []
      rw [List.nil_append] at this
      exact this
    rw [f0]
    cases its with
    | nil => simp
    | cons a r' => rw [if_neg (by simp)]
  refine wpAny_binaryOp_repeat_ref (T := "list") (U := "int") (by decide) ⟨_, e, rfl⟩ (fun s' => typeIs_int s' k t) noFill_list_mul F.fills_int_mul F.slot_int_rmul repeat_list F.slot_int_index.lookup
    (call_meets F.slot_int_rmul (typeIs_int s k t) F.entry_int_rmul (F.args_int_rmul_2 _ _) (int___rmul___int_list k t l its.toArray n)
      ⟨e, rfl, ⟨_, e, rfl⟩, call_meets F.slot_list_mul ⟨_, e, rfl⟩ F.entry_list_mul (F.args_list_mul_2 _ _) (AutoListH.list___mul___list_int_3 l its.toArray n k t hfit hcap hlong) ⟨e, ?_⟩⟩)
  rw [hnew]
  exact ⟨.ref _, _, I.lnew (t' := s.toks) (r.rep k.toNat) (by rw [len_rep, Nat.mul_comm]; exact hz), rfl, q _ I.fresh⟩

/-! ### del xs[i] -/
theorem del_list {pins : List (Addr × Obj)} {s : Shared} {σ : St} {H : Hp} {l : Addr} {xs : List V} {i : Int} {t : Tok} {k : Nat} {Q : Unit → Shared → Prop} (I : Inv X pins σ H s) (hH : H l = some (.lst xs))
    (h1 : -(2 ^ 63) ≤ i) (h2 : i < 2 ^ 63) (hk : seqIndex? i xs.length = some k) (h : ∀ s', Inv X pins σ (upd H l (.lst (xs.eraseIdx k))) s' → Q () s') :
    wpAny (model X.prog X.w) X.A (delItem (.ref l) (.int i t)) Q X.xe s := by
  obtain ⟨z, its, n, r, hl, e⟩ := I.lstM hH
  refine PySem.P.delItem_list (k := k) e (fitsIndex_both h1 h2) (by rw [List.size_toArray, ← hl]; exact hk) (h _ ?_) (by rw [List.size_toArray]; omega)
  refine I.lset (its' := its.eraseIdx k) (t' := s.toks) hH e ?_ (r.eraseIdx k) ?_
  · show its.toArray.eraseIdxIfInBounds k = (its.eraseIdx k).toArray
    rw [List.eraseIdxIfInBounds_toArray]
  · have := len_erase xs k
    omega
end

/-! ### xs[a:b] = ys -/
section
variable {prog : Program} {w : World} {A : Around} {E : Value → Shared → Prop} {s : Shared}
theorem splice_eq (its its2 : List Value) (a c : Nat) : its.toArray.extract 0 a ++ its2.toArray ++ its.toArray.extract c its.toArray.size = (its.take a ++ its2 ++ its.drop c).toArray := by
  apply Array.toList_inj.mp
  first
    | (simp
       exact List.take_of_length_le (by simp))
    | simp [List.take_of_length_le]
    | simp
theorem bounds_run {a c n : Nat} (hac : a ≤ c) (hc : c ≤ n) : sliceBounds (some (a : Int)) (some (c : Int)) none n = ((a : Int), (c : Int), 1) := by
  simp only [sliceBounds, Option.getD_none]
  have h1 : ¬ ((a : Int) < 0) := by omega
  have h2 : ¬ ((c : Int) < 0) := by omega
  simp only [h1, h2, if_false, show (1 : Int) > 0 by decide, if_true]
  congr 1
  · omega
  · congr 1; omega
set_option maxRecDepth 100000 in
/-- list.__setitem__ with a slice of step one and another list -/
theorem setItem_slice {l b sl : Addr} {items new : Array Value} {n n2 : Nat} {vl vu : Value} {a c : Nat} {Q : Unit → Shared → Prop}
    (e : s.heap.get? l = some { cls := .type "list", data := .seq items n }) (e2 : s.heap.get? b = some { cls := .type "list", data := .seq new n2 }) (hne : l ≠ b)
    (hs : s.heap.IsSliceOf sl vl vu .none) (pl : IsPart vl (some (a : Int))) (pu : IsPart vu (some (c : Int))) (hac : a ≤ c) (hc : c ≤ items.size)
    (hsz : items.size + new.size ≤ sizeLine) (h : Q () { s with heap := s.heap.update l (Obj.mapSeq fun xs => xs.extract 0 a ++ new ++ xs.extract c xs.size) }) :
    wpAny (model prog w) A (setItem (.ref l) (.ref sl) (.ref b)) Q E s := by
  have hl : s.heap.IsList l items := PySem.IsL.isList e
  have hb : s.heap.IsList b new := PySem.IsL.isList e2
  obtain ⟨os, hos, hcs, hds⟩ := id hs
  have hTs : s.TypeIs (.ref sl) "slice" := ⟨os, hos, hcs⟩
  have hstep : ¬ ((rawPart none == rawInt 0) = true) := Bool.false_ne_true
  have hsame : Builtin.List.listSameRef (.ref l) (.ref b) = false := by
    unfold Builtin.List.listSameRef
    exact beq_eq_false_iff_ne.mpr hne
  have hmax : (max (a : Int) (c : Int)).toNat = c := by omega
  have hz' : ((fun xs : Array Value => xs.extract 0 a ++ new ++ xs.extract c xs.size) items).size ≤ sizeLine + 1 := by
    simp only [Array.size_append, Array.size_extract]
    omega
  unfold setItem
  try with_reducible refine wpAny_holding ?_
  first | refine wpAny_bind (wpAny_pure ?_) | skip
  refine wpAny_bind (wpAny_sequenceKey hl.typeIs (by decide) ?_)
  refine wpAny_bind (wpAny_callSpecial?_slot (name := Str.ofString "__setitem__") hl.typeIs slot_list_setitem
    (wpAny_call_entry slot_list_setitem hl.typeIs entry_list_setitem ?_ (args_list_setitem _ _ _)))
  show wpAny _ _ (Builtin.List.listSubscript? (.ref sl) >>= _) _ _ s
  refine wpAny_bind ?_
  unfold Builtin.List.listSubscript?
  refine wpAny_bind (wpAny_specialOf hTs slice_no_index ?_)
  simp only [Option.isNone_none, if_true]
  refine wpAny_pure ?_
  show wpAny _ _ (typeOf (.ref sl) >>= _) _ _ s
  refine wpAny_bind (wpAny_typeOf hTs ?_)
  first
    | rw [if_neg (by decide)]
    | refine PySem.W.KFB.if_not (by decide) ?_
  rw [listSliceParts_eq]
  refine wpAny_bind (wpAny_bind (wpAny_field hos hds (x := .none) rfl (wpAny_bind (wpAny_listPart .none ?_))))
  rw [if_neg hstep]
  refine wpAny_bind (wpAny_field hos hds (x := vl) rfl (wpAny_bind (wpAny_listPart pl ?_)))
  refine wpAny_bind (wpAny_field hos hds (x := vu) rfl (wpAny_bind (wpAny_listPart pu (wpAny_pure ?_))))
  first
    | simp only [hsame, Bool.false_eq_true, if_false]
    | refine PySem.W.KFB.if_not hsame ?_
    | (dsimp only
       rw [if_neg (by rw [hsame]; exact Bool.false_ne_true)])
  refine wpAny_bind (m := Builtin.List.listAllItems (.ref b) "must assign iterable to extended slice") ?_
  unfold Builtin.List.listAllItems
  refine wpAny_bind (wpAny_typeOf hb.typeIs ?_)
  first
    | refine PySem.W.KFB.if_so (by decide) ?_
    | rw [if_pos (by decide)]
    | simp only [beq_self_eq_true, Bool.true_or, if_true]
  unfold Builtin.List.listItems
  refine wpAny_bind (wpAny_seqItems e2 rfl (wpAny_pure ?_))
  refine wpAny_bind (wpAny_bind (wpAny_seqItems e rfl (wpAny_pure ?_)))
  refine wpAny_bind (wpAny_of_eq ((sliceIndices_raw (some (a : Int)) (some (c : Int)) none items.size (by simp)).trans (congrArg (pure : Int × Int × Int → Sem (Int × Int × Int)) (bounds_run hac hc))) ?_)
  show wpAny _ _ (if ((1 : Int) == 1) = true then _ else _) _ _ s
  rw [if_pos (by decide)]
  refine wpAny_bind (wpAny_rule ?_)
  first
    | simp only [notLongL hsz, Bool.false_eq_true, if_false]
    | refine PySem.W.KFB.if_not (notLongL hsz) ?_
  first | refine wpAny_bind (wpAny_pure ?_) | skip
  show wpAny _ _ (updateSeq l (fun xs => xs.extract 0 ((a : Int)).toNat ++ new ++ xs.extract (max (a : Int) (c : Int)).toNat xs.size) >>= _) _ _ s
  rw [hmax, Int.toNat_natCast]
  refine wpAny_bind (wpAny_updateSeq (hz := Nat.le_trans (Nat.le_add_right _ _) hsz) (_hz' := hz') e rfl ?_)
  refine wpAny_bind (wpAny_letGo ?_)
  first
    | exact wpAny_bind (wpAny_pure (wpAny_pure ⟨.none, rfl, wpAny_pure h⟩))
    | exact wpAny_pure ⟨.none, rfl, wpAny_pure h⟩
end

section
variable {X : Cx}
/-- xs[a:c] = ys of another list, at the value level: sl is the slice object that was just made -/
theorem set_slice {pins : List (Addr × Obj)} {s : Shared} {σ : St} {H : Hp} {l b sl : Addr} {xs ys : List V} {a c : Int} {vl vu : Value} {Q : Unit → Shared → Prop} (I : Inv X pins σ H s)
    (hH : H l = some (.lst xs)) (hB : H b = some (.lst ys)) (hne : l ≠ b) (hs : s.heap.IsSliceOf sl vl vu .none) (ra : RelV (.int a) vl) (rc : RelV (.int c) vu) (h0 : 0 ≤ a) (hac : a ≤ c) (hc : c ≤ xs.length)
    (hz : xs.length + ys.length ≤ sizeLine) (h : ∀ s', Inv X pins σ (upd H l (.lst (xs.take a.toNat ++ ys ++ xs.drop c.toNat))) s' → Q () s') :
    wpAny (model X.prog X.w) X.A (setItem (.ref l) (.ref sl) (.ref b)) Q X.xe s := by
  obtain ⟨ta, rfl⟩ := ra
  obtain ⟨tc, rfl⟩ := rc
  obtain ⟨z, its, n, r, hl, e⟩ := I.lstM hH
  obtain ⟨z2, its2, n2, r2, hl2, e2⟩ := I.lstM hB
  obtain ⟨a', rfl⟩ := Int.eq_ofNat_of_zero_le h0
  obtain ⟨c', rfl⟩ := Int.eq_ofNat_of_zero_le (Int.le_trans h0 hac)
  simp only [Int.toNat_natCast] at h
  refine setItem_slice (a := a') (c := c') e e2 hne hs (.int _ _) (.int _ _) (by omega) (by rw [List.size_toArray]; omega) (by rw [List.size_toArray, List.size_toArray]; omega) (h _ ?_)
  refine I.lset (its' := its.take a' ++ its2 ++ its.drop c') (t' := s.toks) hH e ?_ (Vals.append (Vals.append (r.take _) r2) (r.drop _)) ?_
  · exact splice_eq its its2 a' c'
  · rw [List.length_append, List.length_append, List.length_take, List.length_drop]
    omega
end
end L2

namespace Att
open PySem PySem.W PySem.Calls PyProof.Rows

/-! ### the script -/
theorem ints_of_wellAll {P : Params} {h : Heap} : ∀ (ns : List Int) (vs : List Value), WellAll P h vs (ns.map WData.int) → IntsAre vs ns := by
  intro ns
  induction ns with
  | nil =>
    intro vs w
    rw [List.map_nil] at w
    cases w
    exact .nil
  | cons n ns ih =>
    intro vs w
    rw [List.map_cons] at w
    cases w with
    | cons a b =>
      cases a
      exact .cons _ _ (ih _ b)

theorem script_of {l : OpenLaw} {n : Nat} (hn : l.most = some n) {P : Params} {h : Heap} {args : List WData} {vals : List Value}
    (hpre : l.row.toRowW.claim.pre args = true) (hwl : WellAll P h vals args) :
    ∃ a vs ns, vals = [Value.ref a] ∧ args = [WData.list (ns.map WData.int)] ∧ h.get? a = some { cls := .type "list", data := .seq vs.toArray } ∧ IntsAre vs ns ∧ ns.length ≤ n := by
  have hsh : WShape.hasAll [] args [.list .int] = true := (pre_splitW hpre).1
  have hc : l.pre.holds [] { args := args } = true := (pre_splitW hpre).2
  obtain ⟨d, r, rfl, h1, h2⟩ := hasAllW_cons hsh
  obtain rfl := hasAllW_nil h2
  obtain ⟨xs, rfl, h3⟩ := hasW_list h1
  obtain ⟨ns, rfl⟩ := items_int h3
  have hlen : ns.length ≤ n := by
    unfold OpenLaw.pre at hc
    have h4 : (WTm.not (.lt (.lit (.int (n : Int))) (.len (.arg 0)))).holds [] { args := [.list (ns.map .int)] } = true := by
      have h4 := (holds_andW hc).1
      rw [hn] at h4
      exact h4
    have h5 := condW_of h4 (w_not (w_lt w_lit (w_len_list (w_arg rfl))))
    rw [List.length_map] at h5
    refine Nat.le_of_not_lt fun q => ?_
    have q' : (n : Int) < ((ns.length : Nat) : Int) := by omega
    first
      | (rw [decide_eq_true q'] at h5; exact absurd h5 (by decide))
      | (simp at h5; omega)
  cases hwl with
  | cons w1 w2 =>
    cases w2
    cases w1 with
    | list ho hall => exact ⟨_, _, ns, rfl, rfl, ho, ints_of_wellAll ns _ hall, hlen⟩

theorem post_true (l : OpenLaw) (args : List WData) : l.row.toRowW.claim.post args (.bool true) args = true :=
  postW_of (r := l.row.toRowW) (X := (true == true))
    (show WShape.has [] (.bool true) .bool = true by first | rfl | decide | simp [WShape.has, WShape.arms, WShape.armsAll])
    (show (WTm.eq .res (.lit (.bool true))).value [] { args := args, res := some (.bool true), after := args } = some (.bool (true == true)) from w_eq_bool (w_res rfl) w_lit) rfl

/-! ### the attachment: holds_open's last premise (the goal 'hc' behind k_head) from a wpAny of the law's body -/
theorem attach {l : OpenLaw} {n : Nat} {q : Program} {loose : List Str} {XP : (Str → Option Value) → Heap → Prop} {YP : World → Heap → Prop} {d : DefRec} {x : Str}
    (hn : l.most = some n) (hdf : d.params.defaults = [])
    (hbind : ∀ pm cd doc v : Value, bindArgs (docDef d.name d.params d.body d.scope pm cd doc) ⟨[v], []⟩ = pure [(x, v)])
    (hx : d.scope.names.lookup x = some .local ∨ d.scope.names.lookup x = some .cell)
    (hk : d.scope.kind = .function) (hco : d.scope.isCoroutine = false) (hgen : d.scope.isGenerator = false)
    (body : ∀ (w : World) (s₀ s₁ s : Shared) (mg mb : Str → Option Value) (fa : Addr) (o : Obj) (pm cd doc : Value) (a : Addr) (vs : List Value) (ns : List Int),
      Ground q loose [] XP w s₀ mg mb s₁.heap → YP w s₁.heap →
      s₁.heap.get? fa = some o → o.data = .func (docDef d.name d.params d.body d.scope pm cd doc) → s₁.heap.CodeRec cd d.name → mg d.name = some (.ref fa) →
      s₁.heap.get? a = some { cls := .type "list", data := .seq vs.toArray } → IntsAre vs ns → ns.length ≤ n →
      s.gens = #[] → s.os = s₁.os →
      Fr s₁.heap s₁.heap.objs.size s.heap (bindL (envOfC d.name d.scope s₁.heap.objs.size fa cd).kindOf [(x, .ref a)] fun _ => none) →
      Cl s₁.heap.objs.size (cellsFrom (s₁.heap.objs.size + 1) d.scope.names []) s.heap (bindC (envOfC d.name d.scope s₁.heap.objs.size fa cd).kindOf [(x, .ref a)] fun _ => none) →
      wpAny (model l.prog w) (callerA.deeper (envOfC d.name d.scope s₁.heap.objs.size fa cd)) (execs d.body (envOfC d.name d.scope s₁.heap.objs.size fa cd))
        (fun f s' => f = .ret (.bool true) ∧ OldK s₁.heap s'.heap ∧ s'.os = s₁.os ∧ AllBare s'.gens) (fun _ _ => False) s) :
    WalkO q loose XP YP l.row.toRowW d [] (fun f vs => PySem.call f vs) := by
  intro w s₀ s₁ mg mb G Y fa o pm cd doc dV kV ho hd hcd hD hmg hg args vals as hpre hlay hrd hwl hlo
  obtain rfl : dV = .none := Dflts.none hD hdf
  obtain rfl : kV = .none := Dflts.noKw hD
  obtain ⟨a, vs, ns, rfl, rfl, hobj, hints, hlen⟩ := script_of hn hpre hwl
  refine enter_call ?_
  refine call_cells_ret (o := o) (by rw [depth_caller]; decide) ho (fd_plain hd) G.T.nolimit hcd (hbind pm cd doc (.ref a)) (fun y hy => ?_) (fun h₁ tk F X => ?_) hco hgen hk
  · obtain rfl : y = (x, Value.ref a) := List.mem_singleton.mp hy
    rcases hx with e | e
    · exact .inl e
    · exact .inr ⟨e, cellsFrom_some _ _ _ (.inl e)⟩
  · refine wpAny_mono (body w s₀ s₁ { s₁ with heap := h₁, toks := tk } mg mb fa o pm cd doc a vs ns G Y ho (fd_plain hd) hcd hmg hobj hints hlen hg rfl F X) (fun f s' hq => ?_) (fun _ _ hq => hq)
    obtain ⟨rfl, h2, h3, h4⟩ := hq
    exact ⟨.inl ⟨.bool true, .bool true, [], rfl, fun _ => rfl, .bool true, post_true l _, fun _ => ⟨List.Pairwise.nil, fun _ hm => (nomatch hm)⟩⟩, h2, h3, h4⟩

/-- the same from a codeAny of the CALL (for a layer whose function contracts speak of calls) -/
theorem attach_call {l : OpenLaw} {n : Nat} {q : Program} {loose : List Str} {XP : (Str → Option Value) → Heap → Prop} {YP : World → Heap → Prop} {d : DefRec}
    (hn : l.most = some n) (hdf : d.params.defaults = [])
    (call : ∀ (w : World) (s₀ s₁ : Shared) (mg mb : Str → Option Value) (fa : Addr) (o : Obj) (pm cd doc : Value) (a : Addr) (vs : List Value) (ns : List Int),
      Ground q loose [] XP w s₀ mg mb s₁.heap → YP w s₁.heap →
      s₁.heap.get? fa = some o → o.data = .func (docDef d.name d.params d.body d.scope pm cd doc) → s₁.heap.CodeRec cd d.name → mg d.name = some (.ref fa) →
      s₁.heap.get? a = some { cls := .type "list", data := .seq vs.toArray } → IntsAre vs ns → ns.length ≤ n → s₁.gens = #[] →
      codeAny (model l.prog w) callerA (.call (.ref fa) ⟨[.ref a], []⟩) (fun r s' => r = .ok (.ret (.bool true)) ∧ OldK s₁.heap s'.heap ∧ s'.os = s₁.os ∧ AllBare s'.gens) s₁) :
    WalkO q loose XP YP l.row.toRowW d [] (fun f vs => PySem.call f vs) := by
  intro w s₀ s₁ mg mb G Y fa o pm cd doc dV kV ho hd hcd hD hmg hg args vals as hpre hlay hrd hwl hlo
  obtain rfl : dV = .none := Dflts.none hD hdf
  obtain rfl : kV = .none := Dflts.noKw hD
  obtain ⟨a, vs, ns, rfl, rfl, hobj, hints, hlen⟩ := script_of hn hpre hwl
  refine enter_call (codeAny_mono (call w s₀ s₁ mg mb fa o pm cd doc a vs ns G Y ho (fd_plain hd) hcd hmg hobj hints hlen hg) fun r s' hq => ?_)
  obtain ⟨rfl, h2, h3, h4⟩ := hq
  exact ⟨.inl ⟨.bool true, .bool true, [], rfl, fun _ => rfl, .bool true, post_true l _, fun _ => ⟨List.Pairwise.nil, fun _ hm => (nomatch hm)⟩⟩, h2, h3, h4⟩

/-- the same where the top left finished generators (o_head chose holds_openN): nothing may have changed at all and no generator may be left -/
theorem attachN {l : OpenLaw} {n : Nat} {q : Program} {loose : List Str} {XP : (Str → Option Value) → Heap → Prop} {YP : World → Heap → Prop} {d : DefRec} {x : Str}
    (hn : l.most = some n) (hdf : d.params.defaults = [])
    (hbind : ∀ pm cd doc v : Value, bindArgs (docDef d.name d.params d.body d.scope pm cd doc) ⟨[v], []⟩ = pure [(x, v)])
    (hx : d.scope.names.lookup x = some .local ∨ d.scope.names.lookup x = some .cell)
    (hk : d.scope.kind = .function) (hco : d.scope.isCoroutine = false) (hgen : d.scope.isGenerator = false)
    (body : ∀ (w : World) (s₀ s₁ s : Shared) (mg mb : Str → Option Value) (fa : Addr) (o : Obj) (pm cd doc : Value) (a : Addr) (vs : List Value) (ns : List Int),
      Ground q loose [] XP w s₀ mg mb s₁.heap → YP w s₁.heap →
      s₁.heap.get? fa = some o → o.data = .func (docDef d.name d.params d.body d.scope pm cd doc) → s₁.heap.CodeRec cd d.name → mg d.name = some (.ref fa) →
      s₁.heap.get? a = some { cls := .type "list", data := .seq vs.toArray } → IntsAre vs ns → ns.length ≤ n →
      s.gens = #[] → s.os = s₁.os →
      Fr s₁.heap s₁.heap.objs.size s.heap (bindL (envOfC d.name d.scope s₁.heap.objs.size fa cd).kindOf [(x, .ref a)] fun _ => none) →
      Cl s₁.heap.objs.size (cellsFrom (s₁.heap.objs.size + 1) d.scope.names []) s.heap (bindC (envOfC d.name d.scope s₁.heap.objs.size fa cd).kindOf [(x, .ref a)] fun _ => none) →
      wpAny (model l.prog w) (callerA.deeper (envOfC d.name d.scope s₁.heap.objs.size fa cd)) (execs d.body (envOfC d.name d.scope s₁.heap.objs.size fa cd))
        (fun f s' => f = .ret (.bool true) ∧ (∀ b o, s₁.heap.get? b = some o → s'.heap.get? b = some o) ∧ s'.os = s₁.os ∧ s'.gens = #[]) (fun _ _ => False) s) :
    WalkN q loose XP YP l.row.toRowW d [] (fun f vs => PySem.call f vs) := by
  intro w s₀ s₁ mg mb G Y fa o pm cd doc dV kV ho hd hcd hD hmg hg args vals as hpre hlay hrd hwl hlo
  obtain rfl : dV = .none := Dflts.none hD hdf
  obtain rfl : kV = .none := Dflts.noKw hD
  obtain ⟨a, vs, ns, rfl, rfl, hobj, hints, hlen⟩ := script_of hn hpre hwl
  refine enter_callW ?_
  refine call_cells_ret (o := o) (by rw [depth_caller]; decide) ho (fd_plain hd) G.T.nolimit hcd (hbind pm cd doc (.ref a)) (fun y hy => ?_) (fun h₁ tk F X => ?_) hco hgen hk
  · obtain rfl : y = (x, Value.ref a) := List.mem_singleton.mp hy
    rcases hx with e | e
    · exact .inl e
    · exact .inr ⟨e, cellsFrom_some _ _ _ (.inl e)⟩
  · refine wpAny_mono (body w s₀ s₁ { s₁ with heap := h₁, toks := tk } mg mb fa o pm cd doc a vs ns G Y ho (fd_plain hd) hcd hmg hobj hints hlen hg rfl F X) (fun f s' hq => ?_) (fun _ _ hq => hq)
    obtain ⟨rfl, h2, h3, h4⟩ := hq
    exact ⟨.inl ⟨.bool true, .bool true, [], rfl, fun _ => rfl, .bool true, post_true l _, fun _ => ⟨List.Pairwise.nil, fun _ hm => (nomatch hm)⟩⟩, h2, h3, h4⟩

/-! ### rules over ANY heap (no ledger) from facts about the written part K: the library's own take a ledger (News) for what they write -/
section
variable {prog : Program} {w : World} {A : Around} {E : Value → Shared → Prop} {s : Shared} {K : Frag}

/-- a def of the module, or a method (qual 'C.m'), entered: the frame is the next address; cells behind it -/
theorem call_fn {R : Result → Shared → Prop} {name qual : Str} {params : Arguments} {body : List Stmt} {scope : Scope} {dV kV doc pm cdv ct oc : Value} {an od : Option Addr} {osl : Array (Option Value)} {f : Addr} {args : Args} {binds : List (Str × Value)}
    (X : K.In s.heap) (hlim : s.heap.NoLimit) (ho : K.lookup f = some ⟨oc, od, .func (fnOf name qual params body scope dV kV doc pm an cdv ct), osl⟩) (hcd : codeIn K cdv qual = true) (hroom : A.depth < recursionLimit)
    (hbind : BindsTo s (fnOf name qual params body scope dV kV doc pm an cdv ct) args binds)
    (hkind : (binds.all fun y => scope.names.lookup y.1 == some .local || scope.names.lookup y.1 == some .cell) = true)
    (h : ∀ s₁, InCallC s s.heap.objs.size (bindL (envOfC qual scope s.heap.objs.size f cdv).kindOf binds fun _ => none) (cellsFrom (s.heap.objs.size + 1) scope.names [])
        (bindC (envOfC qual scope s.heap.objs.size f cdv).kindOf binds fun _ => none) s₁ →
      wpAny (model prog w) (A.deeper (envOfC qual scope s.heap.objs.size f cdv)) (execs body (envOfC qual scope s.heap.objs.size f cdv))
        (fun fl s' => R (.ok (.ret (match fl with | .ret v => v | _ => .none))) s')
        (fun e s' => wpAny (model prog w) (A.deeper (envOfC qual scope s.heap.objs.size f cdv)) (leaving (envOfC qual scope s.heap.objs.size f cdv) e) (fun _ s'' => R (.error e) s'') (fun e' s'' => R (.error e') s'') s') s₁)
    (hco : scope.isCoroutine = false) (hgen : scope.isGenerator = false) (hk : scope.kind = .function) : codeAny (model prog w) A (.call (.ref f) args) R s := by
  refine codeAny_call_function hroom (X _ _ ho) rfl hco hgen rfl (codeRec_of X hcd) (hbind _ _ _ _ ?_)
  refine wpAny_newFunctionEnv_cells hk (kindsX hkind _) fun env he s₁ x => ?_
  subst he
  exact ⟨hlim.keeps x.toInCall.keep, codeAny_func (h s₁ x)⟩

/-- C(..): dict at size, instance at size + 1, then __init__ -/
theorem make_obj {R : Result → Shared → Prop} {C fI : Addr} {rest : List Value} {kw : List (Str × Value)}
    (X : K.In s.heap) (hm : makesIn K C = true) (hi : findIn K (.ref C) "__init__" = some (some (.ref fI))) (hf : isFn K (.ref fI) = true)
    (h : codeAny (model prog w) (A.under (.builtin "type.__call__" ⟨.ref C :: rest, kw⟩)) (.call (.ref fI) ⟨.ref (s.heap.objs.size + 1) :: rest, kw⟩) (InitBack (s.heap.objs.size + 1) R)
      { s with heap := (s.heap.push emptyDict).push (instObj C s.heap.objs.size) }) : codeAny (model prog w) A (.call (.ref C) ⟨rest, kw⟩) R s := by
  obtain ⟨hh, g, d, t, os⟩ := s
  exact make_core (makes_of X hm) (looks_findIn X hi) (fun self => bind_fn X self (beq_iff_eq.mp hf)) (.inl rfl) h

/-- x.name where the instance's dict holds the name and the class does not -/
theorem get_field {x C : Addr} {ox : Obj} {es : List DictEntry} {n : Nat} {name : Str} {expr : Bool} {v : Value} {Q : Value → Shared → Prop}
    (X : K.In s.heap) (I : PySem.W.InstAt s.heap x ox C (some (dictOf es n))) (hg : plainGet K C name = true) (hh : hasDictIn K C = true) (ha : findIn K (.ref C) name = some none)
    (hl : getL name es = some (some v)) (hv : handedIn v = true) (h : Q v { s with toks := s.toks + 1 }) : wpAny (model prog w) A (getAttr (.ref x) name expr) Q E s :=
  get_value X I (plainGet_of hg).1 (findObj_own hh ha rfl hl) hv h

/-- x.m(..): the method found in the class -/
theorem get_method {x C f : Addr} {ox : Obj} {es : List DictEntry} {n : Nat} {name : Str} {pl : Sem Bool} {Q : Value × List Value → Shared → Prop}
    (X : K.In s.heap) (I : PySem.W.InstAt s.heap x ox C (some (dictOf es n))) (hg : plainGet K C name = true) (hf : findIn K (.ref C) name = some (some (.ref f))) (ht : isFn K (.ref f) = true)
    (hl : getL name es = some none) (h : Q (.ref f, [.ref x]) s) : wpAny (model prog w) A (getMethod (.ref x) name pl) Q E s :=
  method_fn X I (plainGet_of hg).1 (plainGet_of hg).2 hf (beq_iff_eq.mp ht) (by show (lookIn name (dictOf es n)).map _ = _; rw [lookIn_dict, hl]; rfl) h

/-! the whole heap as the ledger: makes every rule that writes through a ledger a rule over any heap -/
def noObjs (h : Heap) : Heap := { h with objs := #[] }
theorem noObjs_get (h : Heap) (b : Addr) : (noObjs h).get? b = none := by
  cases e : (noObjs h).get? b with
  | none => rfl
  | some o => exact absurd (Heap.lt_size e) (Nat.not_lt_zero _)
def ledger (h : Heap) (L d : Addr) : List (Addr × Obj) := (List.range h.objs.size).filterMap fun a => if a = L ∨ a = d then none else (h.get? a).map fun o => (a, o)
theorem mem_ledger {h : Heap} {L d a : Addr} {o : Obj} : (a, o) ∈ ledger h L d ↔ a ≠ L ∧ a ≠ d ∧ h.get? a = some o := by
  unfold ledger
  rw [List.mem_filterMap]
  constructor
  · rintro ⟨b, _, e⟩
    split at e
    · cases e
    · rename_i hb
      obtain ⟨o', ho, e'⟩ := Option.map_eq_some_iff.mp e
      cases e'
      exact ⟨fun q => hb (.inl q), fun q => hb (.inr q), ho⟩
  · rintro ⟨n1, n2, ho⟩
    refine ⟨a, List.mem_range.mpr (Heap.lt_size ho), ?_⟩
    rw [if_neg (show ¬ (a = L ∨ a = d) from fun q => q.elim n1 n2), ho] <;> rfl
theorem news_ledger {h : Heap} {L d : Addr} {od : Obj} (hne : d ≠ L) (ho : h.get? d = some od) : News (noObjs h) L h ([] ++ (d, od) :: ledger h L d) := by
  rintro ⟨a, o⟩ hp
  rcases List.mem_cons.mp hp with e | hp
  · cases e
    exact ⟨ho, hne, noObjs_get _ _⟩
  · obtain ⟨n1, n2, e⟩ := mem_ledger.mp hp
    exact ⟨e, n1, noObjs_get _ _⟩
theorem fr_all {h : Heap} {L : Addr} {m : Str → Option Value} (n : h.Ns L m) : Fr (noObjs h) L h m :=
  ⟨n, fun b o e => (by rw [noObjs_get] at e; cases e), Nat.zero_le _⟩
/-- Upd of the head entry (for append_K, setItem_K ..) -/
theorem upd_ledger {h : Heap} {L d : Addr} {o o' : Obj} : Upd d o o' ((d, o) :: ledger h L d) ((d, o') :: ledger h L d) :=
  .head fun ⟨_, _⟩ hp => (mem_ledger.mp hp).2.1

/-- x.name = v over any heap: L is any namespace of the heap (the frame's, say): its map stays, its object is not told; all else but the dict stays -/
theorem set_field {x C dx L : Addr} {ox : Obj} {m : Str → Option Value} {es es' : List DictEntry} {n n' : Nat} {name : Str} {v : Value} {Q : Unit → Shared → Prop}
    (X : K.In s.heap) (I : PySem.W.InstAt s.heap x ox C (some (dictOf es n))) (hd : ox.dict = some dx) (hL : s.heap.Ns L m) (hne : dx ≠ L)
    (hs : findIn K (.ref C) "__setattr__" = some (some (.builtin "object.__setattr__"))) (hp : plainOver K C = true) (ht : takerIn K C name = some none) (hh : hasDictIn K C = true) (hl : (getL name es).isSome = true)
    (e : (putL name (PyData.keyHash w.params name) (.str name (s.toks + 1)) v es, putN name es n) = (es', n')) (hz : es'.length ≤ 1000)
    (h : ∀ h' : Heap, h'.Ns L m → h'.get? dx = some (dictOf es' n') → (∀ b o, b ≠ dx → b ≠ L → s.heap.get? b = some o → h'.get? b = some o) → Q () { s with heap := h', toks := s.toks + 2 }) :
    wpAny (model prog w) A (setAttr (.ref x) name v) Q E s := by
  obtain ⟨e1, e2⟩ := Prod.mk.inj e
  have hdx : s.heap.get? dx = some (dictOf es n) := by
    have := I.dict
    rw [hd] at this
    exact this
  refine set_plain X I hs (osa_dict (s := { s with toks := s.toks + 1 }) (h₀ := noObjs s.heap) (L := L) (m := m) (od := dictOf es n) (od' := dictOf es' n') (es := es') (n := n') (pre := []) (post := ledger s.heap L dx)
    (fr_all hL) (news_ledger hne hdx) X I hd hp ht hh hl (fun _ q => nomatch q) (fun ⟨_, _⟩ q => (mem_ledger.mp q).2.1) (by rw [putName_dict, e1, e2]) rfl hz fun h' F' N' => ?_)
  exact h h' F'.ns (N'.get (List.Mem.head _)) fun b o n1 n2 ho => N'.get (List.Mem.tail _ (mem_ledger.mpr ⟨n2, n1, ho⟩))
end
end Att

namespace L2
open PySem PySem.Spec PyProof.Rows

theorem vals_ints : ∀ {vs : List Value} {ns : List Int}, IntsAre vs ns → Vals (ns.map V.int) vs
  | _, _, .nil => .nil
  | _, _, .cons n t h => .cons ⟨t, rfl⟩ (vals_ints h)

/-- nothing is tracked but the script, known to the object (or it is an object of the module) -/
def Only (H : Hp) : Prop := ∀ b, H b = none ∨ ∃ o xs, H b = some (.frz o (.lst xs))

/-- THE HEAD: the law's promise, at the heap behind the top. F, the promise of the law's def, may use that base is part of the heap (so K.In base, base.Ns mainGlobals mg stand in Mod) -/
theorem law_call {P : Program} {w : World} {K : PySem.W.Frag} {mg mb : Str → Option Value} {CX : CXT} {k : Nat} {fa a : Addr} {fd : FuncData} {x : Str} {sp : Sp} {s₁ : Shared} {vs : List Value} {ns : List Int}
    (KX : K.In s₁.heap) (hns : s₁.heap.Ns mainGlobals mg) (hb : s₁.heap.Ns builtinsNs mb) (hbb : ∀ x : Str, x ≠ "__name__" → mb x = bootBuiltins x) (hlim : s₁.heap.NoLimit) (hg : s₁.gens = #[])
    (ha : s₁.heap.get? a = some { cls := .type "list", data := .seq vs.toArray }) (hi : IntsAre vs ns) (hl : ns.length ≤ sizeLine) (hr : Room k callerA)
    (F : ∀ base : Heap, K.In base → base.Ns mainGlobals mg → FnOk P w K mg base CX k fa fd [x] sp) (hbind : ∀ (s : Shared) (u : Value), BindsTo s fd ⟨[u], []⟩ [(x, u)])
    (hsp : ∀ H : Hp, Only H → SqL K H a (ns.map V.int) → sp [.ref a] H (fun v _ => v = .bl true) fun _ _ _ => False)
    (hCX : ∀ H e s', CX [] H s₁ (fun _ _ _ => False) e s' → False) :
    codeAny (model P w) callerA (.call (.ref fa) ⟨[.ref a], []⟩) (fun r s' => r = .ok (.ret (.bool true)) ∧ OldK s₁.heap s'.heap ∧ s'.os = s₁.os ∧ AllBare s'.gens) s₁ := by
  have rv := vals_ints hi
  have lenV := hi.length
  -- from an abstract heap in which nothing but the script may be tracked
  have core : ∀ H : Hp, Only H → SqL K H a (ns.map V.int) → HOk P w H s₁.heap → (∀ b, H b ≠ none → b = a) → (H a ≠ none → K.lookup a = none) →
      codeAny (model P w) callerA (.call (.ref fa) ⟨[.ref a], []⟩) (fun r s' => r = .ok (.ret (.bool true)) ∧ OldK s₁.heap s'.heap ∧ s'.os = s₁.os ∧ AllBare s'.gens) s₁ := by
    intro H hO hS hok hA hK
    have base_of : ∀ {b : Addr} {o : Obj}, s₁.heap.get? b = some o → H b = none → (hidT s₁.heap H).get? b = some o := fun e n => hidT_get e n
    have noA : ∀ {b : Addr} {o : Obj} {es : Array DictEntry} {ep : Nat}, s₁.heap.get? b = some o → o.data = .dict es ep → H b = none := fun {b o es ep} e d => by
      cases q : H b with
      | none => rfl
      | some u =>
        have e' : b = a := hA b (by rw [q]; simp)
        subst e'
        rw [ha] at e; cases e
        have d' : Data.seq vs.toArray _ = Data.dict es ep := d
        cases d'
    have nsK : ∀ {b : Addr} {m : Str → Option Value}, s₁.heap.Ns b m → (hidT s₁.heap H).Ns b m := fun {b m} ⟨o, es, ep, e, d, r⟩ => ⟨o, es, ep, base_of e (noA e d), d, r⟩
    have hKb : K.In (hidT s₁.heap H) := fun b o e => base_of (KX b o e) (by
      cases q : H b with
      | none => rfl
      | some u =>
        have e' : b = a := hA b (by rw [q]; simp)
        subst e'
        rw [hK (by rw [q]; simp)] at e; cases e)
    have hM : Mod K mg (hidT s₁.heap H) := ⟨hKb, nsK hns, ⟨mb, nsK hb, hbb⟩, let ⟨mc, h1, h2⟩ := hlim; ⟨mc, nsK h1, h2⟩⟩
    have e0 : Env0 P w K mg (hidT s₁.heap H) callerA [] s₁ H := ⟨rfl, hM, fun b o e => of_hidT e, Nat.le_of_eq (hidT_size _ _), trivial, fun b hb => absurd (show b ∈ ([] : List Addr) from hb) (by simp), hok, .of_eq hg⟩
    refine codeAny_mono ((F _ hKb (nsK hns)).run callerA [] s₁ H ⟨[.ref a], []⟩ [.ref a] [.ref a] _ _ hr e0 (hbind s₁ (.ref a)) (.cons rfl .nil) (hsp H hO hS)) fun r s' h => ?_
    cases r with
    | error e => exact (hCX H e s' h).elim
    | ok fl =>
      cases fl with
      | next => exact False.elim h
      | brk => exact False.elim h
      | cont => exact False.elim h
      | ret u =>
        obtain ⟨v, H', os, bare, un, hok', r', q⟩ := h
        have q' : v = .bl true := q
        subst q'
        obtain rfl : u = Value.bool true := r'
        refine ⟨rfl, OldK.of_keep fun b o e => ?_, os, bare⟩
        cases q : H b with
        | none => exact un.keep b o e q (by intro z; exact absurd (show b ∈ ([] : List Addr) from z) (by simp)) (by simp)
        | some u =>
          rcases hO b with z | ⟨ob, xs, z⟩
          · rw [q] at z; cases z
          · have z2 := un.frzs b ob _ z
            obtain ⟨e1, _⟩ := hok b _ z
            obtain ⟨e2, _⟩ := hok' b _ z2
            rw [e] at e1; cases e1
            exact e2
  cases hk : K.lookup a with
  | some o =>
    -- the script is one of the module's own objects
    have e := KX a o hk
    rw [ha] at e
    cases e
    refine core (fun _ => none) (fun _ => .inl rfl) (.inr ⟨_, vs.toArray, _, hk, rfl, rfl, rfl, by rw [List.size_toArray, lenV]; exact hl, by simpa using rv⟩) (fun b u z => by have z' : (none : Option HO) = some u := z; cases z') (fun b z => absurd rfl z) fun z => absurd rfl z
  | none =>
    refine core (fun b => if b = a then some (.frz { cls := .type "list", data := .seq vs.toArray } (.lst (ns.map V.int))) else none) (fun b => ?_) (.inl (.inr ⟨{ cls := .type "list", data := .seq vs.toArray }, if_pos rfl⟩)) (fun b u z => ?_) (fun b z => ?_) fun _ => hk
    · by_cases hb : b = a
      · exact .inr ⟨_, _, if_pos hb⟩
      · exact .inl (if_neg hb)
    · by_cases hb : b = a
      · have z' := (if_pos hb).symm.trans z
        cases z'
        subst hb
        exact ⟨ha, by rw [List.length_map]; exact hl, vs, _, rv, ha⟩
      · have z' := (if_neg hb).symm.trans z
        cases z'
    · by_cases hb : b = a
      · exact hb
      · exact absurd (if_neg hb) z
end L2

namespace L2
open PySem PySem.Spec PyProof.Rows

abbrev KOf {K : PySem.W.Frag} {h : Heap} (_ : K.In h) : PySem.W.Frag := K

/-- the goal that k_head leaves (case hc), from the law's promise. F gives the function object fd (K's own) once, then the promise over every base -/
theorem walk_of {l : PySem.W.OpenLaw} {n k : Nat} {q : Program} {loose : List Str} {XP : (Str → Option Value) → Heap → Prop} {YP : World → Heap → Prop} {d : DefRec} {K : Params → PySem.W.Frag} {CX : World → CXT} {sp : World → Sp} {x : Str}
    (hn : l.most = some n) (hn2 : n ≤ sizeLine) (hdf : d.params.defaults = []) (hr : Room k callerA)
    (hY : ∀ (w : World) (h : Heap), YP w h → (K w.params).In h)
    (F : ∀ (w : World) (mg : Str → Option Value) (fa : Addr) (h : Heap), (K w.params).In h → h.Ns mainGlobals mg → mg d.name = some (.ref fa) →
      ∃ fd : FuncData, (∀ (s : Shared) (u : Value), BindsTo s fd ⟨[u], []⟩ [(x, u)]) ∧
        ∀ base : Heap, (K w.params).In base → base.Ns mainGlobals mg → FnOk l.prog w (K w.params) mg base (CX w) k fa fd [x] (sp w))
    (hsp : ∀ (w : World) (H : Hp) (a : Addr) (ns : List Int), ns.length ≤ n → Only H → SqL (K w.params) H a (ns.map V.int) → sp w [.ref a] H (fun v _ => v = .bl true) fun _ _ _ => False)
    (hCX : ∀ (w : World) (H : Hp) (s : Shared) (e : Value) (s' : Shared), CX w [] H s (fun _ _ _ => False) e s' → False) :
    PySem.W.WalkO q loose XP YP l.row.toRowW d [] (fun f vs => PySem.call f vs) := by
  refine Att.attach_call hn hdf fun w s₀ s₁ mg mb fa o pm cd doc a vs ns G Y ho hd hcd hmg hobj hints hlen hg => ?_
  have KX := hY w _ Y
  obtain ⟨fd, hb, hF⟩ := F w mg fa _ KX G.T.g hmg
  exact law_call KX G.T.g G.T.b G.T.builtins G.T.nolimit hg hobj hints (Nat.le_trans hlen hn2) hr hF hb (fun H hO hS => hsp w H a ns hlen hO hS) fun H e s' => hCX w H s₁ e s'
/-- the same where the promise hangs on the written part alone: (sp := My.sp_law), no hole under a binder -/
theorem walk_ofK {l : PySem.W.OpenLaw} {n k : Nat} {q : Program} {loose : List Str} {XP : (Str → Option Value) → Heap → Prop} {YP : World → Heap → Prop} {d : DefRec} {K : Params → PySem.W.Frag} {CX : CXT} {sp : PySem.W.Frag → Sp} {x : Str}
    (hn : l.most = some n) (hn2 : n ≤ sizeLine) (hdf : d.params.defaults = []) (hr : Room k callerA)
    (hY : ∀ (w : World) (h : Heap), YP w h → (K w.params).In h)
    (F : ∀ (w : World) (mg : Str → Option Value) (fa : Addr) (h : Heap), (K w.params).In h → h.Ns mainGlobals mg → mg d.name = some (.ref fa) →
      ∃ fd : FuncData, (∀ (s : Shared) (u : Value), BindsTo s fd ⟨[u], []⟩ [(x, u)]) ∧
        ∀ base : Heap, (K w.params).In base → base.Ns mainGlobals mg → FnOk l.prog w (K w.params) mg base CX k fa fd [x] (sp (K w.params)))
    (hsp : ∀ (K : PySem.W.Frag) (H : Hp) (a : Addr) (ns : List Int), ns.length ≤ n → Only H → SqL K H a (ns.map V.int) → sp K [.ref a] H (fun v _ => v = .bl true) fun _ _ _ => False)
    (hCX : ∀ (H : Hp) (s : Shared) (e : Value) (s' : Shared), CX [] H s (fun _ _ _ => False) e s' → False) :
    PySem.W.WalkO q loose XP YP l.row.toRowW d [] (fun f vs => PySem.call f vs) :=
  walk_of (K := K) (CX := fun _ => CX) (sp := fun w => sp (K w.params)) hn hn2 hdf hr hY F (fun w H a ns h1 h2 h3 => hsp (K w.params) H a ns h1 h2 h3) fun _ H s e s' => hCX H s e s'
end L2

/- THE LAST THEOREM (shape; LID, My.* are yours):
   My.Adr: a structure of the addresses that your layer names (classes, functions); My.Txt K t: a structure (Prop) of the equations over K;
   My.txt_mk : {K} {implicit addresses ..} (e1 : nsIn K mainGlobals "law" = some (some (.ref f))) (e2 : K.lookup f = some ⟨oc, od, .func (fnOf "law" "law" params body scope dV kV doc pm an cdv ct), sl⟩) (e3 : codeIn K cdv "law" = true) .. : ∃ t, My.Txt K t

set_option maxRecDepth 100000 in
set_option maxHeartbeats 0 in
theorem PySem.Challenge.cw_LID_holds : PySem.Challenge.rw_LID.Holds := by
  w_on; o_law; k_head; (case hw => w_witness2)
  k_fill
  refine L2.walk_of (l := PySem.Challenge.rw_LID) (n := 63) (k := 40) (x := "script") (CX := fun w => ..) (sp := fun _ => My.sp_law) rfl (by decide) rfl ⟨rfl, by decide, by decide⟩ (fun w h Y => PySem.W.kIn_of Y) ?F ?S ?C
  case F =>
    intro w mg fa h KX G hmg
    have T : ∃ t, My.Txt (L2.KOf KX) t := by
      dsimp only [L2.KOf]                          -- K must stand as «<heap const> w.params» for k_is
      refine' My.txt_mk ?e1 ?e2 ?e3 ..
      (case e1 => PySem.W.k_is)                    -- in the order: a name -> its address -> its object -> its parts
      (case e2 => PySem.W.k_is)
      ..
    obtain ⟨t, T⟩ := T
    have e0 := hmg.symm.trans (PySem.W.mg_of KX G T.law)
    cases e0                                       -- fa is the law's own address
    exact ⟨_, fun s u => .of_eq rfl, fun base kb nb => My.law_fn T kb nb⟩     -- if «.of_eq rfl» comes too early: refine' ⟨_, ?b, fun base kb nb => My.law_fn T kb nb⟩; exact fun s u => .of_eq rfl
  case S => exact fun w H a ns hl hO hS => ..
  case C => exact ..
(the tactic k_is has no namespace: write k_is) -/

/-! SHORT WORDS over the layer: a def of the text, its body, what a loop and a test want. -/
namespace L2
open PySem PySem.Spec PyProof.Rows

/-! ### the text by places -/
/-- the j-th statement of a class's body -/
def inClass (s : Stmt) (j : Nat) : Stmt := match s with
  | .ClassDef _ _ _ body _ _ _ _ _ _ _ => body.getD j (.Pass ⟨0, 0, 0, 0⟩)
  | _ => .Pass ⟨0, 0, 0, 0⟩
def defArgs (s : Stmt) : Arguments := match s with
  | .FunctionDef _ a _ _ _ _ _ _ _ _ => a
  | _ => { posonlyargs := [], args := [], vararg := none, kwonlyargs := [], kw_defaults := [], kwarg := none, defaults := [] }
def defBody (s : Stmt) : List Stmt := match s with
  | .FunctionDef _ _ b _ _ _ _ _ _ _ => b
  | _ => []
def defScope (s : Stmt) : Scope := match s with
  | .FunctionDef _ _ _ _ _ _ sc _ _ _ => sc
  | _ => { kind := .function, names := [], isGenerator := false, isCoroutine := false }

/-! ### no exception leaves a def -/
abbrev CX0 : CXT := fun _ _ _ _ _ _ => False
abbrev E0 : XK := fun _ _ _ => False
theorem pass0 {X : Cx} : Passes CX0 X E0 := fun _ _ _ _ _ _ _ h => h.elim

/-! ### a def (or method) of the text as it stands behind the top -/
structure Fun (K : PySem.W.Frag) (x qual : Str) (st : Stmt) (f : Addr) (fd : FuncData) : Prop where
  ex : ∃ (oc : Value) (od : Option Addr) (kV doc pm : Value) (an : Option Addr) (cdv ct : Value) (osl : Array (Option Value)),
    fd = PySem.W.fnOf x qual (defArgs st) (defBody st) (defScope st) .none kV doc pm an cdv ct ∧ K.lookup f = some ⟨oc, od, .func fd, osl⟩ ∧ PySem.W.codeIn K cdv qual = true
  kp : PySem.W.keepIn K (.ref f) = true
section
variable {P : Program} {w : World} {K : PySem.W.Frag} {mg : Str → Option Value} {base : Heap}
/-- THE RULE for a def: its body as a term of rules, and the reading of that term -/
theorem Fun.ok {x qual : Str} {st : Stmt} {f : Addr} {fd : FuncData} {N ps : List Str} {k : Nat} {sp : Sp} (F : Fun K x qual st f fd) (S : FnScope N ps (defScope st)) (len : ∀ vs H Q E, sp vs H Q E → vs.length = ps.length)
    (hbody : ∀ (cdv : Value) (A : Around) (outer : List Env) (s : Shared) (H : Hp) (vs : List V) (Q : VK) (E : XK), Room k (A.deeper (envOfC qual (defScope st) s.heap.objs.size f cdv)) → sp vs H Q E →
      ∃ t, PSs (cxOf CX0 P w K mg base N qual (defScope st) f cdv A outer s H E).nox (defBody st) t ∧ t { nx := fun _ H' => Q .non H', rt := Q } (start N vs) H) : FnOk P w K mg base CX0 (k + 1) f fd ps sp := by
  obtain ⟨oc, od, kV, doc, pm, an, cdv, ct, osl, rfl, lk, hcd⟩ := F.ex
  refine fn_of lk hcd S len fun A outer s H vs Q E hr hsp => ?_
  obtain ⟨t, h, q⟩ := hbody cdv A outer s H vs Q E hr hsp
  exact ⟨t, h.nox, q⟩
/-- how its arguments bind (no defaults): h is «fun _ _ _ _ _ _ us hl => match us, hl with | [_, _], _ => rfl», one _ a parameter -/
theorem Fun.binds {x qual : Str} {st : Stmt} {f : Addr} {fd : FuncData} {ps : List Str} (F : Fun K x qual st f fd)
    (h : ∀ (kV doc pm : Value) (an : Option Addr) (cdv ct : Value) (us : List Value), us.length = ps.length → bindArgs (PySem.W.fnOf x qual (defArgs st) (defBody st) (defScope st) .none kV doc pm an cdv ct) ⟨us, []⟩ = pure (ps.zip us)) : Binds K fd ps [] := by
  obtain ⟨oc, od, kV, doc, pm, an, cdv, ct, osl, rfl, lk, hcd⟩ := F.ex
  exact .all (h kV doc pm an cdv ct)
theorem fun_mk {x qual : Str} {st : Stmt} {f : Addr} {oc : Value} {od an : Option Addr} {osl : Array (Option Value)} {kV doc pm cdv ct : Value} (l : K.lookup f = some ⟨oc, od, .func (PySem.W.fnOf x qual (defArgs st) (defBody st) (defScope st) .none kV doc pm an cdv ct), osl⟩)
    (c : PySem.W.codeIn K cdv qual = true) (k : PySem.W.keepIn K (.ref f) = true) : Fun K x qual st f (PySem.W.fnOf x qual (defArgs st) (defBody st) (defScope st) .none kV doc pm an cdv ct) := ⟨⟨oc, od, kV, doc, pm, an, cdv, ct, osl, rfl, l, c⟩, k⟩
end
theorem hu_of {A : Around} {k : Nat} (hr : Room k A) : A.units + 1 < cLine := Nat.lt_of_le_of_lt (Nat.add_le_add_left (by decide : 1 ≤ 64) _) hr.units
theorem small1000 {n : Nat} (h : n ≤ 1000) : n < sizeLine := Nat.lt_of_le_of_lt h (by decide)

/-! ### expressions in short: the name that stands in the i-th slot -/
section
variable {X : Cx}
theorem pv (i : Nat) {x : Str} {pos : Pos} (hN : X.N[i]? = some x := by rfl) (hv : Vis X.env.scope x := by first | exact Or.inl rfl | exact Or.inr (Or.inl rfl) | exact Or.inr (Or.inr rfl)) (hd : (x == ("__debug__" : Str)) = false := by decide)
    (hcd : (x == ("__classdict__" : Str)) = false := by decide) : PE X (.Name x pos) (tVar i) := pe_var hN hv hd hcd
end

/-! ### tests -/
theorem iteF {A B : Prop} (h : B) : if false = true then A else B := by
  rw [if_neg Bool.false_ne_true]
  exact h
theorem iteT {A B : Prop} (h : A) : if true = true then A else B := by
  rw [if_pos rfl]
  exact h
theorem ite2 {c A B : Prop} [Decidable c] (h1 : c → A) (h2 : ¬ c → B) : if c then A else B := by
  by_cases h : c
  · rw [if_pos h]
    exact h1 h
  · rw [if_neg h]
    exact h2 h
theorem iteNS {c A B : Prop} [Decidable c] (hc : c) (h : B) : if (!decide c) = true then A else B := by
  rw [decide_eq_true hc]
  exact iteF h

/-! ### heaps -/
/-- all that was tracked is as it was -/
def Same (H H' : Hp) : Prop := ∀ b o, H b = some o → H' b = some o
theorem Same.refl (H : Hp) : Same H H := fun _ _ h => h
theorem Same.trans {H H1 H2 : Hp} (a : Same H H1) (b : Same H1 H2) : Same H H2 := fun c o h => b c o (a c o h)
theorem Same.free {H H' : Hp} (e : Same H H') {l : Addr} (h : H' l = Option.none) : H l = Option.none := by
  cases q : H l with
  | none => rfl
  | some o =>
    rw [e l o q] at h
    cases h
theorem Same.seq {K : PySem.W.Frag} {H H' : Hp} {a : Addr} {xs : List V} (e : Same H H') (h : SqL K H a xs) : SqL K H' a xs := by
  rcases h with (h | ⟨o, h⟩) | h
  · exact .inl (.inl (e _ _ h))
  · exact .inl (.inr ⟨o, e _ _ h⟩)
  · exact .inr h

end L2
set_option Elab.async false
set_option linter.all false
set_option maxRecDepth 100000
set_option maxHeartbeats 4000000
namespace L2
open PySem PySem.Spec PyProof.Rows

/-! ### a list comprehension with one clause -/
def PTs (X : Cx) (ifs : List Expr) (t : TT) : Prop :=
  ∀ (pins : List (Addr × Obj)) (s : Shared) (σ : St) (H : Hp) (Q : Bool → Hp → Prop), Inv X pins σ H s → t σ H Q →
    wpAny (model X.prog X.w) X.A (forIn ifs true fun c r => if r = true then do let ok ← isTrue c X.env (eval c X.env); pure (ForInStep.yield ok) else pure (ForInStep.yield r)) (TP X pins σ Q) X.xe s
theorem pts_nil {X : Cx} : PTs X [] (fun _ H Q => Q true H) := fun _ _ _ H _ I h => wpAny_tests_nil ⟨H, I, h⟩
theorem pts_one {X : Cx} {c : Expr} {t : TT} (h : PT X c t) : PTs X [c] t := fun pins s σ H Q I hw => wpAny_tests_one (h pins s σ H Q I hw)

/-- the block's context: its own names (the variable first), the frames that run, the iterator's records -/
def compCx (X : Cx) (scope : Scope) (cl : List (Str × Addr)) (N' : List Str) (C : Addr) (s : Shared) (H : Hp) (fp : List Addr) : Cx :=
  { X with N := N', s₀ := s, H₀ := H, env := compEnvC scope cl C X.env, outer := X.stack, stack := X.stack, ex := fp, fn := fun _ => false, pn := [], xe := fun _ _ => False }

/-- what the block sees of the def's names -/
def capSt (caps : List (Str × Nat)) (σ : St) : St := caps.map fun p => (σ[p.2]?).getD none
def tComp (wi : TI) (caps : List (Str × Nat)) (tc : TT) (te : TE) : TE := fun σ H Q => wi σ H fun J H1 => ∀ p, H1 p = none →
  ∃ W : Nat → Nat → List V → Hp → Prop, (∃ m, W 0 m [] (upd H1 p (.lst []))) ∧ ∀ i m ys H2, W i m ys H2 →
    (J.stop i H2 ∧ Q (.ref p) H2) ∨ (J.go i H2 ∧ ∀ x H3, J.yld i H2 x H3 → tc (some x :: capSt caps σ) H3 fun b H4 =>
      if b = true then te (some x :: capSt caps σ) H4 fun y H5 => H5 p = some (.lst ys) ∧ ys.length < sizeLine ∧ ∃ m', m' < m ∧ W (i + 1) m' (ys ++ [y]) (upd H5 p (.lst (ys ++ [y])))
      else ∃ m', m' < m ∧ W (i + 1) m' ys H4)

theorem pe_comp {X : Cx} {x : Str} {px pos : Pos} {iter elt : Expr} {ifs : List Expr} {scope : Scope} {cl : List (Str × Addr)} {caps : List (Str × Nat)} {wi : TI} {tc : TT} {te : TE}
    (hc : X.calm = true) (hi : PI X (.Name x px) iter wi)
    (htc : ∀ C s H fp, PTs (compCx X scope cl (x :: caps.map (·.1)) C s H fp) ifs tc)
    (hte : ∀ C s H fp, PE (compCx X scope cl (x :: caps.map (·.1)) C s H fp) elt te)
    (hclos : closureFor scope X.env = pure cl) (hkind : scope.kind = .function) (hcell : ∀ y ∈ scope.names, y.2 ≠ .cell)
    (hnames : ∀ y ∈ scope.names, y.2 = .local → scope.names.lookup y.1 = some .local) (hx : scope.names.lookup x = some .local)
    (hnd : (x :: caps.map (·.1)).Nodup)
    (hsub : ∀ y c, cl.lookup y = some c → X.env.cells.lookup y = some c)
    (hhas : ∀ y, ((relabel scope X.env).names.lookup y = some .cell ∨ (relabel scope X.env).names.lookup y = some .free) → ∃ c, cl.lookup y = some c)
    (hcap : ∀ p ∈ caps, X.N[p.2]? = some p.1 ∧ (X.env.scope.names.lookup p.1 = some .cell ∨ X.env.scope.names.lookup p.1 = some .free) ∧ (∃ c, cl.lookup p.1 = some c) ∧
      ((relabel scope X.env).names.lookup p.1 = some .cell ∨ (relabel scope X.env).names.lookup p.1 = some .free))
    (hs : ∀ v, foldedSetIterable iter X.env v = pure v := by intro _; rfl) :
    PE X (.ListComp elt [⟨.Name x px, iter, ifs, 0⟩] scope pos) (tComp wi caps tc te) := by
  intro pins s σ H Q I h
  rw [eval_ListComp]
  refine wpAny_comprehension_free (use := none) rfl hs hclos hkind hnames (thn (hi pins s σ H _ I h) fun v s1 h1 => thn h1 fun itv s2 h2 => ?_)
  obtain ⟨it, fp, tn, J, H2, rfl, I2, T, st2, f2, hW⟩ := h2
  -- the new list
  refine wpAny_newObj_type ?_
  have hfr : H2 s2.heap.objs.size = none := I2.hok.fresh (Nat.le_refl _)
  obtain ⟨W, ⟨m0, w0⟩, turn⟩ := hW s2.heap.objs.size hfr
  have I3 : Inv X pins σ (upd H2 s2.heap.objs.size (.lst [])) { s2 with heap := s2.heap.push { cls := .type "list", data := .seq ([] : List Value).toArray } } :=
    I2.lnew (its := []) (t' := s2.toks) .nil (Nat.zero_le _)
  generalize hpe : s2.heap.objs.size = p at *
  generalize hs3 : ({ s2 with heap := s2.heap.push { cls := .type "list", data := .seq ([] : List Value).toArray } } : Shared) = s3 at *
  have hp3 : ∀ b ∈ fp, (upd H2 p (.lst [])) b = none := fun b hb => by
    have hb0 := (f2 b hb).1
    rw [upd_ne]
    · exact hb0
    · intro e
      subst e
      obtain ⟨o, ho, _⟩ := T.obj 0 _ st2 b hb
      have z := Heap.lt_size ho
      rw [hpe] at z
      exact Nat.lt_irrefl _ z
  have st3 : tn 0 s3.heap := T.keep 0 _ _ st2 fun b hb o e => by subst hs3; exact Heap.get?_push_of_some _ e
  generalize hH3 : upd H2 p (.lst []) = H3 at *
  refine wpAny_newFunctionEnv hcell (by intro y hy; simp at hy) (fun h4 hns hsb => ?_) hkind
  -- the block's frame at C
  generalize hCe : s3.heap.objs.size = C at *
  have k4 : ∀ b u, s3.heap.get? b = some u → h4.get? b = some u := fun b u e => by
    have hb : b ≠ C := fun z => by
      have y := Heap.lt_size e
      rw [hCe, z] at y
      exact Nat.lt_irrefl _ y
    rw [hsb.2 b hb]
    exact Heap.get?_push_of_some _ e
  have hC3 : H3 C = none := I3.hok.fresh (Nat.le_of_eq hCe)
  have fp3 : ∀ b ∈ fp, FpOk X pins H3 b := fun b hb => ⟨hp3 b hb, (f2 b hb).2⟩
  have fpC : ∀ b ∈ fp, b ≠ C := fun b hb e => by
    subst e
    obtain ⟨o, ho, _⟩ := T.obj 0 _ st3 b hb
    have z := Heap.lt_size ho
    rw [hCe] at z
    exact Nat.lt_irrefl _ z
  have fpS : ∀ b ∈ fp, b ∉ frs X.stack := fun b hb z => by
    rcases List.mem_cons.mp (I3.stkSub b z) with e | e
    · exact (fp3 b hb).2.1 e
    · exact (fp3 b hb).2.2.1 e
  have env_eq : ({ newEnv scope C X.env.globals cl X.env.qual none .none (some X.env) builtinsNs with scope := relabel scope X.env } : Env) = compEnvC scope cl C X.env := rfl
  have cEx : ∀ y c, cl.lookup y = some c → X.env.cells.lookup y = some c := hsub
  have Ok : (compCx X scope cl (x :: caps.map (·.1)) C s3 H3 fp).Ok := by
    refine ⟨I3.ok.mod, ?_, I3.ok.glob, I3.ok.blt, Nat.le_of_eq hCe, fun y z c h1 h2 => I3.ok.inj y z c (cEx y c h1) (cEx z c h2), fun y hy => hhas y hy, (fun y c hf => absurd (show false = true from hf) Bool.false_ne_true), fun hcm => I3.ok.hd hcm, I3.ok.frames, .inl rfl, ?_, fun b o e => I3.bs b o e, Nat.le_trans I3.ok.bsz I3.sz, ?_, fpS, I3.stack, I3.stkFree⟩
    · show (relabel scope X.env).kind = .function
      exact hkind
    · intro b hb
      exact ⟨fpC b hb, fun y c e => (fp3 b hb).2.2.2.2.1 y c (cEx y c e)⟩
    · intro b o e hb
      rcases (fp3 b hb).2.2.2.1 with z | z
      · exact I3.ok.noex b o e z
      · exact absurd (Nat.lt_of_lt_of_le (Heap.lt_size e) (Nat.le_trans I3.ok.bsz z)) (Nat.lt_irrefl _)
  have Inv4 : Inv (compCx X scope cl (x :: caps.map (·.1)) C s3 H3 fp) [] (none :: capSt caps σ) H3 { s3 with heap := h4, toks := s3.toks + ([] : List (Str × Value)).length } := by
    refine ⟨Ok, rfl, I3.bare, Un.kept k4, ⟨_, hns, fun i y v e1 e2 e3 => ?_⟩, fun y c e => ?_, hC3, fun y c e => I3.freeC y c (cEx y c e), fun q hq => absurd (show q ∈ ([] : List (Addr × Obj)) from hq) (by simp), I3.hok.kept k4, ?_⟩
    · cases i with
      | zero => simp at e2
      | succ j =>
        have e1' : (caps.map (·.1))[j]? = some y := by
          have z : (x :: caps.map (·.1))[j + 1]? = some y := e1
          rwa [List.getElem?_cons_succ] at z
        have e2' : (capSt caps σ)[j]? = some (some v) := by
          rwa [List.getElem?_cons_succ] at e2
        rw [List.getElem?_map] at e1'
        unfold capSt at e2'
        rw [List.getElem?_map] at e2'
        cases ec : caps[j]? with
        | none => rw [ec] at e1'; cases e1'
        | some q =>
          rw [ec] at e1' e2'
          have ey : q.1 = y := Option.some.inj e1'
          have ev : (σ[q.2]?).getD none = some v := Option.some.inj e2'
          obtain ⟨hN, hk0, ⟨c, hc0⟩, hk1⟩ := hcap q (List.mem_of_getElem? ec)
          subst ey
          have es : σ[q.2]? = some (some v) := by
            cases eq : σ[q.2]? with
            | none => rw [eq] at ev; cases ev
            | some w0 => rw [eq] at ev; exact congrArg some ev
          obtain ⟨m, hn, hl⟩ := I3.loc
          obtain ⟨u, ru, lk⟩ := hl q.2 q.1 v hN es (by rcases hk0 with z | z; exact .inr (.inl z); exact .inr (.inr z))
          refine ⟨u, ru, ?_⟩
          rcases lk with ⟨hk, _⟩ | ⟨_, c', hc', hcell'⟩
          · exfalso
            have hk' : X.env.scope.names.lookup q.1 = some .local := hk
            rcases hk0 with z | z
            · rw [z] at hk'; cases hk'
            · rw [z] at hk'; cases hk'
          · have ecc : c' = c := by
              have := cEx q.1 c hc0
              rw [this] at hc'
              exact (Option.some.inj hc').symm
            subst ecc
            obtain ⟨o, ho, hd⟩ := hcell'
            exact .inr ⟨hk1, c', hc0, ⟨o, k4 _ _ ho, hd⟩⟩
    · obtain ⟨v', o, ho, hd⟩ := I3.cell y c (cEx y c e)
      exact ⟨v', o, k4 _ _ ho, hd⟩
    · show (none :: capSt caps σ).length = (x :: caps.map (·.1)).length
      simp [capSt]
  have st4 : tn 0 h4 := T.keep 0 _ _ st3 fun b hb o e => k4 b o e
  -- the turns
  let XC := compCx X scope cl (x :: caps.map (·.1)) C s3 H3 fp
  have stat : ∀ {H' : Hp}, (∀ b ∈ fp, H' b = none) → ∀ b ∈ fp, FpOk XC [] H' b := fun hn b hb =>
    ⟨hn b hb, fpC b hb, fpS b hb, .inl hb, fun y c e => (fp3 b hb).2.2.2.2.1 y c (cEx y c e), fun q hq => absurd (show q ∈ ([] : List (Addr × Obj)) from hq) (by simp)⟩
  have fin : ∀ {σ' : St} {H' : Hp} {s' : Shared}, Inv XC [] σ' H' s' → Q (.ref p) H' → compPost (model X.prog X.w) X.A X.xe none (EP X pins σ Q) (.ref p) C (.ok .next) s' := fun {σ' H' s'} J' q => by
    obtain ⟨m, hn, _⟩ := J'.loc
    refine ⟨m, hn, fun h5 hs5 => ?_⟩
    have HC : H' C = none := J'.free
    have hok5 : HOk X.prog X.w H' h5 := fun b ob e => by
      refine (J'.hok b ob e).stay (fun c w' hc' q' => (hs5.2 c ?_).trans q') (fun _ q => q) fun _ _ q => q
      rintro rfl
      rcases hc' with rfl | hc'
      · rw [HC] at e; cases e
      · rw [HC] at hc'; cases hc'
    have un : Un (frs X.stack) fp H3 H' s3.heap s'.heap := J'.base
    have ltC : ∀ b o, s3.heap.get? b = some o → b ≠ C := fun b o e z => by
      have y := Heap.lt_size e
      rw [hCe, z] at y
      exact Nat.lt_irrefl _ y
    have un5 : Un (frs X.stack) fp H3 H' s3.heap h5 := ⟨fun b o e n hb hx' => (hs5.2 b (ltC b o e)).trans (un.keep b o e n hb hx'),
      fun b o e n hb hx' => by obtain ⟨sl, z⟩ := un.slot b o e n hb hx'; exact ⟨sl, (hs5.2 b (ltC b o e)).trans z⟩,
      un.free, fun b o e hx' => by obtain ⟨o', z⟩ := un.there b o e hx'; exact ⟨o', (hs5.2 b (ltC b o e)).trans z⟩, un.tups, un.frzs, un.tbls⟩
    have I5 : Inv X pins σ H' { s' with heap := h5 } := I3.call' (s' := { s' with heap := h5 }) (ch := fp) (J'.os) un5 hok5 J'.bare fun b hb => ⟨(fp3 b hb).2.2.2.1, (fp3 b hb).2.1, (fp3 b hb).2.2.2.2.1, (fp3 b hb).2.2.2.2.2⟩
    exact ⟨.ref p, H', I5, rfl, q⟩
  have pgx : PG XC (.Name x px) (gName 0) := pg_name hnd rfl (.inl (lookup_relabel_local hx)) (.inr (lookup_relabel_local hx))
  have toE : ∀ {α : Type} {tr : Sem α} {Q1 : α → Shared → Prop} {E1 : Value → Shared → Prop} {sx : Shared}, wpAny (model X.prog X.w) X.A tr Q1 (fun _ _ => False) sx → wpAny (model X.prog X.w) X.A tr Q1 E1 sx := fun {α tr Q1 E1 sx} hh => wpAny_mono hh (fun _ _ z => z) fun _ _ z => z.elim
  have loop : ∀ s5 : Shared, s5 = { s3 with heap := h4, toks := s3.toks + ([] : List (Str × Value)).length } →
      codeAny (model X.prog X.w) X.A (.compLoop (.ListComp elt [⟨.Name x px, iter, ifs, 0⟩] scope pos) 0 (.ref it) (.ref p) (compEnvC scope cl C X.env)) (compPost (model X.prog X.w) X.A X.xe none (EP X pins σ Q) (.ref p) C) s5 := by
    rintro s5 rfl
    refine codeAny_loop rfl (fun n s' => ∃ i v0 ys H', Inv XC [] (v0 :: capSt caps σ) H' s' ∧ tn i s'.heap ∧ (∀ b ∈ fp, H' b = none) ∧ W i n ys H') (fun n s6 hI => ?_) m0 ⟨0, none, [], H3, Inv4, st4, hp3, by rw [← hH3] at *; exact w0⟩
    obtain ⟨i, v0, ys, H6, I6, st6, fr6, w6⟩ := hI
    show wpAny _ X.A ((compTurn (.ListComp elt [⟨.Name x px, iter, ifs, 0⟩] scope pos) 0 (.ref it) (.ref p) (compEnvC scope cl C X.env)).onRaise (fun e => do noteFrame e (compEnvC scope cl C X.env); theTreesLotGoes e)) _ _ s6
    refine wpAny_noted ?_
    rw [compTurn_list]
    refine toE (wpAny_bind (wpAny_standAt (wpAny_bind ?_)))
    rcases turn i n ys H6 w6 with ⟨stop, qn⟩ | ⟨go, step⟩
    · refine thn (T.done XC rfl rfl rfl hc i [] s6 _ H6 _ I6 (stat fr6) st6 stop) fun r s7 ⟨hr, I7⟩ => ?_
      subst hr
      exact wpAny_pure (fin I7 qn)
    · refine thn (T.item XC rfl rfl rfl hc i [] s6 _ H6 (fun _ _ => False) I6 (stat fr6) st6 go) fun r s7 ⟨u, hr, h7⟩ => ?_
      subst hr
      refine wpAny_bind (thn h7 fun _ s8 ⟨xv, H8, I8, r8, y8, st8, fr8⟩ => ?_)
      have I8' := I8.pinned (stat fr8) (T.obj _ _ st8)
      refine wpAny_bind (thn (pgx _ s8 _ H8 xv u (fun σ' H' => σ' = some xv :: capSt caps σ ∧ H' = H8) I8' r8 ⟨rfl, rfl⟩) fun _ s9 ⟨σ9, H9, I9, e9, e9'⟩ => ?_)
      subst e9
      subst e9'
      have again : ∀ {s10 : Shared} {H10 : Hp} {zs : List V}, Inv XC ([] ++ pinsAt fp s8.heap) (some xv :: capSt caps σ) H10 s10 → (∃ m', m' < n ∧ W (i + 1) m' zs H10) →
          ∃ m, m < n ∧ ∃ i v0 ys H', Inv XC [] (v0 :: capSt caps σ) H' s10 ∧ tn i s10.heap ∧ (∀ b ∈ fp, H' b = none) ∧ W i m ys H' := fun {s10 H10 zs} I10 ⟨m', hm, w10⟩ => by
        refine ⟨m', hm, i + 1, some xv, zs, H10, I10.unpinned, T.keep _ _ _ st8 fun b hb o e => (I10.pin (b, o) (List.mem_append_right _ (List.mem_append_right _ (mem_pinsAt hb e)))).1, fun b hb => ?_, w10⟩
        obtain ⟨o, e, d⟩ := T.obj _ _ st8 b hb
        exact (I10.pin (b, o) (List.mem_append_right _ (List.mem_append_right _ (mem_pinsAt hb e)))).2.1
      refine wpAny_bind (thn (htc C s3 H3 fp _ s9 _ H9 _ I9 (step xv H9 y8)) fun ok s10 ⟨H10, I10, q10⟩ => ?_)
      cases ok with
      | false => exact wpAny_pure ⟨rfl, again I10 q10⟩
      | true =>
        refine wpAny_bind (wpAny_bind (thn (hte C s3 H3 fp _ s10 _ H10 _ I10 q10) fun y s11 ⟨yv, H11, I11, r11, hl11, hz11, q11⟩ => ?_))
        refine wpAny_bind (thn (mt_append (X := XC) _ s11 _ H11 (.ref p) [yv] (.ref p) [y] (fun _ H' => H' = upd H11 p (.lst (ys ++ [yv]))) I11 rfl (.cons r11 .nil) ⟨p, ys, yv, rfl, rfl, hl11, hz11, rfl⟩) fun _ s12 ⟨_, H12, I12, _, e12⟩ => ?_)
        subst e12
        exact wpAny_pure (wpAny_pure ⟨rfl, again I12 q11⟩)
  exact codeAny_compStart_list (loop _ rfl) (T.self _ 0 _ _ _ st4 (loop _ rfl))
/-- .. that reads no name of the def -/
theorem relabel_same {scope : Scope} {env : Env} (hf : ∀ y ∈ scope.names, y.2 ≠ .free) : (relabel scope env).names = scope.names := by
  unfold relabel
  refine map_eq_self fun x hx => ?_
  obtain ⟨n, k⟩ := x
  have h1 : (k == NameKind.free) = false := by simpa using hf _ hx
  simp [h1]
theorem pe_comp0 {X : Cx} {x : Str} {px pos : Pos} {iter elt : Expr} {ifs : List Expr} {scope : Scope} {wi : TI} {tc : TT} {te : TE}
    (hc : X.calm = true) (hi : PI X (.Name x px) iter wi)
    (htc : ∀ C s H fp, PTs (compCx X scope [] [x] C s H fp) ifs tc) (hte : ∀ C s H fp, PE (compCx X scope [] [x] C s H fp) elt te)
    (hkind : scope.kind = .function) (hcell : ∀ y ∈ scope.names, y.2 ≠ .cell) (hfree : ∀ y ∈ scope.names, y.2 ≠ .free)
    (hnames : ∀ y ∈ scope.names, y.2 = .local → scope.names.lookup y.1 = some .local) (hx : scope.names.lookup x = some .local)
    (hs : ∀ v, foldedSetIterable iter X.env v = pure v := by intro _; rfl) :
    PE X (.ListComp elt [⟨.Name x px, iter, ifs, 0⟩] scope pos) (tComp wi [] tc te) := by
  refine pe_comp (cl := []) (caps := []) hc hi htc hte (closureFor_none hfree) hkind hcell hnames hx (by simp) (fun y c h => by simp at h) (fun y h => ?_) (fun p hp => by simp at hp) hs
  rw [relabel_same hfree] at h
  rcases h with h | h
  · exact absurd rfl (hcell _ (PySem.mem_of_lookup h))
  · exact absurd rfl (hfree _ (PySem.mem_of_lookup h))
/-- .. that reads one name of the def -/
theorem relabel_back {scope : Scope} {env : Env} {y : Str} {k : NameKind} (h : (relabel scope env).names.lookup y = some k) (hk : k = .cell ∨ k = .free) (hcell : ∀ p ∈ scope.names, p.2 ≠ .cell) : (y, NameKind.free) ∈ scope.names := by
  have hm := PySem.mem_of_lookup h
  unfold relabel at hm
  obtain ⟨⟨n, k0⟩, hn, e⟩ := List.mem_map.mp hm
  by_cases c : (k0 == NameKind.free && env.scope.kind == .function && env.kindOf n == some .cell) = true
  · simp only [c, if_true] at e
    cases e
    have c1 : k0 = .free := by
      simp only [Bool.and_eq_true] at c
      exact eq_of_beq c.1.1
    rw [c1] at hn
    exact hn
  · have e' : (n, k0) = (y, k) := by
      have : (if (k0 == NameKind.free && env.scope.kind == .function && env.kindOf n == some .cell) = true then (n, NameKind.cell) else (n, k0)) = (y, k) := e
      rw [if_neg c] at this
      exact this
    cases e'
    rcases hk with rfl | rfl
    · exact absurd rfl (hcell _ hn)
    · exact hn
theorem relabel_free {env : Env} : ∀ {names : List (Str × NameKind)} {x : Str}, names.lookup x = some .free →
    (names.map fun (n, k) => if (k == NameKind.free && env.scope.kind == .function && env.kindOf n == some .cell) then (n, NameKind.cell) else (n, k)).lookup x = some .cell ∨
    (names.map fun (n, k) => if (k == NameKind.free && env.scope.kind == .function && env.kindOf n == some .cell) then (n, NameKind.cell) else (n, k)).lookup x = some .free
  | [], _, h => by simp at h
  | (n, k) :: r, x, h => by
    have ih := @relabel_free env r x
    show List.lookup x ((if (k == NameKind.free && env.scope.kind == .function && env.kindOf n == some .cell) = true then (n, NameKind.cell) else (n, k)) :: _) = _ ∨ List.lookup x ((if (k == NameKind.free && env.scope.kind == .function && env.kindOf n == some .cell) = true then (n, NameKind.cell) else (n, k)) :: _) = _
    cases hx : x == n with
    | true =>
      simp only [List.lookup_cons, hx] at h
      cases h
      by_cases hc : (NameKind.free == NameKind.free && env.scope.kind == .function && env.kindOf n == some .cell) = true
      · rw [if_pos hc]; left; simp [List.lookup_cons, hx]
      · rw [if_neg hc]; right; simp [List.lookup_cons, hx]
    | false =>
      simp only [List.lookup_cons, hx] at h
      by_cases hc : (k == NameKind.free && env.scope.kind == .function && env.kindOf n == some .cell) = true
      · rw [if_pos hc]; simp only [List.lookup_cons, hx]; exact ih h
      · rw [if_neg hc]; simp only [List.lookup_cons, hx]; exact ih h
theorem pe_comp1 {X : Cx} {x y : Str} {j : Nat} {c : Addr} {px pos : Pos} {iter elt : Expr} {ifs : List Expr} {scope : Scope} {wi : TI} {tc : TT} {te : TE}
    (hc : X.calm = true) (hi : PI X (.Name x px) iter wi)
    (htc : ∀ C s H fp, PTs (compCx X scope [(y, c)] [x, y] C s H fp) ifs tc) (hte : ∀ C s H fp, PE (compCx X scope [(y, c)] [x, y] C s H fp) elt te)
    (hclos : closureFor scope X.env = pure [(y, c)]) (hcells : X.env.cells.lookup y = some c) (hN : X.N[j]? = some y) (hXk : X.env.scope.names.lookup y = some .cell)
    (hkind : scope.kind = .function) (hcell : ∀ y ∈ scope.names, y.2 ≠ .cell) (hfree : ∀ p ∈ scope.names, p.2 = .free → p.1 = y) (hy : scope.names.lookup y = some .free)
    (hnames : ∀ y ∈ scope.names, y.2 = .local → scope.names.lookup y.1 = some .local) (hx : scope.names.lookup x = some .local)
    (hs : ∀ v, foldedSetIterable iter X.env v = pure v := by intro _; rfl) :
    PE X (.ListComp elt [⟨.Name x px, iter, ifs, 0⟩] scope pos) (tComp wi [(y, j)] tc te) := by
  have hxy : x ≠ y := fun e => by rw [e] at hx; rw [hx] at hy; cases hy
  have one : ∀ z : Str, ([(y, c)] : List (Str × Addr)).lookup z = if z = y then some c else none := fun z => by
    rw [List.lookup_cons]
    by_cases e : z = y
    · subst e; simp
    · rw [if_neg e, beq_eq_false_iff_ne.mpr e]; rfl
  refine pe_comp (cl := [(y, c)]) (caps := [(y, j)]) hc hi htc hte hclos hkind hcell hnames hx (by simp [hxy]) (fun z d h => ?_) (fun z h => ?_) (fun p hp => ?_) hs
  · rw [one] at h
    by_cases e : z = y
    · rw [if_pos e] at h; cases h; rw [e]; exact hcells
    · rw [if_neg e] at h; cases h
  · have hz : z = y := by
      rcases h with h | h
      · exact hfree _ (relabel_back h (.inl rfl) hcell) rfl
      · exact hfree _ (relabel_back h (.inr rfl) hcell) rfl
    exact ⟨c, by rw [one, if_pos hz]⟩
  · obtain rfl := List.mem_singleton.mp hp
    exact ⟨hN, .inl hXk, ⟨c, by rw [one, if_pos rfl]⟩, relabel_free hy⟩
end L2
set_option Elab.async false
set_option linter.all false
set_option maxRecDepth 100000
set_option maxHeartbeats 4000000
namespace L2
open PySem PySem.Spec PyProof.Rows PySem.SeqAt

/-! ### a list taken apart by targets -/
section
variable {prog : Program} {w : World} {A : Around} {E : Value → Shared → Prop}
theorem draw_list {it l : Addr} {items : Array Value} (hne : l ≠ it) : ∀ (n i : Nat) (s : Shared) (Q : List Value → Shared → Prop), s.heap.IsListIter it l i → s.heap.IsList l items → i + n ≤ items.size →
    (∀ h', h'.IsListIter it l (i + n) → Heap.SameBut it s.heap h' → Q ((items.toList.drop i).take n) { s with heap := h' }) → wpAny (model prog w) A (draw (.ref it) n) Q E s
  | 0, i, s, Q, hit, _, _, hQ => by
    show wpAny _ _ (pure []) Q E s
    exact wpAny_pure (by simpa using hQ s.heap hit (Heap.SameBut.refl ..))
  | n + 1, i, s, Q, hit, ht, hle, hQ => by
    have hlt : i < items.size := by omega
    show wpAny _ _ (pyNext (.ref it) >>= _) Q E s
    refine wpAny_bind (wpAny_pyNext_list_item hit ht (x := items[i]) (by simp [hlt]) fun h₁ hit₁ hs₁ => ?_)
    refine wpAny_bind (wpAny_holding (draw_list hne n (i + 1) _ _ hit₁ (ht.extBut hs₁.extBut hne) (by omega) fun h₂ hit₂ hs₂ => wpAny_pure ?_))
    have hd : items.toList.drop i = items[i] :: items.toList.drop (i + 1) := by simp [List.drop_eq_getElem_cons, hlt]
    have := hQ h₂ (by rw [show i + (n + 1) = i + 1 + n by omega]; exact hit₂) (hs₁.trans hs₂)
    rw [hd, List.take_succ_cons] at this
    exact this
theorem unpackItems_list {s : Shared} {t : Addr} {items : Array Value} {Q : List Value → Shared → Prop} (hh : A.handled = none) (ht : s.heap.IsList t items)
    (hQ : ∀ h', Heap.ExtBut s.heap.objs.size s.heap h' → Q items.toList { s with heap := h' }) : wpAny (model prog w) A (unpackItems (.ref t) items.size none) Q E s := by
  have hlt : t ≠ s.heap.objs.size := by obtain ⟨o, ho, _⟩ := ht; exact Nat.ne_of_lt (Heap.lt_size ho)
  have hne2 : s.heap.objs.size ≠ t := hlt.symm
  unfold unpackItems
  refine wpAny_bind ?_
  · unfold notIterableAtAll
    refine wpAny_bind (wpAny_specialOf ht.typeIs slot_list_iter.lookup ?_)
    refine wpAny_pure ?_
    simp only [Bool.false_eq_true, if_false]
    refine wpAny_bind (wpAny_holding (wpAny_pyIter_list ht ?_))
    have ht0 : (s.heap.push { cls := .type "list_iterator", data := .fields #[.ref t, .int 0 0] }).IsList t items := by
      obtain ⟨o, ho, hc, n, hd⟩ := ht
      exact ⟨o, Heap.get?_push_of_some _ ho, hc, n, hd⟩
    refine wpAny_bind (wpAny_holding (draw_list hlt items.size 0 _ _ ⟨_, Heap.get?_push_size _ rfl, rfl, rfl⟩ ht0 (by omega) fun h₁ hit₁ hs₁ => ?_))
    have hall : List.take items.size (List.drop 0 items.toList) = items.toList := by
      rw [List.drop_zero]; exact List.take_of_length_le (by simp)
    rw [hall]
    rw [if_neg (by simp)]
    have ht₁ : h₁.IsList t items := ht0.extBut hs₁.extBut hlt
    refine wpAny_bind (wpAny_holding (wpAny_pyNext_list_end hh hit₁ ht₁ (by simp) fun h₂ he₂ => ?_))
    simp only [Option.isSome_none, Bool.false_eq_true, if_false]
    refine wpAny_pure (hQ h₂ fun b o hb e => he₂ b o hb (hs₁.extBut b o hb (Heap.get?_push_of_some _ e)))
end
section
variable {X : Cx} {pos : Pos}
def gLst (K : PySem.W.Frag) (n : Nat) (t : TGs) : TG := fun v σ H Q => ∃ a xs, v = .ref a ∧ SqL K H a xs ∧ xs.length = n ∧ t xs σ H Q
theorem pg_lst {es : List Expr} {k : Nat} {t : TGs} {n : Nat} (hc : X.calm = true) (h : PGs X es t)
    (hn : (assignEach es X.env).length = n := by rfl) (hst : (assignEach es X.env).findIdx? (·.1) = none := by rfl) : PG X (.Tuple es k pos) (gLst X.K n t) := by
  intro pins s σ H v u Q I r hw
  obtain ⟨a, xs, e1, hq, hl, hw⟩ := hw
  subst e1
  cases r
  obtain ⟨its, rv, ht, hz⟩ := I.list hq
  rw [assign_Tuple]
  refine wpAny_bind (wpAny_standAt ?_)
  unfold unpack
  have hsz : (assignEach es X.env).length = its.toArray.size := by simp [hn, ← hl, rv.length]
  rw [hsz, hst]
  refine wpAny_bind (wpAny_holding (unpackItems_list (I.ok.hd hc) ht.isList fun h' hx => ?_))
  have I1 : Inv X pins σ H { s with heap := h' } := I.kept (t' := s.toks) fun b o e => hx b o (Nat.ne_of_lt (Heap.lt_size e)) e
  exact h pins _ σ H xs _ Q I1 (by simpa using rv) hw
end

/-! ### sorted, of ints -/
theorem ints_vals : ∀ {its : List Value} {ns : List Int}, IntsAre its ns → Vals (ns.map V.int) its
  | _, _, .nil => .nil
  | _, _, .cons n t r => .cons ⟨t, rfl⟩ (ints_vals r)
theorem vals_intsA : ∀ {its : List Value} {ns : List Int}, Vals (ns.map V.int) its → IntsAre its ns
  | [], [], _ => .nil
  | [], _ :: _, h => nomatch h
  | _ :: _, [], h => nomatch h
  | _ :: _, n :: r, .cons ⟨t, e⟩ h => by subst e; exact .cons n t (vals_intsA h)
section
variable {X : Cx}
theorem call_sorted : CallR X (.builtin "sorted") (fun xs H Q => ∃ (p : Addr) (ns : List Int), xs = [.ref p] ∧ SqL X.K H p (ns.map V.int) ∧ ns.length < 64 ∧
    ∀ (q : Addr) (ns' : List Int), H q = none → ns'.Perm ns → ns'.Pairwise (· ≤ ·) → Q (.ref q) (upd H q (.lst (ns'.map V.int)))) := by
  intro pins s σ H xs us Q I r h
  obtain ⟨p, ns, rfl, hq, hl, q⟩ := h
  cases r with
  | cons r rr =>
    cases rr
    cases r
    obtain ⟨its, rv, ht, hz⟩ := I.list hq
    have hlen : its.length = ns.length := by have := rv.length; rw [List.length_map] at this; exact this.symm
    refine sorted_ints ht.isList (vals_intsA rv) (by rw [hlen]; exact hl) fun out ns' a1 a2 a3 => ?_
    obtain ⟨e, he⟩ := sortedAll_at s.heap its out
    have hn' : ns'.length = ns.length := a2.length_eq
    have hfr : H (s.heap.objs.size + 1) = none := I.hok.fresh (Nat.le_succ _)
    refine ⟨.ref (s.heap.objs.size + 1), _, I.laid (a := s.heap.objs.size + 1) (o := .lst (ns'.map V.int)) (t' := s.toks) (fun b u z => sortedAll_old z) (Nat.le_succ _) ?_, rfl, q _ ns' hfr a2 a3⟩
    have r2 : Vals (ns'.map V.int) out.toList := ints_vals a1
    exact ⟨by rw [List.length_map, hn', ← hlen, ← rv.length]; exact hz, out.toList, e, r2, by simpa using he⟩

/-! ### isinstance(x, C), C one class -/
def clsOf : V → Value
  | .ty n => .type n
  | .ref a => .ref a
  | _ => .none
theorem call_isi {K : PySem.W.Frag} (hK : X.K = K := by rfl) : CallR X (.builtin "isinstance") (fun xs H Q => ∃ x c t b, xs = [x, c] ∧ (c = .ty (match c with | .ty n => n | _ => "") ∨ c = .ref (match c with | .ref a => a | _ => 0)) ∧ TyOf K H x t ∧ PySem.W.kitOne K t (clsOf c) = some b ∧ Q (.bl b) H) := by
  subst hK
  intro pins s σ H xs us Q I r h
  obtain ⟨x, c, t, b, rfl, hc, ty, e, q⟩ := h
  cases r with
  | cons r1 rr =>
    cases rr with
    | cons r2 rr =>
      cases rr
      rename_i u1 u2
      have e2 : u2 = clsOf c := by
        rcases hc with z | z
        · cases c with
          | ty n => exact r2
          | _ => cases z
        · cases c with
          | ref n => exact r2
          | _ => cases z
      subst e2
      exact isinst_ok I r1 ty e fun tk => ⟨.bl b, H, I.tok tk, rfl, q⟩
end

/-! ### deep data: what is told of values, lists, tuples; two of one datum are the same -/
inductive Dt where
  | non | bl (b : Bool) | int (i : Int) | str (x : Str) | tup (xs : List Dt) | lst (xs : List Dt)
def Sc : V → Dt → Prop
  | .non, .non => True
  | .bl b, .bl c => b = c
  | .int i, .int j => i = j
  | .str x, .str y => x = y
  | _, _ => False
def DAt (K : PySem.W.Frag) (H : Hp) : Nat → V → Dt → Prop
  | 0, v, d => Sc v d
  | n + 1, v, d => Sc v d ∨ (∃ a vs ds, v = .ref a ∧ d = .tup ds ∧ SqT K H a vs ∧ Paired (DAt K H n) vs ds) ∨ (∃ a vs ds, v = .ref a ∧ d = .lst ds ∧ SqL K H a vs ∧ Paired (DAt K H n) vs ds)
theorem paired_get {α β : Type} {F : α → β → Prop} : ∀ {l : List α} {m : List β} {i : Nat} {a : α}, Paired F l m → l[i]? = some a → ∃ b, m[i]? = some b ∧ F a b
  | _, _, _, _, .nil, e => by simp at e
  | _, _, 0, _, .cons r _, e => by simp at e; subst e; exact ⟨_, rfl, r⟩
  | _, _, i + 1, a, .cons _ t, e => by
    obtain ⟨b, h1, h2⟩ := paired_get (i := i) (a := a) t (by simpa using e)
    exact ⟨b, by simpa using h1, h2⟩
theorem sc_eq {A : Around} {s : Shared} {x y : V} {v u : Value} {d : Dt} (hx : Sc x d) (hy : Sc y d) (rx : RelV x v) (ry : RelV y u) : EqAt A s v u true := by
  cases d with
  | non =>
    cases x <;> try exact hx.elim
    cases y <;> try exact hy.elim
    cases rx; cases ry
    exact EqAt.same _
  | bl b =>
    cases x <;> try exact hx.elim
    cases y <;> try exact hy.elim
    cases hx; cases hy; cases rx; cases ry
    exact EqAt.same _
  | int i =>
    cases x <;> try exact hx.elim
    cases y <;> try exact hy.elim
    cases hx; cases hy
    obtain ⟨t, rfl⟩ := rx
    obtain ⟨t', rfl⟩ := ry
    have := EqAt.int_int (A := A) (s := s) i t i t'
    simpa using this
  | str i =>
    cases x <;> try exact hx.elim
    cases y <;> try exact hy.elim
    cases hx; cases hy
    obtain ⟨t, rfl⟩ := rx
    obtain ⟨t', rfl⟩ := ry
    have := EqAt.str_str (A := A) (s := s) i t i t'
    simpa using this
  | tup ds => cases x <;> exact hx.elim
  | lst ds => cases x <;> exact hx.elim
theorem all_true (n : Nat) : (List.range n).all (fun _ => true) = true := by simp
section
variable {X : Cx} {pins : List (Addr × Obj)} {σ : St} {H : Hp} {s : Shared}
theorem eqAt_same (I : Inv X pins σ H s) : ∀ (n : Nat) (A : Around) (x y : V) (v u : Value) (d : Dt), A.units + n < cLine → DAt X.K H n x d → DAt X.K H n y d → RelV x v → RelV y u → EqAt A s v u true
  | 0, A, x, y, v, u, d, _, hx, hy, rx, ry => sc_eq hx hy rx ry
  | n + 1, A, x, y, v, u, d, hu, hx, hy, rx, ry => by
    have items : ∀ {vs ws : List V} {ds : List Dt} {its jts : List Value}, Paired (DAt X.K H n) vs ds → Paired (DAt X.K H n) ws ds → Vals vs its → Vals ws jts →
        ∀ j (h1 : j < its.toArray.size) (h2 : j < jts.toArray.size), EqAt A.in1 s its.toArray[j] jts.toArray[j] ((fun _ => true) j) := fun {vs ws ds its jts} p1 p2 r1 r2 j h1 h2 => by
      have l1 := r1.length
      have l2 := r2.length
      have g1 : j < vs.length := by rw [l1]; simpa using h1
      have g2 : j < ws.length := by rw [l2]; simpa using h2
      obtain ⟨a1, ea1, ra1⟩ := r1.get (List.getElem?_eq_getElem g1)
      obtain ⟨a2, ea2, ra2⟩ := r2.get (List.getElem?_eq_getElem g2)
      obtain ⟨d1, ed1, h1'⟩ := paired_get p1 (List.getElem?_eq_getElem g1)
      obtain ⟨d2, ed2, h2'⟩ := paired_get p2 (List.getElem?_eq_getElem g2)
      rw [ed1] at ed2; cases ed2
      have f1 : its.toArray[j] = a1 := by
        have : its[j]? = some its[j] := List.getElem?_eq_getElem (by simpa using h1)
        rw [this] at ea1; simpa using Option.some.inj ea1
      have f2 : jts.toArray[j] = a2 := by
        have : jts[j]? = some jts[j] := List.getElem?_eq_getElem (by simpa using h2)
        rw [this] at ea2; simpa using Option.some.inj ea2
      rw [f1, f2]
      exact eqAt_same I n A.in1 _ _ a1 a2 d1 (by show A.units + 1 + n < cLine; omega) h1' h2' ra1 ra2
    rcases hx with hx | ⟨a, vs, ds, rfl, rfl, hqa, p1⟩ | ⟨a, vs, ds, rfl, rfl, hqa, p1⟩
    · rcases hy with hy | ⟨b, ws, es, rfl, rfl, hqb, p2⟩ | ⟨b, ws, es, rfl, rfl, hqb, p2⟩
      · exact sc_eq hx hy rx ry
      · cases x <;> exact hx.elim
      · cases x <;> exact hx.elim
    · rcases hy with hy | ⟨b, ws, es, rfl, e, hqb, p2⟩ | ⟨b, ws, es, rfl, e, hqb, p2⟩
      · cases y <;> exact hy.elim
      · cases e
        cases rx; cases ry
        by_cases z : a = b
        · subst z; exact EqAt.same _
        · obtain ⟨its, r1, t1, z1⟩ := I.tuple hqa
          obtain ⟨jts, r2, t2, z2⟩ := I.tuple hqb
          have q := RcAt.tuples (A := A) (show s.heap.IsTuple a its.toArray from t1) (show s.heap.IsTuple b jts.toArray from t2) (by omega) (items p1 p2 r1 r2)
          have hl : its.toArray.size = jts.toArray.size := by
            have l1 := r1.length; have l2 := r2.length; have k1 := Paired.length p1; have k2 := Paired.length p2
            simp only [List.size_toArray]; omega
          rw [all_true, hl, beq_self_eq_true, Bool.and_true] at q
          exact EqAt.of_refs z q
      · cases e
    · rcases hy with hy | ⟨b, ws, es, rfl, e, hqb, p2⟩ | ⟨b, ws, es, rfl, e, hqb, p2⟩
      · cases y <;> exact hy.elim
      · cases e
      · cases e
        cases rx; cases ry
        by_cases z : a = b
        · subst z; exact EqAt.same _
        · obtain ⟨its, r1, t1, z1⟩ := I.list hqa
          obtain ⟨jts, r2, t2, z2⟩ := I.list hqb
          have hl : its.toArray.size = jts.toArray.size := by
            have l1 := r1.length; have l2 := r2.length; have k1 := Paired.length p1; have k2 := Paired.length p2
            simp only [List.size_toArray]; omega
          have q := RcAt.lists (A := A) t1.isList t2.isList hl (by omega) (items p1 p2 r1 r2)
          rw [all_true] at q
          exact EqAt.of_refs z q
end
section
variable {X : Cx}
theorem op_ne_same : OpR X (compareOp .NotEq) (fun x y H Q => ∃ n d, DAt X.K H n x d ∧ DAt X.K H n y d ∧ X.A.units + n < cLine ∧ Q (.bl false) H) := by
  intro pins s σ H x y v u Q I rx ry h
  obtain ⟨n, d, hx, hy, hu, q⟩ := h
  have scal_case : Sc x d → Sc y d → wpAny (model X.prog X.w) X.A (compareOp .NotEq v u) (EP X pins σ Q) X.xe s := fun gx gy => by
    refine op_ne pins s σ H x y v u Q I rx ry ?_
    cases d <;> cases x <;> try exact gx.elim
    all_goals cases y <;> try exact gy.elim
    all_goals first | (cases gx; cases gy; exact ⟨rfl, by simpa using q⟩) | exact ⟨rfl, by simpa using q⟩
  cases n with
  | zero => exact scal_case hx hy
  | succ n =>
    have items : ∀ {vs ws : List V} {ds : List Dt} {its jts : List Value}, Paired (DAt X.K H n) vs ds → Paired (DAt X.K H n) ws ds → Vals vs its → Vals ws jts →
        ∀ j (h1 : j < its.toArray.size) (h2 : j < jts.toArray.size), EqAt X.A.in1 s its.toArray[j] jts.toArray[j] ((fun _ => true) j) := fun {vs ws ds its jts} p1 p2 r1 r2 j h1 h2 => by
      have l1 := r1.length
      have l2 := r2.length
      have g1 : j < vs.length := by rw [l1]; simpa using h1
      have g2 : j < ws.length := by rw [l2]; simpa using h2
      obtain ⟨a1, ea1, ra1⟩ := r1.get (List.getElem?_eq_getElem g1)
      obtain ⟨a2, ea2, ra2⟩ := r2.get (List.getElem?_eq_getElem g2)
      obtain ⟨d1, ed1, h1'⟩ := paired_get p1 (List.getElem?_eq_getElem g1)
      obtain ⟨d2, ed2, h2'⟩ := paired_get p2 (List.getElem?_eq_getElem g2)
      rw [ed1] at ed2; cases ed2
      have f1 : its.toArray[j] = a1 := by
        have : its[j]? = some its[j] := List.getElem?_eq_getElem (by simpa using h1)
        rw [this] at ea1; simpa using Option.some.inj ea1
      have f2 : jts.toArray[j] = a2 := by
        have : jts[j]? = some jts[j] := List.getElem?_eq_getElem (by simpa using h2)
        rw [this] at ea2; simpa using Option.some.inj ea2
      rw [f1, f2]
      exact eqAt_same I n X.A.in1 _ _ a1 a2 d1 (by show X.A.units + 1 + n < cLine; omega) h1' h2' ra1 ra2
    rcases hx with hx | ⟨a, vs, ds, rfl, rfl, hqa, p1⟩ | ⟨a, vs, ds, rfl, rfl, hqa, p1⟩
    · rcases hy with hy | ⟨b, ws, es, rfl, rfl, hqb, p2⟩ | ⟨b, ws, es, rfl, rfl, hqb, p2⟩
      · exact scal_case hx hy
      · cases x <;> exact hx.elim
      · cases x <;> exact hx.elim
    · rcases hy with hy | ⟨b, ws, es, rfl, e, hqb, p2⟩ | ⟨b, ws, es, rfl, e, hqb, p2⟩
      · cases y <;> exact hy.elim
      · cases e
        cases rx; cases ry
        obtain ⟨its, r1, t1, z1⟩ := I.tuple hqa
        obtain ⟨jts, r2, t2, z2⟩ := I.tuple hqb
        have hl : its.toArray.size = jts.toArray.size := by
          have l1 := r1.length; have l2 := r2.length; have k1 := Paired.length p1; have k2 := Paired.length p2
          simp only [List.size_toArray]; omega
        refine RcNeAt.tuples (A := X.A) (show s.heap.IsTuple a its.toArray from t1) (show s.heap.IsTuple b jts.toArray from t2) (by omega) (items p1 p2 r1 r2) X.prog X.w X.xe _ ?_
        rw [all_true, hl, beq_self_eq_true, Bool.and_true]
        exact ⟨.bl false, H, I, rfl, q⟩
      · cases e
    · rcases hy with hy | ⟨b, ws, es, rfl, e, hqb, p2⟩ | ⟨b, ws, es, rfl, e, hqb, p2⟩
      · cases y <;> exact hy.elim
      · cases e
      · cases e
        cases rx; cases ry
        obtain ⟨its, r1, t1, z1⟩ := I.list hqa
        obtain ⟨jts, r2, t2, z2⟩ := I.list hqb
        have hl : its.toArray.size = jts.toArray.size := by
          have l1 := r1.length; have l2 := r2.length; have k1 := Paired.length p1; have k2 := Paired.length p2
          simp only [List.size_toArray]; omega
        refine RcNeAt.lists (A := X.A) t1.isList t2.isList hl (by omega) (items p1 p2 r1 r2) X.prog X.w X.xe _ ?_
        rw [all_true]
        exact ⟨.bl false, H, I, rfl, q⟩
end

/-! ### o.m(..) whatever the class of o: the reading says which -/
def tMethD (X : Cx) (m : Str) (ta : TE) (t : TA) : TE := fun σ H Q => ta σ H fun x H1 => ∃ a C dx fs, x = .ref a ∧ H1 a = some (.ins C dx fs) ∧ fs.lookup m = none ∧ Cls X.K C ∧
  ∃ f fd k ps sp, Meth X.K C m f ∧ FnOk X.prog X.w X.K X.mg X.base CX0 k f fd ps sp ∧ Room k X.A ∧ Binds X.K fd ps [] ∧ t σ H1 fun vs H2 => sp (x :: vs) H2 Q E0
section
variable {X : Cx} {m : Str} {o e : Expr} {es : List Expr} {pos apos : Pos} {ta : TE} {t : TA}
theorem pe_methD {pl : Sem Bool} (he : PE X o ta) (ha : PA X (e :: es) t)
    (hst : starEach (e :: es) X.env = (false, eval e X.env) :: starEach es X.env := by rfl) (hpl : (backTo pos (starEach es X.env)).any (·.1) = false := by rfl)
    (ht : eval (.Call (.Attribute o m apos) (e :: es) [] pos) X.env = (do
      let ov ← eval o X.env
      standAt apos.atName
      let (f, first) ← holding [ov] (getMethod ov m pl)
      callWith pos f first (backTo pos (starEach (e :: es) X.env)) (backToKw pos (keywordEach [] X.env))) := by rfl) :
    PE X (.Call (.Attribute o m apos) (e :: es) [] pos) (tMethD X m ta t) := by
  intro pins s σ H Q I h
  refine PySem.W.methodCall_KW (pl := pl) (thn (he pins s σ H _ I h) fun u s1 ⟨x, H1, I1, rx, a, C, dx, fs, ex, ea, l, c, f, fd, k, ps, sp, hm, F, hr, hb, q⟩ => ?_) ht
  subst ex
  obtain rfl : u = Value.ref a := rx
  refine getmeth_ok I1 ea c hm l ?_
  refine PySem.W.callWith_K (first := [.ref a]) (h₀ := X.base) I.ok.mod.kin hm.kp (thn (ha pos pins s1 σ H1 _ I1 q) fun us s2 ⟨vs, H2, I2, r, q2⟩ => ⟨I2.kIn, ?_⟩) hst hpl
  exact run_fn (us := .ref a :: us) (vs := .ref a :: vs) (dvs := []) (ds := []) F hr hb .nil pass0 I2 (.cons rfl r) (by rw [List.append_nil]; exact q2)
theorem pe_methD0 {pl : Sem Bool} (he : PE X o ta)
    (ht : eval (.Call (.Attribute o m apos) [] [] pos) X.env = (do
      let ov ← eval o X.env
      standAt apos.atName
      let (f, first) ← holding [ov] (getMethod ov m pl)
      callWith pos f first (backTo pos (starEach [] X.env)) (backToKw pos (keywordEach [] X.env))) := by rfl) :
    PE X (.Call (.Attribute o m apos) [] [] pos) (tMethD X m ta tNil) := by
  intro pins s σ H Q I h
  refine PySem.W.methodCall_KW (pl := pl) (thn (he pins s σ H _ I h) fun u s1 ⟨x, H1, I1, rx, a, C, dx, fs, ex, ea, l, c, f, fd, k, ps, sp, hm, F, hr, hb, q⟩ => ?_) ht
  subst ex
  obtain rfl : u = Value.ref a := rx
  refine getmeth_ok I1 ea c hm l ?_
  exact PySem.W.callWith_K0 (first := [.ref a]) I1.kIn hm.kp (run_fn (us := [.ref a]) (vs := [.ref a]) (dvs := []) (ds := []) F hr hb .nil pass0 I1 (.cons rfl .nil) q)
end
end L2
set_option Elab.async false
set_option linter.all false
set_option maxRecDepth 100000
set_option maxHeartbeats 4000000
namespace L2
open PySem PySem.Spec PyProof.Rows PySem.Builtin.Str

theorem strs_vals : ∀ (ys : List Str) (k : Nat), Vals (ys.map V.str) (strsFrom k ys)
  | [], _ => .nil
  | y :: r, k => .cons ⟨k, rfl⟩ (strs_vals r (k + 1))
theorem vals_strs : ∀ {its : List Value} {ys : List Str}, Vals (ys.map V.str) its → StrsAre its ys
  | [], [], _ => .nil
  | [], _ :: _, h => nomatch h
  | _ :: _, [], h => nomatch h
  | _ :: _, y :: r, .cons ⟨t, e⟩ h => by subst e; exact .cons y t (vals_strs h)
section
variable {X : Cx}
/-! ### methods of texts -/
def rSplit : V → List V → Hp → VK → Prop := fun x vs H Q => ∃ t y, x = .str t ∧ vs = [.str y] ∧ 1 ≤ y.length ∧ t.length ≤ 1000000 ∧ ∀ l, H l = none → Q (.ref l) (upd H l (.lst ((Txt.split t y).map V.str)))
theorem mt_split : MtR X "str.split" rSplit := by
  intro pins s σ H x vs v us Q I rx rv h
  obtain ⟨t, y, rfl, rfl, hy, ht, q⟩ := h
  obtain ⟨tk, rfl⟩ := rx
  obtain ⟨u, rfl, ru⟩ := rv.one
  obtain ⟨tk', rfl⟩ := ru
  have hz : sizeLine = 16777216 := sizeLine_eq
  have hy' : (y.length == 0) = false := by
    rw [beq_eq_false_iff_ne]; omega
  have hsl := split_le t y
  have fr := I.fresh
  have new : ∀ (its : List Value) (k : Nat), Vals ((Txt.split t y).map V.str) its → EP X pins σ Q (.ref s.heap.objs.size) { s with heap := s.heap.push { cls := .type "list", data := .seq its.toArray }, toks := k } := fun its k r =>
    ⟨.ref s.heap.objs.size, _, I.lnew (t' := k) r (by rw [List.length_map]; omega), rfl, q _ fr⟩
  by_cases h1 : (decide (t.length < y.length) || decide (strKind t < strKind y)) = true
  · have e : Txt.split t y = [t] := by unfold Txt.split; rw [if_pos h1]
    refine call_meets F.slot_str_split (typeIs_str _ _ _) F.entry_str_split (F.args_str_split_2 _ _) (meets_str_split_cannot_occur t y tk tk' h1) ?_
    exact new [Value.str t tk] s.toks (by rw [e]; exact .cons ⟨tk, rfl⟩ .nil)
  · have h1' := Bool.eq_false_iff.mpr h1
    by_cases h2 : (occurrences t y 0 t.length (t.length + 1)).isEmpty = true
    · have e : Txt.split t y = [t] := by unfold Txt.split; rw [if_neg h1, if_pos h2]
      refine call_meets F.slot_str_split (typeIs_str _ _ _) F.entry_str_split (F.args_str_split_2 _ _) (meets_str_split_not_found t y tk tk' h1' hy' h2) ?_
      exact new [Value.str t tk] s.toks (by rw [e]; exact .cons ⟨tk, rfl⟩ .nil)
    · have h2' := Bool.eq_false_iff.mpr h2
      have e : Txt.split t y = partsBetween t (occurrences t y 0 t.length (t.length + 1)) y.length := by unfold Txt.split; rw [if_neg h1, if_neg h2]
      refine call_meets F.slot_str_split (typeIs_str _ _ _) F.entry_str_split (F.args_str_split_2 _ _) (meets_str_split_sep t y tk tk' h1' hy' h2' (by omega) (by rw [← e]; omega)) ?_
      exact new _ _ (by rw [e]; exact strs_vals _ _)
def rJoin (K : PySem.W.Frag) : V → List V → Hp → VK → Prop := fun x vs H Q => ∃ (sep : Str) (p : Addr) (ys : List Str), x = .str sep ∧ vs = [.ref p] ∧ SqL K H p (ys.map V.str) ∧ (ys.map (·.length)).sum + ys.length * sep.length ≤ 16777216 ∧ Q (.str (Txt.join sep ys)) H
theorem mt_join : MtR X "str.join" (rJoin X.K) := by
  intro pins s σ H x vs v us Q I rx rv h
  obtain ⟨sep, p, ys, rfl, rfl, hp, hk, q⟩ := h
  obtain ⟨tk, rfl⟩ := rx
  obtain ⟨u, rfl, ru⟩ := rv.one
  cases ru
  obtain ⟨its, r, pl, hz⟩ := I.list hp
  exact join_list pl.isList (by simpa using vals_strs r) hk fun t' k => ⟨.str _, H, I.tok k, ⟨_, rfl⟩, q⟩
def rStarts : V → List V → Hp → VK → Prop := fun x vs H Q => ∃ t y, x = .str t ∧ vs = [.str y] ∧ Q (.bl (Txt.startswith t y)) H
theorem mt_startswith : MtR X "str.startswith" rStarts := by
  intro pins s σ H x vs v us Q I rx rv h
  obtain ⟨t, y, rfl, rfl, q⟩ := h
  obtain ⟨tk, rfl⟩ := rx
  obtain ⟨u, rfl, ru⟩ := rv.one
  obtain ⟨tk', rfl⟩ := ru
  exact SC.startswith ⟨.bl _, H, I, rfl, q⟩
/-! ### str(..), int(..), all, sum -/
theorem call_str_str : CallR X (.type "str") (fun xs H Q => ∃ x, xs = [.str x] ∧ Q (.str x) H) := by
  intro pins s σ H xs us Q I r h
  obtain ⟨x, rfl, q⟩ := h
  cases r with
  | cons r1 rr =>
    cases rr
    obtain ⟨t, rfl⟩ := r1
    exact P.str_of_str ⟨.str x, H, I, ⟨_, rfl⟩, q⟩
theorem call_int_text : CallR X (.type "int") (fun xs H Q => ∃ x n, xs = [.str x] ∧ PySem.intText? x = some n ∧ x.length ≤ 640 ∧ Q (.int n) H) := by
  intro pins s σ H xs us Q I r h
  obtain ⟨x, n, rfl, hn, hl, q⟩ := h
  cases r with
  | cons r1 rr =>
    cases rr
    obtain ⟨t, rfl⟩ := r1
    exact PySem.W.KIN.call_text hn hl ⟨.int n, H, I.tok _, ⟨_, rfl⟩, q⟩
theorem bools_get : ∀ {its : List Value} {bs : List Bool} {i : Nat} {v : Value}, Vals (bs.map V.bl) its → its[i]? = some v → ∃ b, bs[i]? = some b ∧ v = .bool b
  | [], [], _, _, _, e => by simp at e
  | [], _ :: _, _, _, h, _ => nomatch h
  | _ :: _, [], _, _, h, _ => nomatch h
  | _ :: _, b :: r, 0, v, .cons hb _, e => by
    simp at e; subst e
    exact ⟨b, rfl, hb⟩
  | _ :: _, b :: r, i + 1, v, .cons _ h, e => by
    obtain ⟨b', h1, h2⟩ := bools_get (i := i) h (by simpa using e)
    exact ⟨b', by simpa using h1, h2⟩
theorem call_all (hc : X.calm = true) {K : PySem.W.Frag} (hK : X.K = K := by rfl) : CallR X (.builtin "all") (fun xs H Q => ∃ (p : Addr) (bs : List Bool), xs = [.ref p] ∧ SqL K H p (bs.map V.bl) ∧ Q (.bl (bs.all id)) H) := by
  subst hK
  intro pins s σ H xs us Q I r h
  obtain ⟨p, bs, rfl, hp, q⟩ := h
  cases r with
  | cons r1 rr =>
    cases rr
    cases r1
    obtain ⟨its, rv, pl, hz⟩ := I.list hp
    have hl := pl.isList
    have hlt : p < s.heap.objs.size := by obtain ⟨_, e, _⟩ := hl; exact Heap.lt_size e
    have hlen : its.length = bs.length := by have := rv.length; rw [List.length_map] at this; exact this.symm
    refine call_all_walk (wpAny_pyIter_list hl ?_)
    refine ⟨s.heap.objs.size, [s.heap.objs.size, p], [s.heap.objs.size], its.toArray.size, _, _, fun i => (bs[i]?).getD true, rfl, Walks.list (A := X.A.in1) (I.ok.hd hc) _ p (Nat.ne_of_lt hlt) its.toArray,
      ⟨⟨_, Heap.get?_push_size _ rfl, rfl, rfl⟩, hl.push _⟩, fun i v s' Q' E' hP hQ => ?_, fun h' tk hk => ?_⟩
    · obtain ⟨b, e, rfl⟩ := bools_get rv (by simpa using hP)
      simp only [e, Option.getD_some] at hQ
      exact wpAny_truthy_bool hQ
    · have e : ((List.range its.toArray.size).all fun i => (bs[i]?).getD true) = bs.all id := by
        rw [List.size_toArray, hlen]; exact LSm.range_all bs
      rw [e]
      exact ⟨.bl _, H, I.kept (LSm.kept_iter hk), rfl, q⟩
theorem call_sum (hc : X.calm = true) {K : PySem.W.Frag} (hK : X.K = K := by rfl) : CallR X (.builtin "sum") (fun xs H Q => ∃ (p : Addr) (ns : List Int), xs = [.ref p] ∧ SqL K H p (ns.map V.int) ∧ Q (.int ns.sum) H) := by
  subst hK
  intro pins s σ H xs us Q I r h
  obtain ⟨p, ns, rfl, hp, q⟩ := h
  cases r with
  | cons r1 rr =>
    cases rr
    cases r1
    obtain ⟨its, rv, pl, hz⟩ := I.list hp
    have hi := vals_intsA rv
    obtain ⟨xs, hx⟩ := hi.allInts.items
    have hl' : s.heap.IsList p (intItems xs) := hx ▸ pl.isList
    refine sum_intListG (I.ok.hd hc) hl' fun h' tk t' hk => ?_
    have e1 : ns = xs.toList.map (·.1) := by
      rw [← nums_intItems, ← hx]
      exact (show numsOf its.toArray.toList = ns from hi.numsOf).symm
    have e2 : preSum (numAt xs) xs.size = ns.sum := by
      rw [preSum_eq, List.take_of_length_le (by simp), e1]
    rw [e2]
    exact ⟨.int _, H, I.kept hk, ⟨_, rfl⟩, q⟩
/-! ### the signs of a text, walked -/
def Its (t : Str) : It := ⟨fun i _ => i < t.cps.size, fun i H x H' => H' = H ∧ ∃ c, t.cps[i]? = some c ∧ x = .str ⟨#[c]⟩, fun i _ => t.cps.size ≤ i⟩
theorem turn_str {P : Program} {w : World} {K : PySem.W.Frag} {tg : Expr} (x : Str) (tk : Tok) (it : Addr) {n : String} (hn : n = "str_ascii_iterator" ∨ n = "str_iterator") : Turn P w K tg (Its x) [it] it (fun i h => h.IsStrIter it n x tk i) where
  mem := by simp
  obj := fun i h st b hb => by
    have e : b = it := by simpa using hb
    subst e
    obtain ⟨o, e, c, d⟩ := st
    exact ⟨o, e, fun v z => by rw [d] at z; cases z⟩
  keep := fun i h h' st k => by
    obtain ⟨o, e, r⟩ := st
    exact ⟨o, k it (by simp) o e, r⟩
  item := by
    intro X hP hw hK hc i pins s σ H E I hf st hg
    subst hP hw hK
    have hi : i < x.cps.size := hg
    obtain ⟨f0, f1, f2, f3, f4, f5⟩ := hf it (by simp)
    have fin : ∀ h' : Heap, h'.IsStrIter it n x tk (i + 1) → Heap.SameBut it s.heap h' → ∃ u, some (Value.str ⟨#[x.cps[i]]⟩ s.toks) = some u ∧
        wpAny (model X.prog X.w) X.A (letOwnedTupleGo tg (.ref it) u) (fun _ s2 => ∃ y H', Inv X pins σ H' s2 ∧ RelV y u ∧ (Its x).yld i H y H' ∧ s2.heap.IsStrIter it n x tk (i + 1) ∧ ∀ b ∈ [it], H' b = none) E { s with heap := h', toks := s.toks + 1 } := fun h' st' sb => by
      have I1 : Inv X pins σ H { s with heap := h', toks := s.toks + 1 } := I.turned (t' := s.toks + 1) (fun b o hb e => (sb.2 b hb).trans e) f0 f1 f3 f4 f5
      obtain ⟨o, e, c, d⟩ := id st'
      refine ⟨_, rfl, go_of (s := { s with heap := h', toks := s.toks + 1 }) e c d (by rcases hn with rfl | rfl <;> decide) ⟨.str ⟨#[x.cps[i]]⟩, H, I1, ⟨_, rfl⟩, ⟨rfl, x.cps[i], by simp [hi], rfl⟩, st', fun b hb => (hf b hb).1⟩⟩
    rcases hn with rfl | rfl
    · exact wpAny_pyNext_ascii_item st (c := x.cps[i]) (by simp [hi]) fun h' st' sb => fin h' st' sb
    · exact wpAny_pyNext_wide_item st (c := x.cps[i]) (by simp [hi]) fun h' st' sb => fin h' st' sb
  done := by
    intro X hP hw hK hc i pins s σ H E I hf st hg
    subst hP hw hK
    have hi : x.cps.size ≤ i := hg
    obtain ⟨f0, f1, f2, f3, f4, f5⟩ := hf it (by simp)
    rcases hn with rfl | rfl
    · exact wpAny_pyNext_ascii_end (I.ok.hd hc) st (by simp [hi]) fun h' eb => ⟨rfl, I.turned (t' := s.toks) (fun b o hb e => eb b o hb e) f0 f1 f3 f4 f5⟩
    · exact wpAny_pyNext_wide_end (I.ok.hd hc) st (by simp [hi]) fun h' eb => ⟨rfl, I.turned (t' := s.toks) (fun b o hb e => eb b o hb e) f0 f1 f3 f4 f5⟩
  self := fun _ _ _ _ _ st h => by
    rcases hn with rfl | rfl
    · exact wpAny_pyIter_striter_ascii st h
    · exact wpAny_pyIter_striter_wide st h
def iStr (tl : TE) : TI := fun σ H R => tl σ H fun x H1 => ∃ t, x = .str t ∧ R (Its t) H1
theorem pi_str {tg l : Expr} {tl : TE} (hl : PE X l tl) : PI X tg l (iStr tl) := by
  intro pins s σ H R I h
  refine thn (hl pins s σ H _ I h) fun v s1 ⟨x, H1, I1, r1, q1⟩ => ?_
  obtain ⟨t, e, q⟩ := q1
  subst e
  obtain ⟨tk, rfl⟩ := r1
  have fp : ∀ (o : Obj), ∀ b ∈ [s1.heap.objs.size], FpOk X pins H1 b := fun o b hb => by
    have e : b = s1.heap.objs.size := by simpa using hb
    subst e
    exact I1.fpOk (Nat.le_refl _) (I1.hok.fresh (Nat.le_refl _))
  cases ha : t.cps.all (· < 128)
  · refine wpAny_pyIter_wide ha ?_
    exact ⟨s1.heap.objs.size, [s1.heap.objs.size], _, _, H1, rfl, I1.kept (t' := s1.toks) fun b o e => Heap.get?_push_of_some _ e, turn_str t tk _ (.inr rfl), ⟨_, Heap.get?_push_size _ rfl, rfl, rfl⟩, fp default, q⟩
  · refine wpAny_pyIter_ascii ha ?_
    exact ⟨s1.heap.objs.size, [s1.heap.objs.size], _, _, H1, rfl, I1.kept (t' := s1.toks) fun b o e => Heap.get?_push_of_some _ e, turn_str t tk _ (.inl rfl), ⟨_, Heap.get?_push_size _ rfl, rfl, rfl⟩, fp default, q⟩
end
/-- written texts and numbers in a display (each by itself: the rows behind are not opened) -/
theorem pa_cs {X : Cx} {x : Str} {j : Nat} {pos : Pos} {es : List Expr} {t : TA} (h : PA X es t) : PA X (.Constant (.str x) j pos :: es) (tCons (tC (.str x)) t) := pa_cons pe_str h rfl
theorem pa_ci {X : Cx} {x : Int} {j : Nat} {pos : Pos} {es : List Expr} {t : TA} (h : PA X es t) : PA X (.Constant (.int x) j pos :: es) (tCons (tC (.int x)) t) := pa_cons pe_int h rfl
/-- a display of written texts alone -/
def strsOf : List Expr → Option (List Str)
  | [] => some []
  | .Constant (.str x) _ _ :: r => (strsOf r).map (x :: ·)
  | _ => none
theorem pa_strs {X : Cx} : ∀ {es : List Expr} {ws : List Str}, strsOf es = some ws → PA X es (fun _ H Q => Q (ws.map V.str) H)
  | [], ws, h => by
    cases Option.some.inj h
    exact pa_nil
  | e :: r, ws, h => by
    cases e with
    | Constant c j pos =>
      cases c with
      | str x =>
        have h' : (strsOf r).map (x :: ·) = some ws := h
        cases hr : strsOf r with
        | none => rw [hr] at h'; cases h'
        | some vs =>
          rw [hr] at h'
          cases Option.some.inj h'
          have ih := pa_strs (X := X) hr
          intro pos' pins s σ H Q I hq
          exact pa_cs ih pos' pins s σ H Q I hq
      | _ => cases h
    | _ => cases h
/-- one sign in a text -/
theorem in_one (j : Str) (c : Nat) : (!(occurrences j ⟨#[c]⟩ 0 j.length 1).isEmpty) = decide (c ∈ j.cps.toList) := by
  rw [Bool.eq_iff_iff, StrLaws.found_iff, decide_eq_true_eq]
  constructor
  · rintro ⟨i, h⟩
    exact List.mem_of_getElem? ((StrLaws.subAt_one j c i).mp h)
  · intro h
    obtain ⟨i, hi⟩ := List.getElem?_of_mem h
    exact ⟨i, (StrLaws.subAt_one j c i).mpr hi⟩
theorem kit_of {K : PySem.W.Frag} {C X : Addr} {cd : ClassData} (h1 : PySem.W.clsIn K X = some cd) (h2 : PySem.W.typeIn K (.ref X) = some (.type "type")) (h3 : PySem.W.subIn K (.ref C) (.ref X) = some true) :
    PySem.W.kitOne K (.ref C) (.ref X) = some true := by
  unfold PySem.W.kitOne
  by_cases e : (Value.ref C == Value.ref X) = true
  · rw [if_pos e]
  · rw [if_neg e]
    show (if ((PySem.W.clsIn K X).isSome && PySem.W.typeIn K (.ref X) == some (.type "type")) = true then PySem.W.subIn K (.ref C) (.ref X) else none) = some true
    rw [h1, h2, if_pos (by simp), h3]
end L2
set_option Elab.async false
set_option linter.all false
set_option maxRecDepth 100000
set_option maxHeartbeats 4000000
namespace HT
open PySem PySem.Spec PyProof.Rows
section
variable {prog : Program} {w : World} {A : Around} {E : Value → Shared → Prop} {s : Shared}
/-- t[lo:hi], the whole of it: t itself -/
theorem getItem_tuple_all {t sl : Addr} {items : Array Value} {vl vu : Value} {lo hi : Option Int} {Q : Value → Shared → Prop} (ht : IsTup s.heap t items) (hs : s.heap.IsSliceOf sl vl vu .none) (pl : IsPart vl lo) (pu : IsPart vu hi)
    (hw : sIx items.size 0 lo = 0 ∧ sIx items.size items.size hi = items.size) (h : Q (.ref t) s) : wpAny (model prog w) A (getItem (.ref t) (.ref sl)) Q E s := by
  obtain ⟨os, hos, hcs, hds⟩ := id hs
  have hTs : s.TypeIs (.ref sl) "slice" := ⟨os, hos, hcs⟩
  unfold getItem
  try with_reducible refine wpAny_holding ?_
  first | refine wpAny_bind (wpAny_pure ?_) | skip
  refine wpAny_bind (wpAny_sequenceKey ht.typeIs (by decide) ?_)
  refine wpAny_bind (wpAny_callSpecial?_slot (name := Str.ofString "__getitem__") ht.typeIs PyProof.Rows.slot_tuple_getitem
    (wpAny_call_entry PyProof.Rows.slot_tuple_getitem ht.typeIs entry_tuple_getitem ?_ (args_tuple_getitem _ _)))
  show wpAny _ _ (Builtin.Tuple.tupleItemsOf (.ref t) >>= _) _ _ s
  refine wpAny_bind (tupleItemsOf_ ht ?_)
  refine wpAny_bind (wpAny_typeOf hTs ?_)
  rw [if_pos (by decide)]
  refine wpAny_bind (sliceApplied_gen hs pl pu ?_)
  have hyes : (((sIx items.size 0 lo : Nat) : Int) == 0 && (1 : Int) == 1 && (sIx items.size items.size hi - sIx items.size 0 lo) == items.size) = true := by
    rw [hw.1, hw.2]; simp
  show wpAny _ _ (if (((sIx items.size 0 lo : Nat) : Int) == 0 && (1 : Int) == 1 && (sIx items.size items.size hi - sIx items.size 0 lo) == items.size) = true then _ else _) _ _ s
  rw [if_pos hyes]
  unfold Builtin.Tuple.tupleIsExact
  refine wpAny_bind (wpAny_bind (wpAny_typeOf ht.typeIs (wpAny_pure ?_)))
  rw [if_pos (by decide)]
  refine wpAny_bind (wpAny_rule ?_)
  exact wpAny_pure ⟨_, rfl, wpAny_pure h⟩
end
end HT
namespace L2
open PySem PySem.Spec PyProof.Rows PySem.Builtin.Str PySem.SeqAt
section
variable {X : Cx}
/-- t[lo:hi]: the whole of it is t itself, else a new one -/
def rSlA (K : PySem.W.Frag) : V → Option Int → Option Int → Hp → VK → Prop := fun x lo hi H Q => ∃ a xs, x = .ref a ∧ SqT K H a xs ∧
  ((HT.sIx xs.length 0 lo = 0 ∧ HT.sIx xs.length xs.length hi = xs.length) → Q (.ref a) H) ∧ (¬ (HT.sIx xs.length 0 lo = 0 ∧ HT.sIx xs.length xs.length hi = xs.length) → ∀ p, H p = none → Q (.ref p) (upd H p (.tup (cutV xs lo hi))))
theorem sl_tupA : SlR X (rSlA X.K) := by
  intro pins s σ H x v vl vu lo hi sl Q I rx hs pl pu h
  obtain ⟨a, xs, rfl, hx, q1, q2⟩ := h
  by_cases hw : HT.sIx xs.length 0 lo = 0 ∧ HT.sIx xs.length xs.length hi = xs.length
  · cases rx
    obtain ⟨its, r, ht, hz⟩ := I.tuple hx
    have hlen : its.toArray.size = xs.length := by rw [List.size_toArray]; exact r.length.symm
    refine ⟨"tuple", _, PyProof.Rows.slot_tuple_getitem.lookup, ht.typeIs, ?_⟩
    exact HT.getItem_tuple_all ht hs pl pu (by rw [hlen]; exact hw) ⟨.ref a, H, I, rfl, q1 hw⟩
  · exact sl_tup pins s σ H _ v vl vu lo hi sl Q I rx hs pl pu ⟨a, xs, rfl, hx, hw, q2 hw⟩
/-- t == (), t a tuple -/
def rEqEmp (K : PySem.W.Frag) : R2 := fun x y H Q => ∃ a b xs, x = .ref a ∧ y = .ref b ∧ SqT K H a xs ∧ SqT K H b [] ∧ Q (.bl xs.isEmpty) H
theorem op_eq_emp (hu : X.A.units < cLine) : OpR X (compareOp .Eq) (rEqEmp X.K) := by
  intro pins s σ H x y v u Q I rx ry h
  obtain ⟨a, b, xs, rfl, rfl, ha, hb, q⟩ := h
  cases rx; cases ry
  obtain ⟨its, r1, t1, z1⟩ := I.tuple ha
  obtain ⟨jts, r2, t2, z2⟩ := I.tuple hb
  cases r2
  refine RcAt.tuples (A := X.A) (e := fun _ => true) (show s.heap.IsTuple a its.toArray from t1) (show s.heap.IsTuple b _ from t2) hu (fun j _ h2 => absurd h2 (by simp)) X.prog X.w X.xe _ ?_
  have e : ((List.range (min its.toArray.size (([] : List Value).toArray).size)).all (fun _ => true) && its.toArray.size == (([] : List Value).toArray).size) = xs.isEmpty := by
    rw [all_true, Bool.true_and]
    cases r1 <;> simp
  first | rw [e] | rw [show _ = xs.isEmpty from e]
  exact ⟨.bl xs.isEmpty, H, I, rfl, q⟩
def rEqNil8 (neg : Bool) : R2 := fun x y H Q => ∃ a b xs, x = .ref a ∧ y = .ref b ∧ H a = some (.lst xs) ∧ H b = some (.lst []) ∧ Q (.bl (if neg then !xs.isEmpty else xs.isEmpty)) H
theorem nil_len8 {xs : List V} {its : List Value} (r : Vals xs its) (h : xs.isEmpty = false) : (its.toArray.size != (#[] : Array Value).size) = true := by
  cases r with
  | nil => cases h
  | cons _ _ => simp
theorem op_eq_nil8 (hu : X.A.units < cLine) : OpR X (compareOp .Eq) (rEqNil8 false) := by
  intro pins s σ H x y v u Q I rx ry h
  obtain ⟨a, b, xs, rfl, rfl, ha, hb, q⟩ := h
  cases rx; cases ry
  obtain ⟨its, r1, t1, z1⟩ := I.list (SqL.of (K := X.K) ha)
  obtain ⟨jts, r2, t2, z2⟩ := I.list (SqL.of (K := X.K) hb)
  cases r2
  cases hx : xs.isEmpty with
  | true =>
    have : xs = [] := List.isEmpty_iff.mp hx
    subst this
    cases r1
    refine RcAt.lists (A := X.A) (e := fun _ => true) t1.isList t2.isList rfl hu (fun j h1 _ => absurd h1 (by simp)) X.prog X.w X.xe _ ?_
    rw [all_true]
    exact ⟨.bl true, H, I, rfl, q⟩
  | false =>
    rw [hx] at q
    exact RcAt.lists_lengths (A := X.A) t1.isList t2.isList (nil_len8 r1 hx) hu X.prog X.w X.xe _ ⟨.bl false, H, I, rfl, q⟩
end
/-! ### what is tracked stays -/
theorem SqT.same {K : PySem.W.Frag} {H H' : Hp} {a : Addr} {xs : List V} (h : SqT K H a xs) (e : Same H H') : SqT K H' a xs := by
  rcases h with (h | h) | h
  · exact .inl (.inl (e _ _ h))
  · exact .inl (.inr (by obtain ⟨z, h⟩ := h; exact ⟨z, e _ _ h⟩))
  · exact .inr h
/-! ### the rules within a comprehension: the fragment is named, not asked of the block -/
section
variable {X : Cx} {K : PySem.W.Frag}
theorem ix_listK (hK : X.K = K := by rfl) : IxR X (rIxL K) := by subst hK; exact ix_list
theorem ix_tupK (hK : X.K = K := by rfl) : IxR X (rIxT K) := by subst hK; exact ix_tup
theorem sl_tupK (hK : X.K = K := by rfl) : SlR X (rSlT K) := by subst hK; exact sl_tup
theorem sl_tupAK (hK : X.K = K := by rfl) : SlR X (rSlA K) := by subst hK; exact sl_tupA
theorem sl_listK (hK : X.K = K := by rfl) : SlR X (rSlL K) := by subst hK; exact sl_list
theorem op_catTK (hK : X.K = K := by rfl) : OpR X (binaryOp .Add) (rCatT K) := by subst hK; exact op_catT
theorem call_list_ofK (hK : X.K = K := by rfl) : CallR X (.type "list") (fun xs H Q => ∃ p ys, xs = [.ref p] ∧ (SqL K H p ys ∨ SqT K H p ys) ∧ ∀ l, H l = none → Q (.ref l) (upd H l (.lst ys))) := by subst hK; exact call_list_of
theorem call_tuple_ofK (hK : X.K = K := by rfl) : CallR X (.type "tuple") (fun xs H Q => ∃ p ys, xs = [.ref p] ∧ ((SqL K H p ys ∧ ∀ l, H l = none → Q (.ref l) (upd H l (.tup ys))) ∨ (SqT K H p ys ∧ Q (.ref p) H))) := by subst hK; exact call_tuple_of
theorem call_len_seqK (hK : X.K = K := by rfl) : CallR X (.builtin "len") (fun xs H Q => ∃ p ys, xs = [.ref p] ∧ (SqL K H p ys ∨ SqT K H p ys) ∧ Q (.int ys.length) H) := by subst hK; exact call_len_seq
theorem pi_listK {tg l : Expr} {tl : TE} (hl : PE X l tl) (hK : X.K = K := by rfl) : PI X tg l (iList K tl) := by subst hK; exact pi_list hl
theorem pi_tupK {tg l : Expr} {tl : TE} (hl : PE X l tl) (hK : X.K = K := by rfl) : PI X tg l (iTup K tl) := by subst hK; exact pi_tup hl
end
end L2
set_option Elab.async false
set_option linter.all false
set_option maxRecDepth 100000
set_option maxHeartbeats 4000000
namespace L2
open PySem PySem.Spec PyProof.Rows
theorem comp_use {X : Cx} {x : Str} {px pos : Pos} {iter elt : Expr} {ifs : List Expr} {scope : Scope} {cl : List (Str × Addr)} {caps : List (Str × Nat)} {wi : TI} {tc : TT} {te : TE}
    (hc : X.calm = true) (hi : PI X (.Name x px) iter wi)
    (htc : ∀ C s H fp, PTs (compCx X scope cl (x :: caps.map (·.1)) C s H fp) ifs tc)
    (hte : ∀ C s H fp, PE (compCx X scope cl (x :: caps.map (·.1)) C s H fp) elt te)
    (hclos : closureFor scope X.env = pure cl) (hkind : scope.kind = .function) (hcell : ∀ y ∈ scope.names, y.2 ≠ .cell)
    (hnames : ∀ y ∈ scope.names, y.2 = .local → scope.names.lookup y.1 = some .local) (hx : scope.names.lookup x = some .local)
    (hnd : (x :: caps.map (·.1)).Nodup)
    (hsub : ∀ y c, cl.lookup y = some c → X.env.cells.lookup y = some c)
    (hhas : ∀ y, ((relabel scope X.env).names.lookup y = some .cell ∨ (relabel scope X.env).names.lookup y = some .free) → ∃ c, cl.lookup y = some c)
    (hcap : ∀ p ∈ caps, X.N[p.2]? = some p.1 ∧ (X.env.scope.names.lookup p.1 = some .cell ∨ X.env.scope.names.lookup p.1 = some .free) ∧ (∃ c, cl.lookup p.1 = some c) ∧
      ((relabel scope X.env).names.lookup p.1 = some .cell ∨ (relabel scope X.env).names.lookup p.1 = some .free))
    (hs : ∀ v, foldedSetIterable iter X.env v = pure v := by intro _; rfl) :
    ∀ (use : Option (Value → Sem Unit)) (Q' : Value → Shared → Prop) (pins : List (Addr × Obj)) (s : Shared) (σ : St) (H : Hp) (Q : VK), Inv X pins σ H s → tComp wi caps tc te σ H Q →
      (∀ (p C : Addr) (H' : Hp) (s' : Shared) (m : Str → Option Value), Inv X pins σ H' s' → FpOk X pins H' C → s'.heap.Ns C m → Q (.ref p) H' → compPost (model X.prog X.w) X.A X.xe use Q' (.ref p) C (.ok .next) s') →
      wpAny (model X.prog X.w) X.A (comprehension (.ListComp elt [⟨.Name x px, iter, ifs, 0⟩] scope pos) scope X.env (firstIterPos [⟨.Name x px, iter, ifs, 0⟩] pos) (newList []) (firstAsync [⟨.Name x px, iter, ifs, 0⟩]) (firstIter [⟨.Name x px, iter, ifs, 0⟩] X.env) use) Q' X.xe s := by
  intro use Q' pins s σ H Q I h fin'
  refine wpAny_comprehension_free (use := use) rfl hs hclos hkind hnames (thn (hi pins s σ H _ I h) fun v s1 h1 => thn h1 fun itv s2 h2 => ?_)
  obtain ⟨it, fp, tn, J, H2, rfl, I2, T, st2, f2, hW⟩ := h2
  -- the new list
  refine wpAny_newObj_type ?_
  have hfr : H2 s2.heap.objs.size = none := I2.hok.fresh (Nat.le_refl _)
  obtain ⟨W, ⟨m0, w0⟩, turn⟩ := hW s2.heap.objs.size hfr
  have I3 : Inv X pins σ (upd H2 s2.heap.objs.size (.lst [])) { s2 with heap := s2.heap.push { cls := .type "list", data := .seq ([] : List Value).toArray } } :=
    I2.lnew (its := []) (t' := s2.toks) .nil (Nat.zero_le _)
  generalize hpe : s2.heap.objs.size = p at *
  generalize hs3 : ({ s2 with heap := s2.heap.push { cls := .type "list", data := .seq ([] : List Value).toArray } } : Shared) = s3 at *
  have hp3 : ∀ b ∈ fp, (upd H2 p (.lst [])) b = none := fun b hb => by
    have hb0 := (f2 b hb).1
    rw [upd_ne]
    · exact hb0
    · intro e
      subst e
      obtain ⟨o, ho, _⟩ := T.obj 0 _ st2 b hb
      have z := Heap.lt_size ho
      rw [hpe] at z
      exact Nat.lt_irrefl _ z
  have st3 : tn 0 s3.heap := T.keep 0 _ _ st2 fun b hb o e => by subst hs3; exact Heap.get?_push_of_some _ e
  generalize hH3 : upd H2 p (.lst []) = H3 at *
  refine wpAny_newFunctionEnv hcell (by intro y hy; simp at hy) (fun h4 hns hsb => ?_) hkind
  -- the block's frame at C
  generalize hCe : s3.heap.objs.size = C at *
  have k4 : ∀ b u, s3.heap.get? b = some u → h4.get? b = some u := fun b u e => by
    have hb : b ≠ C := fun z => by
      have y := Heap.lt_size e
      rw [hCe, z] at y
      exact Nat.lt_irrefl _ y
    rw [hsb.2 b hb]
    exact Heap.get?_push_of_some _ e
  have hC3 : H3 C = none := I3.hok.fresh (Nat.le_of_eq hCe)
  have fp3 : ∀ b ∈ fp, FpOk X pins H3 b := fun b hb => ⟨hp3 b hb, (f2 b hb).2⟩
  have fpC : ∀ b ∈ fp, b ≠ C := fun b hb e => by
    subst e
    obtain ⟨o, ho, _⟩ := T.obj 0 _ st3 b hb
    have z := Heap.lt_size ho
    rw [hCe] at z
    exact Nat.lt_irrefl _ z
  have fpS : ∀ b ∈ fp, b ∉ frs X.stack := fun b hb z => by
    rcases List.mem_cons.mp (I3.stkSub b z) with e | e
    · exact (fp3 b hb).2.1 e
    · exact (fp3 b hb).2.2.1 e
  have env_eq : ({ newEnv scope C X.env.globals cl X.env.qual none .none (some X.env) builtinsNs with scope := relabel scope X.env } : Env) = compEnvC scope cl C X.env := rfl
  have cEx : ∀ y c, cl.lookup y = some c → X.env.cells.lookup y = some c := hsub
  have Ok : (compCx X scope cl (x :: caps.map (·.1)) C s3 H3 fp).Ok := by
    refine ⟨I3.ok.mod, ?_, I3.ok.glob, I3.ok.blt, Nat.le_of_eq hCe, fun y z c h1 h2 => I3.ok.inj y z c (cEx y c h1) (cEx z c h2), fun y hy => hhas y hy, (fun y c hf => absurd (show false = true from hf) Bool.false_ne_true), fun hcm => I3.ok.hd hcm, I3.ok.frames, .inl rfl, ?_, fun b o e => I3.bs b o e, Nat.le_trans I3.ok.bsz I3.sz, ?_, fpS, I3.stack, I3.stkFree⟩
    · show (relabel scope X.env).kind = .function
      exact hkind
    · intro b hb
      exact ⟨fpC b hb, fun y c e => (fp3 b hb).2.2.2.2.1 y c (cEx y c e)⟩
    · intro b o e hb
      rcases (fp3 b hb).2.2.2.1 with z | z
      · exact I3.ok.noex b o e z
      · exact absurd (Nat.lt_of_lt_of_le (Heap.lt_size e) (Nat.le_trans I3.ok.bsz z)) (Nat.lt_irrefl _)
  have Inv4 : Inv (compCx X scope cl (x :: caps.map (·.1)) C s3 H3 fp) [] (none :: capSt caps σ) H3 { s3 with heap := h4, toks := s3.toks + ([] : List (Str × Value)).length } := by
    refine ⟨Ok, rfl, I3.bare, Un.kept k4, ⟨_, hns, fun i y v e1 e2 e3 => ?_⟩, fun y c e => ?_, hC3, fun y c e => I3.freeC y c (cEx y c e), fun q hq => absurd (show q ∈ ([] : List (Addr × Obj)) from hq) (by simp), I3.hok.kept k4, ?_⟩
    · cases i with
      | zero => simp at e2
      | succ j =>
        have e1' : (caps.map (·.1))[j]? = some y := by
          have z : (x :: caps.map (·.1))[j + 1]? = some y := e1
          rwa [List.getElem?_cons_succ] at z
        have e2' : (capSt caps σ)[j]? = some (some v) := by
          rwa [List.getElem?_cons_succ] at e2
        rw [List.getElem?_map] at e1'
        unfold capSt at e2'
        rw [List.getElem?_map] at e2'
        cases ec : caps[j]? with
        | none => rw [ec] at e1'; cases e1'
        | some q =>
          rw [ec] at e1' e2'
          have ey : q.1 = y := Option.some.inj e1'
          have ev : (σ[q.2]?).getD none = some v := Option.some.inj e2'
          obtain ⟨hN, hk0, ⟨c, hc0⟩, hk1⟩ := hcap q (List.mem_of_getElem? ec)
          subst ey
          have es : σ[q.2]? = some (some v) := by
            cases eq : σ[q.2]? with
            | none => rw [eq] at ev; cases ev
            | some w0 => rw [eq] at ev; exact congrArg some ev
          obtain ⟨m, hn, hl⟩ := I3.loc
          obtain ⟨u, ru, lk⟩ := hl q.2 q.1 v hN es (by rcases hk0 with z | z; exact .inr (.inl z); exact .inr (.inr z))
          refine ⟨u, ru, ?_⟩
          rcases lk with ⟨hk, _⟩ | ⟨_, c', hc', hcell'⟩
          · exfalso
            have hk' : X.env.scope.names.lookup q.1 = some .local := hk
            rcases hk0 with z | z
            · rw [z] at hk'; cases hk'
            · rw [z] at hk'; cases hk'
          · have ecc : c' = c := by
              have := cEx q.1 c hc0
              rw [this] at hc'
              exact (Option.some.inj hc').symm
            subst ecc
            obtain ⟨o, ho, hd⟩ := hcell'
            exact .inr ⟨hk1, c', hc0, ⟨o, k4 _ _ ho, hd⟩⟩
    · obtain ⟨v', o, ho, hd⟩ := I3.cell y c (cEx y c e)
      exact ⟨v', o, k4 _ _ ho, hd⟩
    · show (none :: capSt caps σ).length = (x :: caps.map (·.1)).length
      simp [capSt]
  have st4 : tn 0 h4 := T.keep 0 _ _ st3 fun b hb o e => k4 b o e
  -- the turns
  let XC := compCx X scope cl (x :: caps.map (·.1)) C s3 H3 fp
  have stat : ∀ {H' : Hp}, (∀ b ∈ fp, H' b = none) → ∀ b ∈ fp, FpOk XC [] H' b := fun hn b hb =>
    ⟨hn b hb, fpC b hb, fpS b hb, .inl hb, fun y c e => (fp3 b hb).2.2.2.2.1 y c (cEx y c e), fun q hq => absurd (show q ∈ ([] : List (Addr × Obj)) from hq) (by simp)⟩
  have fin : ∀ {σ' : St} {H' : Hp} {s' : Shared}, Inv XC [] σ' H' s' → Q (.ref p) H' → compPost (model X.prog X.w) X.A X.xe use Q' (.ref p) C (.ok .next) s' := fun {σ' H' s'} J' q => by
    obtain ⟨m, hn, _⟩ := J'.loc
    have HC : H' C = none := J'.free
    have un : Un (frs X.stack) fp H3 H' s3.heap s'.heap := J'.base
    have I5 : Inv X pins σ H' s' := I3.call' (s' := s') (ch := fp) (J'.os) un J'.hok J'.bare fun b hb => ⟨(fp3 b hb).2.2.2.1, (fp3 b hb).2.1, (fp3 b hb).2.2.2.2.1, (fp3 b hb).2.2.2.2.2⟩
    exact fin' p C H' s' m I5 (I3.fpOk (Nat.le_of_eq hCe) HC) hn q
  have pgx : PG XC (.Name x px) (gName 0) := pg_name hnd rfl (.inl (lookup_relabel_local hx)) (.inr (lookup_relabel_local hx))
  have toE : ∀ {α : Type} {tr : Sem α} {Q1 : α → Shared → Prop} {E1 : Value → Shared → Prop} {sx : Shared}, wpAny (model X.prog X.w) X.A tr Q1 (fun _ _ => False) sx → wpAny (model X.prog X.w) X.A tr Q1 E1 sx := fun {α tr Q1 E1 sx} hh => wpAny_mono hh (fun _ _ z => z) fun _ _ z => z.elim
  have loop : ∀ s5 : Shared, s5 = { s3 with heap := h4, toks := s3.toks + ([] : List (Str × Value)).length } →
      codeAny (model X.prog X.w) X.A (.compLoop (.ListComp elt [⟨.Name x px, iter, ifs, 0⟩] scope pos) 0 (.ref it) (.ref p) (compEnvC scope cl C X.env)) (compPost (model X.prog X.w) X.A X.xe use Q' (.ref p) C) s5 := by
    rintro s5 rfl
    refine codeAny_loop rfl (fun n s' => ∃ i v0 ys H', Inv XC [] (v0 :: capSt caps σ) H' s' ∧ tn i s'.heap ∧ (∀ b ∈ fp, H' b = none) ∧ W i n ys H') (fun n s6 hI => ?_) m0 ⟨0, none, [], H3, Inv4, st4, hp3, by rw [← hH3] at *; exact w0⟩
    obtain ⟨i, v0, ys, H6, I6, st6, fr6, w6⟩ := hI
    show wpAny _ X.A ((compTurn (.ListComp elt [⟨.Name x px, iter, ifs, 0⟩] scope pos) 0 (.ref it) (.ref p) (compEnvC scope cl C X.env)).onRaise (fun e => do noteFrame e (compEnvC scope cl C X.env); theTreesLotGoes e)) _ _ s6
    refine wpAny_noted ?_
    rw [compTurn_list]
    refine toE (wpAny_bind (wpAny_standAt (wpAny_bind ?_)))
    rcases turn i n ys H6 w6 with ⟨stop, qn⟩ | ⟨go, step⟩
    · refine thn (T.done XC rfl rfl rfl hc i [] s6 _ H6 _ I6 (stat fr6) st6 stop) fun r s7 ⟨hr, I7⟩ => ?_
      subst hr
      exact wpAny_pure (fin I7 qn)
    · refine thn (T.item XC rfl rfl rfl hc i [] s6 _ H6 (fun _ _ => False) I6 (stat fr6) st6 go) fun r s7 ⟨u, hr, h7⟩ => ?_
      subst hr
      refine wpAny_bind (thn h7 fun _ s8 ⟨xv, H8, I8, r8, y8, st8, fr8⟩ => ?_)
      have I8' := I8.pinned (stat fr8) (T.obj _ _ st8)
      refine wpAny_bind (thn (pgx _ s8 _ H8 xv u (fun σ' H' => σ' = some xv :: capSt caps σ ∧ H' = H8) I8' r8 ⟨rfl, rfl⟩) fun _ s9 ⟨σ9, H9, I9, e9, e9'⟩ => ?_)
      subst e9
      subst e9'
      have again : ∀ {s10 : Shared} {H10 : Hp} {zs : List V}, Inv XC ([] ++ pinsAt fp s8.heap) (some xv :: capSt caps σ) H10 s10 → (∃ m', m' < n ∧ W (i + 1) m' zs H10) →
          ∃ m, m < n ∧ ∃ i v0 ys H', Inv XC [] (v0 :: capSt caps σ) H' s10 ∧ tn i s10.heap ∧ (∀ b ∈ fp, H' b = none) ∧ W i m ys H' := fun {s10 H10 zs} I10 ⟨m', hm, w10⟩ => by
        refine ⟨m', hm, i + 1, some xv, zs, H10, I10.unpinned, T.keep _ _ _ st8 fun b hb o e => (I10.pin (b, o) (List.mem_append_right _ (List.mem_append_right _ (mem_pinsAt hb e)))).1, fun b hb => ?_, w10⟩
        obtain ⟨o, e, d⟩ := T.obj _ _ st8 b hb
        exact (I10.pin (b, o) (List.mem_append_right _ (List.mem_append_right _ (mem_pinsAt hb e)))).2.1
      refine wpAny_bind (thn (htc C s3 H3 fp _ s9 _ H9 _ I9 (step xv H9 y8)) fun ok s10 ⟨H10, I10, q10⟩ => ?_)
      cases ok with
      | false => exact wpAny_pure ⟨rfl, again I10 q10⟩
      | true =>
        refine wpAny_bind (wpAny_bind (thn (hte C s3 H3 fp _ s10 _ H10 _ I10 q10) fun y s11 ⟨yv, H11, I11, r11, hl11, hz11, q11⟩ => ?_))
        refine wpAny_bind (thn (mt_append (X := XC) _ s11 _ H11 (.ref p) [yv] (.ref p) [y] (fun _ H' => H' = upd H11 p (.lst (ys ++ [yv]))) I11 rfl (.cons r11 .nil) ⟨p, ys, yv, rfl, rfl, hl11, hz11, rfl⟩) fun _ s12 ⟨_, H12, I12, _, e12⟩ => ?_)
        subst e12
        exact wpAny_pure (wpAny_pure ⟨rfl, again I12 q11⟩)
  exact codeAny_compStart_list (loop _ rfl) (T.self _ 0 _ _ _ st4 (loop _ rfl))

/-- a comprehension whose list is handed on, as asked, ere its names go -/
def CU (X : Cx) (x : Str) (px : Pos) (iter : Expr) (ifs : List Expr) (elt : Expr) (scope : Scope) (pos : Pos) (te : TE) : Prop :=
  ∀ (use : Option (Value → Sem Unit)) (Q' : Value → Shared → Prop) (pins : List (Addr × Obj)) (s : Shared) (σ : St) (H : Hp) (Q : VK), Inv X pins σ H s → te σ H Q →
      (∀ (p C : Addr) (H' : Hp) (s' : Shared) (m : Str → Option Value), Inv X pins σ H' s' → FpOk X pins H' C → s'.heap.Ns C m → Q (.ref p) H' → compPost (model X.prog X.w) X.A X.xe use Q' (.ref p) C (.ok .next) s') →
      wpAny (model X.prog X.w) X.A (comprehension (.ListComp elt [⟨.Name x px, iter, ifs, 0⟩] scope pos) scope X.env (firstIterPos [⟨.Name x px, iter, ifs, 0⟩] pos) (newList []) (firstAsync [⟨.Name x px, iter, ifs, 0⟩]) (firstIter [⟨.Name x px, iter, ifs, 0⟩] X.env) use) Q' X.xe s
theorem cu_comp0 {X : Cx} {x : Str} {px pos : Pos} {iter elt : Expr} {ifs : List Expr} {scope : Scope} {wi : TI} {tc : TT} {te : TE}
    (hc : X.calm = true) (hi : PI X (.Name x px) iter wi)
    (htc : ∀ C s H fp, PTs (compCx X scope [] [x] C s H fp) ifs tc) (hte : ∀ C s H fp, PE (compCx X scope [] [x] C s H fp) elt te)
    (hkind : scope.kind = .function) (hcell : ∀ y ∈ scope.names, y.2 ≠ .cell) (hfree : ∀ y ∈ scope.names, y.2 ≠ .free)
    (hnames : ∀ y ∈ scope.names, y.2 = .local → scope.names.lookup y.1 = some .local) (hx : scope.names.lookup x = some .local)
    (hs : ∀ v, foldedSetIterable iter X.env v = pure v := by intro _; rfl) :
    CU X x px iter ifs elt scope pos (tComp wi [] tc te) := by
  refine comp_use (cl := []) (caps := []) hc hi htc hte (closureFor_none hfree) hkind hcell hnames hx (by simp) (fun y c h => by simp at h) (fun y h => ?_) (fun p hp => by simp at hp) hs
  rw [relabel_same hfree] at h
  rcases h with h | h
  · exact absurd rfl (hcell _ (PySem.mem_of_lookup h))
  · exact absurd rfl (hfree _ (PySem.mem_of_lookup h))
theorem cu_comp1 {X : Cx} {x y : Str} {j : Nat} {c : Addr} {px pos : Pos} {iter elt : Expr} {ifs : List Expr} {scope : Scope} {wi : TI} {tc : TT} {te : TE}
    (hc : X.calm = true) (hi : PI X (.Name x px) iter wi)
    (htc : ∀ C s H fp, PTs (compCx X scope [(y, c)] [x, y] C s H fp) ifs tc) (hte : ∀ C s H fp, PE (compCx X scope [(y, c)] [x, y] C s H fp) elt te)
    (hclos : closureFor scope X.env = pure [(y, c)]) (hcells : X.env.cells.lookup y = some c) (hN : X.N[j]? = some y) (hXk : X.env.scope.names.lookup y = some .cell)
    (hkind : scope.kind = .function) (hcell : ∀ y ∈ scope.names, y.2 ≠ .cell) (hfree : ∀ p ∈ scope.names, p.2 = .free → p.1 = y) (hy : scope.names.lookup y = some .free)
    (hnames : ∀ y ∈ scope.names, y.2 = .local → scope.names.lookup y.1 = some .local) (hx : scope.names.lookup x = some .local)
    (hs : ∀ v, foldedSetIterable iter X.env v = pure v := by intro _; rfl) :
    CU X x px iter ifs elt scope pos (tComp wi [(y, j)] tc te) := by
  have hxy : x ≠ y := fun e => by rw [e] at hx; rw [hx] at hy; cases hy
  have one : ∀ z : Str, ([(y, c)] : List (Str × Addr)).lookup z = if z = y then some c else none := fun z => by
    rw [List.lookup_cons]
    by_cases e : z = y
    · subst e; simp
    · rw [if_neg e, beq_eq_false_iff_ne.mpr e]; rfl
  refine comp_use (cl := [(y, c)]) (caps := [(y, j)]) hc hi htc hte hclos hkind hcell hnames hx (by simp [hxy]) (fun z d h => ?_) (fun z h => ?_) (fun p hp => ?_) hs
  · rw [one] at h
    by_cases e : z = y
    · rw [if_pos e] at h; cases h; rw [e]; exact hcells
    · rw [if_neg e] at h; cases h
  · have hz : z = y := by
      rcases h with h | h
      · exact hfree _ (relabel_back h (.inl rfl) hcell) rfl
      · exact hfree _ (relabel_back h (.inr rfl) hcell) rfl
    exact ⟨c, by rw [one, if_pos hz]⟩
  · obtain rfl := List.mem_singleton.mp hp
    exact ⟨hN, .inl hXk, ⟨c, by rw [one, if_pos rfl]⟩, relabel_free hy⟩

/-- name = [.. for ..]: the list is stored ere the block's names go -/
theorem ps_setComp {X : Cx} {i : Nat} {y : Str} {py spos : Pos} {x : Str} {px pos : Pos} {iter elt : Expr} {ifs : List Expr} {scope : Scope} {te : TE} (hN : X.N.Nodup) (hi : X.N[i]? = some y) (hx : Loc X.env.scope y)
    (hf : X.fn y = true ∨ X.env.scope.names.lookup y = some .local)
    (hc : CU X x px iter ifs elt scope pos te)
    (hs : swapsWith (.ListComp elt [⟨.Name x px, iter, ifs, 0⟩] scope pos) (some (.Name y py)) spos.line X.env = pure true := by rfl) :
    PS X (.Assign [.Name y py] (.ListComp elt [⟨.Name x px, iter, ifs, 0⟩] scope pos) spos) (tAsg te (gName i)) := by
  intro pins s σ H D I h
  rw [exec_Assign_Name_used y py _ spos hs]
  refine wpAny_bind (wpAny_standAt (wpAny_bind ?_))
  refine wpAny_bind (m := comprehension _ _ _ _ _ _ _ (some (assign (.Name y py) X.env))) ?_
  refine hc (some (assign (.Name y py) X.env)) _ pins s σ H _ I h fun p C H' s' m I' fC hn q => ?_
  have fpC : ∀ b ∈ [C], FpOk X pins H' b := fun b hb => by rcases List.mem_singleton.mp hb with rfl; exact fC
  have obC : ∀ b ∈ [C], ∃ o, s'.heap.get? b = some o ∧ ∀ v, o.data ≠ .cell v := fun b hb => by
    rcases List.mem_singleton.mp hb with rfl
    obtain ⟨o, es, ep, ho, hd, _⟩ := id hn
    exact ⟨o, ho, fun v z => by rw [hd] at z; cases z⟩
  have I1 := I'.pinned fpC obC
  show wpAny (model X.prog X.w) X.A (assign (.Name y py) X.env (.ref p)) _ X.xe s'
  refine thn (pg_name (pos := py) hN hi hx hf _ s' σ H' (.ref p) (.ref p) (fun σ' H2 => D.nx σ' H2) I1 rfl q) fun _ s2 ⟨σ2, H2, I2, q2⟩ => ?_
  obtain ⟨o, es, ep, ho, hd, hk, hm⟩ := id hn
  have hp2 := I2.pin (C, o) (List.mem_append_right _ (List.mem_append_right _ (mem_pinsAt (by simp) ho)))
  refine ⟨m, ⟨o, es, ep, hp2.1, hd, hk, hm⟩, fun h' hsb => ?_⟩
  have I3 := I2.unpinned
  obtain ⟨_, f1, _, f3, f4, f5⟩ := fC
  have I4 : Inv X pins σ2 H2 { s2 with heap := h' } := I3.turned (it := C) (t' := s2.toks) (fun b o hb e => (hsb.2 b hb).trans e) hp2.2.1 f1 f3 f4 f5
  exact wpAny_pure (wpAny_pure ⟨σ2, H2, I4, q2⟩)
end L2
set_option Elab.async false
set_option linter.all false
set_option maxRecDepth 100000
set_option maxHeartbeats 4000000
namespace L2
open PySem PySem.Spec PyProof.Rows PySem.Builtin.Str PySem.SeqAt
theorem hash_none {prog : Program} {w : World} {A : Around} {E : Value → Shared → Prop} {s : Shared} {Q : Int → Shared → Prop} (h : Q (reduceHash 4238894112) { s with toks := s.toks + 1 }) : wpAny (model prog w) A (pyHash .none) Q E s := by
  show wpAny _ _ (pyHashByItsType .none) _ _ _
  refine W.pyHash_slot (T := "NoneType") (typeIs_none _) F.slot_NoneType_hash F.entry_NoneType_hash (F.args_NoneType_hash_1 _) rfl (.inl rfl) ?_
  refine wpAny_bind (m := pure (Value.none, [])) (wpAny_pure ?_)
  unfold retInt
  exact wpAny_bind (wpAny_mkInt (wpAny_pure ⟨_, _, rfl, h⟩))
theorem hash_bool {prog : Program} {w : World} {A : Around} {E : Value → Shared → Prop} {s : Shared} {b : Bool} {Q : Int → Shared → Prop} (h : Q (reduceHash (if b then 1 else 0)) { s with toks := s.toks + 1 }) : wpAny (model prog w) A (pyHash (.bool b)) Q E s := by
  show wpAny _ _ (pyHashByItsType (.bool b)) _ _ _
  refine W.pyHash_slot (T := "bool") (PySem.typeIs_bool _ _) F.slot_bool_hash F.entry_int_hash (F.args_int_hash_1 _) rfl (.inl rfl) ?_
  unfold Builtin.«int.__hash__» Builtin.Int.intSlot0 Builtin.Int.intOfSelf
  refine wpAny_bind (wpAny_bind (m := pure (Value.bool b, [])) (wpAny_pure ?_))
  refine wpAny_bind (wpAny_bind (m := pure (some (if b = true then (1 : Int) else 0))) (wpAny_pure (wpAny_pure (wpAny_pure ?_))))
  have e : (if ((if (if b = true then (1 : Int) else 0) < 0 then -(((if b = true then (1 : Int) else 0).natAbs : Int) % ((2 ^ 61 - 1 : Nat) : Int)) else (((if b = true then (1 : Int) else 0).natAbs : Int) % ((2 ^ 61 - 1 : Nat) : Int))) == -1) = true then (-2 : Int) else (if (if b = true then (1 : Int) else 0) < 0 then -(((if b = true then (1 : Int) else 0).natAbs : Int) % ((2 ^ 61 - 1 : Nat) : Int)) else (((if b = true then (1 : Int) else 0).natAbs : Int) % ((2 ^ 61 - 1 : Nat) : Int)))) = (if b = true then 1 else 0) := by cases b <;> decide
  show wpAny _ _ (retInt _) _ _ _
  rw [e]
  unfold retInt
  exact wpAny_bind (wpAny_mkInt (wpAny_pure ⟨_, _, rfl, h⟩))
/-! ### a dict by True, False and None -/
def truIs : Option Bool → Value → Bool
  | none, .none => true
  | some b, .bool c => b == c
  | _, _ => false
theorem truIs_shape {k : Option Bool} {v : Value} (h : truIs k v = true) : (k = none ∧ v = .none) ∨ ∃ b, k = some b ∧ v = .bool b := by
  cases k with
  | none => cases v <;> first | exact .inl ⟨rfl, rfl⟩ | cases h
  | some b =>
    cases v <;> first | cases h | skip
    rename_i c
    have e : b = c := eq_of_beq h
    exact .inr ⟨b, rfl, by rw [e]⟩
def truKind (prog : Program) (w : World) : PySem.KeyKind prog w (Option Bool) where
  is := truIs
  hash := fun k => match k with | none => reduceHash 4238894112 | some b => reduceHash (if b then 1 else 0)
  inj := fun v a b ha hb => by
    rcases truIs_shape ha with ⟨rfl, rfl⟩ | ⟨x, rfl, rfl⟩
    · rcases truIs_shape hb with ⟨rfl, e⟩ | ⟨y, rfl, e⟩
      · rfl
      · cases e
    · rcases truIs_shape hb with ⟨rfl, e⟩ | ⟨y, rfl, e⟩
      · cases e
      · injection e with e; rw [e]
  byValue := fun k v h => by
    rcases truIs_shape h with ⟨rfl, rfl⟩ | ⟨x, rfl, rfl⟩ <;> rfl
  pyHash := fun hv h => by
    rcases truIs_shape hv with ⟨rfl, rfl⟩ | ⟨x, rfl, rfl⟩
    · exact hash_none h
    · exact hash_bool h
  eqBool := fun hu hv h => by
    rcases truIs_shape hu with ⟨rfl, rfl⟩ | ⟨x, rfl, rfl⟩
    · rcases truIs_shape hv with ⟨rfl, rfl⟩ | ⟨y, rfl, rfl⟩
      · exact SeqAt.EqAt.same _ _ _ _ _ h
      · exact SeqAt.EqAt.none_bool y _ _ _ _ (by simpa using h)
    · rcases truIs_shape hv with ⟨rfl, rfl⟩ | ⟨y, rfl, rfl⟩
      · exact SeqAt.EqAt.bool_none x _ _ _ _ (by simpa using h)
      · refine SeqAt.EqAt.bool_bool x y _ _ _ _ ?_
        have e : decide (some x = some y) = (x == y) := by cases x <;> cases y <;> rfl
        rw [e] at h
        exact h
  «strs» := fun k x t v h => by
    rcases truIs_shape h with ⟨rfl, e⟩ | ⟨y, rfl, e⟩ <;> cases e
def truV : Option Bool → V
  | none => .non
  | some b => .bl b
/-- the dict at a: texts by True, False, None -/
def truO (P : Program) (w : World) (a : Addr) (kvs : List (Option Bool × Str)) : HO := .ext fun h => ∃ vs : List (Option Bool × Value), Paired (fun p q => p.1 = q.1 ∧ RelV (.str p.2) q.2) kvs vs ∧ h.DictOf (truKind P w) a vs
section
variable {X : Cx}
/-- {True: x, False: y, None: z} -/
theorem pe_tru {pos : Pos} {x y z : Str} {j1 j2 j3 i1 i2 i3 : Nat} {p1 p2 p3 q1 q2 q3 : Pos} : PE X (.Dict [some (.Constant (.bool true) j1 p1), some (.Constant (.bool false) j2 p2), some (.Constant .none j3 p3)] [.Constant (.str x) i1 q1, .Constant (.str y) i2 q2, .Constant (.str z) i3 q3] pos)
    (fun _ H Q => ∀ p, H p = none → Q (.ref p) (upd H p (truO X.prog X.w p [(some true, x), (some false, y), (none, z)]))) := by
  intro pins s σ H Q I q
  have hn := I.hok.fresh (Nat.le_refl s.heap.objs.size)
  refine wpAny_Dict_walk (knd := truKind X.prog X.w) rfl rfl (by simp) (by show 3 ≤ 15; decide) ?_
  refine pairTrees_cons_walk (Constant_bool (Calls.Constant_str (pairTrees_cons_walk (Constant_bool (Calls.Constant_str (pairTrees_cons_walk (Constant_none (Calls.Constant_str (pairTrees_nil_walk ?_)))))))))
  refine ⟨[(some true, _), (some false, _), (none, _)], ⟨rfl, rfl, rfl, rfl, rfl, rfl, True.intro⟩, ?_, fun h' dd hs => ?_⟩
  · exact ⟨_, #[], 0, Heap.get?_push_size _ rfl, ⟨rfl, rfl, rfl⟩, rfl, (by first | (intro e he; simp at he) | exact trivial | (simp [PySem.KeysOf])), (by first | exact .nil | exact trivial | rfl), List.nodup_nil⟩
  · have em : merged [] [(some true, Value.str x s.toks), (some false, Value.str y (s.toks + 1)), (none, Value.str z (s.toks + 1 + 1))] = [(some true, Value.str x s.toks), (some false, Value.str y (s.toks + 1)), (none, Value.str z (s.toks + 1 + 1))] := rfl
    rw [em] at dd
    refine ⟨.ref s.heap.objs.size, _, I.laid (a := s.heap.objs.size) (o := truO X.prog X.w s.heap.objs.size [(some true, x), (some false, y), (none, z)]) (h' := h') (t' := _) (fun b o e => ?_) (Nat.le_refl _) ?_, rfl, q _ hn⟩
    · have nb : b ≠ s.heap.objs.size := Nat.ne_of_lt (Heap.lt_size e)
      exact (hs.2 b nb).trans (Heap.get?_push_of_some _ e)
    · have he : ∃ o, h'.get? s.heap.objs.size = some o := let ⟨o, _, _, h, _⟩ := dd; ⟨o, h⟩
      refine ⟨⟨_, .cons ⟨rfl, _, rfl⟩ (.cons ⟨rfl, _, rfl⟩ (.cons ⟨rfl, _, rfl⟩ .nil)), dd⟩, he, fun h1 h2 p1 k => ?_⟩
      obtain ⟨vs, r, o, es, ep, e1, rest⟩ := p1
      exact ⟨vs, r, o, es, ep, k o e1, rest⟩
/-- .. looked up -/
def rIxD (P : Program) (w : World) : R2 := fun x y H Q => ∃ a kvs k t, x = .ref a ∧ y = truV k ∧ H a = some (truO P w a kvs) ∧ (kvs.find? fun kv => decide (kv.1 = k)) = some (k, t) ∧ Q (.str t) H
theorem tru_val {k : Option Bool} {t : Str} : ∀ {kvs : List (Option Bool × Str)} {vs : List (Option Bool × Value)}, Paired (fun p q => p.1 = q.1 ∧ RelV (.str p.2) q.2) kvs vs → (kvs.find? fun kv => decide (kv.1 = k)) = some (k, t) → ∃ v, valueAt vs k = some v ∧ RelV (.str t) v
  | _, _, .nil, h => by simp at h
  | _, _, .cons (a := p) (b := q) r rest, h => by
    by_cases e : p.1 = k
    · have e2 : q.1 = k := r.1.symm.trans e
      rw [List.find?_cons, decide_eq_true e] at h
      have : p = (k, t) := Option.some.inj h
      refine ⟨q.2, ?_, by rw [this] at r; exact r.2⟩
      unfold valueAt
      rw [List.find?_cons, decide_eq_true e2]; rfl
    · have e2 : ¬ q.1 = k := fun z => e (r.1.trans z)
      rw [List.find?_cons, decide_eq_false e] at h
      obtain ⟨v, h1, h2⟩ := tru_val rest h
      refine ⟨v, ?_, h2⟩
      unfold valueAt at h1 ⊢
      rw [List.find?_cons, decide_eq_false e2]; exact h1
theorem truV_is {k : Option Bool} {u : Value} (r : RelV (truV k) u) : truIs k u = true := by
  cases k with
  | none => cases r; rfl
  | some b => cases r; exact beq_self_eq_true b
theorem ix_tru : IxR X (rIxD X.prog X.w) := by
  intro value slice pins s σ H x y v u Q I rx ry h hs
  obtain ⟨a, kvs, k, t, rfl, rfl, ha, hf, q⟩ := h
  cases rx
  have hO := I.hok a _ ha
  have hO2 : ∃ vs : List (Option Bool × Value), Paired (fun (p : Option Bool × Str) (q : Option Bool × Value) => p.1 = q.1 ∧ RelV (.str p.2) q.2) kvs vs ∧ s.heap.DictOf (truKind X.prog X.w) a vs := hO.1
  obtain ⟨vs, r, dd⟩ := hO2
  obtain ⟨w', hw, rw'⟩ := tru_val r hf
  have ty : s.TypeIs (.ref a) "dict" := dd.typeIs
  exact subscriptTail_builtinR (x := w') ty PySem.F.slot_dict_getitem.lookup (wpAny_getItem_of (knd := truKind X.prog X.w) (truV_is ry) dd.mapOf hw ⟨rfl, .str t, H, I.tok _, rw', q⟩) hs
/-! ### str(t), t a tuple of ints: some text -/
theorem reads_ints {h : Heap} : ∀ {ns : List Int} {us : List Value}, Vals (ns.map V.int) us → ReadsAll h us (ns.map PyData.int) []
  | [], _, r => by cases r; exact .nil
  | n :: ns, _, r => by
    cases r with
    | cons r1 rr =>
      obtain ⟨t, rfl⟩ := r1
      exact .cons (as := []) (bs := []) (.int n t) (reads_ints rr)
theorem show_ints : ∀ ns : List Int, (∀ i ∈ ns, i.natAbs < 1000000) → PyData.showableAll (ns.map PyData.int) = true
  | [], _ => rfl
  | n :: ns, h => by
    rw [List.map_cons, PyData.showableAll.eq_2, show_ints ns fun i hi => h i (List.mem_cons_of_mem _ hi), Bool.and_true]
    have := h n (by simp)
    have hlog : n.natAbs.log2 < 1920 := by
      by_cases hz : n.natAbs = 0
      · rw [hz]; decide
      · exact (Nat.log2_lt hz).mpr (Nat.lt_of_lt_of_le (show n.natAbs < 2 ^ 20 by omega) (Nat.pow_le_pow_right (by decide) (by decide)))
    simp [PyData.showable]
    omega
theorem depth_ints : ∀ ns : List Int, PyData.depthAll (ns.map PyData.int) = 0
  | [] => rfl
  | n :: ns => by rw [List.map_cons, PyData.depthAll.eq_2, depth_ints ns, PyData.depth.eq_6]; rfl
theorem dict_ints : ∀ ns : List Int, PyData.hasDictAll (ns.map PyData.int) = false
  | [] => rfl
  | n :: ns => by
    have := dict_ints ns
    simp [PyData.hasDictAll, PyData.hasDict, this]
theorem join_sum (sep : Str) : ∀ (ws : List Str), (Str.join sep ws).length ≤ (ws.map (·.length)).sum + ws.length * sep.length
  | [] => Nat.le_of_eq (by simp [Str.join]; rfl)
  | [a] => by
    show a.length ≤ _
    simp
  | a :: b :: r => by
    have ih := join_sum sep (b :: r)
    show (a ++ sep ++ Str.join sep (b :: r)).length ≤ _
    rw [Str.length_append, Str.length_append]
    simp only [List.map_cons, List.sum_cons, List.length_cons, Nat.add_mul] at ih ⊢
    omega
theorem shown_len : ∀ ns : List Int, (∀ i ∈ ns, i.natAbs < 1000000) → ((PyData.shownAll (ns.map PyData.int)).map (·.length)).sum ≤ 13 * ns.length
  | [], _ => Nat.le_refl _
  | n :: ns, h => by
    have ih := shown_len ns fun i hi => h i (List.mem_cons_of_mem _ hi)
    have h1 : (PyData.int n).shown.length ≤ 13 := PyData.shown_int_le (by have := h n (by simp); omega)
    rw [List.map_cons, PyData.shownAll.eq_2, List.map_cons, List.sum_cons, List.length_cons, Nat.mul_add]
    omega
theorem call_str_tup {k : Nat} {K : PySem.W.Frag} (hr : Room k X.A) (hK : X.K = K := by rfl) : CallR X (.type "str") (fun xs H Q => ∃ (a : Addr) (ns : List Int), xs = [.ref a] ∧ SqT K H a (ns.map V.int) ∧ ns.length ≤ 1000 ∧ (∀ i ∈ ns, i.natAbs < 1000000) ∧ ∀ t, Q (.str t) H) := by
  subst hK
  intro pins s σ H xs us Q I r h
  obtain ⟨a, ns, rfl, ha, hl, hn, q⟩ := h
  cases r with
  | cons r1 rr =>
    cases rr
    cases r1
    obtain ⟨its, rv, pl, hz⟩ := I.tuple ha
    obtain ⟨o, ho, hc, n, hd⟩ := pl
    have hlen : (PyData.tuple (ns.map PyData.int)).shown.length ≤ sizeLine := by
      rw [PyData.shown_tuple, Str.length_append, Str.length_append]
      have h1 := join_sum (Str.ofString ", ") (PyData.shownAll (ns.map PyData.int))
      have h2 := shown_len ns hn
      have h3 : (PyData.shownAll (ns.map PyData.int)).length = ns.length := by rw [PyData.shownAll_ints, List.length_map]
      have h4 : (Str.ofString ", ").length = 2 := by decide +kernel
      have h5 : (Str.ofString "(").length = 1 := by decide +kernel
      have h6 : (Str.ofString (if ((ns.map PyData.int).length == 1) = true then ",)" else ")")).length ≤ 2 := by split <;> decide +kernel
      have : sizeLine = 16777216 := sizeLine_eq
      rw [h3, h4] at h1
      omega
    refine str_of_reads (h₀ := s.heap) (d := .tuple (ns.map PyData.int)) (as := []) (.tuple ho hc hd (by simpa using reads_ints rv)) (by rw [PyData.showable.eq_6]; exact show_ints ns hn) (fun z => by simp) hr.gd ?_ (fun _ _ e => e) (fun h' u tk k => ⟨.str _, H, I.kept (t' := tk) k, ⟨_, rfl⟩, q _⟩) hlen
    have hu := hr.un
    have e : (PyData.tuple (ns.map PyData.int)).depth ≤ 2 := by
      have := depth_ints ns
      first | (rw [PyData.depth.eq_2, this]; omega) | (rw [PyData.depth.eq_1, this]; omega) | (simp [PyData.depth, this])
    omega
/-! ### t.partition(y) -/
def rPart : V → List V → Hp → VK → Prop := fun x vs H Q => ∃ t y, x = .str t ∧ vs = [.str y] ∧ 1 ≤ y.length ∧ t.length ≤ 1000000 ∧ ∀ p, H p = none → Q (.ref p) (upd H p (.tup [.str (Txt.partition t y).1, .str (Txt.partition t y).2.1, .str (Txt.partition t y).2.2]))
theorem mt_partition : MtR X "str.partition" rPart := by
  intro pins s σ H x vs v us Q I rx rv h
  obtain ⟨t, y, rfl, rfl, hy, ht, q⟩ := h
  obtain ⟨tk, rfl⟩ := rx
  obtain ⟨u, rfl, ru⟩ := rv.one
  obtain ⟨tk', rfl⟩ := ru
  have hz : sizeLine = 16777216 := sizeLine_eq
  have hy' : (y.length == 0) = false := by rw [beq_eq_false_iff_ne]; omega
  refine call_meets F.slot_str_partition (typeIs_str _ _ _) F.entry_str_partition (F.args_str_partition_2 _ _) (meets_str_partition t y tk tk' hy' (by omega)) ?_
  have fr := I.fresh
  have new : ∀ (its : List Value) (k : Nat) (xs : List V), Vals xs its → xs.length ≤ sizeLine → Q (.ref s.heap.objs.size) (upd H s.heap.objs.size (.tup xs)) → EP X pins σ Q (.ref s.heap.objs.size) { s with heap := s.heap.push { cls := .type "tuple", data := .seq its.toArray }, toks := k } := fun its k xs r hl hq =>
    ⟨.ref s.heap.objs.size, _, I.laid (t' := k) (o := .tup xs) (fun b ob e => Heap.get?_push_of_some _ e) (Nat.le_refl _) ⟨hl, its, r, IsTup.new _ _⟩, rfl, hq⟩
  have q' := q _ fr
  unfold Txt.partition at q'
  cases ho : Builtin.Str.occurrences t y 0 t.length 1 with
  | nil =>
    rw [ho] at q'
    exact new [Value.str t tk, Value.str Str.empty s.toks, Value.str Str.empty s.toks] _ [.str t, .str Str.empty, .str Str.empty] (.cons ⟨_, rfl⟩ (.cons ⟨_, rfl⟩ (.cons ⟨_, rfl⟩ .nil))) (by show 3 ≤ sizeLine; decide) q'
  | cons i r =>
    rw [ho] at q'
    exact new [Value.str (Builtin.Str.strSub t 0 i) s.toks, Value.str y tk', Value.str (Builtin.Str.strSub t (i + y.length) t.length) (s.toks + 1)] _ [.str _, .str _, .str _] (.cons ⟨_, rfl⟩ (.cons ⟨_, rfl⟩ (.cons ⟨_, rfl⟩ .nil))) (by show 3 ≤ sizeLine; decide) q'
end
/-! ### a comprehension that reads two names of the def -/
theorem pe_comp2 {X : Cx} {x y z : Str} {j k : Nat} {c d : Addr} {px pos : Pos} {iter elt : Expr} {ifs : List Expr} {scope : Scope} {wi : TI} {tc : TT} {te : TE}
    (hc : X.calm = true) (hi : PI X (.Name x px) iter wi)
    (htc : ∀ C s H fp, PTs (compCx X scope [(y, c), (z, d)] [x, y, z] C s H fp) ifs tc) (hte : ∀ C s H fp, PE (compCx X scope [(y, c), (z, d)] [x, y, z] C s H fp) elt te)
    (hclos : closureFor scope X.env = pure [(y, c), (z, d)]) (hcells : X.env.cells.lookup y = some c) (hcells2 : X.env.cells.lookup z = some d) (hN : X.N[j]? = some y) (hN2 : X.N[k]? = some z) (hXk : X.env.scope.names.lookup y = some .cell) (hXk2 : X.env.scope.names.lookup z = some .cell)
    (hkind : scope.kind = .function) (hyz : y ≠ z) (hcell : ∀ y ∈ scope.names, y.2 ≠ .cell) (hfree : ∀ p ∈ scope.names, p.2 = .free → p.1 = y ∨ p.1 = z) (hy : scope.names.lookup y = some .free) (hz : scope.names.lookup z = some .free)
    (hnames : ∀ y ∈ scope.names, y.2 = .local → scope.names.lookup y.1 = some .local) (hx : scope.names.lookup x = some .local)
    (hs : ∀ v, foldedSetIterable iter X.env v = pure v := by intro _; rfl) :
    PE X (.ListComp elt [⟨.Name x px, iter, ifs, 0⟩] scope pos) (tComp wi [(y, j), (z, k)] tc te) := by
  have hxy : x ≠ y := fun e => by rw [e] at hx; rw [hx] at hy; cases hy
  have hxz : x ≠ z := fun e => by rw [e] at hx; rw [hx] at hz; cases hz
  have one : ∀ u : Str, ([(y, c), (z, d)] : List (Str × Addr)).lookup u = if u = y then some c else if u = z then some d else none := fun u => by
    rw [List.lookup_cons]
    by_cases e : u = y
    · subst e; simp
    · rw [if_neg e, beq_eq_false_iff_ne.mpr e]
      show List.lookup u [(z, d)] = _
      rw [List.lookup_cons]
      by_cases e2 : u = z
      · subst e2; simp
      · rw [if_neg e2, beq_eq_false_iff_ne.mpr e2]; rfl
  refine pe_comp (cl := [(y, c), (z, d)]) (caps := [(y, j), (z, k)]) hc hi htc hte hclos hkind hcell hnames hx (by simp [hxy, hxz, hyz]) (fun u e h => ?_) (fun u h => ?_) (fun p hp => ?_) hs
  · rw [one] at h
    by_cases e1 : u = y
    · rw [if_pos e1] at h; cases h; rw [e1]; exact hcells
    · rw [if_neg e1] at h
      by_cases e2 : u = z
      · rw [if_pos e2] at h; cases h; rw [e2]; exact hcells2
      · rw [if_neg e2] at h; cases h
  · have hu : u = y ∨ u = z := by
      rcases h with h | h
      · exact hfree _ (relabel_back h (.inl rfl) hcell) rfl
      · exact hfree _ (relabel_back h (.inr rfl) hcell) rfl
    rcases hu with e | e
    · exact ⟨c, by rw [one, if_pos e]⟩
    · exact ⟨d, by rw [one, if_neg (by rw [e]; exact hyz.symm), if_pos e]⟩
  · rcases List.mem_cons.mp hp with rfl | hp
    · exact ⟨hN, .inl hXk, ⟨c, by rw [one, if_pos rfl]⟩, relabel_free hy⟩
    · obtain rfl := List.mem_singleton.mp hp
      exact ⟨hN2, .inl hXk2, ⟨d, by rw [one, if_neg hyz.symm, if_pos rfl]⟩, relabel_free hz⟩
end L2
set_option Elab.async false
set_option linter.all false
set_option maxRecDepth 100000
set_option maxHeartbeats 4000000
namespace L2
open PySem PySem.Spec PyProof.Rows PySem.Builtin.Str PySem.SeqAt
/-- the dict at a: True, False and None by texts -/
def ynO (P : Program) (w : World) (a : Addr) (kvs : List (Str × Option Bool)) : HO := .ext fun h => ∃ vs : List (Str × Value), Paired (fun p q => p.1 = q.1 ∧ RelV (truV p.2) q.2) kvs vs ∧ h.DictOf (PySem.strKind P w) a vs
section
variable {X : Cx}
theorem str_ne {x y : Str} (h : decide (x = y) = false) : ¬ x = y := of_decide_eq_false h
/-- {x: True, y: False, z: None} -/
theorem pe_yn {pos : Pos} {x y z : Str} {j1 j2 j3 i1 i2 i3 : Nat} {p1 p2 p3 q1 q2 q3 : Pos} (hxy : ¬ x = y) (hxz : ¬ x = z) (hyz : ¬ y = z) : PE X (.Dict [some (.Constant (.str x) j1 p1), some (.Constant (.str y) j2 p2), some (.Constant (.str z) j3 p3)] [.Constant (.bool true) i1 q1, .Constant (.bool false) i2 q2, .Constant .none i3 q3] pos)
    (fun _ H Q => ∀ p, H p = none → Q (.ref p) (upd H p (ynO X.prog X.w p [(x, some true), (y, some false), (z, none)]))) := by
  intro pins s σ H Q I q
  have hn := I.hok.fresh (Nat.le_refl s.heap.objs.size)
  refine wpAny_Dict_walk (knd := PySem.strKind X.prog X.w) rfl rfl (by simp) (by show 3 ≤ 15; decide) ?_
  refine pairTrees_cons_walk (Calls.Constant_str (Constant_bool (pairTrees_cons_walk (Calls.Constant_str (Constant_bool (pairTrees_cons_walk (Calls.Constant_str (Constant_none (pairTrees_nil_walk ?_)))))))))
  refine ⟨[(x, .bool true), (y, .bool false), (z, .none)], ⟨beq_self_eq_true x, rfl, beq_self_eq_true y, rfl, beq_self_eq_true z, rfl, True.intro⟩, ?_, fun h' dd hs => ?_⟩
  · exact ⟨_, #[], 0, Heap.get?_push_size _ rfl, ⟨rfl, rfl, rfl⟩, rfl, (by first | (intro e he; simp at he) | exact trivial | (simp [PySem.KeysOf])), (by first | exact .nil | exact trivial | rfl), List.nodup_nil⟩
  · have em : merged [] [(x, Value.bool true), (y, Value.bool false), (z, Value.none)] = [(x, Value.bool true), (y, Value.bool false), (z, Value.none)] := by
      simp [merged, PySem.stored, valueAt, hxy, hxz, hyz, Ne.symm]
    rw [em] at dd
    refine ⟨.ref s.heap.objs.size, _, I.laid (a := s.heap.objs.size) (o := ynO X.prog X.w s.heap.objs.size [(x, some true), (y, some false), (z, none)]) (h' := h') (t' := _) (fun b o e => ?_) (Nat.le_refl _) ?_, rfl, q _ hn⟩
    · have nb : b ≠ s.heap.objs.size := Nat.ne_of_lt (Heap.lt_size e)
      exact (hs.2 b nb).trans (Heap.get?_push_of_some _ e)
    · have he : ∃ o, h'.get? s.heap.objs.size = some o := let ⟨o, _, _, h, _⟩ := dd; ⟨o, h⟩
      refine ⟨⟨[(x, Value.bool true), (y, Value.bool false), (z, Value.none)], .cons ⟨rfl, rfl⟩ (.cons ⟨rfl, rfl⟩ (.cons ⟨rfl, rfl⟩ .nil)), dd⟩, he, fun h1 h2 p1 k => ?_⟩
      obtain ⟨vs, r, o, es, ep, e1, rest⟩ := p1
      exact ⟨vs, r, o, es, ep, k o e1, rest⟩
/-- .. looked up -/
def rIxY (P : Program) (w : World) : R2 := fun x y H Q => ∃ a kvs k t, x = .ref a ∧ y = .str k ∧ H a = some (ynO P w a kvs) ∧ (kvs.find? fun kv => decide (kv.1 = k)) = some (k, t) ∧ Q (truV t) H
theorem yn_val {k : Str} {t : Option Bool} : ∀ {kvs : List (Str × Option Bool)} {vs : List (Str × Value)}, Paired (fun p q => p.1 = q.1 ∧ RelV (truV p.2) q.2) kvs vs → (kvs.find? fun kv => decide (kv.1 = k)) = some (k, t) → ∃ v, valueAt vs k = some v ∧ RelV (truV t) v
  | _, _, .nil, h => by simp at h
  | _, _, .cons (a := p) (b := q) r rest, h => by
    by_cases e : p.1 = k
    · have e2 : q.1 = k := r.1.symm.trans e
      rw [List.find?_cons, decide_eq_true e] at h
      have : p = (k, t) := Option.some.inj h
      refine ⟨q.2, ?_, by rw [this] at r; exact r.2⟩
      unfold valueAt
      rw [List.find?_cons, decide_eq_true e2]; rfl
    · have e2 : ¬ q.1 = k := fun z => e (r.1.trans z)
      rw [List.find?_cons, decide_eq_false e] at h
      obtain ⟨v, h1, h2⟩ := yn_val rest h
      refine ⟨v, ?_, h2⟩
      unfold valueAt at h1 ⊢
      rw [List.find?_cons, decide_eq_false e2]; exact h1
theorem ix_yn : IxR X (rIxY X.prog X.w) := by
  intro value slice pins s σ H x y v u Q I rx ry h hs
  obtain ⟨a, kvs, k, t, rfl, rfl, ha, hf, q⟩ := h
  cases rx
  obtain ⟨tk, rfl⟩ := ry
  have hO := I.hok a _ ha
  have hO2 : ∃ vs : List (Str × Value), Paired (fun (p : Str × Option Bool) (q : Str × Value) => p.1 = q.1 ∧ RelV (truV p.2) q.2) kvs vs ∧ s.heap.DictOf (PySem.strKind X.prog X.w) a vs := hO.1
  obtain ⟨vs, r, dd⟩ := hO2
  obtain ⟨w', hw, rw'⟩ := yn_val r hf
  have ty : s.TypeIs (.ref a) "dict" := dd.typeIs
  exact subscriptTail_builtinR (x := w') ty PySem.F.slot_dict_getitem.lookup (wpAny_getItem_of (knd := PySem.strKind X.prog X.w) (k := k) (beq_self_eq_true k) dd.mapOf hw ⟨rfl, truV t, H, I.tok _, rw', q⟩) hs
/-- a list of texts against a list of one text -/
theorem op_ne_emp1 (hu : X.A.units < cLine) : OpR X (compareOp .NotEq) (fun x y H Q => ∃ a b ws e, x = .ref a ∧ y = .ref b ∧ H a = some (.lst (ws.map V.str)) ∧ H b = some (.lst [.str e]) ∧ Q (.bl (!decide (ws = [e]))) H) := by
  intro pins s σ H x y v u Q I rx ry h
  obtain ⟨a, b, ws, e, rfl, rfl, ha, hb, q⟩ := h
  cases rx; cases ry
  obtain ⟨its, r1, t1, z1⟩ := I.list (SqL.of (K := X.K) ha)
  obtain ⟨jts, r2, t2, z2⟩ := I.list (SqL.of (K := X.K) hb)
  obtain ⟨jv, rfl⟩ : ∃ j, jts = [j] := by
    cases r2 with
    | cons r rr => cases rr; exact ⟨_, rfl⟩
  have rj : RelV (.str e) jv := by cases r2 with | cons r rr => exact r
  obtain ⟨tj, rfl⟩ := rj
  match ws, r1, q with
  | [w], r1, q =>
    obtain ⟨iv, rfl⟩ : ∃ j, its = [j] := by
      cases r1 with
      | cons r rr => cases rr; exact ⟨_, rfl⟩
    have ri : RelV (.str w) iv := by cases r1 with | cons r rr => exact r
    obtain ⟨ti, rfl⟩ := ri
    refine RcNeAt.lists (A := X.A) (e := fun _ => (w == e)) t1.isList t2.isList rfl hu (fun j h1 h2 => ?_) X.prog X.w X.xe _ ?_
    · have hj : j = 0 := by simp at h1; omega
      subst hj
      exact EqAt.str_str w ti e tj
    · refine ⟨.bl _, H, I, rfl, ?_⟩
      have e1 : (!(List.range ([Value.str w ti].toArray).size).all fun _ => (w == e)) = !decide ([w] = [e]) := by
        show (!((w == e) && true)) = _
        rw [Bool.and_true]
        congr 1
        rw [Bool.eq_iff_iff, beq_iff_eq, decide_eq_true_eq]
        constructor
        · rintro rfl; rfl
        · intro z; exact List.head_eq_of_cons_eq z
      rw [e1]
      exact q
  | [], r1, q =>
    cases r1
    exact RcNeAt.lists_lengths (A := X.A) t1.isList t2.isList (by simp) hu X.prog X.w X.xe _ ⟨.bl true, H, I, rfl, q⟩
  | w0 :: w1 :: r, r1, q =>
    have hl := r1.length
    have qe : (!decide (w0 :: w1 :: r = [e])) = true := by rw [decide_eq_false (by simp)]; rfl
    rw [qe] at q
    exact RcNeAt.lists_lengths (A := X.A) t1.isList t2.isList (by simp only [List.map_cons, List.length_cons] at hl; simp; omega) hu X.prog X.w X.xe _ ⟨.bl true, H, I, rfl, q⟩
end
end L2
set_option Elab.async false
set_option linter.all false
set_option maxRecDepth 100000
namespace L2
open PySem PySem.Spec PyProof.Rows

theorem ObjOk.some_ {P : Program} {w : World} {H : Hp} {h : Heap} {a : Addr} {o : HO} (x : ObjOk P w H h a o) : ∃ ob, h.get? a = some ob := by
  cases o with
  | lst xs => obtain ⟨_, _, _, _, e⟩ := x; exact ⟨_, e⟩
  | tup xs => obtain ⟨_, _, _, ob, e, _⟩ := x; exact ⟨ob, e⟩
  | dK kvs => obtain ⟨_, _, _, _, o, _, _, e, _⟩ := x; exact ⟨_, e⟩
  | dT kvs => obtain ⟨_, _, _, _, o, _, _, e, _⟩ := x; exact ⟨_, e⟩
  | set S n => obtain ⟨o, _, _, _, e, _⟩ := x; exact ⟨_, e⟩
  | ins C dx fs => obtain ⟨_, _, _, e, _⟩ := x; exact ⟨_, e⟩
  | own y => exact x
  | xd fs => obtain ⟨_, ⟨_, _, _, e, _⟩, _⟩ := x; exact ⟨_, e⟩
  | rng lo hi => obtain ⟨_, _, _, e⟩ := x; exact ⟨_, e⟩
  | frz ob u => obtain ⟨e, _⟩ := x; exact ⟨_, e⟩
  | tbl ps => exact ⟨_, (show h.get? a = some _ from x)⟩
  | met f y => exact ⟨_, (show h.get? a = some _ from x)⟩
  | ext φ => obtain ⟨_, e, _⟩ := x; exact e
theorem HOk.nil_ {P : Program} {w : World} {H : Hp} {h : Heap} {a : Addr} (x : HOk P w H h) (e : h.get? a = none) : H a = none := by
  cases q : H a with
  | none => rfl
  | some u =>
    obtain ⟨ob, r⟩ := (x a u q).some_
    rw [e] at r
    cases r

/-- an exception in flight: its object and its last entry are untracked, and new as N tells -/
structure Fl (N : Addr → Prop) (h : Heap) (H : Hp) (a : Addr) (cls : Value) : Prop where
  ex : ∃ oe vs T oT ts a0, h.get? a = some oe ∧ oe.cls = cls ∧ oe.data = .fields vs ∧ vs[0]? = some a0 ∧ vs[1]? = some (.ref T) ∧ T ≠ a ∧ h.get? T = some oT ∧ oT.data = .fields ts ∧ ts[3]? = some .none ∧ H T = none ∧ N T
  ha : H a = none
  new : N a
theorem Fl.mono {N N' : Addr → Prop} {h : Heap} {H : Hp} {a : Addr} {cls : Value} (x : Fl N h H a cls) (k : ∀ b, N b → N' b) : Fl N' h H a cls := by
  obtain ⟨⟨oe, vs, T, oT, ts, a0, y1, y2, y3, y4, y5, y6, y7, y8, y9, y10, y11⟩, ha, n0⟩ := x
  exact ⟨⟨oe, vs, T, oT, ts, a0, y1, y2, y3, y4, y5, y6, y7, y8, y9, y10, k _ y11⟩, ha, k _ n0⟩

theorem funFrames_under {base B h : Heap} : ∀ {l : List Env}, h.FunFrames base l → (∀ b ∈ frs l, B.get? b = none) → h.FunFrames B l
  | [], _, _ => trivial
  | env :: r, ⟨hk, ⟨L, o, hf, _, ho, hd⟩, hr⟩, hn =>
    ⟨hk, ⟨L, o, hf, hn L (by unfold frs; rw [List.filterMap_cons, hf]; exact List.mem_cons_self), ho, hd⟩,
      funFrames_under hr fun b hb => hn b (by unfold frs; rw [List.filterMap_cons, hf]; exact List.mem_cons_of_mem _ hb)⟩

section
variable {P : Program} {w : World} {M : Model} {A : Around} {E : Value → Shared → Prop} {s : Shared} {base : Heap} {N : Addr → Prop} {H : Hp} {a L : Addr} {cls : Value} {env : Env} {outer : List Env} {Q : Unit → Shared → Prop}

theorem Fl.step {h h' B : Heap} {l l' : List Env} {a0 : Value} {T : Addr} (hB : B = PySem.W.hideAll h (a :: T :: frs l)) (hok : HOk P w H h) (hfun : h.FunFrames base l) (hff : ∀ b ∈ frs l, H b = none) (hT : H T = none) (ha : H a = none) (n0 : N a) (nT : N T)
    (fresh : ∀ b, h.get? b = none → N b) (x : Heap.FlyingW B l' a cls a0 h') (up : h.UpToSlots h') : Fl N h' H a cls ∧ (∀ b o, h.get? b = some o → b ≠ a → b ≠ T → b ∉ frs l → h'.get? b = some o) ∧
      (∀ b o, h.get? b = some o → b ∈ frs l → ∃ sl, h'.get? b = some { o with slots := sl }) := by
  subst hB
  obtain ⟨x1, x2, x3, oe, vs, T', oT, ts, y1, y2, y3, y4, y5, y6, y7, y8, y9⟩ := x
  have inl : ∀ o, h.get? T' = some o → T' = T ∨ T' ∈ frs l := fun o q => by
    by_cases hm : T' ∈ a :: T :: frs l
    · rcases List.mem_cons.mp hm with z | hm
      · exact absurd z y6
      · exact List.mem_cons.mp hm
    · rw [PySem.W.hideAll_get _ q hm] at y5
      cases y5
  have nfr : T' ∈ frs l → False := fun hm => by
    obtain ⟨_, o, ho, hd⟩ := hfun.mem hm
    obtain ⟨sl, q⟩ := up T' o ho hd
    rw [y7] at q
    cases q
    exact hd _ y8
  refine ⟨⟨⟨oe, vs, T', oT, ts, a0, y1, y2.1, y3, y2.2, y4, y6, y7, y8, y9, ?_, ?_⟩, ha, n0⟩, fun b o q n1 n2 n3 => ?_, fun b o q hb => ?_⟩
  · cases q : h.get? T' with
    | none => exact hok.nil_ q
    | some o =>
      rcases inl o q with z | z
      · rw [z]; exact hT
      · exact hff _ z
  · cases q : h.get? T' with
    | none => exact fresh _ q
    | some o =>
      rcases inl o q with z | z
      · rw [z]; exact nT
      · exact absurd z nfr
  · refine x1 b o (PySem.W.hideAll_get _ q fun hm => ?_)
    rcases List.mem_cons.mp hm with z | hm
    · exact n1 z
    · rcases List.mem_cons.mp hm with z | hm
      · exact n2 z
      · exact n3 hm
  · obtain ⟨_, o', ho', hd⟩ := hfun.mem hb
    rw [q] at ho'
    cases ho'
    exact up b o q hd

/-- the exception in flight, over a base that hides it and the frames -/
theorem Fl.flying {h : Heap} {l : List Env} (x : Fl N h H a cls) (hfun : h.FunFrames base l) : ∃ T a0, H T = none ∧ N T ∧ (∃ o vs, h.get? a = some o ∧ o.data = .fields vs) ∧ (∃ o vs, h.get? T = some o ∧ o.data = .fields vs) ∧ Heap.FlyingW (PySem.W.hideAll h (a :: T :: frs l)) l a cls a0 h := by
  obtain ⟨⟨oe, vs, T, oT, ts, a0, y1, y2, y3, y4, y5, y6, y7, y8, y9, y10, y11⟩, ha, n0⟩ := x
  refine ⟨T, a0, y10, y11, ⟨oe, vs, y1, y3⟩, ⟨oT, ts, y7, y8⟩, fun b o q => PySem.W.of_hideAll _ q, PySem.W.hideAll_none _ (.head _), funFrames_under hfun fun b hb => PySem.W.hideAll_none _ (.tail _ (.tail _ hb)), oe, vs, T, oT, ts, y1, ⟨y2, y4⟩, y3, y5, PySem.W.hideAll_none _ (.tail _ (.head _)), y6, y7, y8, y9⟩

/-- it leaves the frame -/
theorem Fl.leaves (x : Fl N s.heap H a cls) (hfr : A.frames = some (env :: outer)) (hf : env.frame = some L) (hok : HOk P w H s.heap) (hfun : s.heap.FunFrames base (env :: outer)) (hff : ∀ b ∈ frs (env :: outer), H b = none)
    (fresh : ∀ b, s.heap.get? b = none → N b)
    (k : ∀ h', Fl N h' H a cls → (∀ b o, s.heap.get? b = some o → (¬ N b ∨ H b ≠ none) → b ∉ frs (env :: outer) → h'.get? b = some o) →
      (∀ b o, s.heap.get? b = some o → b ∈ frs (env :: outer) → ∃ sl, h'.get? b = some { o with slots := sl }) → Q () { s with heap := h' }) : wpAny M A (leaving env (.ref a)) Q E s := by
  obtain ⟨T, a0, hT, nT, _, _, fl⟩ := x.flying hfun
  refine wpAny_leaves_onW hfr hf fl fun h' fl' up => ?_
  obtain ⟨r1, r2, r3⟩ := Fl.step rfl hok hfun hff hT x.ha x.new nT fresh fl' up
  refine k h' r1 (fun b o q hb n => r2 b o q (fun z => ?_) (fun z => ?_) n) r3
  · subst z
    rcases hb with z | z
    · exact z x.new
    · exact z x.ha
  · subst z
    rcases hb with z | z
    · exact z nT
    · exact z hT

/-- a new one leaves the frame in which it was made -/
theorem made_leaves {h : Heap} {args : List Value} (x : Heap.MadeExcOf h s.heap a cls args) (hfr : A.frames = some (env :: outer)) (hf : env.frame = some L) (hok : HOk P w H h) (hfun : h.FunFrames base (env :: outer)) (hff : ∀ b ∈ frs (env :: outer), H b = none)
    (fresh : ∀ b, h.get? b = none → N b)
    (k : ∀ h', Fl N h' H a cls → (∀ b o, h.get? b = some o → b ∉ frs (env :: outer) → h'.get? b = some o) →
      (∀ b o, h.get? b = some o → b ∈ frs (env :: outer) → ∃ sl, h'.get? b = some { o with slots := sl }) → Q () { s with heap := h' }) : wpAny M A (leaving env (.ref a)) Q E s := by
  refine wpAny_leaves_madeW (base := PySem.W.hideAll h (frs (env :: outer))) hfr hf (fun b o q => PySem.W.of_hideAll _ q) (funFrames_under hfun fun b hb => PySem.W.hideAll_none _ hb) x fun h' t fl htup hbt up => ?_
  obtain ⟨x1, x2, x3, oe, vs, T', oT, ts, y1, y2, y3, y4, y5, y6, y7, y8, y9⟩ := fl
  have nT : h.get? T' = none := by
    cases q : h.get? T' with
    | none => rfl
    | some o =>
      by_cases hm : T' ∈ frs (env :: outer)
      · obtain ⟨_, o, ho, hd⟩ := hfun.mem hm
        obtain ⟨sl, q⟩ := up T' o (x.keeps _ _ ho) hd
        rw [y7] at q
        cases q
        exact absurd y8 (hd _)
      · rw [PySem.W.hideAll_get _ q hm] at y5
        cases y5
  refine k h' ⟨⟨oe, vs, T', oT, ts, _, y1, y2.1, y3, y2.2, y4, y6, y7, y8, y9, hok.nil_ nT, fresh _ nT⟩, hok.nil_ x.new, fresh _ x.new⟩ (fun b o q n => x1 b o (PySem.W.hideAll_get _ q n)) fun b o q hb => ?_
  obtain ⟨_, o', ho', hd⟩ := hfun.mem hb
  rw [q] at ho'
  cases ho'
  exact up b o (x.keeps _ _ q) hd
end

/-- how an exception lies behind a call: in flight -/
def CXF (P : Program) (w : World) : CXT := fun outer H s E e s' =>
  ∃ a cls H', e = .ref a ∧ s'.os = s.os ∧ AllBare s'.gens ∧ Un (frs outer) [] H H' s.heap s'.heap ∧ HOk P w H' s'.heap ∧ Fl (fun b => s.heap.get? b = none) s'.heap H' a cls ∧ E cls none H'

/-- new to a body: since its entry, and apart from what is pinned -/
def NewIn (X : Cx) (pins : List (Addr × Obj)) (b : Addr) : Prop := X.s₀.heap.get? b = none ∧ ∀ p ∈ X.pn ++ pins, p.1 ≠ b
/-- an exception in flight is what this body wants -/
def Throws (X : Cx) (E : XK) : Prop := ∀ (pins : List (Addr × Obj)) (σ : St) (H : Hp) (s : Shared) (a : Addr) (cls : Value), Inv X pins σ H s → Fl (NewIn X pins) s.heap H a cls → E cls none H → X.xe (.ref a) s
/-- a new exception is what this body wants -/
def ThrowsNew (X : Cx) (E : XK) : Prop := ∀ (pins : List (Addr × Obj)) (σ : St) (H : Hp) (s : Shared) (h' : Heap) (a : Addr) (cls : Value) (args : List Value), Inv X pins σ H s → Heap.MadeExcOf s.heap h' a cls args → E cls none H → X.xe (.ref a) { s with heap := h' }

theorem gone_back {fs ex : List Addr} {H H' : Hp} {h h' : Heap} {b : Addr} (u : Un fs ex H H' h h') (hx : b ∉ ex) (q : h'.get? b = none) : h.get? b = none := by
  cases z : h.get? b with
  | none => rfl
  | some o =>
    obtain ⟨o', r⟩ := u.there b o z hx
    rw [q] at r
    cases r

theorem Inv.newIn {X : Cx} {pins : List (Addr × Obj)} {σ : St} {H : Hp} {s : Shared} (I : Inv X pins σ H s) (hex : X.ex = []) {b : Addr} (q : s.heap.get? b = none) : NewIn X pins b :=
  ⟨gone_back I.base (by rw [hex]; simp) q, fun p hp z => by
    have := (I.pin p hp).1
    rw [z, q] at this
    cases this⟩
theorem Throws.passes {X : Cx} {E : XK} (t : Throws X E) (hex : X.ex = []) : Passes (CXF X.prog X.w) X E := fun pins σ H s e s' I hc => by
  obtain ⟨a, cls, H', rfl, os, bare, un, hok, fl, q⟩ := hc
  exact t pins σ H' s' a cls (I.call' (ch := []) os un hok bare fun b z => absurd z (by simp)) (fl.mono fun b z => I.newIn hex z) q

section
variable {P : Program} {w : World} {K : PySem.W.Frag} {mg : Str → Option Value} {base : Heap} {N : List Str} {qual : Str} {scope : Scope} {f : Addr} {cd : Value} {A : Around} {outer : List Env} {s : Shared} {H : Hp} {E : XK}

theorem throws_def : Throws (cxOf (CXF P w) P w K mg base N qual scope f cd A outer s H E) E := fun pins σ H1 s1 a cls I fl q => by
  show wpAny _ _ (leaving _ _) _ _ _
  have hex : (cxOf (CXF P w) P w K mg base N qual scope f cd A outer s H E).ex = [] := rfl
  refine Fl.leaves (P := P) (w := w) (N := fun b => s.heap.get? b = none) (L := s.heap.objs.size) (fl.mono fun b z => z.1) I.ok.frames rfl I.hok I.stack I.stkFree (fun b z => gone_back I.base (by rw [hex]; simp) z) fun h' fl' k1 k2 => ?_
  have nl : ∀ b o, s.heap.get? b = some o → b ≠ s.heap.objs.size := fun b o z => Nat.ne_of_lt (Heap.lt_size z)
  have cons : ∀ b, b ∈ frs (envOfC qual scope s.heap.objs.size f cd :: outer) ↔ b = s.heap.objs.size ∨ b ∈ frs outer := fun b => by
    show b ∈ List.filterMap _ _ ↔ _
    rw [List.filterMap_cons]
    exact List.mem_cons
  refine ⟨a, cls, H1, rfl, I.os, I.bare, ⟨fun b o z n hb hx => ?_, fun b o z n hb hx => ?_, fun b o z n hx => I.base.free b o z n (by rw [hex]; simp), fun b o z hx => ?_, I.base.tups, I.base.frzs, I.base.tbls⟩, fun b o z => ?_, fl', q⟩
  · refine k1 b o (I.base.keep b o z n hb (by rw [hex]; simp)) (.inl (by rw [z]; simp)) fun hm => ?_
    rcases (cons b).mp hm with e | e
    · exact nl b o z e
    · exact hb e
  · obtain ⟨sl, e⟩ := I.base.slot b o z n hb (by rw [hex]; simp)
    obtain ⟨sl', e'⟩ := k2 b _ e ((cons b).mpr (.inr hb))
    exact ⟨sl', e'⟩
  · obtain ⟨o', e⟩ := I.base.there b o z (by rw [hex]; simp)
    by_cases hm : b ∈ frs (envOfC qual scope s.heap.objs.size f cd :: outer)
    · obtain ⟨sl, e'⟩ := k2 b _ e hm
      exact ⟨_, e'⟩
    · exact ⟨_, k1 b _ e (.inl (by rw [z]; simp)) hm⟩
  · refine (I.hok b o z).stay (fun c v hc r => k1 c v r (.inr ?_) fun hm => ?_) (fun _ r => r) fun _ _ r => r
    · rcases hc with rfl | hc
      · rw [z]; simp
      · rw [hc]; simp
    · have := I.stkFree c hm
      rcases hc with rfl | hc
      · rw [z] at this; cases this
      · rw [hc] at this; cases this

theorem throwsNew_def : ThrowsNew (cxOf (CXF P w) P w K mg base N qual scope f cd A outer s H E) E := fun pins σ H1 s1 h2 a cls args I mk q => by
  show wpAny _ _ (leaving _ _) _ _ _
  have hex : (cxOf (CXF P w) P w K mg base N qual scope f cd A outer s H E).ex = [] := rfl
  refine made_leaves (P := P) (w := w) (H := H1) (N := fun b => s.heap.get? b = none) (L := s.heap.objs.size) (h := s1.heap) (s := { s1 with heap := h2 }) mk I.ok.frames rfl I.hok I.stack I.stkFree (fun b z => gone_back I.base (by rw [hex]; simp) z) fun h' fl' k1 k2 => ?_
  have nl : ∀ b o, s.heap.get? b = some o → b ≠ s.heap.objs.size := fun b o z => Nat.ne_of_lt (Heap.lt_size z)
  have cons : ∀ b, b ∈ frs (envOfC qual scope s.heap.objs.size f cd :: outer) ↔ b = s.heap.objs.size ∨ b ∈ frs outer := fun b => by
    show b ∈ List.filterMap _ _ ↔ _
    rw [List.filterMap_cons]
    exact List.mem_cons
  refine ⟨a, cls, H1, rfl, I.os, I.bare, ⟨fun b o z n hb hx => ?_, fun b o z n hb hx => ?_, fun b o z n hx => I.base.free b o z n (by rw [hex]; simp), fun b o z hx => ?_, I.base.tups, I.base.frzs, I.base.tbls⟩, fun b o z => ?_, fl', q⟩
  · refine k1 b o (I.base.keep b o z n hb (by rw [hex]; simp)) fun hm => ?_
    rcases (cons b).mp hm with e | e
    · exact nl b o z e
    · exact hb e
  · obtain ⟨sl, e⟩ := I.base.slot b o z n hb (by rw [hex]; simp)
    obtain ⟨sl', e'⟩ := k2 b _ e ((cons b).mpr (.inr hb))
    exact ⟨sl', e'⟩
  · obtain ⟨o', e⟩ := I.base.there b o z (by rw [hex]; simp)
    by_cases hm : b ∈ frs (envOfC qual scope s.heap.objs.size f cd :: outer)
    · obtain ⟨sl, e'⟩ := k2 b _ e hm
      exact ⟨_, e'⟩
    · exact ⟨_, k1 b _ e hm⟩
  · refine (I.hok b o z).stay (fun c v hc r => k1 c v r fun hm => ?_) (fun _ r => r) fun _ _ r => r
    have := I.stkFree c hm
    rcases hc with rfl | hc
    · rw [z] at this; cases this
    · rw [hc] at this; cases this
end

/-- the class at C lies in the heap as a class of exceptions without an own __init__ -/
def ExcAt (h : Heap) (C : Addr) (bmB : List Value) (newId : String) (bm : List Value) : Prop :=
  ∃ N nm qn bs hd sn sub ab col dd k0 k1 k2 k3 k5 mN, h.get? C = some (excClassObj nm qn C N bs bm hd sn sub ab col dd k0 k1 k2 k3 k5 newId) ∧ h.Ns N mN ∧ mN "__init__" = none ∧ OwnTail h bmB bm
theorem exc_at {K : PySem.W.Frag} {h : Heap} {C : Addr} {bmB : List Value} {newId : String} (inH : K.In h) (ok : PySem.W.excIn K C bmB newId = true) : ∃ bm, ExcAt h C bmB newId bm := by
  unfold PySem.W.excIn at ok
  split at ok
  next dct data slots found =>
    split at ok
    next C2 tail j0 j1 j2 j3 made j5 isMro isSl =>
      have parts := ok
      simp only [Bool.and_eq_true, beq_iff_eq, Bool.not_eq_true'] at parts
      obtain ⟨⟨⟨⟨⟨eC, eN⟩, nodel⟩, onTail⟩, goodNs⟩, noInit⟩ := parts
      subst eC eN
      cases data with
      | mk dn db dm dns dq dh ds dsub dab dcol ddel =>
        have eM : dm = Value.ref C2 :: tail := isMro
        have eD : ddel = false := nodel
        subst eM eD
        have eS : slots = #[j0, j1, j2, j3, some (.builtin made), j5] := by
          cases slots with
          | mk l => exact congrArg Array.mk isSl
        subst eS
        exact ⟨tail, dns, dn, dq, db, dh, ds, dsub, dab, dcol, dct, j0, j1, j2, j3, j5, _, inH _ _ found, .of_isNs (PySem.W.isNs_of_in inH goodNs), PySem.W.nsMap_none_of_in inH goodNs noInit, PySem.W.tail_of_in inH onTail⟩
    next => cases ok
  next => cases ok

/-- raise C(..) -/
def tRaise (C : Addr) (E : XK) (t : TA) : TS := fun _ σ H => t σ H fun vs H1 => vs.length ≤ 1000 ∧ E (.ref C) none H1
section
variable {X : Cx} {x : Str} {C : Addr} {B newId initId : String} {bmB : List Value} {np cpos pos : Pos} {e : Expr} {es : List Expr} {t : TA} {E : XK}
theorem ps_raise (ok : PySem.W.excIn X.K C bmB newId = true) (FB : ExcBaseFacts B newId initId bmB) (hg : Gl X x) (hm : X.mg x = some (.ref C)) (hc : X.calm = true) (th : ThrowsNew X E) (ha : PA X (e :: es) t)
    (hdb : (x == ("__debug__" : Str)) = false := by decide) (he : starEach (e :: es) X.env = (false, eval e X.env) :: starEach es X.env := by rfl) (hpl : (backTo cpos (starEach es X.env)).any (·.1) = false := by rfl) :
    PS X (.Raise (some (.Call (.Name x np) (e :: es) [] cpos)) none pos) (tRaise C E t) := by
  intro pins s σ H D I h
  obtain ⟨bm, N, nm, qn, bs, hd, sn, sub, ab, col, dd, k0, k1, k2, k3, k5, mN, hC, hN, hni, T⟩ := exc_at I.mod.kin ok
  refine wpAny_Raise_call_subT (C := C) (nm := nm) (q := qn) (N := N) (bs := bs) (bm := bm) (hdct := hd) (sn := sn) (sub := sub) (ab := ab) (col := col) (dd := dd) (k0 := k0) (k1 := k1) (k2 := k2) (k3 := k3) (k5 := k5)
    FB (mN := mN) (T.hasType FB.hasBase) (I.ok.hd hc) ?_ hni (ld_glob I hg hm ⟨rfl, ?_⟩ hdb)
  · rw [he]
    show (false || (backTo cpos (starEach es X.env)).any (·.1)) = false
    rw [hpl]
    rfl
  · have ha' := ha cpos pins s σ H _ I h
    rw [he] at ha' ⊢
    refine Calls.evalArgs_plain (thn ha' fun us s1 ⟨vs, H1, I1, r, q⟩ => ⟨rfl, ?_, I1.bk _ _ hC, hN.keeps I1.bk, T.keeps I1.bk, fun h' a mk => th pins σ H1 s1 h' a _ us I1 mk q.2⟩)
    show us.length ≤ sizeLine
    rw [← r.length]
    exact Nat.le_of_lt (small1000 q.1)
end
end L2
set_option Elab.async false
set_option linter.all false
set_option maxRecDepth 100000
namespace L2
open PySem PySem.Spec PyProof.Rows

section
variable {X : Cx} {pins : List (Addr × Obj)} {σ : St} {H : Hp} {s : Shared} {h' : Heap} {a T : Addr} {u : HO}
/-- the flight has turned at this frame: the exception and its entries have changed, the frames up to slots -/
theorem Inv.flew (I : Inv X pins σ H s) (na : NewIn X pins a) (nT : NewIn X pins T) (da : ∃ o vs, s.heap.get? a = some o ∧ o.data = .fields vs) (dT : ∃ o vs, s.heap.get? T = some o ∧ o.data = .fields vs) (ha : H a = none) (hT : H T = none)
    (keep : ∀ b o, s.heap.get? b = some o → b ≠ a → b ≠ T → b ∉ frs X.stack → h'.get? b = some o)
    (slot : ∀ b o, s.heap.get? b = some o → b ∈ frs X.stack → ∃ sl, h'.get? b = some { o with slots := sl }) : Inv X pins σ H { s with heap := h' } := by
  have any : ∀ b o, s.heap.get? b = some o → b ≠ a → b ≠ T → ∃ sl, h'.get? b = some { o with slots := sl } := fun b o q n1 n2 => by
    by_cases hm : b ∈ frs X.stack
    · exact slot b o q hm
    · exact ⟨o.slots, keep b o q n1 n2 hm⟩
  have old : ∀ b o, X.s₀.heap.get? b = some o → b ≠ a ∧ b ≠ T := fun b o q => ⟨fun z => (by rw [z, na.1] at q; cases q), fun z => (by rw [z, nT.1] at q; cases q)⟩
  have nofr : ∀ b o, X.s₀.heap.get? b = some o → b ∉ X.fs → b ∉ frs X.stack := fun b o q n z => by
    rcases List.mem_cons.mp (I.stkSub b z) with e | e
    · exact absurd (Nat.lt_of_lt_of_le (Heap.lt_size q) I.ok.above) (by rw [e]; exact Nat.lt_irrefl _)
    · exact n e
  have other : ∀ b o, s.heap.get? b = some o → (∀ vs, o.data ≠ .fields vs) → b ≠ a ∧ b ≠ T := fun b o q d => by
    obtain ⟨oa, va, qa, ea⟩ := da
    obtain ⟨oT, vT, qT, eT⟩ := dT
    refine ⟨fun z => ?_, fun z => ?_⟩
    · rw [z, qa] at q; cases q; exact d _ ea
    · rw [z, qT] at q; cases q; exact d _ eT
  have cellK : ∀ x c, X.env.cells.lookup x = some c → ∀ v, s.heap.IsCell c v → h'.IsCell c v := fun x c _ v ⟨o, ho, hd⟩ => by
    obtain ⟨n1, n2⟩ := other c o ho fun vs q => by rw [hd] at q; cases q
    obtain ⟨sl, q⟩ := any c o ho n1 n2
    exact ⟨_, q, hd⟩
  refine ⟨I.ok, I.os, I.bare, ⟨fun b o e n hb hx => ?_, fun b o e n hb hx => ?_, I.base.free, fun b o e hx => ?_, I.base.tups, I.base.frzs, I.base.tbls⟩, ?_, fun x c e => ?_, I.free, I.freeC, fun p hp => ?_, fun b o e => ?_, I.len⟩
  · exact keep b o (I.base.keep b o e n hb hx) (old b o e).1 (old b o e).2 (nofr b o e hb)
  · obtain ⟨sl, q⟩ := I.base.slot b o e n hb hx
    obtain ⟨sl', q'⟩ := any b _ q (old b o e).1 (old b o e).2
    exact ⟨sl', q'⟩
  · obtain ⟨o', q⟩ := I.base.there b o e hx
    obtain ⟨sl, q'⟩ := any b o' q (old b o e).1 (old b o e).2
    exact ⟨_, q'⟩
  · obtain ⟨m, ⟨o, es, ep, ho, hd, hr⟩, hl⟩ := I.loc
    obtain ⟨n1, n2⟩ := other _ o ho fun vs q => by rw [hd] at q; cases q
    obtain ⟨sl, q⟩ := any _ o ho n1 n2
    refine ⟨m, ⟨_, es, ep, q, hd, hr⟩, fun i x v e1 e2 e3 => ?_⟩
    obtain ⟨w, r, l⟩ := hl i x v e1 e2 e3
    refine ⟨w, r, ?_⟩
    rcases l with l | ⟨k, c, e, z⟩
    · exact .inl l
    · exact .inr ⟨k, c, e, cellK x c e _ z⟩
  · obtain ⟨v, z⟩ := I.cell x c e
    exact ⟨v, cellK x c e v z⟩
  · obtain ⟨e, n, ne, nf, d⟩ := I.pin p hp
    refine ⟨keep p.1 p.2 e (na.2 p hp) (nT.2 p hp) fun z => ?_, n, ne, nf, d⟩
    rcases List.mem_cons.mp (I.stkSub _ z) with q | q
    · exact ne q
    · exact nf q
  · refine (I.hok b o e).stay (fun c v hc r => keep c v r (fun z => ?_) (fun z => ?_) fun z => ?_) (fun _ r => r) fun _ _ r => r
    · subst z
      rcases hc with rfl | hc
      · rw [ha] at e; cases e
      · rw [ha] at hc; cases hc
    · subst z
      rcases hc with rfl | hc
      · rw [hT] at e; cases e
      · rw [hT] at hc; cases hc
    · have := I.stkFree c z
      rcases hc with rfl | hc
      · rw [this] at e; cases e
      · rw [this] at hc; cases hc

/-- an untracked new record is tracked from here -/
theorem Inv.track (I : Inv X pins σ H s) (na : NewIn X pins a) (da : ∃ o vs, s.heap.get? a = some o ∧ o.data = .fields vs) (ha : H a = none) (hu : ObjOk X.prog X.w (upd H a u) s.heap a u) : Inv X pins σ (upd H a u) s := by
  have other : ∀ b o, s.heap.get? b = some o → (∀ vs, o.data ≠ .fields vs) → b ≠ a := fun b o q d z => by
    obtain ⟨oa, va, qa, ea⟩ := da
    rw [z, qa] at q; cases q; exact d _ ea
  have up : ∀ b o, H b = some o → upd H a u b = some o := fun b o q => by
    rw [upd_ne fun z => by rw [z, ha] at q; cases q]
    exact q
  refine ⟨I.ok, I.os, I.bare, ⟨I.base.keep, I.base.slot, fun b o e n hx => ?_, I.base.there, fun b xs e => up _ _ (I.base.tups b xs e), fun b o v e => up _ _ (I.base.frzs b o v e), fun b ps e => ?_⟩, I.loc, I.cell, ?_, fun x c e => ?_, fun p hp => ?_, fun b o e => ?_, I.len⟩
  · rw [upd_ne fun z => by rw [z, na.1] at e; cases e]
    exact I.base.free b o e n hx
  · obtain ⟨more, q⟩ := I.base.tbls b ps e
    exact ⟨more, up _ _ q⟩
  · obtain ⟨m, ⟨o, es, ep, ho, hd, hr⟩, hl⟩ := I.loc
    rw [upd_ne (other _ o ho fun vs q => by rw [hd] at q; cases q)]
    exact I.free
  · obtain ⟨v, o, ho, hd⟩ := I.cell x c e
    rw [upd_ne (other _ o ho fun vs q => by rw [hd] at q; cases q)]
    exact I.freeC x c e
  · obtain ⟨e, n, ne, nf, d⟩ := I.pin p hp
    refine ⟨e, ?_, ne, nf, d⟩
    rw [upd_ne (na.2 p hp)]
    exact n
  · by_cases hb : b = a
    · subst hb
      rw [upd_same] at e
      cases e
      exact hu
    · rw [upd_ne hb] at e
      exact (I.hok b o e).stay (fun _ _ _ r => r) (fun c r => up _ _ r) fun c xs r => up _ _ r

/-- within the except suite -/
def Cx.held (X : Cx) (a : Addr) : Cx := { X with A := X.A.mark (some (.ref a)), calm := false, xe := fun _ _ => False }
theorem Inv.hold (I : Inv X pins σ H s) (a : Addr) : Inv (X.held a) pins σ H s :=
  ⟨⟨I.ok.mod, I.ok.kind, I.ok.glob, I.ok.blt, I.ok.above, I.ok.inj, I.ok.has, I.ok.cab, fun z => (Bool.noConfusion z), I.ok.frames, I.ok.stk, I.ok.exf, I.ok.bs, I.ok.bsz, I.ok.noex, I.ok.exfs, I.ok.funs, I.ok.frf⟩,
    I.os, I.bare, I.base, I.loc, I.cell, I.free, I.freeC, I.pin, I.hok, I.len⟩
theorem Inv.unhold (ok : X.Ok) (I : Inv (X.held a) pins σ H s) : Inv X pins σ H s := ⟨ok, I.os, I.bare, I.base, I.loc, I.cell, I.free, I.freeC, I.pin, I.hok, I.len⟩

/-- within a try: what an exception of the block must bring -/
def Cx.tried (X : Cx) (pins : List (Addr × Obj)) (Eb : XK) : Cx :=
  { X with pn := X.pn ++ pins, xe := fun e s' => ∃ b cls σ' H', e = .ref b ∧ Inv X pins σ' H' s' ∧ Fl (NewIn X pins) s'.heap H' b cls ∧ Eb cls none H' }
theorem Inv.try_ {Eb : XK} (I : Inv X pins σ H s) : Inv (X.tried pins Eb) [] σ H s :=
  ⟨⟨I.ok.mod, I.ok.kind, I.ok.glob, I.ok.blt, I.ok.above, I.ok.inj, I.ok.has, I.ok.cab, I.ok.hd, I.ok.frames, I.ok.stk, I.ok.exf, I.ok.bs, I.ok.bsz, I.ok.noex, I.ok.exfs, I.ok.funs, I.ok.frf⟩,
    I.os, I.bare, I.base, I.loc, I.cell, I.free, I.freeC, fun p hp => I.pin p ((List.append_nil (X.pn ++ pins)) ▸ hp), I.hok, I.len⟩
theorem Inv.untry {Eb : XK} {pins' : List (Addr × Obj)} (ok : X.Ok) (I : Inv (X.tried pins Eb) pins' σ H s) : Inv X pins σ H s :=
  ⟨ok, I.os, I.bare, I.base, I.loc, I.cell, I.free, I.freeC, fun p hp => I.pin p (List.mem_append_left _ hp), I.hok, I.len⟩
theorem Inv.okOf {Eb : XK} {pins' : List (Addr × Obj)} (I : Inv (X.tried pins Eb) pins' σ H s) : X.Ok :=
  ⟨I.ok.mod, I.ok.kind, I.ok.glob, I.ok.blt, I.ok.above, I.ok.inj, I.ok.has, I.ok.cab, I.ok.hd, I.ok.frames, I.ok.stk, I.ok.exf, I.ok.bs, I.ok.bsz, I.ok.noex, I.ok.exfs, I.ok.funs, I.ok.frf⟩
theorem throws_try {Eb : XK} : Throws (X.tried pins Eb) Eb := fun pins' σ H s b cls I fl q =>
  ⟨b, cls, σ, H, rfl, I.untry I.okOf, fl.mono fun c z => ⟨z.1, fun p hp => z.2 p (List.mem_append_left _ hp)⟩, q⟩
end

/-- what is told of a caught exception: its class -/
def excO (a C : Addr) : HO := .ext fun h => ∃ o, h.get? a = some o ∧ o.cls = .ref C

/-- the clause's class takes the exception's -/
theorem matches_in {K : PySem.W.Frag} {M : Model} {A : Around} {E : Value → Shared → Prop} {s : Shared} {e C P : Addr} {oe : Obj} {bmB : List Value} {newId : String} {Q : Bool → Shared → Prop} (KX : K.In s.heap)
    (he : s.heap.get? e = some oe) (hcls : oe.cls = .ref C) (hP : PySem.W.excIn K P bmB newId = true) (hb : bmB.contains (.type "BaseException") = true) (sub : PySem.W.subIn K (.ref C) (.ref P) = some true) (hq : Q true s) :
    wpAny M A (excMatches (.ref e) (.ref P)) Q E s := by
  obtain ⟨bm, N, nm, qn, bs, hd, sn, sb, ab, col, dd, k0, k1, k2, k3, k5, mN, hC, hN, hni, T⟩ := exc_at KX hP
  have hcB : (Value.ref P :: bm).contains (.type "BaseException") = true := by rw [List.contains_cons, T.hasType hb, Bool.or_true]
  have f := tc_notTuple
  have L : PySem.W.Looks M s.heap (isSubtype (.ref C) (.ref P)) true := PySem.W.looks_subIn KX sub
  obtain ⟨hp, g, d, tk, os⟩ := s
  unfold excMatches
  repeat (first | (with_reducible refine wpAny_loadPart_at he ?_; rw [hcls]) | with_reducible refine wpAny_loadPart_at hC ?_ | (with_reducible refine wpAny_isSubtype_exc hC ?_; rw [hcB]) | (with_reducible refine PySem.W.Looks.here L ?_) | wp_step)
  exact hq

section
variable {X : Cx} {pins : List (Addr × Obj)} {σ : St} {H : Hp} {s : Shared}
/-- the suite's name is unbound behind it -/
theorem Inv.unbind {M : Model} {A : Around} {E : Value → Shared → Prop} {i : Nat} {n : Str} {pos : Pos} {Q : Unit → Shared → Prop} (I : Inv X pins σ H s) (hN : X.N.Nodup) (hi : X.N[i]? = some n) (hl : X.env.scope.names.lookup n = some .local)
    (k : ∀ s', Inv X pins (σ.set i none) H s' → Q () s') : wpAny M A (do bindName X.env n .none; unbindBehindTheSuite X.env n pos) Q E s := by
  have hcls : (X.env.scope.kind == .class || (X.env.scope.kind == .module && X.env.locals != X.env.globals)) = false := by rw [I.ok.kind]; rfl
  refine wpAny_bind (wpAny_bindName (store_ok (v := V.non) I hN hi (.inl hl) rfl (fun s1 J => ?_) (.inr hl)))
  unfold unbindBehindTheSuite
  refine wpAny_onRaise ?_
  obtain ⟨m, hn, hlk⟩ := J.loc
  have hil : i < σ.length := by rw [I.len]; exact (List.getElem?_eq_some_iff.mp hi).1
  obtain ⟨u, ru, lu⟩ := hlk i n .non hi (by rw [List.getElem?_set_self hil]) (.inl hl)
  have hmn : m n = some u := by
    rcases lu with ⟨_, q⟩ | ⟨q | q, _⟩
    · exact q
    · exact absurd (q.symm.trans (show X.env.kindOf n = some .local from hl)) (by decide)
    · exact absurd (q.symm.trans (show X.env.kindOf n = some .local from hl)) (by decide)
  refine wpAny_unbindName_local (show X.env.kindOf n = some .local from hl) hn hmn hcls fun h' w hn' hs => ?_
  have same : ∀ b, b ≠ X.env.locals → h'.get? b = s1.heap.get? b := fun b hb => hs.2 b hb
  have neL : ∀ b o, X.s₀.heap.get? b = some o → b ≠ X.env.locals := fun b o e => Nat.ne_of_lt (Nat.lt_of_lt_of_le (Heap.lt_size e) J.ok.above)
  refine k _ ⟨J.ok, J.os, J.bare, ⟨fun b o e n hb hx => ?_, fun b o e n hb hx => ?_, J.base.free, fun b o e hx => ?_, J.base.tups, J.base.frzs, J.base.tbls⟩, ⟨_, hn', fun j x v e1 e2 e3 => ?_⟩, fun x c e => ?_, J.free, J.freeC, fun p hp => ?_, fun b o e => ?_, ?_⟩
  · exact (same b (neL b o e)).trans (J.base.keep b o e n hb hx)
  · obtain ⟨sl, q⟩ := J.base.slot b o e n hb hx
    exact ⟨sl, (same b (neL b o e)).trans q⟩
  · obtain ⟨o', q⟩ := J.base.there b o e hx
    exact ⟨o', (same b (neL b o e)).trans q⟩
  · have hj : j ≠ i := fun z => by
      subst z
      rw [List.getElem?_set_self hil] at e2
      cases e2
    have hxn : x ≠ n := fun z => hj ((List.getElem?_inj (List.getElem?_eq_some_iff.mp e1).1 hN).mp (by rw [e1, hi, z]))
    rw [List.getElem?_set_ne (Ne.symm hj)] at e2
    obtain ⟨y, ry, ly⟩ := hlk j x v e1 (by rw [List.getElem?_set_ne (Ne.symm hj)]; exact e2) e3
    refine ⟨y, ry, ?_⟩
    rcases ly with ⟨q1, q2⟩ | ⟨q, c, e, o, ho, hd⟩
    · exact .inl ⟨q1, (if_neg hxn).trans q2⟩
    · exact .inr ⟨q, c, e, o, (same c (J.cne x c e)).trans ho, hd⟩
  · obtain ⟨v, o, ho, hd⟩ := J.cell x c e
    exact ⟨v, o, (same c (J.cne x c e)).trans ho, hd⟩
  · obtain ⟨e, n, ne, nf, d⟩ := J.pin p hp
    exact ⟨(same _ ne).trans e, n, ne, nf, d⟩
  · refine (J.hok b o e).stay (fun c v hc r => (same c fun z => ?_).trans r) (fun _ r => r) fun _ _ r => r
    have := J.free
    rcases hc with rfl | hc
    · rw [z, this] at e; cases e
    · rw [z, this] at hc; cases hc
  · rw [List.length_set]
    exact I.len
end

/-- behind the suite -/
def suiteEnds (D : Ends) (i : Nat) : Ends := { nx := fun σ H => D.nx (σ.set i none) H, rt := D.rt, bk := fun σ H => D.bk (σ.set i none) H, ct := fun σ H => D.ct (σ.set i none) H }
/-- try: .. except P as n: ..; the block's exceptions are wanted as Eb tells -/
def tTry (i : Nat) (K : PySem.W.Frag) (P : Addr) (Eb : XK) (tb ts : TS) : TS := fun D σ H => tb D σ H ∧ ∀ (cls : Value) (H' : Hp) (σ' : St) (a : Addr), Eb cls none H' → H' a = none → σ'.length = σ.length →
  ∃ C, cls = .ref C ∧ PySem.W.subIn K (.ref C) (.ref P) = some true ∧ ts (suiteEnds D i) (σ'.set i (some (.ref a))) (upd H' a (excO a C))

section
variable {X : Cx}
theorem ps_try {i : Nat} {n x : Str} {P : Addr} {bmB : List Value} {newId : String} {Eb : XK} {tb ts : TS} {body suite : List Stmt} {b0 : Stmt} {np hpos pos : Pos} (hN : X.N.Nodup) (hi : X.N[i]? = some n) (hl : X.env.scope.names.lookup n = some .local)
    (hP : PySem.W.excIn X.K P bmB newId = true) (hb : bmB.contains (.type "BaseException") = true) (hg : Gl X x) (hm : X.mg x = some (.ref P)) (hex : X.ex = []) (hst : X.stack = X.env :: X.outer) (hfm : X.env.frame = some X.env.locals)
    (hbody : ∀ pins, PSs (X.tried pins Eb) body tb) (hs : ∀ a, PSs (X.held a) (b0 :: suite) ts) (hdb : (x == ("__debug__" : Str)) = false := by decide) :
    PS X (.Try body [.ExceptHandler (some (.Name x np)) (some n) (b0 :: suite) hpos] [] [] pos) (tTry i X.K P Eb tb ts) := by
  intro pins s σ H D I ⟨h1, h2⟩
  refine wpAny_Try_except (wpAny_mono (hbody pins [] s σ H D I.try_ h1) (fun f s1 hf => ?_) fun e s1 he => ?_)
  · cases f with
    | next =>
      obtain ⟨σ', H', J, q⟩ := hf
      exact wpAny_execs_nil ⟨σ', H', J.untry I.ok, q⟩
    | brk => obtain ⟨σ', H', J, q⟩ := hf; exact ⟨σ', H', J.untry I.ok, q⟩
    | cont => obtain ⟨σ', H', J, q⟩ := hf; exact ⟨σ', H', J.untry I.ok, q⟩
    | ret u => obtain ⟨v, σ', H', J, r, q⟩ := hf; exact ⟨v, σ', H', J.untry I.ok, r, q⟩
  · obtain ⟨a, cls, σ', H', rfl, J, fl, q⟩ := he
    obtain ⟨T, a0, hT, nT, da, dT, fly⟩ := fl.flying J.stack
    obtain ⟨C, rfl, sub, q2⟩ := h2 cls H' σ' a q fl.ha (by rw [J.len, I.len])
    have hfr : X.A.frames = some (X.env :: X.outer) := by rw [J.ok.frames, hst]
    refine wpAny_looks_onW (L := X.env.locals) hfr hfm (by rw [← hst]; exact fly) fun h4 held up4 => ?_
    refine wpAny_landsW held fun h5 fly5 up5 => ?_
    obtain ⟨fl5, k5, sl5⟩ := Fl.step rfl J.hok J.stack J.stkFree hT fl.ha fl.new nT (fun b z => J.newIn hex z) fly5 (up4.trans up5)
    have J5 : Inv X pins σ' H' { s1 with heap := h5 } := J.flew fl.new nT da dT fl.ha hT k5 sl5
    refine wpAny_handleBy_cons (codeAny_handlers_test (ld_glob (X := X.held a) (J5.hold a) hg hm ?_ hdb)) (by intro z; cases z)
    obtain ⟨oe, vs, T5, oT5, ts5, a5, y1, y2, y3, y4, y5, y6, y7, y8, y9, y10, y11⟩ := fl5.ex
    refine matches_in J5.kIn y1 y2 hP hb sub (codeAny_handlers_suite_as ?_)
    obtain ⟨T6, a6, hT6, nT6, da6, dT6, fly6⟩ := fl5.flying J5.stack
    obtain ⟨z1, z2, z3, z4⟩ := fly6
    refine wpAny_setFlight_noneW z1 z3 z4.at fun h7 w1 w2 w3 w4 => ?_
    obtain ⟨fl7, k7, sl7⟩ := Fl.step (l' := X.stack) rfl J5.hok J5.stack J5.stkFree hT6 fl5.ha fl5.new nT6 (fun b z => J5.newIn hex z) ⟨w1, z2, w2, w3⟩ (fun b o e hd => ⟨o.slots, w4 b o e hd⟩)
    have J7 : Inv X pins σ' H' { s1 with heap := h7 } := J5.flew fl5.new nT6 da6 dT6 fl5.ha hT6 k7 sl7
    obtain ⟨o7, v7, _, _, _, _, x1, x2, x3, _⟩ := fl7.ex
    have J8 : Inv X pins σ' (upd H' a (excO a C)) { s1 with heap := h7 } := J7.track fl7.new ⟨o7, v7, x1, x3⟩ fl7.ha
      ⟨⟨o7, x1, x2⟩, ⟨o7, x1⟩, fun g1 g2 ⟨o, e, c⟩ kp => ⟨o, kp o e, c⟩⟩
    refine store_ok (X := X.held a) (J8.hold a) hN hi (.inl hl) (v := V.ref a) rfl (fun s9 J9 => ?_) (.inr hl)
    refine wpAny_mono (hs a pins s9 _ _ _ J9 q2) (fun f s10 hf => ?_) fun _ _ z => z.elim
    cases f with
    | next => obtain ⟨σ'', H'', K1, r⟩ := hf; exact (K1.unhold I.ok).unbind hN hi hl fun s' K2 => ⟨_, _, K2, r⟩
    | brk => obtain ⟨σ'', H'', K1, r⟩ := hf; exact (K1.unhold I.ok).unbind hN hi hl fun s' K2 => ⟨_, _, K2, r⟩
    | cont => obtain ⟨σ'', H'', K1, r⟩ := hf; exact (K1.unhold I.ok).unbind hN hi hl fun s' K2 => ⟨_, _, K2, r⟩
    | ret u => obtain ⟨v, σ'', H'', K1, rv, r⟩ := hf; exact (K1.unhold I.ok).unbind hN hi hl fun s' K2 => ⟨v, _, _, K2, rv, r⟩
end
end L2
set_option Elab.async false
set_option linter.all false
set_option maxRecDepth 100000
set_option maxHeartbeats 4000000
namespace L2
open PySem PySem.Spec PyProof.Rows

/-- what is known of a class of exceptions C: where its attributes are looked up -/
structure ExK (K : PySem.W.Frag) (C : Addr) : Prop where
  cl : (PySem.W.clsIn K C).isSome = true
  ga : PySem.W.findIn K (.ref C) "__getattribute__" = some (some (.builtin "BaseException.__getattribute__"))
  gn : PySem.W.findIn K (.ref C) "__getattr__" = some none
  gc : PySem.W.findIn K (.ref C) "__class__" = some (some (.builtin "object.__class__"))
  ob : PySem.W.mroIn K C (.type "object") = some true
  be : PySem.W.mroIn K C (.type "BaseException") = some true
  ty : PySem.W.typeIn K (.ref C) = some (.type "type")
  me : PySem.W.subIn K (.ref C) (.ref C) = some true

section
variable {K : PySem.W.Frag} {prog : Program} {w : World} {A : Around} {E : Value → Shared → Prop} {h : Heap} {g : Array GenState} {d : Drawn} {t : Nat} {os : OsState} {a C : Addr} {o : Obj}

theorem exc_type {M : Model} (hx : h.get? a = some o) (hc : o.cls = .ref C) : PySem.W.Looks M h (typeOf (.ref a)) (.ref C) := hc ▸ (PySem.W.Looks.ld hx).andThen .now

theorem exc_class_get {R : Result → Shared → Prop} {tp : Value} (KX : K.In h) (X : ExK K C) (hx : h.get? a = some o) (hc : o.cls = .ref C) (hq : R (.ok (.ret (.ref C))) ⟨h, g, d, t, os⟩) :
    codeAny (model prog w) A (.call (.builtin "getset_descriptor.__get__") ⟨[.builtin "object.__class__", .ref a, tp], []⟩) R ⟨h, g, d, t, os⟩ := by
  have hT5 : (⟨h, g, d, t, os⟩ : Shared).TypeIs (.builtin "object.__class__") "getset_descriptor" := F.typeOf_object_class
  have L0 : PySem.W.Looks (model prog w) h (typeOf (.ref a)) (.ref C) := exc_type hx hc
  have L1 := PySem.W.looks_mroIn (M := model prog w) KX X.ob
  have L2 : PySem.W.Looks (model prog w) h (isSubtype (.ref C) (.type (".".intercalate ("object.__class__".cutAt '.').dropLast))) true := by rw [F.owner_object_class]; exact L1
  refine codeAny_call_builtin F.slot_gs_get.plain F.entry_gs_get (F.slot_gs_get.check _ _ _ _ _ _ _ _ hT5 (F.args_gs_get _ _ _) ?_)
  repeat (any_goals (first | assumption | (with_reducible refine PySem.W.Looks.here L0 ?_) | (with_reducible refine PySem.W.Looks.here L2 ?_) | wp_step))
  refine ⟨Code.quiet_builtin _ (by decide +kernel), codeAny_builtin F.entry_object_class ?_⟩
  repeat (any_goals (first | assumption | (with_reducible refine PySem.W.Looks.here L0 ?_) | wp_step))

theorem exc_class_entry {tk : Tok} {Q : Fin → Shared → Prop} (KX : K.In h) (X : ExK K C) (hx : h.get? a = some o) (hc : o.cls = .ref C) (hq : Q (.done (.ret (.ref C))) ⟨h, g, d, t, os⟩) :
    wpAny (model prog w) A (Builtin.«object.__getattribute__» ⟨[.ref a, .str "__class__" tk], []⟩) Q E ⟨h, g, d, t, os⟩ := by
  have hT5 : (⟨h, g, d, t, os⟩ : Shared).TypeIs (.builtin "object.__class__") "getset_descriptor" := F.typeOf_object_class
  have f5 := F.typeOf_object_class
  have f6 := F.slot_gs_get.lookup
  have f7 := F.slot_gs_set.lookup
  have L1 := PySem.W.looks_findIn (M := model prog w) KX X.gc
  repeat (any_goals (first | assumption | (with_reducible refine wpAny_loadPart_at hx ?_; rw [hc]) | (with_reducible refine PySem.W.Looks.here L1 ?_) | wp_step))
  refine exc_class_get KX X hx hc ?_
  repeat (any_goals (first | assumption | wp_step))

theorem exc_check_ga {M : Model} {nameV : Value} {Q : Unit → Shared → Prop} (KX : K.In h) (X : ExK K C) (hx : h.get? a = some o) (hc : o.cls = .ref C) (hq : Q () ⟨h, g, d, t, os⟩) :
    wpAny M A (checkBuiltinCall "BaseException.__getattribute__" ⟨[.ref a, nameV], []⟩) Q E ⟨h, g, d, t, os⟩ := by
  have hk : builtinKind "BaseException.__getattribute__" = some .slot := by decide +kernel
  have hsp : splitId "BaseException.__getattribute__" = some ("BaseException", "__getattribute__") := by decide +kernel
  have L0 : PySem.W.Looks M h (typeOf (.ref a)) (.ref C) := exc_type hx hc
  have L1 := PySem.W.looks_mroIn (M := M) KX X.be
  have ha := F.args_bexc_ga (.ref a) nameV
  have LI : PySem.W.Looks M h (isInstance (.ref a) (.type "BaseException")) true := L0.andThen L1
  exact PySem.W.check_slot (s := ⟨h, g, d, t, os⟩) (i := "BaseException.__getattribute__") (owner := "BaseException") (n := "__getattribute__") (self := .ref a) (rest := [nameV]) (kw := []) hk hsp LI ha hq

theorem exc_class_by {tk : Tok} {Q : Value → Shared → Prop} (KX : K.In h) (X : ExK K C) (hx : h.get? a = some o) (hc : o.cls = .ref C) (hq : Q (.ref C) ⟨h, g, d, t, os⟩) :
    wpAny (model prog w) A (getAttrBy (.ref a) (.str "__class__" tk) false) Q E ⟨h, g, d, t, os⟩ := by
  have f3 := F.attr_ValueError.ga.bind (.ref a)
  have hx2 : (Value.builtin "BaseException.__getattribute__" == Value.builtin "object.__getattribute__") = false := by decide +kernel
  have hx1 : (onTheHeap (Value.ref C) && Value.builtin "BaseException.__getattribute__" == Value.builtin "object.__getattribute__") = false := by rw [hx2]; exact Bool.and_false _
  have L1 := PySem.W.looks_findIn (M := model prog w) KX X.ga
  have L3 := PySem.W.looks_findIn (M := model prog w) KX X.gn
  repeat (any_goals (first | assumption | (with_reducible refine wpAny_loadPart_at hx ?_; rw [hc]) | (with_reducible refine PySem.W.Looks.here L1 ?_) | (with_reducible refine PySem.W.Looks.here L3 ?_) | wp_step))
  refine codeAny_call_builtin F.attr_ValueError.ga.plain F.entry_bexc_ga (exc_check_ga KX X hx hc (exc_class_entry KX X hx hc ?_))
  repeat (any_goals (first | assumption | wp_step))

theorem exc_class_attr {Q : Option Value → Shared → Prop} (KX : K.In h) (X : ExK K C) (hx : h.get? a = some o) (hc : o.cls = .ref C) (hq : Q (some (.ref C)) ⟨h, g, d, t + 1, os⟩) :
    wpAny (model prog w) A (getAttr? (.ref a) "__class__") Q E ⟨h, g, d, t, os⟩ := by
  unfold getAttr? getAttrBy?
  repeat (any_goals (first | assumption | with_reducible apply exc_class_by KX X hx hc | wp_step))
end

theorem kitx_exc {K : PySem.W.Frag} {a C : Addr} (X : ExK K C) : PySem.W.KitX K (.ref a) (.ref C) (fun h => ∃ o, h.get? a = some o ∧ o.cls = .ref C) where
  ty := fun M h _ ⟨o, hx, hc⟩ => exc_type hx hc
  it := fun M h KX _ => by
    have e : PySem.W.kitCls K (.ref C) (.ref C) = some true := by
      show (if _ then _ else _) = _
      rw [X.cl, X.ty]
      exact (if_pos (by decide)).trans X.me
    exact (PySem.W.kit_cls KX e).2.1
  ne := fun h tp dd its n sl KX htp => by
    cases z : (Value.ref C == Value.ref tp) with
    | false => rfl
    | true =>
      have e : C = tp := Value.ref.inj (eq_of_beq z)
      have cl := X.cl
      unfold PySem.W.clsIn at cl
      split at cl
      next look =>
        have q := KX _ _ look
        rw [e, htp] at q
        cases q
      next => cases cl
  ca := fun {prog w A E Q s} KX ⟨o, hx, hc⟩ k => by
    obtain ⟨h, g, d, t, os⟩ := s
    exact exc_class_attr KX X hx hc k

section
variable {X : Cx}
/-- isinstance(e, C), e a caught exception -/
theorem call_isi_exc {K : PySem.W.Frag} (hK : X.K = K := by rfl) : CallR X (.builtin "isinstance") (fun xs H Q => ∃ a c C b, xs = [.ref a, c] ∧ (c = .ty (match c with | .ty n => n | _ => "") ∨ c = .ref (match c with | .ref a => a | _ => 0)) ∧
    H a = some (excO a C) ∧ ExK K C ∧ PySem.W.kitOne K (.ref C) (clsOf c) = some b ∧ Q (.bl b) H) := by
  subst hK
  intro pins s σ H xs us Q I r h
  obtain ⟨a, c, C, b, rfl, hc, ha, ek, e, q⟩ := h
  cases r with
  | cons r1 rr =>
    cases rr with
    | cons r2 rr =>
      cases rr
      rename_i u1 u2
      have e1 : u1 = .ref a := r1
      have e2 : u2 = clsOf c := by
        rcases hc with z | z
        · cases c with
          | ty n => exact r2
          | _ => cases z
        · cases c with
          | ref n => exact r2
          | _ => cases z
      subst e1 e2
      obtain ⟨p, _⟩ := (show ObjOk X.prog X.w H s.heap a (excO a C) from I.hok a _ ha)
      exact PySem.W.kia_one (kitx_exc ek) I.kIn p e (fun z => nomatch z) fun tk => ⟨.bl b, H, I.tok tk, rfl, q⟩
/-- classes as values -/
def isCls : V → Bool
  | .ty _ => true
  | .ref _ => true
  | _ => false
theorem cls_vals : ∀ {cs : List V} {us : List Value}, Vals cs us → cs.all isCls = true → us = cs.map clsOf
  | _, _, .nil, _ => rfl
  | c :: cs, u :: us, .cons r rr, h => by
    rw [List.all_cons, Bool.and_eq_true] at h
    have e : u = clsOf c := by
      cases c with
      | ty n => exact r
      | ref n => exact r
      | _ => cases h.1
    rw [cls_vals rr h.2, e]
    rfl
/-- isinstance(e, (C, D, ..)) -/
theorem call_isi_exc_tup {K : PySem.W.Frag} (hK : X.K = K := by rfl) : CallR X (.builtin "isinstance") (fun xs H Q => ∃ a tp cs C b, xs = [.ref a, .ref tp] ∧ H tp = some (.tup cs) ∧ cs.all isCls = true ∧
    H a = some (excO a C) ∧ ExK K C ∧ PySem.W.kitAny K (.ref C) (cs.map clsOf) = some b ∧ Q (.bl b) H) := by
  subst hK
  intro pins s σ H xs us Q I r h
  obtain ⟨a, tp, cs, C, b, rfl, ht, hcs, ha, ek, e, q⟩ := h
  cases r with
  | cons r1 rr =>
    cases rr with
    | cons r2 rr =>
      cases rr
      rename_i u1 u2
      have e1 : u1 = .ref a := r1
      have e2 : u2 = .ref tp := r2
      subst e1 e2
      obtain ⟨p, _⟩ := (show ObjOk X.prog X.w H s.heap a (excO a C) from I.hok a _ ha)
      obtain ⟨_, its, rv, ob, hob, hoc, n, hod⟩ := (show ObjOk X.prog X.w H s.heap tp (.tup cs) from I.hok tp _ ht)
      have ei := cls_vals rv hcs
      subst ei
      obtain ⟨oc, od, oda, osl⟩ := ob
      have hoc' : oc = .type "tuple" := hoc
      have hod' : oda = .seq (cs.map clsOf).toArray n := hod
      subst hoc' hod'
      exact PySem.W.kia_tup (kitx_exc ek) I.kIn p hob e (fun z => nomatch z) fun tk => ⟨.bl b, H, I.tok tk, rfl, q⟩
end

/-! ### defs that raise -/
section
variable {P : Program} {w : World} {K : PySem.W.Frag} {mg : Str → Option Value} {base : Heap}
/-- a def from which nothing leaves, as one of another kind -/
theorem FnOk.cx {CX : CXT} {k : Nat} {f : Addr} {fd : FuncData} {ps : List Str} {sp : Sp} (F : FnOk P w K mg base CX0 k f fd ps sp) : FnOk P w K mg base CX k f fd ps sp :=
  ⟨F.len, fun A outer s H args us vs Q E hr he hb hv hs => codeAny_mono (F.run A outer s H args us vs Q E hr he hb hv hs) fun r s' q => by
    cases r with
    | error e => exact False.elim q
    | ok fl => cases fl <;> exact q⟩
/-- the rule for a def that may raise -/
theorem Fun.okX {x qual : Str} {st : Stmt} {f : Addr} {fd : FuncData} {N ps : List Str} {k : Nat} {sp : Sp} (F : Fun K x qual st f fd) (S : FnScope N ps (defScope st)) (len : ∀ vs H Q E, sp vs H Q E → vs.length = ps.length)
    (hbody : ∀ (cdv : Value) (A : Around) (outer : List Env) (s : Shared) (H : Hp) (vs : List V) (Q : VK) (E : XK), Room k (A.deeper (envOfC qual (defScope st) s.heap.objs.size f cdv)) → sp vs H Q E →
      ∃ t, PSs (cxOf (CXF P w) P w K mg base N qual (defScope st) f cdv A outer s H E) (defBody st) t ∧ t { nx := fun _ H' => Q .non H', rt := Q } (start N vs) H) : FnOk P w K mg base (CXF P w) (k + 1) f fd ps sp := by
  obtain ⟨oc, od, kV, doc, pm, an, cdv, ct, osl, rfl, lk, hcd⟩ := F.ex
  exact fn_of lk hcd S len fun A outer s H vs Q E hr hsp => hbody cdv A outer s H vs Q E hr hsp
end
end L2
set_option Elab.async false
set_option linter.all false
set_option maxRecDepth 100000
set_option maxHeartbeats 4000000
namespace L2
open PySem PySem.Spec PyProof.Rows
/-! ### an exception on its way, whatever its last entry says of where it flies -/
def zap (h : Heap) (T : Addr) (x : Value) : Heap := h.update T (Obj.mapFields fun v => v.setIfInBounds 3 x)
theorem zap_other {h : Heap} {T b : Addr} {x : Value} (hb : b ≠ T) : (zap h T x).get? b = h.get? b := Heap.get?_update_ne h b T _ hb
theorem zap_self {h : Heap} {T : Addr} {x : Value} {oT : Obj} {ts : Array Value} (hT : h.get? T = some oT) (hd : oT.data = .fields ts) : ∃ o, (zap h T x).get? T = some o ∧ o.data = .fields (ts.setIfInBounds 3 x) := by
  refine ⟨_, Heap.get?_update_self _ hT ?_, ?_⟩
  · cases oT with
    | mk c d dt sl =>
      have hd' : dt = .fields ts := hd
      subst hd'; rfl
  · cases oT with
    | mk c d dt sl =>
      have hd' : dt = .fields ts := hd
      subst hd'; rfl
theorem at3 {ts : Array Value} {z x : Value} (h : ts[3]? = some z) : (ts.setIfInBounds 3 x)[3]? = some x := by
  have hl : 3 < ts.size := by
    by_cases q : 3 < ts.size
    · exact q
    · rw [Array.getElem?_eq_none (by omega)] at h; cases h
  simp [hl]
theorem lt3 {ts : Array Value} {z : Value} (h : ts[3]? = some z) : 3 < ts.size := by
  by_cases q : 3 < ts.size
  · exact q
  · rw [Array.getElem?_eq_none (by omega)] at h; cases h
theorem note_reset {M : Model} {Γ : PySem.Ctx} {p : Pos} {Ee : Value → Pos → Shared → Prop} {s : Shared} {env : Env} {e T L : Addr} {oe oT : Obj} {vs ts : Array Value} {z : Value} {Pq : Unit → Pos → Shared → Prop} (hL : env.frame = some L) (he : s.heap.get? e = some oe) (hd : oe.data = .fields vs) (h1 : vs[1]? = some (.ref T))
    (hT : s.heap.get? T = some oT) (hdT : oT.data = .fields ts) (hz : ts[3]? = some z) (hzL : (z == rawInt ↑L) = false) (hne : T ≠ e)
    (g : Sem.wp M Γ (noteFrame (.ref e) env) Pq Ee p { s with heap := zap s.heap T .none }) : Sem.wp M Γ (noteFrame (.ref e) env) Pq Ee p s := by
  unfold noteFrame at g ⊢
  rw [hL] at g ⊢
  change Sem.wp M Γ (Sem.bind (field _ _) _) _ _ _ _ at g
  change Sem.wp M Γ (Sem.bind (field _ _) _) _ _ _ _
  rw [Sem.wp_bind] at g ⊢
  rw [wp_field_iff] at g ⊢
  obtain ⟨a', o', vs', x', e1, e2, e3, e4, g⟩ := g
  cases e1
  have e2' : (zap s.heap T .none).get? e = some o' := e2
  rw [zap_other hne.symm, he] at e2'
  cases e2'
  rw [hd] at e3
  cases e3
  rw [h1] at e4
  cases e4
  refine ⟨e, oe, vs, .ref T, rfl, he, hd, h1, ?_⟩
  have c1 : (Value.ref T != Value.none) = true := rfl
  rw [if_pos c1] at g ⊢
  change Sem.wp M Γ (Sem.bind (field _ _) _) _ _ _ _ at g
  change Sem.wp M Γ (Sem.bind (field _ _) _) _ _ _ _
  rw [Sem.wp_bind] at g ⊢
  rw [wp_field_iff] at g ⊢
  obtain ⟨a', o', vs', x', e1, e2, e3, e4, g⟩ := g
  cases e1
  obtain ⟨o2, q1, q2⟩ := zap_self (x := .none) hT hdT
  have e2' : (zap s.heap T .none).get? T = some o' := e2
  rw [q1] at e2'
  cases e2'
  rw [q2] at e3
  cases e3
  rw [at3 hz] at e4
  cases e4
  refine ⟨T, oT, ts, z, rfl, hT, hdT, hz, ?_⟩
  have c2 : ¬ ((Value.none == rawInt ↑L) = true) := by intro q; cases q
  rw [if_neg c2] at g
  rw [if_neg (by rw [hzL]; exact Bool.false_ne_true)]
  change Sem.wp M Γ (Sem.bind (setField _ _ _) _) _ _ _ _ at g
  change Sem.wp M Γ (Sem.bind (setField _ _ _) _) _ _ _ _
  rw [Sem.wp_bind] at g ⊢
  rw [wp_setField_iff] at g ⊢
  obtain ⟨a', o', vs', e1, e2, e3, e4, g⟩ := g
  cases e1
  refine ⟨T, oT, ts, rfl, hT, hdT, lt3 hz, ?_⟩
  have tw : (zap s.heap T .none).update T (Obj.mapFields fun v => v.setIfInBounds 3 .none) = s.heap.update T (Obj.mapFields fun v => v.setIfInBounds 3 .none) := Heap.update_setField_twice _ _ _ _ _
  have g' := g
  simp only [tw] at g'
  exact g'
structure Flx (N : Addr → Prop) (h : Heap) (H : Hp) (a : Addr) (cls : Value) : Prop where
  ex : ∃ oe vs T oT ts a0 z, h.get? a = some oe ∧ oe.cls = cls ∧ oe.data = .fields vs ∧ vs[0]? = some a0 ∧ vs[1]? = some (.ref T) ∧ T ≠ a ∧ h.get? T = some oT ∧ oT.data = .fields ts ∧ ts[3]? = some z ∧ H T = none ∧ N T
  ha : H a = none
  new : N a
theorem Flx.mono {N N' : Addr → Prop} {h : Heap} {H : Hp} {a : Addr} {cls : Value} (x : Flx N h H a cls) (k : ∀ b, N b → N' b) : Flx N' h H a cls := by
  obtain ⟨⟨oe, vs, T, oT, ts, a0, z, y1, y2, y3, y4, y5, y6, y7, y8, y9, y10, y11⟩, ha, n0⟩ := x
  exact ⟨⟨oe, vs, T, oT, ts, a0, z, y1, y2, y3, y4, y5, y6, y7, y8, y9, y10, k _ y11⟩, ha, k _ n0⟩
/-- the entry reset: in flight -/
theorem Flx.reset {N : Addr → Prop} {h : Heap} {H : Hp} {a : Addr} {cls : Value} (x : Flx N h H a cls) : ∃ T, H T = none ∧ N T ∧ (∃ o ts, h.get? T = some o ∧ o.data = .fields ts) ∧ Fl N (zap h T .none) H a cls := by
  obtain ⟨⟨oe, vs, T, oT, ts, a0, z, y1, y2, y3, y4, y5, y6, y7, y8, y9, y10, y11⟩, ha, n0⟩ := x
  obtain ⟨o2, q1, q2⟩ := zap_self (x := .none) y7 y8
  exact ⟨T, y10, y11, ⟨oT, ts, y7, y8⟩, ⟨oe, vs, T, o2, _, a0, (zap_other y6.symm).trans y1, y2, y3, y4, y5, y6, q1, q2, at3 y9, y10, y11⟩, ha, n0⟩
theorem hok_zap {P : Program} {w : World} {H : Hp} {h : Heap} {T : Addr} {x : Value} (hok : HOk P w H h) (hT : H T = none) : HOk P w H (zap h T x) := fun b o e => by
  refine (hok b o e).stay (fun c v hc r => ?_) (fun _ r => r) fun _ _ r => r
  have nc : c ≠ T := fun z => by
    rcases hc with rfl | hc
    · rw [z, hT] at e; cases e
    · rw [z, hT] at hc; cases hc
  exact (zap_other nc).trans r
section
variable {P : Program} {w : World} {M : Model} {A : Around} {E : Value → Shared → Prop} {s : Shared} {base : Heap} {N : Addr → Prop} {H : Hp} {a L : Addr} {cls : Value} {env : Env} {outer : List Env} {Q : Unit → Shared → Prop}
theorem funs_zap {T : Addr} {x : Value} (hd : ∃ o ts, s.heap.get? T = some o ∧ o.data = .fields ts) : ∀ {l : List Env}, s.heap.FunFrames base l → (zap s.heap T x).FunFrames base l
  | [], _ => trivial
  | env :: r, ⟨hk, ⟨L, o, hf, hn, ho, hdd⟩, hr⟩ => by
    refine ⟨hk, ⟨L, o, hf, hn, ?_, hdd⟩, funs_zap hd hr⟩
    have nL : L ≠ T := fun z => by
      obtain ⟨o', ts, e1, e2⟩ := hd
      rw [← z, ho] at e1
      cases e1
      exact hdd _ e2
    exact (zap_other nL).trans ho
/-- it leaves the frame -/
theorem Flx.leaves (x : Flx N s.heap H a cls) (hfr : A.frames = some (env :: outer)) (hf : env.frame = some L) (hok : HOk P w H s.heap) (hfun : s.heap.FunFrames base (env :: outer)) (hff : ∀ b ∈ frs (env :: outer), H b = none)
    (fresh : ∀ b, s.heap.get? b = none → N b)
    (k : ∀ h', Fl N h' H a cls → (∀ b o, s.heap.get? b = some o → (¬ N b ∨ H b ≠ none) → b ∉ frs (env :: outer) → h'.get? b = some o) →
      (∀ b o, s.heap.get? b = some o → b ∈ frs (env :: outer) → ∃ sl, h'.get? b = some { o with slots := sl }) → Q () { s with heap := h' }) : wpAny M A (leaving env (.ref a)) Q E s := by
  obtain ⟨T', hT', nT', hdT', fl'⟩ := x.reset
  obtain ⟨⟨oe, vs, T, oT, ts, a0, z, y1, y2, y3, y4, y5, y6, y7, y8, y9, y10, y11⟩, ha, n0⟩ := id x
  obtain ⟨o2, q1, q2⟩ := zap_self (x := .none) y7 y8
  have flT : Fl N (zap s.heap T .none) H a cls := ⟨⟨oe, vs, T, o2, _, a0, (zap_other y6.symm).trans y1, y2, y3, y4, y5, y6, q1, q2, at3 y9, y10, y11⟩, ha, n0⟩
  have hdT : ∃ o ts, s.heap.get? T = some o ∧ o.data = .fields ts := ⟨oT, ts, y7, y8⟩
  have nfrT : T ∉ frs (env :: outer) := fun hm => by
    obtain ⟨_, o, ho, hd⟩ := hfun.mem hm
    rw [y7] at ho
    cases ho
    exact hd _ y8
  have keep : ∀ b o, s.heap.get? b = some o → (¬ N b ∨ H b ≠ none) → (zap s.heap T .none).get? b = some o := fun b o e hb => by
    have nb : b ≠ T := fun z => by
      rcases hb with hb | hb
      · exact hb (z ▸ y11)
      · exact hb (z ▸ y10)
    exact (zap_other nb).trans e
  have keepF : ∀ b o, s.heap.get? b = some o → b ∈ frs (env :: outer) → (zap s.heap T .none).get? b = some o := fun b o e hb =>
    (zap_other (fun q => nfrT (by rw [← q]; exact hb))).trans e
  unfold leaving
  by_cases hz : (z == rawInt ↑L) = true
  · have ez : z = rawInt ↑L := eq_of_beq hz
    refine wpAny_bind (wpAny_noteFrame_inFlight hf y1 y3 y5 y7 y8 (by rw [y9, ez]) ?_)
    unfold setFlight
    refine wpAny_bind (wpAny_field y1 y3 y5 ?_)
    rw [if_pos (show (Value.ref T != Value.none) = true from rfl)]
    refine wpAny_setField y7 y8 (lt3 y9) ?_
    refine k _ flT (fun b o e hb _ => keep b o e hb) fun b o e hb => ⟨o.slots, keepF b o e hb⟩
  · have hz' : (z == rawInt ↑L) = false := by simpa using hz
    have main : wpAny M A (leaving env (.ref a)) Q E { s with heap := zap s.heap T .none } := by
      refine Fl.leaves (P := P) (w := w) (N := N) (L := L) flT hfr hf (hok_zap hok y10) (funs_zap hdT hfun) hff (fun b e => fresh b ?_) fun h' f1 f2 f3 => k h' f1 (fun b o e hb hm => f2 b o (keep b o e hb) hb hm) fun b o e hb => f3 b o (keepF b o e hb) hb
      by_cases q : b = T
      · rw [q] at e; rw [q1] at e; cases e
      · have := (zap_other (h := s.heap) (x := .none) q).symm.trans e
        exact this
    unfold leaving at main
    intro Γ p hΓ
    have g := main Γ p hΓ
    change Sem.wp M Γ (Sem.bind (noteFrame _ _) _) _ _ _ _ at g
    change Sem.wp M Γ (Sem.bind (noteFrame _ _) _) _ _ _ _
    rw [Sem.wp_bind] at g ⊢
    exact note_reset hf y1 y3 y5 y7 y8 y9 hz' y6 g
end
end L2
set_option Elab.async false
set_option linter.all false
set_option maxRecDepth 100000
set_option maxHeartbeats 4000000
namespace L2
open PySem PySem.Spec PyProof.Rows
/-- an exception on its way, wherever it flies, is what this body wants -/
def ThrowsX (X : Cx) (E : XK) : Prop := ∀ (pins : List (Addr × Obj)) (σ : St) (H : Hp) (s : Shared) (a : Addr) (cls : Value), Inv X pins σ H s → Flx (NewIn X pins) s.heap H a cls → E cls none H → X.xe (.ref a) s
section
variable {P : Program} {w : World} {K : PySem.W.Frag} {mg : Str → Option Value} {base : Heap} {N : List Str} {qual : Str} {scope : Scope} {f : Addr} {cd : Value} {A : Around} {outer : List Env} {s : Shared} {H : Hp} {E : XK}
theorem throwsX_def : ThrowsX (cxOf (CXF P w) P w K mg base N qual scope f cd A outer s H E) E := fun pins σ H1 s1 a cls I fl q => by
  show wpAny _ _ (leaving _ _) _ _ _
  have hex : (cxOf (CXF P w) P w K mg base N qual scope f cd A outer s H E).ex = [] := rfl
  refine Flx.leaves (P := P) (w := w) (N := fun b => s.heap.get? b = none) (L := s.heap.objs.size) (fl.mono fun b z => z.1) I.ok.frames rfl I.hok I.stack I.stkFree (fun b z => gone_back I.base (by rw [hex]; simp) z) fun h' fl' k1 k2 => ?_
  have nl : ∀ b o, s.heap.get? b = some o → b ≠ s.heap.objs.size := fun b o z => Nat.ne_of_lt (Heap.lt_size z)
  have cons : ∀ b, b ∈ frs (envOfC qual scope s.heap.objs.size f cd :: outer) ↔ b = s.heap.objs.size ∨ b ∈ frs outer := fun b => by
    show b ∈ List.filterMap _ _ ↔ _
    rw [List.filterMap_cons]
    exact List.mem_cons
  refine ⟨a, cls, H1, rfl, I.os, I.bare, ⟨fun b o z n hb hx => ?_, fun b o z n hb hx => ?_, fun b o z n hx => I.base.free b o z n (by rw [hex]; simp), fun b o z hx => ?_, I.base.tups, I.base.frzs, I.base.tbls⟩, fun b o z => ?_, fl', q⟩
  · refine k1 b o (I.base.keep b o z n hb (by rw [hex]; simp)) (.inl (by rw [z]; simp)) fun hm => ?_
    rcases (cons b).mp hm with e | e
    · exact nl b o z e
    · exact hb e
  · obtain ⟨sl, e⟩ := I.base.slot b o z n hb (by rw [hex]; simp)
    obtain ⟨sl', e'⟩ := k2 b _ e ((cons b).mpr (.inr hb))
    exact ⟨sl', e'⟩
  · obtain ⟨o', e⟩ := I.base.there b o z (by rw [hex]; simp)
    by_cases hm : b ∈ frs (envOfC qual scope s.heap.objs.size f cd :: outer)
    · obtain ⟨sl, e'⟩ := k2 b _ e hm
      exact ⟨_, e'⟩
    · exact ⟨_, k1 b _ e (.inl (by rw [z]; simp)) hm⟩
  · refine (I.hok b o z).stay (fun c v hc r => k1 c v r (.inr ?_) fun hm => ?_) (fun _ r => r) fun _ _ r => r
    · rcases hc with rfl | hc
      · rw [z]; simp
      · rw [hc]; simp
    · have := I.stkFree c hm
      rcases hc with rfl | hc
      · rw [z] at this; cases this
      · rw [hc] at this; cases this
end
/-- the block's context when its item may raise -/
def compCxR (X : Cx) (scope : Scope) (cl : List (Str × Addr)) (N' : List Str) (C : Addr) (s : Shared) (H : Hp) (fp : List Addr) (pn : List (Addr × Obj)) (E : XK) : Cx :=
  { compCx X scope cl N' C s H fp with pn := pn, xe := fun e s' => ∃ a cls σ' H', e = .ref a ∧ Inv (compCx X scope cl N' C s H fp) pn σ' H' s' ∧ Fl (fun b => s.heap.get? b = none ∧ ∀ p ∈ pn, p.1 ≠ b) s'.heap H' a cls ∧ E cls none H' }
section
variable {X : Cx} {scope : Scope} {cl : List (Str × Addr)} {N' : List Str} {C : Addr} {s0 s : Shared} {H0 H : Hp} {fp : List Addr} {pn : List (Addr × Obj)} {E : XK} {σ : St} {pins : List (Addr × Obj)}
theorem Inv.toR (I : Inv (compCx X scope cl N' C s0 H0 fp) pn σ H s) : Inv (compCxR X scope cl N' C s0 H0 fp pn E) [] σ H s :=
  ⟨⟨I.ok.mod, I.ok.kind, I.ok.glob, I.ok.blt, I.ok.above, I.ok.inj, I.ok.has, I.ok.cab, I.ok.hd, I.ok.frames, I.ok.stk, I.ok.exf, I.ok.bs, I.ok.bsz, I.ok.noex, I.ok.exfs, I.ok.funs, I.ok.frf⟩,
    I.os, I.bare, I.base, I.loc, I.cell, I.free, I.freeC, fun p hp => I.pin p (by have hp' : p ∈ pn ++ [] := hp; rw [List.append_nil] at hp'; exact List.mem_append_right _ hp'), I.hok, I.len⟩
theorem Inv.ofR (I : Inv (compCxR X scope cl N' C s0 H0 fp pn E) pins σ H s) : Inv (compCx X scope cl N' C s0 H0 fp) pn σ H s :=
  ⟨⟨I.ok.mod, I.ok.kind, I.ok.glob, I.ok.blt, I.ok.above, I.ok.inj, I.ok.has, I.ok.cab, I.ok.hd, I.ok.frames, I.ok.stk, I.ok.exf, I.ok.bs, I.ok.bsz, I.ok.noex, I.ok.exfs, I.ok.funs, I.ok.frf⟩,
    I.os, I.bare, I.base, I.loc, I.cell, I.free, I.freeC, fun p hp => I.pin p (List.mem_append_left _ (by have hp' : p ∈ [] ++ pn := hp; rw [List.nil_append] at hp'; exact hp')), I.hok, I.len⟩
/-- a call that raises, in a block's item -/
theorem passes_comp (hpn : ∀ b ∈ fp, ∃ o, (b, o) ∈ pn) : Passes (CXF X.prog X.w) (compCxR X scope cl N' C s0 H0 fp pn E) E := fun pins σ H s e s' I hc => by
  obtain ⟨a, cls, H', rfl, os, bare, un, hok, fl, q⟩ := hc
  have I1 : Inv (compCxR X scope cl N' C s0 H0 fp pn E) pins σ H' s' := I.call' (ch := []) os un hok bare fun b z => absurd z (by simp)
  refine ⟨a, cls, σ, H', rfl, I1.ofR, fl.mono fun b z => ⟨?_, fun p hp w => ?_⟩, q⟩
  · by_cases hb : b ∈ fp
    · obtain ⟨o, ho⟩ := hpn b hb
      have := (I.pin (b, o) (List.mem_append_left _ ho)).1
      have z' : s.heap.get? b = none := z
      rw [z'] at this; cases this
    · exact gone_back I.base hb z
  · have := (I.pin p (List.mem_append_left _ hp)).1
    have z' : s.heap.get? b = none := z
    rw [w, z'] at this; cases this
end
/-- it leaves the block -/
theorem comp_error {X : Cx} {E : XK} (tx : ThrowsX X E) (hex : X.ex = []) (hst : X.stack = X.env :: X.outer) (hfL : X.env.frame = some X.env.locals) {scope : Scope} {cl : List (Str × Addr)} {N' : List Str} {C : Addr} {s3 s' : Shared} {H3 H' : Hp} {fp : List Addr} {pn pins : List (Addr × Obj)} {σ σ' : St} {a : Addr} {cls : Value}
    {use : Option (Value → Sem Unit)} {Q' : Value → Shared → Prop} {p : Value}
    (I3 : Inv X pins σ H3 s3) (hC : s3.heap.objs.size = C) (fpok : ∀ b ∈ fp, FpOk X pins H3 b) (hpn : ∀ b ∈ fp, ∃ o, (b, o) ∈ pn)
    (J : Inv (compCx X scope cl N' C s3 H3 fp) pn σ' H' s') (fl : Fl (fun b => s3.heap.get? b = none ∧ ∀ p ∈ pn, p.1 ≠ b) s'.heap H' a cls) (q : E cls none H') :
    notedBy (model X.prog X.w) X.A (compEnvC scope cl C X.env) (fun e s'' => compPost (model X.prog X.w) X.A X.xe use Q' p C (.error e) s'') (.ref a) s' := by
  show wpAny (model X.prog X.w) X.A (noteFrame (.ref a) X.env) _ _ s'
  obtain ⟨⟨oe, vs, T, oT, ts, a0, y1, y2, y3, y4, y5, y6, y7, y8, y9, y10, y11⟩, ha, na⟩ := id fl
  have stk : s'.heap.FunFrames X.base (X.env :: X.outer) := hst ▸ (show s'.heap.FunFrames X.base X.stack from J.stack)
  have stF : ∀ b ∈ frs X.stack, H' b = none := J.stkFree
  have hfr : X.A.frames = some (X.env :: X.outer) := hst ▸ I3.ok.frames
  have frS : ∀ b, b ∈ frs (X.env :: X.outer) ↔ b ∈ frs X.stack := fun b => by rw [hst]
  have inFr3 : ∀ b ∈ frs X.stack, ∃ o, s3.heap.get? b = some o := fun b hb => by
    have := I3.stack
    obtain ⟨_, o, ho, _⟩ := this.mem hb
    exact ⟨o, ho⟩
  refine wpAny_noteFrame_onW (base := PySem.W.hideAll s'.heap (a :: T :: frs (X.env :: X.outer))) (cls := cls) (a0 := a0) hfr (funFrames_under stk fun b hb => PySem.W.hideAll_none _ (.tail _ (.tail _ hb))) hfL
    ⟨oe, vs, T, oT, ts, y1, ⟨y2, y4⟩, y3, y5, PySem.W.hideAll_none _ (.tail _ (.head _)), y6, y7, y8, y9⟩ (fun b o e => PySem.W.of_hideAll _ e) (PySem.W.hideAll_none _ (.head _)) fun h1 nt => ?_
  obtain ⟨n1, n2, ⟨oe', vs', T', oT', ts', z1, z2, z3, z4, z5, z6, z7, z8, z9⟩, n4⟩ := nt
  -- what stays
  have keep : ∀ b o, s'.heap.get? b = some o → b ≠ a → b ≠ T → b ∉ frs X.stack → h1.get? b = some o := fun b o e h1 h2 h3 => by
    refine n1 b o (PySem.W.hideAll_get _ e fun hm => ?_)
    rcases List.mem_cons.mp hm with z | hm
    · exact h1 z
    · rcases List.mem_cons.mp hm with z | hm
      · exact h2 z
      · exact h3 ((frS b).mp hm)
  have frame : ∀ b o, s'.heap.get? b = some o → b ∈ frs X.stack → ∃ sl, h1.get? b = some { o with slots := sl } := fun b o e hb => by
    obtain ⟨_, o', ho', hd⟩ := stk.mem ((frS b).mpr hb)
    rw [e] at ho'
    cases ho'
    exact n4 b o e hd
  have T'fr : T' ∉ frs X.stack := fun hm => by
    obtain ⟨_, o', ho', hd⟩ := stk.mem ((frS T').mpr hm)
    obtain ⟨sl, e⟩ := n4 T' o' ho' hd
    rw [z7] at e
    cases e
    exact hd _ z8
  have T'in : ∀ o, s'.heap.get? T' = some o → T' = T := fun o e => by
    by_cases hm : T' ∈ a :: T :: frs (X.env :: X.outer)
    · rcases List.mem_cons.mp hm with z | hm
      · exact absurd z z6
      · rcases List.mem_cons.mp hm with z | hm
        · exact z
        · exact absurd ((frS T').mp hm) T'fr
    · rw [PySem.W.hideAll_get _ e hm] at z5
      cases z5
  have T's3 : s3.heap.get? T' = none := by
    cases e : s'.heap.get? T' with
    | some o => rw [T'in o e]; exact y11.1
    | none =>
      by_cases hb : T' ∈ fp
      · obtain ⟨o, ho⟩ := hpn T' hb
        have := (J.pin (T', o) (List.mem_append_right _ ho)).1
        rw [show s'.heap.get? T' = none from e] at this; cases this
      · exact gone_back J.base hb e
  have T'H : H' T' = none := by
    cases e : s'.heap.get? T' with
    | some o => rw [T'in o e]; exact y10
    | none => exact J.hok.nil_ e
  obtain ⟨m, hn, _⟩ := J.loc
  have hn : s'.heap.Ns C m := hn
  obtain ⟨oC, esC, epC, c1, c2, c3, c4⟩ := hn
  have Ca : C ≠ a := fun z => by rw [z, y1] at c1; cases c1; rw [y3] at c2; cases c2
  have CT : C ≠ T := fun z => by rw [z, y7] at c1; cases c1; rw [y8] at c2; cases c2
  have Cfr : C ∉ frs X.stack := fun hb => by
    obtain ⟨o, ho⟩ := inFr3 C hb
    exact absurd (Heap.lt_size ho) (by rw [hC]; exact Nat.lt_irrefl _)
  have CT' : C ≠ T' := fun z => by
    have := keep C oC c1 Ca CT Cfr
    rw [z, z7] at this
    cases this
    rw [z8] at c2; cases c2
  have HC : H' C = none := J.free
  refine ⟨m, ⟨oC, esC, epC, keep C oC c1 Ca CT Cfr, c2, c3, c4⟩, fun h2 hsb cenv _ => ?_⟩
  have h2a : h2.get? a = some oe' := (hsb.2 a Ca.symm).trans z1
  have h2T : h2.get? T' = some oT' := (hsb.2 T' CT'.symm).trans z7
  have c1' : ¬ ((Value.ref T' == Value.none) = true) := by intro q; cases q
  unfold PySem.passOn
  refine wpAny_bind (wpAny_field h2a z3 z4 ?_)
  rw [if_neg c1']
  unfold setFlight
  refine wpAny_bind (wpAny_bind (wpAny_field h2a z3 z4 ?_))
  rw [if_pos (show (Value.ref T' != Value.none) = true from rfl)]
  refine wpAny_setField h2T z8 (lt3 z9) ?_
  generalize (cenv.frame.elim Value.none fun f => rawInt ↑f) = zz
  show wpAny (model X.prog X.w) X.A (throw (.ref a)) _ X.xe { s' with heap := zap h2 T' zz }
  refine wpAny_throw ?_
  -- the def's invariant
  have get3 : ∀ b o, s'.heap.get? b = some o → b ≠ a → b ≠ T → b ∉ frs X.stack → b ≠ C → b ≠ T' → (zap h2 T' zz).get? b = some o := fun b o e g1 g2 g3 g4 g5 =>
    (zap_other g5).trans ((hsb.2 b g4).trans (keep b o e g1 g2 g3))
  have fr3 : ∀ b o, s'.heap.get? b = some o → b ∈ frs X.stack → ∃ sl, (zap h2 T' zz).get? b = some { o with slots := sl } := fun b o e hb => by
    obtain ⟨sl, e'⟩ := frame b o e hb
    exact ⟨sl, (zap_other (fun q => T'fr (by rw [← q]; exact hb))).trans ((hsb.2 b (fun q => Cfr (by rw [← q]; exact hb))).trans e')⟩
  have un : Un (frs X.stack) fp H3 H' s3.heap s'.heap := J.base
  have old : ∀ b o, s3.heap.get? b = some o → b ≠ a ∧ b ≠ T ∧ b ≠ C ∧ b ≠ T' := fun b o e => by
    refine ⟨fun z => ?_, fun z => ?_, fun z => ?_, fun z => ?_⟩
    · rw [z, na.1] at e; cases e
    · rw [z, y11.1] at e; cases e
    · exact absurd (Heap.lt_size e) (by rw [z, hC]; exact Nat.lt_irrefl _)
    · rw [z, T's3] at e; cases e
  have un3 : Un (frs X.stack) fp H3 H' s3.heap (zap h2 T' zz) := ⟨fun b o e n hb hx => by
      obtain ⟨o1, o2, o3, o4⟩ := old b o e
      exact get3 b o (un.keep b o e n hb hx) o1 o2 hb o3 o4,
    fun b o e n hb hx => by
      obtain ⟨sl, e'⟩ := un.slot b o e n hb hx
      obtain ⟨sl', e''⟩ := fr3 b _ e' hb
      exact ⟨sl', e''⟩, un.free, fun b o e hx => by
      obtain ⟨o', e'⟩ := un.there b o e hx
      obtain ⟨o1, o2, o3, o4⟩ := old b o e
      by_cases hb : b ∈ frs X.stack
      · obtain ⟨sl, e''⟩ := fr3 b o' e' hb
        exact ⟨_, e''⟩
      · exact ⟨_, get3 b o' e' o1 o2 hb o3 o4⟩, un.tups, un.frzs, un.tbls⟩
  have hok3 : HOk X.prog X.w H' (zap h2 T' zz) := fun b ob e => by
    refine (J.hok b ob e).stay (fun c v hc r => ?_) (fun _ r => r) fun _ _ r => r
    have hcS : ∃ u, H' c = some u := by
      rcases hc with rfl | hc
      · exact ⟨_, e⟩
      · exact ⟨_, hc⟩
    obtain ⟨u, hu⟩ := hcS
    refine get3 c v r (fun z => ?_) (fun z => ?_) (fun z => ?_) (fun z => ?_) (fun z => ?_)
    · rw [z, ha] at hu; cases hu
    · rw [z, y10] at hu; cases hu
    · rw [stF c z] at hu; cases hu
    · rw [z, HC] at hu; cases hu
    · rw [z, T'H] at hu; cases hu
  have I5 : Inv X pins σ H' { s' with heap := zap h2 T' zz } := I3.call' (s' := { s' with heap := zap h2 T' zz }) (ch := fp) J.os un3 hok3 J.bare fun b hb => ⟨(fpok b hb).2.2.2.1, (fpok b hb).2.1, (fpok b hb).2.2.2.2.1, (fpok b hb).2.2.2.2.2⟩
  have new3 : ∀ b, s3.heap.get? b = none → NewIn X pins b := fun b e => I3.newIn hex e
  obtain ⟨o2, g1, g2⟩ := zap_self (x := zz) h2T z8
  exact tx pins σ H' _ a cls I5 ⟨⟨oe', vs', T', o2, _, a0, zz, (zap_other z6.symm).trans h2a, z2.1, z3, z2.2, z4, z6, g1, g2, at3 z9, T'H, new3 T' T's3⟩, ha, new3 a na.1⟩ q
theorem comp_useR {X : Cx} {E : XK} {x : Str} {px pos : Pos} {iter elt : Expr} {ifs : List Expr} {scope : Scope} {cl : List (Str × Addr)} {caps : List (Str × Nat)} {wi : TI} {tc : TT} {te : TE}
    (hc : X.calm = true) (hi : PI X (.Name x px) iter wi)
    (htc : ∀ C s H fp, PTs (compCx X scope cl (x :: caps.map (·.1)) C s H fp) ifs tc)
    (hte : ∀ C s H fp pn, (∀ b ∈ fp, ∃ o, (b, o) ∈ pn) → PE (compCxR X scope cl (x :: caps.map (·.1)) C s H fp pn E) elt te)
    (tx : ThrowsX X E) (hex : X.ex = []) (hst : X.stack = X.env :: X.outer) (hfL : X.env.frame = some X.env.locals)
    (hclos : closureFor scope X.env = pure cl) (hkind : scope.kind = .function) (hcell : ∀ y ∈ scope.names, y.2 ≠ .cell)
    (hnames : ∀ y ∈ scope.names, y.2 = .local → scope.names.lookup y.1 = some .local) (hx : scope.names.lookup x = some .local)
    (hnd : (x :: caps.map (·.1)).Nodup)
    (hsub : ∀ y c, cl.lookup y = some c → X.env.cells.lookup y = some c)
    (hhas : ∀ y, ((relabel scope X.env).names.lookup y = some .cell ∨ (relabel scope X.env).names.lookup y = some .free) → ∃ c, cl.lookup y = some c)
    (hcap : ∀ p ∈ caps, X.N[p.2]? = some p.1 ∧ (X.env.scope.names.lookup p.1 = some .cell ∨ X.env.scope.names.lookup p.1 = some .free) ∧ (∃ c, cl.lookup p.1 = some c) ∧
      ((relabel scope X.env).names.lookup p.1 = some .cell ∨ (relabel scope X.env).names.lookup p.1 = some .free))
    (hs : ∀ v, foldedSetIterable iter X.env v = pure v := by intro _; rfl) :
    ∀ (use : Option (Value → Sem Unit)) (Q' : Value → Shared → Prop) (pins : List (Addr × Obj)) (s : Shared) (σ : St) (H : Hp) (Q : VK), Inv X pins σ H s → tComp wi caps tc te σ H Q →
      (∀ (p C : Addr) (H' : Hp) (s' : Shared) (m : Str → Option Value), Inv X pins σ H' s' → FpOk X pins H' C → s'.heap.Ns C m → Q (.ref p) H' → compPost (model X.prog X.w) X.A X.xe use Q' (.ref p) C (.ok .next) s') →
      wpAny (model X.prog X.w) X.A (comprehension (.ListComp elt [⟨.Name x px, iter, ifs, 0⟩] scope pos) scope X.env (firstIterPos [⟨.Name x px, iter, ifs, 0⟩] pos) (newList []) (firstAsync [⟨.Name x px, iter, ifs, 0⟩]) (firstIter [⟨.Name x px, iter, ifs, 0⟩] X.env) use) Q' X.xe s := by
  intro use Q' pins s σ H Q I h fin'
  refine wpAny_comprehension_free (use := use) rfl hs hclos hkind hnames (thn (hi pins s σ H _ I h) fun v s1 h1 => thn h1 fun itv s2 h2 => ?_)
  obtain ⟨it, fp, tn, J, H2, rfl, I2, T, st2, f2, hW⟩ := h2
  -- the new list
  refine wpAny_newObj_type ?_
  have hfr : H2 s2.heap.objs.size = none := I2.hok.fresh (Nat.le_refl _)
  obtain ⟨W, ⟨m0, w0⟩, turn⟩ := hW s2.heap.objs.size hfr
  have I3 : Inv X pins σ (upd H2 s2.heap.objs.size (.lst [])) { s2 with heap := s2.heap.push { cls := .type "list", data := .seq ([] : List Value).toArray } } :=
    I2.lnew (its := []) (t' := s2.toks) .nil (Nat.zero_le _)
  generalize hpe : s2.heap.objs.size = p at *
  generalize hs3 : ({ s2 with heap := s2.heap.push { cls := .type "list", data := .seq ([] : List Value).toArray } } : Shared) = s3 at *
  have hp3 : ∀ b ∈ fp, (upd H2 p (.lst [])) b = none := fun b hb => by
    have hb0 := (f2 b hb).1
    rw [upd_ne]
    · exact hb0
    · intro e
      subst e
      obtain ⟨o, ho, _⟩ := T.obj 0 _ st2 b hb
      have z := Heap.lt_size ho
      rw [hpe] at z
      exact Nat.lt_irrefl _ z
  have st3 : tn 0 s3.heap := T.keep 0 _ _ st2 fun b hb o e => by subst hs3; exact Heap.get?_push_of_some _ e
  generalize hH3 : upd H2 p (.lst []) = H3 at *
  refine wpAny_newFunctionEnv hcell (by intro y hy; simp at hy) (fun h4 hns hsb => ?_) hkind
  -- the block's frame at C
  generalize hCe : s3.heap.objs.size = C at *
  have k4 : ∀ b u, s3.heap.get? b = some u → h4.get? b = some u := fun b u e => by
    have hb : b ≠ C := fun z => by
      have y := Heap.lt_size e
      rw [hCe, z] at y
      exact Nat.lt_irrefl _ y
    rw [hsb.2 b hb]
    exact Heap.get?_push_of_some _ e
  have hC3 : H3 C = none := I3.hok.fresh (Nat.le_of_eq hCe)
  have fp3 : ∀ b ∈ fp, FpOk X pins H3 b := fun b hb => ⟨hp3 b hb, (f2 b hb).2⟩
  have fpC : ∀ b ∈ fp, b ≠ C := fun b hb e => by
    subst e
    obtain ⟨o, ho, _⟩ := T.obj 0 _ st3 b hb
    have z := Heap.lt_size ho
    rw [hCe] at z
    exact Nat.lt_irrefl _ z
  have fpS : ∀ b ∈ fp, b ∉ frs X.stack := fun b hb z => by
    rcases List.mem_cons.mp (I3.stkSub b z) with e | e
    · exact (fp3 b hb).2.1 e
    · exact (fp3 b hb).2.2.1 e
  have env_eq : ({ newEnv scope C X.env.globals cl X.env.qual none .none (some X.env) builtinsNs with scope := relabel scope X.env } : Env) = compEnvC scope cl C X.env := rfl
  have cEx : ∀ y c, cl.lookup y = some c → X.env.cells.lookup y = some c := hsub
  have Ok : (compCx X scope cl (x :: caps.map (·.1)) C s3 H3 fp).Ok := by
    refine ⟨I3.ok.mod, ?_, I3.ok.glob, I3.ok.blt, Nat.le_of_eq hCe, fun y z c h1 h2 => I3.ok.inj y z c (cEx y c h1) (cEx z c h2), fun y hy => hhas y hy, (fun y c hf => absurd (show false = true from hf) Bool.false_ne_true), fun hcm => I3.ok.hd hcm, I3.ok.frames, .inl rfl, ?_, fun b o e => I3.bs b o e, Nat.le_trans I3.ok.bsz I3.sz, ?_, fpS, I3.stack, I3.stkFree⟩
    · show (relabel scope X.env).kind = .function
      exact hkind
    · intro b hb
      exact ⟨fpC b hb, fun y c e => (fp3 b hb).2.2.2.2.1 y c (cEx y c e)⟩
    · intro b o e hb
      rcases (fp3 b hb).2.2.2.1 with z | z
      · exact I3.ok.noex b o e z
      · exact absurd (Nat.lt_of_lt_of_le (Heap.lt_size e) (Nat.le_trans I3.ok.bsz z)) (Nat.lt_irrefl _)
  have Inv4 : Inv (compCx X scope cl (x :: caps.map (·.1)) C s3 H3 fp) [] (none :: capSt caps σ) H3 { s3 with heap := h4, toks := s3.toks + ([] : List (Str × Value)).length } := by
    refine ⟨Ok, rfl, I3.bare, Un.kept k4, ⟨_, hns, fun i y v e1 e2 e3 => ?_⟩, fun y c e => ?_, hC3, fun y c e => I3.freeC y c (cEx y c e), fun q hq => absurd (show q ∈ ([] : List (Addr × Obj)) from hq) (by simp), I3.hok.kept k4, ?_⟩
    · cases i with
      | zero => simp at e2
      | succ j =>
        have e1' : (caps.map (·.1))[j]? = some y := by
          have z : (x :: caps.map (·.1))[j + 1]? = some y := e1
          rwa [List.getElem?_cons_succ] at z
        have e2' : (capSt caps σ)[j]? = some (some v) := by
          rwa [List.getElem?_cons_succ] at e2
        rw [List.getElem?_map] at e1'
        unfold capSt at e2'
        rw [List.getElem?_map] at e2'
        cases ec : caps[j]? with
        | none => rw [ec] at e1'; cases e1'
        | some q =>
          rw [ec] at e1' e2'
          have ey : q.1 = y := Option.some.inj e1'
          have ev : (σ[q.2]?).getD none = some v := Option.some.inj e2'
          obtain ⟨hN, hk0, ⟨c, hc0⟩, hk1⟩ := hcap q (List.mem_of_getElem? ec)
          subst ey
          have es : σ[q.2]? = some (some v) := by
            cases eq : σ[q.2]? with
            | none => rw [eq] at ev; cases ev
            | some w0 => rw [eq] at ev; exact congrArg some ev
          obtain ⟨m, hn, hl⟩ := I3.loc
          obtain ⟨u, ru, lk⟩ := hl q.2 q.1 v hN es (by rcases hk0 with z | z; exact .inr (.inl z); exact .inr (.inr z))
          refine ⟨u, ru, ?_⟩
          rcases lk with ⟨hk, _⟩ | ⟨_, c', hc', hcell'⟩
          · exfalso
            have hk' : X.env.scope.names.lookup q.1 = some .local := hk
            rcases hk0 with z | z
            · rw [z] at hk'; cases hk'
            · rw [z] at hk'; cases hk'
          · have ecc : c' = c := by
              have := cEx q.1 c hc0
              rw [this] at hc'
              exact (Option.some.inj hc').symm
            subst ecc
            obtain ⟨o, ho, hd⟩ := hcell'
            exact .inr ⟨hk1, c', hc0, ⟨o, k4 _ _ ho, hd⟩⟩
    · obtain ⟨v', o, ho, hd⟩ := I3.cell y c (cEx y c e)
      exact ⟨v', o, k4 _ _ ho, hd⟩
    · show (none :: capSt caps σ).length = (x :: caps.map (·.1)).length
      simp [capSt]
  have st4 : tn 0 h4 := T.keep 0 _ _ st3 fun b hb o e => k4 b o e
  -- the turns
  let XC := compCx X scope cl (x :: caps.map (·.1)) C s3 H3 fp
  have stat : ∀ {H' : Hp}, (∀ b ∈ fp, H' b = none) → ∀ b ∈ fp, FpOk XC [] H' b := fun hn b hb =>
    ⟨hn b hb, fpC b hb, fpS b hb, .inl hb, fun y c e => (fp3 b hb).2.2.2.2.1 y c (cEx y c e), fun q hq => absurd (show q ∈ ([] : List (Addr × Obj)) from hq) (by simp)⟩
  have fin : ∀ {σ' : St} {H' : Hp} {s' : Shared}, Inv XC [] σ' H' s' → Q (.ref p) H' → compPost (model X.prog X.w) X.A X.xe use Q' (.ref p) C (.ok .next) s' := fun {σ' H' s'} J' q => by
    obtain ⟨m, hn, _⟩ := J'.loc
    have HC : H' C = none := J'.free
    have un : Un (frs X.stack) fp H3 H' s3.heap s'.heap := J'.base
    have I5 : Inv X pins σ H' s' := I3.call' (s' := s') (ch := fp) (J'.os) un J'.hok J'.bare fun b hb => ⟨(fp3 b hb).2.2.2.1, (fp3 b hb).2.1, (fp3 b hb).2.2.2.2.1, (fp3 b hb).2.2.2.2.2⟩
    exact fin' p C H' s' m I5 (I3.fpOk (Nat.le_of_eq hCe) HC) hn q
  have pgx : PG XC (.Name x px) (gName 0) := pg_name hnd rfl (.inl (lookup_relabel_local hx)) (.inr (lookup_relabel_local hx))
  have toE : ∀ {α : Type} {tr : Sem α} {Q1 : α → Shared → Prop} {E1 : Value → Shared → Prop} {sx : Shared}, wpAny (model X.prog X.w) X.A tr Q1 (fun _ _ => False) sx → wpAny (model X.prog X.w) X.A tr Q1 E1 sx := fun {α tr Q1 E1 sx} hh => wpAny_mono hh (fun _ _ z => z) fun _ _ z => z.elim
  let EE : Value → Shared → Prop := notedBy (model X.prog X.w) X.A (compEnvC scope cl C X.env) (fun e s'' => compPost (model X.prog X.w) X.A X.xe use Q' (.ref p) C (.error e) s'')
  have loop : ∀ s5 : Shared, s5 = { s3 with heap := h4, toks := s3.toks + ([] : List (Str × Value)).length } →
      codeAny (model X.prog X.w) X.A (.compLoop (.ListComp elt [⟨.Name x px, iter, ifs, 0⟩] scope pos) 0 (.ref it) (.ref p) (compEnvC scope cl C X.env)) (compPost (model X.prog X.w) X.A X.xe use Q' (.ref p) C) s5 := by
    rintro s5 rfl
    refine codeAny_loop rfl (fun n s' => ∃ i v0 ys H', Inv XC [] (v0 :: capSt caps σ) H' s' ∧ tn i s'.heap ∧ (∀ b ∈ fp, H' b = none) ∧ W i n ys H') (fun n s6 hI => ?_) m0 ⟨0, none, [], H3, Inv4, st4, hp3, by rw [← hH3] at *; exact w0⟩
    obtain ⟨i, v0, ys, H6, I6, st6, fr6, w6⟩ := hI
    show wpAny _ X.A ((compTurn (.ListComp elt [⟨.Name x px, iter, ifs, 0⟩] scope pos) 0 (.ref it) (.ref p) (compEnvC scope cl C X.env)).onRaise (fun e => do noteFrame e (compEnvC scope cl C X.env); theTreesLotGoes e)) _ _ s6
    refine wpAny_noted ?_
    rw [compTurn_list]
    refine (show wpAny (model X.prog X.w) X.A _ _ EE s6 from wpAny_bind (wpAny_standAt (wpAny_bind ?_)))
    rcases turn i n ys H6 w6 with ⟨stop, qn⟩ | ⟨go, step⟩
    · refine thn (T.done XC rfl rfl rfl hc i [] s6 _ H6 _ I6 (stat fr6) st6 stop) fun r s7 ⟨hr, I7⟩ => ?_
      subst hr
      exact wpAny_pure (fin I7 qn)
    · refine thn (T.item XC rfl rfl rfl hc i [] s6 _ H6 EE I6 (stat fr6) st6 go) fun r s7 ⟨u, hr, h7⟩ => ?_
      subst hr
      refine wpAny_bind (thn h7 fun _ s8 ⟨xv, H8, I8, r8, y8, st8, fr8⟩ => ?_)
      have I8' := I8.pinned (stat fr8) (T.obj _ _ st8)
      refine wpAny_bind (thn (toE (pgx _ s8 _ H8 xv u (fun σ' H' => σ' = some xv :: capSt caps σ ∧ H' = H8) I8' r8 ⟨rfl, rfl⟩)) fun _ s9 ⟨σ9, H9, I9, e9, e9'⟩ => ?_)
      subst e9
      subst e9'
      have again : ∀ {s10 : Shared} {H10 : Hp} {zs : List V}, Inv XC ([] ++ pinsAt fp s8.heap) (some xv :: capSt caps σ) H10 s10 → (∃ m', m' < n ∧ W (i + 1) m' zs H10) →
          ∃ m, m < n ∧ ∃ i v0 ys H', Inv XC [] (v0 :: capSt caps σ) H' s10 ∧ tn i s10.heap ∧ (∀ b ∈ fp, H' b = none) ∧ W i m ys H' := fun {s10 H10 zs} I10 ⟨m', hm, w10⟩ => by
        refine ⟨m', hm, i + 1, some xv, zs, H10, I10.unpinned, T.keep _ _ _ st8 fun b hb o e => (I10.pin (b, o) (List.mem_append_right _ (List.mem_append_right _ (mem_pinsAt hb e)))).1, fun b hb => ?_, w10⟩
        obtain ⟨o, e, d⟩ := T.obj _ _ st8 b hb
        exact (I10.pin (b, o) (List.mem_append_right _ (List.mem_append_right _ (mem_pinsAt hb e)))).2.1
      refine wpAny_bind (thn (toE (htc C s3 H3 fp _ s9 _ H9 _ I9 (step xv H9 y8))) fun ok s10 ⟨H10, I10, q10⟩ => ?_)
      cases ok with
      | false => exact wpAny_pure ⟨rfl, again I10 q10⟩
      | true =>
        have I10' : Inv (compCx X scope cl (x :: caps.map (·.1)) C s3 H3 fp) (pinsAt fp s8.heap) (some xv :: capSt caps σ) H10 s10 := I10
        have hpn : ∀ b ∈ fp, ∃ o, (b, o) ∈ pinsAt fp s8.heap := fun b hb => by
          obtain ⟨o, e, _⟩ := T.obj _ _ st8 b hb
          exact ⟨o, mem_pinsAt hb e⟩
        refine wpAny_bind (wpAny_bind (thn (wpAny_mono (hte C s3 H3 fp (pinsAt fp s8.heap) hpn _ s10 _ H10 _ (I10'.toR (E := E)) q10) (fun _ _ z => z) fun e s' hxe => ?_) fun y s11 ⟨yv, H11, J11, r11, hl11, hz11, q11⟩ => ?_))
        · obtain ⟨a, cls, σ', H', rfl, J, fl, qe⟩ := hxe
          exact comp_error tx hex hst hfL I3 hCe fp3 hpn J fl qe
        have I11 : Inv XC ([] ++ pinsAt fp s8.heap) (some xv :: capSt caps σ) H11 s11 := J11.ofR
        refine wpAny_bind (thn (toE (mt_append (X := XC) _ s11 _ H11 (.ref p) [yv] (.ref p) [y] (fun _ H' => H' = upd H11 p (.lst (ys ++ [yv]))) I11 rfl (.cons r11 .nil) ⟨p, ys, yv, rfl, rfl, hl11, hz11, rfl⟩)) fun _ s12 ⟨_, H12, I12, _, e12⟩ => ?_)
        subst e12
        exact wpAny_pure (wpAny_pure ⟨rfl, again I12 q11⟩)
  exact codeAny_compStart_list (loop _ rfl) (T.self _ 0 _ _ _ st4 (loop _ rfl))


/-- [e for x in ..], e may raise; no name of the def is read -/
theorem pe_compR0 {X : Cx} {E : XK} {x : Str} {px pos : Pos} {iter elt : Expr} {ifs : List Expr} {scope : Scope} {wi : TI} {tc : TT} {te : TE}
    (hc : X.calm = true) (hi : PI X (.Name x px) iter wi)
    (htc : ∀ C s H fp, PTs (compCx X scope [] [x] C s H fp) ifs tc) (hte : ∀ C s H fp pn, (∀ b ∈ fp, ∃ o, (b, o) ∈ pn) → PE (compCxR X scope [] [x] C s H fp pn E) elt te)
    (tx : ThrowsX X E) (hex : X.ex = []) (hst : X.stack = X.env :: X.outer) (hfL : X.env.frame = some X.env.locals)
    (hkind : scope.kind = .function) (hcell : ∀ y ∈ scope.names, y.2 ≠ .cell) (hfree : ∀ y ∈ scope.names, y.2 ≠ .free)
    (hnames : ∀ y ∈ scope.names, y.2 = .local → scope.names.lookup y.1 = some .local) (hx : scope.names.lookup x = some .local)
    (hs : ∀ v, foldedSetIterable iter X.env v = pure v := by intro _; rfl) :
    PE X (.ListComp elt [⟨.Name x px, iter, ifs, 0⟩] scope pos) (tComp wi [] tc te) := by
  intro pins s σ H Q I h
  rw [eval_ListComp]
  refine comp_useR (cl := []) (caps := []) (E := E) hc hi htc hte tx hex hst hfL (closureFor_none hfree) hkind hcell hnames hx (by simp) (fun y c h => by simp at h) (fun y h => ?_) (fun p hp => by simp at hp) hs none _ pins s σ H Q I h fun p C H' s' m I' fC hn q => ?_
  · rw [relabel_same hfree] at h
    rcases h with h | h
    · exact absurd rfl (hcell _ (PySem.mem_of_lookup h))
    · exact absurd rfl (hfree _ (PySem.mem_of_lookup h))
  · refine ⟨m, hn, fun h' hsb => ?_⟩
    obtain ⟨f0, f1, _, f3, f4, f5⟩ := fC
    exact ⟨.ref p, H', I'.turned (it := C) (t' := s'.toks) (fun b o hb e => (hsb.2 b hb).trans e) f0 f1 f3 f4 f5, rfl, q⟩
end L2
set_option Elab.async false
set_option linter.all false
set_option maxRecDepth 100000
set_option maxHeartbeats 4000000
namespace L2
open PySem PySem.Spec PyProof.Rows PySem.Builtin.Str PySem.SeqAt
section
variable {X : Cx}
theorem op_le_str : OpR X (compareOp .LtE) (fun x y H Q => ∃ i j, x = .str i ∧ y = .str j ∧ Q (.bl (!decide (j.cps.toList < i.cps.toList))) H) := by
  intro pins s σ H x y v u Q I rx ry h
  obtain ⟨i, j, rfl, rfl, q⟩ := h
  obtain ⟨t, rfl⟩ := rx
  obtain ⟨t', rfl⟩ := ry
  exact PySem.P.le_str (fin_bl I q rfl)
def rEqNil (neg : Bool) : R2 := fun x y H Q => ∃ a b xs, x = .ref a ∧ y = .ref b ∧ H a = some (.lst xs) ∧ H b = some (.lst []) ∧ Q (.bl (if neg then !xs.isEmpty else xs.isEmpty)) H
theorem nil_len {xs : List V} {its : List Value} (r : Vals xs its) (h : xs.isEmpty = false) : (its.toArray.size != (#[] : Array Value).size) = true := by
  cases r with
  | nil => cases h
  | cons _ _ => simp
theorem op_eq_nil (hu : X.A.units < cLine) : OpR X (compareOp .Eq) (rEqNil false) := by
  intro pins s σ H x y v u Q I rx ry h
  obtain ⟨a, b, xs, rfl, rfl, ha, hb, q⟩ := h
  cases rx; cases ry
  obtain ⟨its, r1, t1, z1⟩ := I.list (SqL.of (K := X.K) ha)
  obtain ⟨jts, r2, t2, z2⟩ := I.list (SqL.of (K := X.K) hb)
  cases r2
  cases hx : xs.isEmpty with
  | true =>
    have : xs = [] := List.isEmpty_iff.mp hx
    subst this
    cases r1
    refine RcAt.lists (A := X.A) (e := fun _ => true) t1.isList t2.isList rfl hu (fun j h1 _ => absurd h1 (by simp)) X.prog X.w X.xe _ ?_
    rw [all_true]
    exact ⟨.bl true, H, I, rfl, q⟩
  | false =>
    rw [hx] at q
    exact RcAt.lists_lengths (A := X.A) t1.isList t2.isList (nil_len r1 hx) hu X.prog X.w X.xe _ ⟨.bl false, H, I, rfl, q⟩
theorem op_ne_nil (hu : X.A.units < cLine) : OpR X (compareOp .NotEq) (rEqNil true) := by
  intro pins s σ H x y v u Q I rx ry h
  obtain ⟨a, b, xs, rfl, rfl, ha, hb, q⟩ := h
  cases rx; cases ry
  obtain ⟨its, r1, t1, z1⟩ := I.list (SqL.of (K := X.K) ha)
  obtain ⟨jts, r2, t2, z2⟩ := I.list (SqL.of (K := X.K) hb)
  cases r2
  cases hx : xs.isEmpty with
  | true =>
    have : xs = [] := List.isEmpty_iff.mp hx
    subst this
    cases r1
    refine RcNeAt.lists (A := X.A) (e := fun _ => true) t1.isList t2.isList rfl hu (fun j h1 _ => absurd h1 (by simp)) X.prog X.w X.xe _ ?_
    rw [all_true]
    exact ⟨.bl false, H, I, rfl, q⟩
  | false =>
    rw [hx] at q
    exact RcNeAt.lists_lengths (A := X.A) t1.isList t2.isList (nil_len r1 hx) hu X.prog X.w X.xe _ ⟨.bl true, H, I, rfl, q⟩
/-- None in a list of Nones and tuples -/
def isNon : V → Bool
  | .non => true
  | _ => false
def rInNone (K : PySem.W.Frag) : R2 := fun x y H Q => ∃ p xs, x = .non ∧ y = .ref p ∧ SqL K H p xs ∧ (∀ z ∈ xs, z = .non ∨ ∃ t ys, z = .ref t ∧ SqT K H t ys) ∧ Q (.bl (xs.any isNon)) H
def isNonU : Value → Bool
  | .none => true
  | _ => false
theorem any_non {xs : List V} {us : List Value} (r : Vals xs us) (h : ∀ z ∈ xs, z = .non ∨ ∃ t, z = .ref t) : us.any isNonU = xs.any isNon := by
  induction r with
  | nil => rfl
  | @cons a b l m r1 rr ih =>
    rw [List.any_cons, List.any_cons, ih fun z hz => h z (List.mem_cons_of_mem _ hz)]
    rcases h a (by simp) with rfl | ⟨t, rfl⟩
    · cases r1; rfl
    · cases r1; rfl
theorem mem_non {A : Around} (hA : A.units < cLine) {s : Shared} {xs : List V} {us : List Value} (r : Vals xs us) (h : ∀ z ∈ xs, z = .non ∨ ∃ t its, z = .ref t ∧ s.heap.IsTuple t its) : ∀ u ∈ us, SeqAt.EqAt A s u .none (isNonU u) := by
  induction r with
  | nil => intro u hu; cases hu
  | @cons a b l m r1 rr ih =>
    intro u hu
    rcases List.mem_cons.mp hu with rfl | hu
    · rcases h a (by simp) with rfl | ⟨t, its, rfl, ht⟩
      · cases r1; exact SeqAt.EqAt.same _
      · cases r1; exact SeqAt.EqAt.tuple_none ht hA
    · exact ih (fun z hz => h z (List.mem_cons_of_mem _ hz)) u hu
theorem op_in_none (hu : X.A.units + 1 < cLine) : OpR X (compareOp .In) (rInNone X.K) := by
  intro pins s σ H x y v u Q I rx ry h
  obtain ⟨p, xs, rfl, rfl, hq, hx, q⟩ := h
  cases rx
  cases ry
  obtain ⟨its, r, pl, hz⟩ := I.list hq
  refine SeqAt.in_listAt isNonU pl.isList (fun w hw => mem_non (by first | exact hu | omega) r (fun z hz => ?_) w (by simpa using hw)) ⟨.bl _, H, I, rfl, ?_⟩
  · rcases hx z hz with e | ⟨t, ys, e, ht⟩
    · exact .inl e
    · obtain ⟨jts, _, pt, _⟩ := I.tuple ht
      exact .inr ⟨t, _, e, pt⟩
  · rw [show its.toArray.any isNonU = its.any isNonU by simp, any_non r fun z hz => (hx z hz).imp id fun ⟨t, _, e, _⟩ => ⟨t, e⟩]
    exact q
end
theorem kit_ofF {K : PySem.W.Frag} {C X : Addr} {cd : ClassData} (h1 : PySem.W.clsIn K X = some cd) (h2 : PySem.W.typeIn K (.ref X) = some (.type "type")) (me : PySem.W.subIn K (.ref C) (.ref C) = some true) (h3 : PySem.W.subIn K (.ref C) (.ref X) = some false) :
    PySem.W.kitOne K (.ref C) (.ref X) = some false := by
  unfold PySem.W.kitOne
  have ne : ¬ (Value.ref C == Value.ref X) = true := fun e => by
    have e' : C = X := Value.ref.inj (eq_of_beq e)
    rw [← e', me] at h3
    cases h3
  rw [if_neg ne]
  show (if ((PySem.W.clsIn K X).isSome && PySem.W.typeIn K (.ref X) == some (.type "type")) = true then PySem.W.subIn K (.ref C) (.ref X) else none) = some false
  rw [h1, h2, if_pos (by simp), h3]
theorem kit_ty {K : PySem.W.Frag} {C : Addr} {T : String} {b : Bool} (h1 : PySem.W.kitMeta T = true) (h3 : PySem.W.subIn K (.ref C) (.type T) = some b) : PySem.W.kitOne K (.ref C) (.type T) = some b := by
  unfold PySem.W.kitOne
  rw [if_neg (by intro z; cases eq_of_beq z)]
  show (if PySem.W.kitMeta T = true then PySem.W.subIn K (.ref C) (.type T) else none) = some b
  rw [if_pos h1, h3]
theorem boot_ValueError : bootBuiltins "ValueError" = some (.type "ValueError") := by decide +kernel
end L2
set_option Elab.async false
set_option linter.all false
set_option maxRecDepth 100000
set_option maxHeartbeats 4000000
namespace Ex
open PySem L2
/-! ### expressions as trees, and their words -/
inductive Tr where
  | num (i : Int) | box (x : Str) | cell (t : Tr) | two (w : Str) (l r : Tr)
namespace Tr
def size : Tr → Nat
  | num _ => 1
  | box _ => 1
  | cell t => t.size + 1
  | two _ l r => l.size + r.size + 1
def depth : Tr → Nat
  | num _ => 1
  | box _ => 1
  | cell t => t.depth + 1
  | two _ l r => max l.depth r.depth + 1
def words : Tr → List Str
  | num i => [Str.ofString (toString i)]
  | box x => [x]
  | cell t => "cell" :: t.words
  | two w l r => w :: (l.words ++ r.words)
end Tr
def twoWords : List Str := ["plus", "minus", "times", "over", "rest", "less", "same"]
def langWords : List Str := ["skip", "set", "put", "ask", "draw", "tell", "if", "else", "end", "while", "call", "fun", "main", "give", "cell", "plus", "minus", "times", "over", "rest", "less", "same"]
def Letters (x : Str) : Prop := ∀ c ∈ x.cps.toList, 97 ≤ c ∧ c ≤ 122
structure GoodName (x : Str) : Prop where
  pos : 1 ≤ x.length
  short : x.length ≤ 6
  let_ : Letters x
  free : x ∉ langWords
def Tr.Ok : Tr → Prop
  | .num i => 0 ≤ i ∧ i < 1000000
  | .box x => GoodName x
  | .cell t => t.Ok
  | .two w l r => w ∈ twoWords ∧ l.Ok ∧ r.Ok
def blank : Str := ⟨#[32]⟩
theorem blank_eq : (" " : Str) = blank := by decide +kernel
def Tr.text (t : Tr) : Str := Txt.join " " t.words
theorem Tr.words_len : ∀ t : Tr, t.words.length = t.size
  | .num _ => rfl
  | .box _ => rfl
  | .cell t => by show t.words.length + 1 = _; rw [words_len t]; rfl
  | .two _ l r => by show (l.words ++ r.words).length + 1 = _; rw [List.length_append, words_len l, words_len r]; rfl
theorem Tr.size_pos : ∀ t : Tr, 1 ≤ t.size
  | .num _ => Nat.le_refl _
  | .box _ => Nat.le_refl _
  | .cell t => Nat.le_add_left _ _
  | .two _ l r => Nat.le_add_left _ _
theorem Tr.depth_pos : ∀ t : Tr, 1 ≤ t.depth
  | .num _ => Nat.le_refl _
  | .box _ => Nat.le_refl _
  | .cell t => Nat.le_add_left _ _
  | .two _ l r => Nat.le_add_left _ _
theorem Tr.words_ne (t : Tr) : t.words ≠ [] := fun e => by
  have h := t.words_len
  rw [e] at h
  have := t.size_pos
  simp at h
  omega
/-! ### numbers as texts -/
theorem toDigits_step {m : Nat} (h : ¬ m < 10) : Nat.toDigits 10 m = Nat.toDigits 10 (m / 10) ++ [Nat.digitChar (m % 10)] := by
  have hm : m % 10 < 10 := Nat.mod_lt m (by decide)
  have t : Nat.toDigits 10 (m / 10) ++ Nat.toDigits 10 (m % 10) = Nat.toDigits 10 (10 * (m / 10) + m % 10) := Nat.toDigits_append_toDigits (by decide) (by omega) hm
  rw [Nat.div_add_mod, Nat.toDigits_of_lt_base hm] at t
  exact t.symm
theorem digit_code : ∀ d : Nat, d < 10 → (Nat.digitChar d).toNat = 48 + d := by decide
theorem head_digit (m : Nat) : 0 < m → ∃ c r, (Nat.toDigits 10 m).map Char.toNat = c :: r ∧ 49 ≤ c := by
  induction m using Nat.strongRecOn with
  | _ m ih =>
    intro h0
    by_cases h : m < 10
    · rw [Nat.toDigits_of_lt_base h]
      exact ⟨_, [], rfl, by rw [digit_code m h]; omega⟩
    · obtain ⟨c, r, e, hc⟩ := ih (m / 10) (by omega) (by omega)
      rw [toDigits_step h, List.map_append, e]
      exact ⟨c, _, rfl, hc⟩
structure NumText (i : Int) (x : Str) : Prop where
  pos : 1 ≤ x.length
  short : x.length ≤ 6
  dig : ∀ c ∈ x.cps.toList, 48 ≤ c ∧ c ≤ 57
  lead : x = "0" ∨ ∃ c r, x.cps.toList = c :: r ∧ 49 ≤ c
  reads : intText? x = some i
theorem len_cps (x : Str) : x.length = x.cps.toList.length := by simp [Str.length]
theorem numText {i : Int} (h0 : 0 ≤ i) (h1 : i < 1000000) : NumText i (Str.ofString (toString i)) := by
  have hr := PySem.W.KIN.num_reads h0 (by omega)
  obtain ⟨m, rfl⟩ := Int.eq_ofNat_of_zero_le h0
  have hs := PySem.W.KIN.signs_num m
  have hm : m < 10 ^ 6 := by omega
  have hl : (Str.ofString (toString ((m : Nat) : Int))).length = (Nat.toDigits 10 m).length := by
    rw [len_cps, hs, List.length_map]
  have ge := PyProof.Rows.tDigits_len_ge 10 m
  have le := PyProof.Rows.digits10_le (k := 6) (by decide) hm
  refine ⟨by omega, by omega, fun c hc => ?_, ?_, hr⟩
  · rw [hs] at hc
    obtain ⟨ch, hch, rfl⟩ := List.mem_map.mp hc
    exact PyProof.Rows.digit_range (Nat.isDigit_of_mem_toDigits (by decide) (by decide) hch)
  · by_cases hz : m = 0
    · subst hz
      exact .inl (by decide +kernel)
    · rw [hs]
      exact .inr (head_digit m (by omega))
/-! ### words joined by blanks, and split again -/
theorem join_codes (a b : Str) (r : List Str) : (Str.join blank (a :: b :: r)).cps.toList = a.cps.toList ++ 32 :: (Str.join blank (b :: r)).cps.toList := by
  show (a ++ blank ++ Str.join blank (b :: r)).cps.toList = _
  rw [PySem.W.KT.app_list, PySem.W.KT.app_list]
  simp [blank]
theorem cut_unique {a c b d : List Nat} (ha : 32 ∉ a) (hc : 32 ∉ c) (h : a ++ 32 :: b = c ++ 32 :: d) : a = c ∧ b = d := by
  induction a generalizing c with
  | nil =>
    cases c with
    | nil => simp at h; exact ⟨rfl, h⟩
    | cons x r => simp at h; exact absurd (by rw [← h.1]; exact List.mem_cons_self) hc
  | cons x a ih =>
    cases c with
    | nil => simp at h; exact absurd (by rw [h.1]; exact List.mem_cons_self) ha
    | cons y c =>
      simp only [List.cons_append, List.cons.injEq] at h
      obtain ⟨e1, e2⟩ := ih (fun z => ha (List.mem_cons_of_mem _ z)) (fun z => hc (List.mem_cons_of_mem _ z)) h.2
      exact ⟨by rw [h.1, e1], e2⟩
theorem join_inj : ∀ (ws vs : List Str), ws ≠ [] → vs ≠ [] → (∀ w ∈ ws, 32 ∉ w.cps.toList) → (∀ w ∈ vs, 32 ∉ w.cps.toList) → Str.join blank ws = Str.join blank vs → ws = vs
  | [], _, h, _, _, _, _ => absurd rfl h
  | _ :: _, [], _, h, _, _, _ => absurd rfl h
  | [a], [b], _, _, _, _, e => by rw [show a = b from e]
  | [a], b :: c :: r, _, _, ha, _, e => by
    have e' := congrArg (fun x => x.cps.toList) e
    simp only [join_codes] at e'
    have : 32 ∈ a.cps.toList := by
      rw [show (Str.join blank [a]).cps.toList = a.cps.toList from rfl] at e'
      rw [e']; simp
    exact absurd this (ha a (by simp))
  | a :: b :: r, [c], _, _, _, hc, e => by
    have e' := congrArg (fun x => x.cps.toList) e
    simp only [join_codes] at e'
    have : 32 ∈ c.cps.toList := by
      rw [show (Str.join blank [c]).cps.toList = c.cps.toList from rfl] at e'
      rw [← e']; simp
    exact absurd this (hc c (by simp))
  | a :: b :: r, c :: d :: q, _, _, ha, hc, e => by
    have e' := congrArg (fun x => x.cps.toList) e
    simp only [join_codes] at e'
    obtain ⟨e1, e2⟩ := cut_unique (ha a (by simp)) (hc c (by simp)) e'
    have ih := join_inj (b :: r) (d :: q) (by simp) (by simp) (fun w hw => ha w (List.mem_cons_of_mem _ hw)) (fun w hw => hc w (List.mem_cons_of_mem _ hw)) (PyProof.Rows.ext_toList e2)
    rw [PyProof.Rows.ext_toList e1, ih]
theorem split_join {ws : List Str} (h0 : ws ≠ []) (hf : ∀ w ∈ ws, 32 ∉ w.cps.toList) : Txt.split (Txt.join " " ws) " " = ws := by
  rw [blank_eq]
  have ej : Txt.join blank ws = Str.join blank ws := StrLaws.glued_eq_join blank ws
  rw [ej]
  refine join_inj _ _ ?_ h0 (StrLaws.split_free _ 32) hf (StrLaws.join_split _ _)
  intro e
  have := PyProof.Rows.split_pos (Str.join blank ws) blank
  rw [e] at this
  exact absurd this (by decide)
theorem join_app : ∀ (a b : List Str), a ≠ [] → b ≠ [] → Str.join blank (a ++ b) = Str.join blank a ++ blank ++ Str.join blank b
  | [], _, h, _ => absurd rfl h
  | [x], [], _, h => absurd rfl h
  | [x], y :: r, _, _ => rfl
  | x :: y :: r, b, _, hb => by
    have ih := join_app (y :: r) b (by simp) hb
    show x ++ blank ++ Str.join blank (y :: (r ++ b)) = (x ++ blank ++ Str.join blank (y :: r)) ++ blank ++ Str.join blank b
    rw [show y :: (r ++ b) = (y :: r) ++ b from rfl, ih]
    apply PyProof.Rows.ext_toList
    simp [PySem.W.KT.app_list]
theorem text_eq (t : Tr) : t.text = Str.join blank t.words := by
  unfold Tr.text
  rw [blank_eq]
  exact StrLaws.glued_eq_join blank _
theorem text_cell (t : Tr) : Txt.join " " ["cell", t.text] = (Tr.cell t).text := by
  rw [text_eq, text_eq, blank_eq, show Txt.join blank ["cell", Str.join blank t.words] = Str.join blank ["cell", Str.join blank t.words] from StrLaws.glued_eq_join _ _]
  show ("cell" : Str) ++ blank ++ Str.join blank t.words = Str.join blank ((["cell"] : List Str) ++ t.words)
  rw [join_app _ _ (by simp) t.words_ne]
  rfl
theorem text_two (w : Str) (l r : Tr) : Txt.join " " [w, l.text, r.text] = (Tr.two w l r).text := by
  rw [text_eq, text_eq, text_eq, blank_eq, show Txt.join blank [w, Str.join blank l.words, Str.join blank r.words] = Str.join blank [w, Str.join blank l.words, Str.join blank r.words] from StrLaws.glued_eq_join _ _]
  show w ++ blank ++ (Str.join blank l.words ++ blank ++ Str.join blank r.words) = Str.join blank ([w] ++ (l.words ++ r.words))
  rw [join_app _ _ (by simp) (by simp [l.words_ne]), join_app _ _ l.words_ne r.words_ne]
  rfl
theorem text_num (i : Int) : (Tr.num i).text = Str.ofString (toString i) := by rw [text_eq]; rfl
theorem text_box (x : Str) : (Tr.box x).text = x := by rw [text_eq]; rfl
/-! ### each word is short and has no blank -/
def ShortW (w : Str) : Prop := 1 ≤ w.length ∧ w.length ≤ 6 ∧ 32 ∉ w.cps.toList
theorem two_short : ∀ w ∈ twoWords, ShortW w := by
  unfold ShortW twoWords
  decide +kernel
theorem cell_short : ShortW "cell" := by unfold ShortW; decide +kernel
theorem Tr.short : ∀ {t : Tr}, t.Ok → ∀ w ∈ t.words, ShortW w
  | .num i, h, w, hw => by
    obtain rfl := List.mem_singleton.mp hw
    have n := numText h.1 h.2
    exact ⟨n.pos, n.short, fun z => by have := n.dig 32 z; omega⟩
  | .box x, h, w, hw => by
    obtain rfl := List.mem_singleton.mp hw
    have h' : GoodName w := h
    exact ⟨h'.pos, h'.short, fun z => by have := h'.let_ 32 z; omega⟩
  | .cell t, h, w, hw => by
    rcases List.mem_cons.mp hw with rfl | hw
    · exact cell_short
    · exact Tr.short (t := t) h w hw
  | .two v l r, h, w, hw => by
    obtain ⟨h1, h2, h3⟩ : v ∈ twoWords ∧ l.Ok ∧ r.Ok := h
    rcases List.mem_cons.mp hw with rfl | hw
    · exact two_short _ h1
    · rcases List.mem_append.mp hw with z | z
      · exact Tr.short h2 w z
      · exact Tr.short h3 w z
theorem split_text {t : Tr} (h : t.Ok) : Txt.split t.text " " = t.words := split_join t.words_ne fun w hw => (t.short h w hw).2.2
theorem join_le : ∀ (ws : List Str), (∀ w ∈ ws, ShortW w) → (Str.join blank ws).length ≤ 7 * ws.length
  | [], _ => by decide
  | [x], h => by
    have := (h x (by simp)).2.1
    show x.length ≤ 7 * 1
    omega
  | x :: y :: r, h => by
    have ih := join_le (y :: r) fun w hw => h w (List.mem_cons_of_mem _ hw)
    have hx := (h x (by simp)).2.1
    show (x ++ blank ++ Str.join blank (y :: r)).length ≤ _
    rw [Str.length_append, Str.length_append]
    have : blank.length = 1 := rfl
    simp only [List.length_cons] at ih ⊢
    omega
theorem Tr.text_le {t : Tr} (h : t.Ok) : t.text.length ≤ 7 * t.size := by
  rw [text_eq, ← t.words_len]
  exact join_le _ (t.short h)
end Ex
set_option Elab.async false
set_option linter.all false
set_option maxRecDepth 100000
set_option maxHeartbeats 4000000
namespace Ex
open PySem L2
/-! ### what single words are -/
def madeOf (t g : Str) : Bool := t.cps.toList.all fun c => decide (c ∈ g.cps.toList)
def isNumT (t : Str) : Bool := (decide (1 ≤ t.length) && decide (t.length ≤ 6) && madeOf t "0123456789") && (decide (V.str t = V.str "0") || !Txt.startswith t "0")
def isNameT (t : Str) : Bool := (decide (1 ≤ t.length) && decide (t.length ≤ 6)) && madeOf t "abcdefghijklmnopqrstuvwxyz" && !inV (.str t) (langWords.map V.str)
def leafT (w : Str) : Option Tr := if isNumT w = true then (intText? w).map Tr.num else if isNameT w = true then some (.box w) else none
/-- reading: what is read of the words, and what is left -/
def rd : Nat → List Str → Option (Tr × List Str)
  | 0, _ => none
  | _ + 1, [] => none
  | n + 1, w :: r =>
    if w = "cell" then (rd n r).map fun x => (.cell x.1, x.2)
    else if w ∈ twoWords then (rd n r).bind fun x => (rd n x.2).map fun y => (.two w x.1 y.1, y.2)
    else (leafT w).map fun t => (t, r)
/-- the words of twos are words of twos -/
def Tr.Wd : Tr → Prop
  | .num _ => True
  | .box _ => True
  | .cell t => t.Wd
  | .two w l r => w ∈ twoWords ∧ l.Wd ∧ r.Wd
theorem Tr.Ok.wd : ∀ {t : Tr}, t.Ok → t.Wd
  | .num _, _ => trivial
  | .box _, _ => trivial
  | .cell t, h => Tr.Ok.wd (t := t) h
  | .two _ l r, ⟨h1, h2, h3⟩ => ⟨h1, Tr.Ok.wd h2, Tr.Ok.wd h3⟩
theorem Tr.depth_le_size : ∀ t : Tr, t.depth ≤ t.size
  | .num _ => Nat.le_refl _
  | .box _ => Nat.le_refl _
  | .cell t => Nat.succ_le_succ (depth_le_size t)
  | .two _ l r => by
    have h1 := depth_le_size l
    have h2 := depth_le_size r
    show max l.depth r.depth + 1 ≤ l.size + r.size + 1
    omega
theorem leaf_size {w : Str} {t : Tr} (h : leafT w = some t) : t.size = 1 ∧ t.depth = 1 ∧ t.Wd := by
  unfold leafT at h
  split at h
  · cases e : intText? w with
    | none => rw [e] at h; cases h
    | some i => rw [e] at h; cases h; exact ⟨rfl, rfl, trivial⟩
  · split at h
    · cases h; exact ⟨rfl, rfl, trivial⟩
    · cases h
theorem rd_facts : ∀ (n : Nat) (l : List Str) (t : Tr) (r : List Str), rd n l = some (t, r) → r = l.drop t.size ∧ t.size ≤ l.length ∧ t.depth ≤ n ∧ t.Wd
  | 0, _, _, _, h => by simp [rd] at h
  | n + 1, [], _, _, h => by simp [rd] at h
  | n + 1, w :: q, t, r, h => by
    rw [rd] at h
    split at h
    · cases e : rd n q with
      | none => rw [e] at h; cases h
      | some x =>
        rw [e] at h
        obtain ⟨x1, x2⟩ := x
        cases h
        obtain ⟨a, b, c, d⟩ := rd_facts n q x1 _ e
        exact ⟨a, Nat.succ_le_succ b, Nat.succ_le_succ c, d⟩
    · split at h
      · rename_i hw
        cases e : rd n q with
        | none => rw [e] at h; cases h
        | some x =>
          rw [e] at h
          obtain ⟨x1, x2⟩ := x
          cases e2 : rd n x2 with
          | none => simp only [Option.bind_some, e2] at h; cases h
          | some y =>
            obtain ⟨y1, y2⟩ := y
            simp only [Option.bind_some, e2, Option.map_some] at h
            cases h
            obtain ⟨a, b, c, d⟩ := rd_facts n q x1 x2 e
            obtain ⟨a', b', c', d'⟩ := rd_facts n x2 y1 _ e2
            subst a
            rw [List.length_drop] at b'
            refine ⟨?_, ?_, ?_, hw, d, d'⟩
            · rw [a', List.drop_drop]
              rfl
            · show x1.size + y1.size + 1 ≤ q.length + 1
              omega
            · show max x1.depth y1.depth + 1 ≤ n + 1
              omega
      · cases e : leafT w with
        | none => rw [e] at h; cases h
        | some u =>
          rw [e] at h
          cases h
          obtain ⟨s1, d1, w1⟩ := leaf_size e
          rw [s1, d1]
          exact ⟨rfl, Nat.succ_le_succ (Nat.zero_le _), Nat.succ_le_succ (Nat.zero_le _), w1⟩
theorem rd_deep : ∀ (n m : Nat) (l : List Str) (t : Tr) (r : List Str), rd n l = some (t, r) → t.depth ≤ m → rd m l = some (t, r)
  | 0, _, _, _, _, h, _ => by simp [rd] at h
  | n + 1, _, [], _, _, h, _ => by simp [rd] at h
  | n + 1, 0, w :: q, t, r, h, hm => by
    have := t.depth_pos
    omega
  | n + 1, m + 1, w :: q, t, r, h, hm => by
    rw [rd] at h ⊢
    by_cases h1 : w = "cell"
    · rw [if_pos h1] at h ⊢
      cases e : rd n q with
      | none => rw [e] at h; cases h
      | some x =>
        rw [e] at h
        obtain ⟨x1, x2⟩ := x
        cases h
        have hm' : x1.depth + 1 ≤ m + 1 := hm
        rw [rd_deep n m q x1 _ e (by omega)]
        rfl
    · rw [if_neg h1] at h ⊢
      by_cases h2 : w ∈ twoWords
      · rw [if_pos h2] at h ⊢
        cases e : rd n q with
        | none => rw [e] at h; cases h
        | some x =>
          rw [e] at h
          obtain ⟨x1, x2⟩ := x
          cases e2 : rd n x2 with
          | none => simp only [Option.bind_some, e2] at h; cases h
          | some y =>
            obtain ⟨y1, y2⟩ := y
            simp only [Option.bind_some, e2, Option.map_some] at h
            cases h
            have hm' : max x1.depth y1.depth + 1 ≤ m + 1 := hm
            rw [rd_deep n m q x1 x2 e (by omega)]
            simp only [Option.bind_some]
            rw [rd_deep n m x2 y1 _ e2 (by omega)]
            rfl
      · rw [if_neg h2] at h ⊢
        exact h
/-- reading without a bound -/
def rdA (l : List Str) : Option (Tr × List Str) := rd (l.length + 1) l
theorem rdA_eq {n : Nat} {l : List Str} (h : l.length < n) : rd n l = rdA l := by
  unfold rdA
  cases e : rd n l with
  | some x =>
    obtain ⟨t, r⟩ := x
    obtain ⟨_, b, _, _⟩ := rd_facts _ _ _ _ e
    have := t.depth_le_size
    rw [rd_deep _ _ _ _ _ e (by omega)]
  | none =>
    cases e2 : rd (l.length + 1) l with
    | none => rfl
    | some x =>
      obtain ⟨t, r⟩ := x
      obtain ⟨_, b, _, _⟩ := rd_facts _ _ _ _ e2
      have := t.depth_le_size
      rw [rd_deep _ n _ _ _ e2 (by omega)] at e
      cases e
theorem rdA_nil : rdA [] = none := rfl
theorem rdA_cell (r : List Str) : rdA (("cell" : Str) :: r) = (rdA r).map fun x => (.cell x.1, x.2) := by
  show rd (r.length + 1 + 1) _ = _
  rw [rd, if_pos rfl]
  rfl
theorem rdA_two {w : Str} (hw : w ∈ twoWords) (r : List Str) : rdA (w :: r) = (rdA r).bind fun x => (rdA x.2).map fun y => (.two w x.1 y.1, y.2) := by
  have h1 : w ≠ "cell" := fun z => by
    subst z
    exact absurd hw (by decide +kernel)
  show rd (r.length + 1 + 1) _ = _
  rw [rd, if_neg h1, if_pos hw]
  show (rdA r).bind _ = _
  cases e : rdA r with
  | none => rfl
  | some x =>
    obtain ⟨x1, x2⟩ := x
    obtain ⟨a, b, _, _⟩ := rd_facts _ _ _ _ e
    simp only [Option.bind_some]
    rw [rdA_eq (n := r.length + 1) (l := x2) (by rw [a, List.length_drop]; omega)]
theorem rdA_leaf {w : Str} (h1 : w ≠ "cell") (h2 : w ∉ twoWords) (r : List Str) : rdA (w :: r) = (leafT w).map fun t => (t, r) := by
  show rd (r.length + 1 + 1) _ = _
  rw [rd, if_neg h1, if_neg h2]
/-- what is due of the words -/
def due (ws : List Str) : Option Tr := (rdA ws).bind fun x => if x.2.length = 0 ∧ x.1.depth ≤ 6 ∧ x.1.size ≤ 15 then some x.1 else none
theorem due_none6 {ws : List Str} (h : rd 6 ws = none) : due ws = none := by
  unfold due
  cases e : rdA ws with
  | none => rfl
  | some x =>
    obtain ⟨t, r⟩ := x
    simp only [Option.bind_some]
    rw [if_neg]
    rintro ⟨_, hd, _⟩
    rw [rd_deep _ 6 _ _ _ e hd] at h
    cases h
theorem due_some6 {ws : List Str} {t : Tr} {r : List Str} (h : rd 6 ws = some (t, r)) : due ws = if t.size = ws.length ∧ t.size ≤ 15 then some t else none := by
  obtain ⟨a, b, c, _⟩ := rd_facts _ _ _ _ h
  have hs := t.depth_le_size
  have e : rdA ws = some (t, r) := rd_deep _ _ _ _ _ h (by omega)
  unfold due
  rw [e]
  simp only [Option.bind_some]
  have hr : r.length = 0 ↔ t.size = ws.length := by
    rw [a, List.length_drop]; omega
  by_cases hz : t.size = ws.length ∧ t.size ≤ 15
  · rw [if_pos hz, if_pos ⟨hr.mpr hz.1, c, hz.2⟩]
  · rw [if_neg hz, if_neg fun z => hz ⟨hr.mp z.1, z.2.2⟩]
/-! ### single words -/
theorem made_iff {t g : Str} : madeOf t g = true ↔ ∀ c ∈ t.cps.toList, c ∈ g.cps.toList := by
  unfold madeOf
  rw [List.all_eq_true]
  constructor
  · exact fun h c hc => of_decide_eq_true (h c hc)
  · exact fun h c hc => decide_eq_true (h c hc)
theorem fig_iff (c : Nat) : c ∈ ("0123456789" : Str).cps.toList ↔ 48 ≤ c ∧ c ≤ 57 := by
  have e : ("0123456789" : Str).cps.toList = [48, 49, 50, 51, 52, 53, 54, 55, 56, 57] := by decide +kernel
  rw [e]
  simp
  omega
theorem let_iff (c : Nat) : c ∈ ("abcdefghijklmnopqrstuvwxyz" : Str).cps.toList ↔ 97 ≤ c ∧ c ≤ 122 := by
  have e : ("abcdefghijklmnopqrstuvwxyz" : Str).cps.toList = [97, 98, 99, 100, 101, 102, 103, 104, 105, 106, 107, 108, 109, 110, 111, 112, 113, 114, 115, 116, 117, 118, 119, 120, 121, 122] := by decide +kernel
  rw [e]
  simp
  omega
theorem num_len {w : Str} (h : isNumT w = true) : 1 ≤ w.length ∧ w.length ≤ 6 ∧ madeOf w "0123456789" = true := by
  unfold isNumT at h
  simp only [Bool.and_eq_true, decide_eq_true_eq] at h
  exact ⟨h.1.1.1, h.1.1.2, h.1.2⟩
theorem num_reads' {w : Str} (h : isNumT w = true) : ∃ i, intText? w = some i ∧ w.length ≤ 640 := by
  obtain ⟨h1, h6, hm⟩ := num_len h
  have hd : PySem.NumText.AllDigits w.cps.toList := fun c hc => (fig_iff c).mp (made_iff.mp hm c hc)
  have hn : w.cps.toList ≠ [] := fun z => by
    have := len_cps w
    rw [z] at this
    simp at this
    omega
  exact ⟨_, PySem.intText_digits hd hn (by omega), by omega⟩
theorem words_not : ∀ w ∈ ("cell" : Str) :: twoWords, isNumT w = false ∧ isNameT w = false := fun w hw => by
  have h := List.all_eq_true.mp (show ((("cell" : Str) :: twoWords).all fun x => !isNumT x && !isNameT x) = true by decide +kernel) w hw
  simp only [Bool.and_eq_true, Bool.not_eq_true'] at h
  exact h
theorem num_free {w : Str} (h : isNumT w = true) : w ≠ "cell" ∧ w ∉ twoWords := by
  constructor
  · intro z
    rw [(words_not w (by rw [z]; exact List.mem_cons_self)).1] at h; cases h
  · intro z
    rw [(words_not w (List.mem_cons_of_mem _ z)).1] at h; cases h
theorem name_free {w : Str} (h : isNameT w = true) : w ≠ "cell" ∧ w ∉ twoWords := by
  constructor
  · intro z
    rw [(words_not w (by rw [z]; exact List.mem_cons_self)).2] at h; cases h
  · intro z
    rw [(words_not w (List.mem_cons_of_mem _ z)).2] at h; cases h
theorem leaf_num {w : Str} {i : Int} (h : isNumT w = true) (e : intText? w = some i) : leafT w = some (.num i) := by
  unfold leafT
  rw [if_pos h, e]
  rfl
theorem leaf_name {w : Str} (h0 : isNumT w = false) (h : isNameT w = true) : leafT w = some (.box w) := by
  unfold leafT
  rw [if_neg (by rw [h0]; exact Bool.false_ne_true), if_pos h]
theorem leaf_none {w : Str} (h0 : isNumT w = false) (h : isNameT w = false) : leafT w = none := by
  unfold leafT
  rw [if_neg (by rw [h0]; exact Bool.false_ne_true), if_neg (by rw [h]; exact Bool.false_ne_true)]
/-! ### signs that are low: their text may be shown -/
def Low (x : Str) : Prop := ∀ c ∈ x.cps.toList, c < 16 ^ 8
def lowB (x : Str) : Bool := x.cps.toList.all fun c => decide (c < 16 ^ 8)
theorem low_of {x : Str} (h : lowB x = true) : Low x := fun c hc => of_decide_eq_true (List.all_eq_true.mp h c hc)
theorem Low.app {x y : Str} (h : Low x) (h' : Low y) : Low (x ++ y) := fun c hc => by
  rw [PySem.W.KT.app_list] at hc
  rcases List.mem_append.mp hc with z | z
  · exact h c z
  · exact h' c z
theorem join_part : ∀ (ws : List Str) (w : Str), w ∈ ws → w.length ≤ (Str.join blank ws).length ∧ ∀ c ∈ w.cps.toList, c ∈ (Str.join blank ws).cps.toList
  | [], _, h => absurd h List.not_mem_nil
  | [a], w, h => by
    obtain rfl := List.mem_singleton.mp h
    exact ⟨Nat.le_refl _, fun c hc => hc⟩
  | a :: b :: r, w, h => by
    have e := join_codes a b r
    have el : (Str.join blank (a :: b :: r)).length = a.length + 1 + (Str.join blank (b :: r)).length := by
      rw [len_cps, e, List.length_append, List.length_cons, ← len_cps, ← len_cps]; omega
    rcases List.mem_cons.mp h with rfl | h
    · exact ⟨by omega, fun c hc => by rw [e]; exact List.mem_append_left _ hc⟩
    · obtain ⟨h1, h2⟩ := join_part (b :: r) w h
      exact ⟨by omega, fun c hc => by rw [e]; exact List.mem_append_right _ (List.mem_cons_of_mem _ (h2 c hc))⟩
theorem split_part {x w : Str} (h : w ∈ Txt.split x " ") : w.length ≤ x.length ∧ (Low x → Low w) := by
  rw [blank_eq] at h
  have e := StrLaws.join_split x blank
  obtain ⟨h1, h2⟩ := join_part _ w h
  rw [e] at h1 h2
  exact ⟨h1, fun hl c hc => hl c (h2 c hc)⟩
theorem join_low : ∀ (ws : List Str), (∀ w ∈ ws, Low w) → Low (Str.join blank ws)
  | [], _ => low_of (by decide +kernel)
  | [a], h => h a List.mem_cons_self
  | a :: b :: r, h => fun c hc => by
    rw [join_codes] at hc
    rcases List.mem_append.mp hc with z | z
    · exact h a List.mem_cons_self c z
    · rcases List.mem_cons.mp z with rfl | z
      · decide
      · exact join_low (b :: r) (fun w hw => h w (List.mem_cons_of_mem _ hw)) c z
theorem join_len : ∀ (ws : List Str), (∀ w ∈ ws, w.length ≤ 7) → (Str.join blank ws).length ≤ 8 * ws.length
  | [], _ => by decide
  | [x], h => by
    have := h x (by simp)
    show x.length ≤ 8 * 1
    omega
  | x :: y :: r, h => by
    have ih := join_len (y :: r) fun w hw => h w (List.mem_cons_of_mem _ hw)
    have hx := h x (by simp)
    show (x ++ blank ++ Str.join blank (y :: r)).length ≤ _
    rw [Str.length_append, Str.length_append]
    have : blank.length = 1 := rfl
    simp only [List.length_cons] at ih ⊢
    omega
theorem join_eq (ws : List Str) : Txt.join " " ws = Str.join blank ws := by
  rw [blank_eq]
  exact StrLaws.glued_eq_join blank ws
end Ex
set_option Elab.async false
set_option linter.all false
set_option maxRecDepth 100000
set_option maxHeartbeats 4000000
namespace Ex
open PySem L2 PyProof.Rows
/-! ### words joined by one sign, and split again -/
def sg (c : Nat) : Str := ⟨#[c]⟩
theorem sg_join_codes (k : Nat) (a b : Str) (r : List Str) : (Str.join (sg k) (a :: b :: r)).cps.toList = a.cps.toList ++ k :: (Str.join (sg k) (b :: r)).cps.toList := by
  show (a ++ sg k ++ Str.join (sg k) (b :: r)).cps.toList = _
  rw [PySem.W.KT.app_list, PySem.W.KT.app_list]
  simp [sg]
theorem sg_cut {k : Nat} {a c b d : List Nat} (ha : k ∉ a) (hc : k ∉ c) (h : a ++ k :: b = c ++ k :: d) : a = c ∧ b = d := by
  induction a generalizing c with
  | nil =>
    cases c with
    | nil => simp at h; exact ⟨rfl, h⟩
    | cons x r => simp at h; exact absurd (by rw [← h.1]; exact List.mem_cons_self) hc
  | cons x a ih =>
    cases c with
    | nil => simp at h; exact absurd (by rw [h.1]; exact List.mem_cons_self) ha
    | cons y c =>
      simp only [List.cons_append, List.cons.injEq] at h
      obtain ⟨e1, e2⟩ := ih (fun z => ha (List.mem_cons_of_mem _ z)) (fun z => hc (List.mem_cons_of_mem _ z)) h.2
      exact ⟨by rw [h.1, e1], e2⟩
theorem sg_join_inj {k : Nat} : ∀ (ws vs : List Str), ws ≠ [] → vs ≠ [] → (∀ w ∈ ws, k ∉ w.cps.toList) → (∀ w ∈ vs, k ∉ w.cps.toList) → Str.join (sg k) ws = Str.join (sg k) vs → ws = vs
  | [], _, h, _, _, _, _ => absurd rfl h
  | _ :: _, [], _, h, _, _, _ => absurd rfl h
  | [a], [b], _, _, _, _, e => by rw [show a = b from e]
  | [a], b :: c :: r, _, _, ha, _, e => by
    have e' := congrArg (fun x => x.cps.toList) e
    simp only [sg_join_codes] at e'
    have : k ∈ a.cps.toList := by
      rw [show (Str.join (sg k) [a]).cps.toList = a.cps.toList from rfl] at e'
      rw [e']; simp
    exact absurd this (ha a (by simp))
  | a :: b :: r, [c], _, _, _, hc, e => by
    have e' := congrArg (fun x => x.cps.toList) e
    simp only [sg_join_codes] at e'
    have : k ∈ c.cps.toList := by
      rw [show (Str.join (sg k) [c]).cps.toList = c.cps.toList from rfl] at e'
      rw [← e']; simp
    exact absurd this (hc c (by simp))
  | a :: b :: r, c :: d :: q, _, _, ha, hc, e => by
    have e' := congrArg (fun x => x.cps.toList) e
    simp only [sg_join_codes] at e'
    obtain ⟨e1, e2⟩ := sg_cut (ha a (by simp)) (hc c (by simp)) e'
    have ih := sg_join_inj (b :: r) (d :: q) (by simp) (by simp) (fun w hw => ha w (List.mem_cons_of_mem _ hw)) (fun w hw => hc w (List.mem_cons_of_mem _ hw)) (PyProof.Rows.ext_toList e2)
    rw [PyProof.Rows.ext_toList e1, ih]
theorem sg_split_join {k : Nat} {ws : List Str} (h0 : ws ≠ []) (hf : ∀ w ∈ ws, k ∉ w.cps.toList) : Txt.split (Txt.join (sg k) ws) (sg k) = ws := by
  have ej : Txt.join (sg k) ws = Str.join (sg k) ws := StrLaws.glued_eq_join (sg k) ws
  rw [ej]
  refine sg_join_inj _ _ ?_ h0 (StrLaws.split_free _ k) hf (StrLaws.join_split _ _)
  intro e
  have := PyProof.Rows.split_pos (Str.join (sg k) ws) (sg k)
  rw [e] at this
  exact absurd this (by decide)
theorem sum_le (n : Nat) : ∀ (ws : List Str), (∀ w ∈ ws, w.length ≤ n) → (ws.map (·.length)).sum ≤ n * ws.length
  | [], _ => by simp
  | a :: r, h => by
    have h1 := h a (by simp)
    have ih := sum_le n r (fun w hw => h w (List.mem_cons_of_mem _ hw))
    simp only [List.map_cons, List.sum_cons, List.length_cons, Nat.mul_add]
    omega
theorem sg_join_sum (k : Nat) : ∀ (ws : List Str), (Str.join (sg k) ws).length ≤ (ws.map (·.length)).sum + ws.length
  | [] => Nat.le_of_eq (by rfl)
  | [a] => by
    show a.length ≤ _
    simp
  | a :: b :: r => by
    have ih := sg_join_sum k (b :: r)
    show (a ++ sg k ++ Str.join (sg k) (b :: r)).length ≤ _
    rw [Str.length_append, Str.length_append]
    have h2 : (sg k).length = 1 := rfl
    simp only [List.map_cons, List.sum_cons, List.length_cons] at ih ⊢
    omega
theorem sg_join_len (k n : Nat) (ws : List Str) (h : ∀ w ∈ ws, w.length ≤ n) : (Str.join (sg k) ws).length ≤ n * ws.length + ws.length :=
  Nat.le_trans (sg_join_sum k ws) (Nat.add_le_add_right (sum_le n ws h) _)
theorem sg_join_mem (k : Nat) : ∀ (ws : List Str) (c : Nat), c ∈ (Str.join (sg k) ws).cps.toList → c = k ∨ ∃ w ∈ ws, c ∈ w.cps.toList
  | [], c, h => by
    have : (Str.join (sg k) []).cps.toList = [] := rfl
    rw [this] at h; cases h
  | [a], c, h => .inr ⟨a, by simp, h⟩
  | a :: b :: r, c, h => by
    rw [sg_join_codes] at h
    rcases List.mem_append.mp h with h | h
    · exact .inr ⟨a, by simp, h⟩
    · rcases List.mem_cons.mp h with h | h
      · exact .inl h
      · rcases sg_join_mem k (b :: r) c h with h | ⟨w, hw, h⟩
        · exact .inl h
        · exact .inr ⟨w, List.mem_cons_of_mem _ hw, h⟩
theorem sg_join_eq (k : Nat) (ws : List Str) : Txt.join (sg k) ws = Str.join (sg k) ws := StrLaws.glued_eq_join (sg k) ws
theorem dot_eq : ("." : Str) = sg 46 := by decide +kernel
theorem blank_sg : (" " : Str) = sg 32 := by decide +kernel
theorem nl_eq : ("\n" : Str) = sg 10 := by decide +kernel
/-! ### numbers, addresses, entries, books as texts -/
def wd (i : Int) : Str := Str.ofString (toString i)
/-- a number's text: figures, or -1 -/
def Wdy (i : Int) : Prop := -1 ≤ i ∧ i < 1000000
def Num (i : Int) : Prop := 0 ≤ i ∧ i < 1000000
theorem Num.wdy {i : Int} (h : Num i) : Wdy i := ⟨by have := h.1; omega, h.2⟩
theorem wd_neg : wd (-1) = "-1" := by decide +kernel
theorem wd_signs {i : Int} (h : Wdy i) : 1 ≤ (wd i).length ∧ (wd i).length ≤ 6 ∧ ∀ c ∈ (wd i).cps.toList, c = 45 ∨ 48 ≤ c ∧ c ≤ 57 := by
  by_cases h0 : 0 ≤ i
  · have n := numText h0 h.2
    exact ⟨n.pos, n.short, fun c hc => .inr (n.dig c hc)⟩
  · have e : i = -1 := by have := h.1; omega
    subst e
    rw [wd_neg]
    refine ⟨by decide +kernel, by decide +kernel, ?_⟩
    have e : ("-1" : Str).cps.toList = [45, 49] := by decide +kernel
    rw [e]
    intro c hc
    simp at hc
    omega
theorem wd_num {i : Int} (h : Num i) : NumText i (wd i) := numText h.1 h.2
theorem wd_notNeg {i : Int} (h : Num i) : wd i ≠ "-1" := fun e => by
  have n := wd_num h
  have c : (45 : Nat) ∈ (wd i).cps.toList := by rw [e]; decide +kernel
  have := n.dig 45 c
  omega
theorem wd_notDash {i : Int} (h : Num i) : wd i ≠ "-" := fun e => by
  have n := wd_num h
  have c : (45 : Nat) ∈ (wd i).cps.toList := by rw [e]; decide +kernel
  have := n.dig 45 c
  omega
def adText (ns : List Int) : Str := if ns.isEmpty then "-" else Txt.join "." (ns.map wd)
def Ad1 (ns : List Int) : Prop := ns.length ≤ 100 ∧ ∀ i ∈ ns, Num i
theorem adText_len {ns : List Int} (h : Ad1 ns) : (adText ns).length ≤ 700 := by
  unfold adText
  cases hn : ns.isEmpty with
  | true => rw [if_pos rfl]; exact Nat.le_trans (show ("-" : Str).length ≤ 1 by decide +kernel) (by decide)
  | false =>
    rw [if_neg (by decide), dot_eq, sg_join_eq]
    have := sg_join_len 46 6 (ns.map wd) (fun w hw => by
      obtain ⟨i, hi, rfl⟩ := List.mem_map.mp hw
      exact (wd_signs (h.2 i hi).wdy).2.1)
    rw [List.length_map] at this
    have := h.1
    omega
theorem adText_signs {ns : List Int} (h : Ad1 ns) : ∀ c ∈ (adText ns).cps.toList, c = 45 ∨ c = 46 ∨ 48 ≤ c ∧ c ≤ 57 := by
  unfold adText
  cases hn : ns.isEmpty with
  | true =>
    rw [if_pos rfl]
    have e : ("-" : Str).cps.toList = [45] := by decide +kernel
    rw [e]
    intro c hc
    simp at hc
    exact .inl hc
  | false =>
    rw [if_neg (by decide), dot_eq, sg_join_eq]
    intro c hc
    rcases sg_join_mem 46 _ c hc with h1 | ⟨w, hw, h1⟩
    · exact .inr (.inl h1)
    · obtain ⟨i, hi, rfl⟩ := List.mem_map.mp hw
      rcases (wd_signs (h.2 i hi).wdy).2.2 c h1 with h2 | h2
      · exact .inl h2
      · exact .inr (.inr h2)
theorem adText_split {ns : List Int} (h : Ad1 ns) (hn : ns ≠ []) : Txt.split (adText ns) "." = ns.map wd := by
  unfold adText
  have e : ns.isEmpty = false := by cases ns with | nil => exact absurd rfl hn | cons _ _ => rfl
  rw [e, if_neg (by decide), dot_eq]
  refine sg_split_join (by simpa using hn) fun w hw => ?_
  obtain ⟨i, hi, rfl⟩ := List.mem_map.mp hw
  intro hc
  have := (wd_num (h.2 i hi)).dig _ hc
  omega
/-- a text with a digit or a point is not `-` -/
theorem adText_notDash {ns : List Int} (h : Ad1 ns) (hn : ns ≠ []) : adText ns ≠ "-" := fun e => by
  have hs := adText_split h hn
  rw [e] at hs
  have e2 : Txt.split "-" "." = [("-" : Str)] := by decide +kernel
  rw [e2] at hs
  cases ns with
  | nil => exact hn rfl
  | cons i r =>
    have : wd i = "-" := by
      have := congrArg List.head? hs
      simpa using this.symm
    exact wd_notDash (h.2 i (by simp)) this
structure En where
  w : Str
  ad : List Int
  ms : List Int
def En.words (e : En) : List Str := e.w :: adText e.ad :: e.ms.map wd
def En.line (e : En) : Str := Txt.join " " e.words
structure En.Ok (e : En) : Prop where
  kind : e.w = "part" ∨ e.w = "kept" ∨ e.w = "done"
  done : e.w = "done" → e.ms = []
  ad : Ad1 e.ad
  few : e.ms.length ≤ 60
  mks : ∀ i ∈ e.ms, Wdy i
theorem kind_signs {w : Str} (h : w = "part" ∨ w = "kept" ∨ w = "done") : w.length = 4 ∧ ∀ c ∈ w.cps.toList, 97 ≤ c ∧ c ≤ 122 := by
  have key : ∀ w ∈ (["part", "kept", "done"] : List Str), w.length = 4 ∧ ∀ c ∈ w.cps.toList, 97 ≤ c ∧ c ≤ 122 := by
    intro w hw
    have := List.all_eq_true.mp (show ((["part", "kept", "done"] : List Str).all fun w => decide (w.length = 4) && w.cps.toList.all fun c => decide (97 ≤ c) && decide (c ≤ 122)) = true by decide +kernel) w hw
    simp only [Bool.and_eq_true, decide_eq_true_eq, List.all_eq_true] at this
    exact ⟨this.1, fun c hc => this.2 c hc⟩
  exact key w (by rcases h with h | h | h <;> simp [h])
theorem En.short {e : En} (h : e.Ok) : ∀ w ∈ e.words, w.length ≤ 700 ∧ ∀ c ∈ w.cps.toList, c = 45 ∨ c = 46 ∨ 48 ≤ c ∧ c ≤ 57 ∨ 97 ≤ c ∧ c ≤ 122 := by
  intro w hw
  rcases List.mem_cons.mp hw with rfl | hw
  · have := kind_signs h.kind
    exact ⟨by omega, fun c hc => .inr (.inr (.inr (this.2 c hc)))⟩
  · rcases List.mem_cons.mp hw with rfl | hw
    · refine ⟨adText_len h.ad, fun c hc => ?_⟩
      rcases adText_signs h.ad c hc with z | z | z
      · exact .inl z
      · exact .inr (.inl z)
      · exact .inr (.inr (.inl z))
    · obtain ⟨i, hi, rfl⟩ := List.mem_map.mp hw
      have := wd_signs (h.mks i hi)
      refine ⟨by omega, fun c hc => ?_⟩
      rcases this.2.2 c hc with z | z
      · exact .inl z
      · exact .inr (.inr (.inl z))
theorem En.words_len {e : En} (h : e.Ok) : e.words.length ≤ 62 := by
  have := h.few
  simp [En.words]
  omega
theorem En.line_split {e : En} (h : e.Ok) : Txt.split e.line " " = e.words := by
  unfold En.line
  rw [blank_sg]
  refine sg_split_join (by simp [En.words]) fun w hw hc => ?_
  have := (En.short h w hw).2 32 hc
  omega
theorem En.sum_len {e : En} (h : e.Ok) : (e.words.map (·.length)).sum ≤ 1064 := by
  have h1 := (kind_signs h.kind).1
  have h2 := adText_len h.ad
  have h3 := sum_le 6 (e.ms.map wd) (fun w hw => by
    obtain ⟨i, hi, rfl⟩ := List.mem_map.mp hw
    exact (wd_signs (h.mks i hi)).2.1)
  have h4 := h.few
  rw [List.length_map] at h3
  show e.w.length + ((adText e.ad).length + ((e.ms.map wd).map (·.length)).sum) ≤ _
  omega
theorem En.line_len {e : En} (h : e.Ok) : e.line.length ≤ 1126 := by
  unfold En.line
  rw [blank_sg, sg_join_eq]
  have h1 := sg_join_sum 32 e.words
  have h2 := En.sum_len h
  have h3 := En.words_len h
  omega
theorem En.line_signs {e : En} (h : e.Ok) : 10 ∉ e.line.cps.toList := by
  unfold En.line
  rw [blank_sg, sg_join_eq]
  intro hc
  rcases sg_join_mem 32 _ _ hc with z | ⟨w, hw, hc⟩
  · exact absurd z (by decide)
  · have := (En.short h w hw).2 10 hc
    omega
theorem En.line_pos {e : En} (h : e.Ok) : 1 ≤ e.line.length := by
  by_cases z : 1 ≤ e.line.length
  · exact z
  · exfalso
    have e0 : e.line = "" := by
      refine PyProof.Rows.ext_toList ?_
      have : e.line.cps.toList.length = 0 := by rw [← len_cps]; omega
      rw [List.length_eq_zero_iff.mp this]
      decide +kernel
    have hs := En.line_split h
    rw [e0] at hs
    have e2 : Txt.split "" " " = [("" : Str)] := by decide +kernel
    rw [e2] at hs
    have := congrArg List.length hs
    simp [En.words] at this
def bookText (es : List En) : Str := Txt.join "\n" (es.map En.line)
def BOk (es : List En) : Prop := es.length ≤ 24 ∧ ∀ e ∈ es, e.Ok
theorem book_split {es : List En} (h : BOk es) (h0 : es ≠ []) : Txt.split (bookText es) "\n" = es.map En.line := by
  unfold bookText
  rw [nl_eq]
  refine sg_split_join (by simpa using h0) fun w hw => ?_
  obtain ⟨e, he, rfl⟩ := List.mem_map.mp hw
  exact En.line_signs (h.2 e he)
theorem book_sum {es : List En} (h : BOk es) : ((es.map En.line).map (·.length)).sum ≤ 27024 := by
  have := sum_le 1126 (es.map En.line) (fun w hw => by
    obtain ⟨e, he, rfl⟩ := List.mem_map.mp hw
    exact En.line_len (h.2 e he))
  rw [List.length_map] at this
  have := h.1
  omega
theorem book_len {es : List En} (h : BOk es) : (bookText es).length ≤ 27048 := by
  unfold bookText
  rw [nl_eq, sg_join_eq]
  have h1 := sg_join_sum 10 (es.map En.line)
  have h2 := book_sum h
  have h3 := h.1
  rw [List.length_map] at h1
  omega
theorem book_pos {es : List En} (h : BOk es) (h0 : es ≠ []) : 1 ≤ (bookText es).length := by
  by_cases z : 1 ≤ (bookText es).length
  · exact z
  · exfalso
    have e0 : bookText es = "" := by
      refine PyProof.Rows.ext_toList ?_
      have : (bookText es).cps.toList.length = 0 := by rw [← len_cps]; omega
      rw [List.length_eq_zero_iff.mp this]
      decide +kernel
    have hs := book_split h h0
    rw [e0] at hs
    have e2 : Txt.split "" "\n" = [("" : Str)] := by decide +kernel
    rw [e2] at hs
    cases es with
    | nil => exact h0 rfl
    | cons e r =>
      have : e.line = "" := by simpa using (congrArg List.head? hs).symm
      have p := En.line_pos (h.2 e (by simp))
      rw [this] at p
      exact absurd p (by decide +kernel)
theorem book_nil : bookText [] = "" := by decide +kernel
end Ex
set_option Elab.async false
set_option linter.all false
set_option maxRecDepth 100000
set_option maxHeartbeats 4000000
namespace Ex
open PySem L2 PyProof.Rows
/-! ### cut at the first blank -/
theorem part_word {k : Nat} {w r : Str} (hw : k ∉ w.cps.toList) : Txt.partition (w ++ sg k ++ r) (sg k) = (w, sg k, r) := by
  have hx : (w ++ sg k ++ r).cps.toList = w.cps.toList ++ k :: r.cps.toList := by
    rw [PySem.W.KT.app_list, PySem.W.KT.app_list]; simp [sg]
  have atk : ∀ i, StrLaws.At (w ++ sg k ++ r) (sg k) (w ++ sg k ++ r).length i ↔ (w ++ sg k ++ r).cps.toList[i]? = some k := fun i => StrLaws.subAt_one _ k i
  rcases PyProof.Rows.partition_whole (w ++ sg k ++ r) (sg k) with ⟨_, h⟩ | ⟨i, e, h1, h2⟩
  · exfalso
    refine h w.cps.toList.length ((atk _).mpr ?_)
    rw [hx, List.getElem?_append_right (Nat.le_refl _)]; simp
  · have s := StrLaws.partition_sum (w ++ sg k ++ r) (sg k)
    rw [e] at s ⊢
    have hi : k ∉ (Builtin.Str.strSub (w ++ sg k ++ r) 0 i).cps.toList := fun hk => by
      have e2 : (Builtin.Str.strSub (w ++ sg k ++ r) 0 i).cps.toList = (w ++ sg k ++ r).cps.toList.take i := by
        show ((w ++ sg k ++ r).cps.extract 0 i).toList = _
        simp
      rw [e2] at hk
      obtain ⟨j, hj⟩ := List.getElem?_of_mem hk
      have hj2 := hj
      rw [List.getElem?_take] at hj
      by_cases hlt : j < i
      · rw [if_pos hlt] at hj
        exact h2 j hlt ((atk j).mpr hj)
      · rw [if_neg hlt] at hj; cases hj
    have s2 := congrArg (fun x => x.cps.toList) s
    simp only [PySem.W.KT.app_list] at s2
    have s3 : (Builtin.Str.strSub (w ++ sg k ++ r) 0 i).cps.toList ++ k :: (Builtin.Str.strSub (w ++ sg k ++ r) (i + (sg k).length) (w ++ sg k ++ r).length).cps.toList = w.cps.toList ++ k :: r.cps.toList := by
      have := s2
      simpa [sg, PySem.W.KT.app_list] using this
    obtain ⟨a1, a2⟩ := sg_cut hi hw s3
    rw [PyProof.Rows.ext_toList a1, PyProof.Rows.ext_toList a2]
theorem app_assoc (a b c : Str) : a ++ b ++ c = a ++ (b ++ c) := by
  refine PyProof.Rows.ext_toList ?_
  simp only [PySem.W.KT.app_list, List.append_assoc]
/-! ### places and changes -/
inductive Pl where
  | box (ad : List Int) (x : Str) | cell (i : Int) | world (x : Str) (i : Int) | drawn (x : Str)
inductive Ch where
  | start (p : Pl) (v : Int) | row (n : Int) (line : Str) | goes (ad : List Int) (t : Option Bool)
def names20 : List Str := ["a", "b", "zz", "boxes", "cells", "world", "drawn", "start", "row", "goes", "yes", "no", "free", "part", "kept", "done", "box", "iff", "abcdef", "zzzzzz"]
def Nm (x : Str) : Prop := x ∈ names20
def nmB (x : Str) : Bool := decide (1 ≤ x.length) && decide (x.length ≤ 6) && x.cps.toList.all (fun c => decide (97 ≤ c) && decide (c ≤ 122)) && decide (x ∉ langWords)
theorem Nm.good {x : Str} (h : Nm x) : GoodName x := by
  have h2 := List.all_eq_true.mp (show names20.all nmB = true by decide +kernel) x h
  unfold nmB at h2
  simp only [Bool.and_eq_true, decide_eq_true_eq, List.all_eq_true] at h2
  exact ⟨h2.1.1.1, h2.1.1.2, fun c hc => h2.1.2 c hc, h2.2⟩
def Pl.words : Pl → List Str
  | .box ad x => ["box", adText ad, x]
  | .cell i => ["cell", wd i]
  | .world x i => ["world", x, wd i]
  | .drawn x => ["drawn", x]
def Pl.Ok : Pl → Prop
  | .box ad x => Ad1 ad ∧ Nm x
  | .cell i => Num i
  | .world x i => Nm x ∧ Num i
  | .drawn x => Nm x
def goT : Option Bool → Str
  | none => "free"
  | some true => "yes"
  | some false => "no"
def Ch.words : Ch → List Str
  | .start p v => "start" :: (p.words ++ [wd v])
  | .row n line => ["row", wd n, line]
  | .goes ad t => ["goes", adText ad, goT t]
def Ch.Ok : Ch → Prop
  | .start p v => p.Ok ∧ Num v
  | .row n line => Num n ∧ 1 ≤ line.length ∧ line.length ≤ 30 ∧ 10 ∉ line.cps.toList
  | .goes ad t => Ad1 ad
def Ch.text (c : Ch) : Str := Txt.join " " c.words
/-- no blank, not too long -/
def Tight (w : Str) : Prop := w.length ≤ 700 ∧ 32 ∉ w.cps.toList
theorem tight_ad {ns : List Int} (h : Ad1 ns) : Tight (adText ns) := ⟨adText_len h, fun hc => by have := adText_signs h 32 hc; omega⟩
theorem tight_wd {i : Int} (h : Num i) : Tight (wd i) := ⟨by have := (wd_signs h.wdy).2.1; omega, fun hc => by have := (wd_signs h.wdy).2.2 32 hc; omega⟩
theorem tight_nm {x : Str} (h : Nm x) : Tight x := ⟨by have := h.good.short; omega, fun hc => by have := h.good.let_ 32 hc; omega⟩
def tightB (w : Str) : Bool := decide (w.length ≤ 700) && decide (32 ∉ w.cps.toList)
theorem tight_of {w : Str} (h : tightB w = true) : Tight w := by
  unfold tightB at h
  simp only [Bool.and_eq_true, decide_eq_true_eq] at h
  exact h
theorem tight_go (t : Option Bool) : Tight (goT t) := by
  match t with
  | none => exact tight_of (by decide +kernel)
  | some true => exact tight_of (by decide +kernel)
  | some false => exact tight_of (by decide +kernel)
theorem Pl.tight {p : Pl} (h : p.Ok) : ∀ w ∈ p.words, Tight w := by
  cases p with
  | box ad x =>
    intro w hw
    simp only [Pl.words, List.mem_cons, List.not_mem_nil, or_false] at hw
    rcases hw with rfl | rfl | rfl
    · exact tight_of (by decide +kernel)
    · exact tight_ad h.1
    · exact tight_nm h.2
  | cell i =>
    intro w hw
    simp only [Pl.words, List.mem_cons, List.not_mem_nil, or_false] at hw
    rcases hw with rfl | rfl
    · exact tight_of (by decide +kernel)
    · exact tight_wd h
  | world x i =>
    intro w hw
    simp only [Pl.words, List.mem_cons, List.not_mem_nil, or_false] at hw
    rcases hw with rfl | rfl | rfl
    · exact tight_of (by decide +kernel)
    · exact tight_nm h.1
    · exact tight_wd h.2
  | drawn x =>
    intro w hw
    simp only [Pl.words, List.mem_cons, List.not_mem_nil, or_false] at hw
    rcases hw with rfl | rfl
    · exact tight_of (by decide +kernel)
    · exact tight_nm h
theorem Pl.len (p : Pl) : 2 ≤ p.words.length ∧ p.words.length ≤ 3 := by cases p <;> simp [Pl.words]
theorem Pl.ne (p : Pl) : p.words ≠ [] := by cases p <;> exact List.cons_ne_nil _ _
theorem start_tight {p : Pl} {v : Int} (h : p.Ok) (hv : Num v) : ∀ w ∈ (Ch.start p v).words, Tight w := by
  intro w hw
  rcases List.mem_cons.mp hw with rfl | hw
  · exact tight_of (by decide +kernel)
  · rcases List.mem_append.mp hw with hw | hw
    · exact p.tight h w hw
    · rcases List.mem_singleton.mp hw with rfl
      exact tight_wd hv
theorem goes_tight {ad : List Int} {t : Option Bool} (h : Ad1 ad) : ∀ w ∈ (Ch.goes ad t).words, Tight w := by
  intro w hw
  simp only [Ch.words, List.mem_cons, List.not_mem_nil, or_false] at hw
  rcases hw with rfl | rfl | rfl
  · exact tight_of (by decide +kernel)
  · exact tight_ad h
  · exact tight_go t
theorem tight_sum {ws : List Str} (h : ∀ w ∈ ws, Tight w) : (ws.map (·.length)).sum ≤ 700 * ws.length := sum_le 700 ws fun w hw => (h w hw).1
theorem join_text (ws : List Str) : Txt.join " " ws = Str.join (sg 32) ws := by rw [blank_sg, sg_join_eq]
theorem tight_split {ws : List Str} (h0 : ws ≠ []) (h : ∀ w ∈ ws, Tight w) : Txt.split (Txt.join " " ws) " " = ws := by
  rw [blank_sg]
  exact sg_split_join h0 fun w hw => (h w hw).2
theorem tight_len {ws : List Str} (h : ∀ w ∈ ws, Tight w) : (Txt.join " " ws).length ≤ 701 * ws.length := by
  rw [join_text]
  have h1 := sg_join_sum 32 ws
  have h2 := tight_sum h
  omega
theorem join_first (w : Str) (b : Str) (r : List Str) : Txt.join " " (w :: b :: r) = w ++ sg 32 ++ Txt.join " " (b :: r) := by
  rw [join_text, join_text]; rfl
theorem part_join {w b : Str} {r : List Str} (hw : 32 ∉ w.cps.toList) : Txt.partition (Txt.join " " (w :: b :: r)) " " = (w, (" " : Str), Txt.join " " (b :: r)) := by
  rw [join_first, blank_sg]
  exact part_word hw
/-- the start's text, by pieces -/
theorem start_join (a : Str) (ws : List Str) (b : Str) (h : ws ≠ []) : Txt.join " " [a, Txt.join " " ws, b] = Txt.join " " (a :: (ws ++ [b])) := by
  rw [join_text, join_text, join_text]
  have key : ∀ (x y : List Str), x ≠ [] → y ≠ [] → Str.join (sg 32) (x ++ y) = Str.join (sg 32) x ++ sg 32 ++ Str.join (sg 32) y := by
    intro x
    induction x with
    | nil => intro y hx; exact absurd rfl hx
    | cons p q ih =>
      intro y _ hy
      cases q with
      | nil =>
        cases y with
        | nil => exact absurd rfl hy
        | cons u v => rfl
      | cons u v =>
        have := ih y (by simp) hy
        show p ++ sg 32 ++ Str.join (sg 32) ((u :: v) ++ y) = (p ++ sg 32 ++ Str.join (sg 32) (u :: v)) ++ sg 32 ++ Str.join (sg 32) y
        rw [this, app_assoc, app_assoc, app_assoc, app_assoc, app_assoc]
  cases ws with
  | nil => exact absurd rfl h
  | cons u v =>
    show a ++ sg 32 ++ (Str.join (sg 32) (u :: v) ++ sg 32 ++ b) = a ++ sg 32 ++ Str.join (sg 32) ((u :: v) ++ [b])
    rw [key (u :: v) [b] (by simp) (by simp)]
    rfl
theorem three_app (x a b c : Str) (hx : x = a ++ sg 32) : x ++ b ++ " " ++ c = Txt.join " " [a, b, c] := by
  rw [join_text, hx, blank_sg]
  show a ++ sg 32 ++ b ++ sg 32 ++ c = a ++ sg 32 ++ (b ++ sg 32 ++ c)
  rw [app_assoc (a ++ sg 32) b, app_assoc (a ++ sg 32)]
end Ex
set_option Elab.async false
set_option linter.all false
set_option maxRecDepth 100000
set_option maxHeartbeats 4000000
namespace Ex
open PySem L2 PyProof.Rows
/-! ### reading, in pure words -/
def allT {α : Type} (f : Str → Option α) : List Str → Option (List α)
  | [] => some []
  | x :: r => match f x, allT f r with
    | some a, some b => some (a :: b)
    | _, _ => none
theorem allT_none {α : Type} {f : Str → Option α} : ∀ {ws : List Str} {w : Str}, w ∈ ws → f w = none → allT f ws = none
  | x :: r, w, h, e => by
    rcases List.mem_cons.mp h with rfl | h
    · unfold allT; rw [e]
    · unfold allT; rw [allT_none h e]; cases f x <;> rfl
theorem allT_some {α : Type} {f : Str → Option α} : ∀ {ws : List Str} {ys : List α}, ws.length = ys.length → (∀ (i : Nat) w y, ws[i]? = some w → ys[i]? = some y → f w = some y) → allT f ws = some ys
  | [], [], _, _ => rfl
  | [], _ :: _, h, _ => by simp at h
  | _ :: _, [], h, _ => by simp at h
  | x :: r, y :: s, h, g => by
    unfold allT
    rw [g 0 x y rfl rfl, allT_some (by simpa using h) fun i w z h1 h2 => g (i + 1) w z (by simpa using h1) (by simpa using h2)]
theorem allT_at {α : Type} {f : Str → Option α} : ∀ {ws : List Str} {ys : List α}, allT f ws = some ys → ws.length = ys.length ∧ ∀ (i : Nat) w y, ws[i]? = some w → ys[i]? = some y → f w = some y
  | [], ys, h => by cases Option.some.inj h; exact ⟨rfl, fun i w y h => by simp at h⟩
  | x :: r, ys, h => by
    unfold allT at h
    cases e1 : f x with
    | none => rw [e1] at h; cases h
    | some a =>
      cases e2 : allT f r with
      | none => rw [e1, e2] at h; cases h
      | some b =>
        rw [e1, e2] at h
        cases Option.some.inj h
        obtain ⟨h1, h2⟩ := allT_at e2
        refine ⟨by simp [h1], fun i w y hw hy => ?_⟩
        cases i with
        | zero => simp at hw hy; subst hw hy; exact e1
        | succ i => exact h2 i w y (by simpa using hw) (by simpa using hy)
theorem allT_dec {α : Type} {f : Str → Option α} : ∀ {ws : List Str}, allT f ws = none → ∃ w ∈ ws, f w = none
  | [], h => by cases h
  | x :: r, h => by
    cases e1 : f x with
    | none => exact ⟨x, by simp, e1⟩
    | some a =>
      unfold allT at h
      rw [e1] at h
      cases e2 : allT f r with
      | none =>
        obtain ⟨w, hw, e⟩ := allT_dec e2
        exact ⟨w, List.mem_cons_of_mem _ hw, e⟩
      | some b => rw [e2] at h; cases h
def numT (w : Str) : Option Int := if isNumT w = true then intText? w else none
def mkT (w : Str) : Option Int := if w = "-1" then some (-1) else numT w
def adT (w : Str) : Option (List Int) := if w = "-" then some [] else if 100 < (Txt.split w ".").length then none else allT numT (Txt.split w ".")
def enB (w0 : Str) (r : List Str) (ad : List Int) : Option En := if w0 = "done" ∧ r = [] then some ⟨"done", ad, []⟩ else if (w0 = "part" ∨ w0 = "kept") ∧ r.length ≤ 6000 then (allT mkT r).map fun ms => ⟨w0, ad, ms⟩ else none
def enT : List Str → Option En
  | w0 :: w1 :: r => (adT w1).bind (enB w0 r)
  | _ => none
def lnT (l : Str) : Option En := enT (Txt.split l " ")
def bkT (t : Str) : Option (List En) := if t = "" then some [] else allT lnT (Txt.split t "\n")
theorem en_one (w0 : Str) : enT [w0] = none := rfl
theorem en_adnone {w0 w1 : Str} {r : List Str} (h : adT w1 = none) : enT (w0 :: w1 :: r) = none := by
  show (adT w1).bind (enB w0 r) = none
  rw [h]; rfl
theorem en_done {w1 : Str} {ad : List Int} (h : adT w1 = some ad) : enT ["done", w1] = some ⟨"done", ad, []⟩ := by
  show (adT w1).bind (enB "done" []) = _
  rw [h]
  show enB "done" [] ad = _
  unfold enB
  exact if_pos ⟨rfl, rfl⟩
theorem en_bad {w0 w1 : Str} {r : List Str} (h1 : ¬ (w0 = "done" ∧ r = [])) (h2 : ¬ ((w0 = "part" ∨ w0 = "kept") ∧ r.length ≤ 6000)) : enT (w0 :: w1 :: r) = none := by
  show (adT w1).bind (enB w0 r) = none
  cases adT w1 with
  | none => rfl
  | some ad =>
    show enB w0 r ad = none
    unfold enB
    rw [if_neg h1, if_neg h2]
theorem en_mk {w0 w1 : Str} {r : List Str} {ad : List Int} (h1 : ¬ (w0 = "done" ∧ r = [])) (h2 : (w0 = "part" ∨ w0 = "kept") ∧ r.length ≤ 6000) (h : adT w1 = some ad) : enT (w0 :: w1 :: r) = (allT mkT r).map fun ms => ⟨w0, ad, ms⟩ := by
  show (adT w1).bind (enB w0 r) = _
  rw [h]
  show enB w0 r ad = _
  unfold enB
  rw [if_neg h1, if_pos h2]
theorem numT_some {w : Str} (h : isNumT w = true) : ∃ i, numT w = some i ∧ intText? w = some i ∧ w.length ≤ 640 := by
  obtain ⟨i, hi, hl⟩ := num_reads' h
  exact ⟨i, by unfold numT; rw [if_pos h, hi], hi, hl⟩
theorem numT_none {w : Str} (h : isNumT w = false) : numT w = none := by unfold numT; rw [if_neg (by rw [h]; exact Bool.false_ne_true)]
theorem neg_text : intText? "-1" = some (-1) := by decide +kernel
theorem neg_notNum : isNumT "-1" = false := by decide +kernel
theorem mkT_neg : mkT "-1" = some (-1) := by unfold mkT; rw [if_pos rfl]
theorem mkT_other {w : Str} (h : w ≠ "-1") : mkT w = numT w := by unfold mkT; rw [if_neg h]
/-- what may not be a maker -/
def badMk (w : Str) : Bool := !decide (w = "-1") && !isNumT w
theorem badMk_iff {w : Str} : badMk w = true ↔ mkT w = none := by
  unfold badMk
  by_cases h : w = "-1"
  · subst h
    rw [mkT_neg, decide_eq_true rfl]; simp
  · rw [mkT_other h, decide_eq_false h]
    cases hn : isNumT w with
    | true => obtain ⟨i, e, _⟩ := numT_some hn; rw [e]; simp
    | false => rw [numT_none hn]; simp
theorem mkT_int {w : Str} {i : Int} (h : mkT w = some i) : intText? w = some i ∧ w.length ≤ 640 := by
  by_cases e : w = "-1"
  · subst e
    rw [mkT_neg] at h
    cases Option.some.inj h
    exact ⟨neg_text, by decide +kernel⟩
  · rw [mkT_other e] at h
    cases hn : isNumT w with
    | true =>
      obtain ⟨j, e1, e2, e3⟩ := numT_some hn
      rw [e1] at h
      cases Option.some.inj h
      exact ⟨e2, e3⟩
    | false => rw [numT_none hn] at h; cases h
theorem numT_int {w : Str} {i : Int} (h : numT w = some i) : intText? w = some i ∧ w.length ≤ 640 ∧ isNumT w = true := by
  cases hn : isNumT w with
  | true =>
    obtain ⟨j, e1, e2, e3⟩ := numT_some hn
    rw [e1] at h
    cases Option.some.inj h
    exact ⟨e2, e3, rfl⟩
  | false => rw [numT_none hn] at h; cases h
/-! ### the pieces of a split text -/
theorem join_len_eq (k : Nat) : ∀ (ws : List Str), ws ≠ [] → (Str.join (sg k) ws).length + 1 = (ws.map (·.length)).sum + ws.length
  | [], h => absurd rfl h
  | [a], _ => by show a.length + 1 = _; simp
  | a :: b :: r, _ => by
    have ih := join_len_eq k (b :: r) (by simp)
    show (a ++ sg k ++ Str.join (sg k) (b :: r)).length + 1 = _
    rw [Str.length_append, Str.length_append]
    have h2 : (sg k).length = 1 := rfl
    simp only [List.map_cons, List.sum_cons, List.length_cons] at ih ⊢
    omega
theorem split_ne (x : Str) (k : Nat) : Txt.split x (sg k) ≠ [] := fun e => by
  have := PyProof.Rows.split_pos x (sg k)
  rw [e] at this
  exact absurd this (by decide)
theorem split_sum (x : Str) (k : Nat) : ((Txt.split x (sg k)).map (·.length)).sum + (Txt.split x (sg k)).length = x.length + 1 := by
  have h := join_len_eq k _ (split_ne x k)
  have e : Str.join (sg k) (Txt.split x (sg k)) = x := StrLaws.join_split _ _
  rw [e] at h
  omega
theorem mem_sum : ∀ {ws : List Str} {w : Str}, w ∈ ws → w.length ≤ (ws.map (·.length)).sum
  | x :: r, w, h => by
    rw [List.map_cons, List.sum_cons]
    rcases List.mem_cons.mp h with rfl | h
    · omega
    · have := mem_sum h
      omega
theorem split_len {x : Str} {k : Nat} : (Txt.split x (sg k)).length ≤ x.length + 1 := by have := split_sum x k; omega
theorem split_mem {x w : Str} {k : Nat} (h : w ∈ Txt.split x (sg k)) : w.length ≤ x.length := by
  have h1 := split_sum x k
  have h2 := mem_sum h
  have h3 : 1 ≤ (Txt.split x (sg k)).length := by
    cases e : Txt.split x (sg k) with
    | nil => exact absurd e (split_ne x k)
    | cons _ _ => simp
  omega
end Ex
set_option Elab.async false
set_option linter.all false
set_option maxRecDepth 100000
set_option maxHeartbeats 4000000
namespace Ex
open PySem L2 PyProof.Rows
/-! ### reading a change, in pure words -/
def plT : List Str → Option Pl
  | [w0, w1] => if w0 = "cell" then (numT w1).map Pl.cell else if w0 = "drawn" ∧ isNameT w1 = true then some (.drawn w1) else none
  | [w0, w1, w2] => if w0 = "box" then (if isNameT w2 = true then (adT w1).map (Pl.box · w2) else none) else if w0 = "world" ∧ isNameT w1 = true then (numT w2).map (Pl.world w1) else none
  | _ => none
def goB (w : Str) : Option (Option Bool) := if w = "free" then some none else if w = "yes" then some (some true) else if w = "no" then some (some false) else none
def rowT (t : Str) : List Str → Option Ch
  | w1 :: w2 :: r => if 10 ∈ t.cps.toList ∨ w2 :: r = [("" : Str)] then none else (numT w1).map fun n => .row n (Txt.join " " (w2 :: r))
  | _ => none
def startT (mid : List Str) (last : Str) : Option Ch := (plT mid).bind fun p => (numT last).map (Ch.start p)
def goesT : List Str → Option Ch
  | [w1, w2] => (adT w1).bind fun ad => (goB w2).map (Ch.goes ad)
  | _ => none
def chW (t w0 : Str) (r : List Str) : Option Ch := if w0 = "row" then rowT t r else if w0 = "start" then startT r.dropLast (r.getLastD w0) else if w0 = "goes" then goesT r else none
def chT (t : Str) : Option Ch := match Txt.split t " " with
  | [] => none
  | w0 :: r => chW t w0 r
theorem chT_eq {t w0 : Str} {r : List Str} (h : Txt.split t " " = w0 :: r) : chT t = chW t w0 r := by unfold chT; rw [h]
/-! ### cut at the first blank -/
theorem part_none {t : Str} (h : 32 ∉ t.cps.toList) : Txt.partition t " " = (t, ("" : Str), ("" : Str)) := by
  rcases PyProof.Rows.partition_whole t " " with ⟨e, _⟩ | ⟨i, e, h1, h2⟩
  · rw [e]
    have e0 : (Str.empty : Str) = "" := by decide +kernel
    first | rfl | rw [e0]
  · exfalso
    rw [blank_sg] at h1
    exact h (List.mem_of_getElem? ((StrLaws.subAt_one _ 32 i).mp h1))
theorem words_text {t w0 : Str} {r : List Str} (h : Txt.split t " " = w0 :: r) : t = Txt.join " " (w0 :: r) ∧ ∀ w ∈ w0 :: r, 32 ∉ w.cps.toList := by
  rw [blank_sg] at h
  refine ⟨?_, fun w hw => ?_⟩
  · rw [blank_sg, sg_join_eq, ← h]
    exact (StrLaws.join_split t (sg 32)).symm
  · rw [← h] at hw
    exact StrLaws.split_free t 32 w hw
theorem join_nil : Txt.join " " [] = "" := by decide +kernel
theorem join_sing (x : Str) : Txt.join " " [x] = x := by rw [join_text]; rfl
/-- what stands before the first blank, and behind it -/
theorem part_split {t w0 : Str} {r : List Str} (h : Txt.split t " " = w0 :: r) : ∃ s, Txt.partition t " " = (w0, s, Txt.join " " r) := by
  obtain ⟨e, f⟩ := words_text h
  match r, e, f with
  | [], e, f =>
    rw [join_sing] at e
    subst e
    exact ⟨"", by rw [part_none (f t (by simp)), join_nil]⟩
  | b :: r, e, f =>
    rw [e]
    exact ⟨" ", part_join (f w0 (by simp))⟩
theorem split_again {ws : List Str} (h0 : ws ≠ []) (f : ∀ w ∈ ws, 32 ∉ w.cps.toList) : Txt.split (Txt.join " " ws) " " = ws := by
  rw [blank_sg]; exact sg_split_join h0 f
theorem part_empty : Txt.partition "" " " = (("" : Str), ("" : Str), ("" : Str)) := part_none (by decide +kernel)
theorem num_empty : numT "" = none := by decide +kernel
theorem join_empty {w : Str} {r : List Str} : Txt.join " " (w :: r) = "" ↔ w :: r = [("" : Str)] := by
  constructor
  · intro h
    cases r with
    | nil => rw [join_sing] at h; rw [h]
    | cons b r =>
      exfalso
      rw [join_first] at h
      have h2 := congrArg (fun x : Str => x.cps.toList) h
      simp only [PySem.W.KT.app_list] at h2
      have e0 : ("" : Str).cps.toList = [] := by decide +kernel
      rw [e0] at h2
      simp [sg] at h2
  · intro h
    rw [h, join_sing]
theorem num_signs {w : Str} (h : isNumT w = true) : 10 ∉ w.cps.toList := by
  intro hc
  have hm : madeOf w "0123456789" = true := by
    cases hm : madeOf w "0123456789" with
    | true => rfl
    | false => unfold isNumT at h; rw [hm] at h; simp at h
  have := (fig_iff 10).mp (made_iff.mp hm 10 hc)
  omega
theorem row_sign {t w1 : Str} {r : List Str} (h : Txt.split t " " = ("row" : Str) :: w1 :: r) (hn : isNumT w1 = true) : 10 ∈ t.cps.toList ↔ 10 ∈ (Txt.join " " r).cps.toList := by
  obtain ⟨e, f⟩ := words_text h
  have e0 : 10 ∉ ("row" : Str).cps.toList := by decide +kernel
  have e1 := num_signs hn
  have e3 : 10 ∉ (sg 32).cps.toList := by decide +kernel
  rw [e, join_first]
  cases r with
  | nil =>
    rw [join_sing, join_nil]
    have e4 : 10 ∉ ("" : Str).cps.toList := by decide +kernel
    simp only [PySem.W.KT.app_list, List.mem_append]
    constructor
    · rintro ((h | h) | h)
      · exact absurd h e0
      · exact absurd h e3
      · exact absurd h e1
    · intro h; exact absurd h e4
  | cons b r =>
    rw [join_first w1]
    simp only [PySem.W.KT.app_list, List.mem_append]
    constructor
    · rintro ((h | h) | ((h | h) | h))
      · exact absurd h e0
      · exact absurd h e3
      · exact absurd h e1
      · exact absurd h e3
      · exact h
    · intro h; exact .inr (.inr h)
theorem row_none {t w1 : Str} {r : List Str} (h : numT w1 = none) : rowT t (w1 :: r) = none := by
  cases r with
  | nil => rfl
  | cons b r =>
    show (if _ then none else _) = none
    rw [h]
    split <;> rfl
theorem row_bad {t w1 w2 : Str} {r : List Str} (h : 10 ∈ t.cps.toList ∨ w2 :: r = [("" : Str)]) : rowT t (w1 :: w2 :: r) = none := by
  show (if _ then none else _) = none
  rw [if_pos h]
theorem row_good {t w1 w2 : Str} {r : List Str} {n : Int} (h : ¬ (10 ∈ t.cps.toList ∨ w2 :: r = [("" : Str)])) (hn : numT w1 = some n) : rowT t (w1 :: w2 :: r) = some (.row n (Txt.join " " (w2 :: r))) := by
  show (if _ then none else (numT w1).map fun n => Ch.row n (Txt.join " " (w2 :: r))) = _
  rw [if_neg h, hn]; rfl
theorem numT_dec (w : Str) : (isNumT w = true ∧ ∃ i, numT w = some i ∧ intText? w = some i ∧ w.length ≤ 640) ∨ (isNumT w = false ∧ numT w = none) := by
  cases h : isNumT w with
  | true => exact .inl ⟨rfl, numT_some h⟩
  | false => exact .inr ⟨rfl, numT_none h⟩
theorem ne_cd : ("drawn" : Str) ≠ "cell" := by decide +kernel
theorem ne_wb : ("world" : Str) ≠ "box" := by decide +kernel
theorem pl2_def (w0 w1 : Str) : plT [w0, w1] = if w0 = "cell" then (numT w1).map Pl.cell else if w0 = "drawn" ∧ isNameT w1 = true then some (.drawn w1) else none := rfl
theorem pl3_def (w0 w1 w2 : Str) : plT [w0, w1, w2] = if w0 = "box" then (if isNameT w2 = true then (adT w1).map (Pl.box · w2) else none) else if w0 = "world" ∧ isNameT w1 = true then (numT w2).map (Pl.world w1) else none := rfl
theorem pl_box_ok {w1 w2 : Str} {ad : List Int} (h : adT w1 = some ad) (hn : isNameT w2 = true) : plT ["box", w1, w2] = some (.box ad w2) := by
  rw [pl3_def, if_pos rfl, if_pos hn, h]; rfl
theorem pl_box_ad {w1 w2 : Str} (h : adT w1 = none) : plT ["box", w1, w2] = none := by
  rw [pl3_def, if_pos rfl, h]; split <;> rfl
theorem pl_box_nm {w1 w2 : Str} (h : isNameT w2 = false) : plT ["box", w1, w2] = none := by
  rw [pl3_def, if_pos rfl, if_neg (by rw [h]; exact Bool.false_ne_true)]
theorem pl_world_ok {w1 w2 : Str} {i : Int} (h : numT w2 = some i) (hn : isNameT w1 = true) : plT ["world", w1, w2] = some (.world w1 i) := by
  rw [pl3_def, if_neg ne_wb, if_pos ⟨rfl, hn⟩, h]; rfl
theorem pl_world_num {w1 w2 : Str} (h : numT w2 = none) : plT ["world", w1, w2] = none := by
  rw [pl3_def, if_neg ne_wb, h]; split <;> rfl
theorem pl_world_nm {w1 w2 : Str} (h : isNameT w1 = false) : plT ["world", w1, w2] = none := by
  rw [pl3_def, if_neg ne_wb, if_neg (by rw [h]; exact fun z => Bool.false_ne_true z.2)]
theorem pl_cell_ok {w1 : Str} {i : Int} (h : numT w1 = some i) : plT ["cell", w1] = some (.cell i) := by
  rw [pl2_def, if_pos rfl, h]; rfl
theorem pl_cell_no {w1 : Str} (h : numT w1 = none) : plT ["cell", w1] = none := by
  rw [pl2_def, if_pos rfl, h]; rfl
theorem pl_drawn_ok {w1 : Str} (h : isNameT w1 = true) : plT ["drawn", w1] = some (.drawn w1) := by
  rw [pl2_def, if_neg ne_cd, if_pos ⟨rfl, h⟩]
theorem pl_drawn_no {w1 : Str} (h : isNameT w1 = false) : plT ["drawn", w1] = none := by
  rw [pl2_def, if_neg ne_cd, if_neg (by rw [h]; exact fun z => Bool.false_ne_true z.2)]
theorem pl_2 {w0 w1 : Str} (h1 : w0 ≠ "cell") (h2 : w0 ≠ "drawn") : plT [w0, w1] = none := by
  rw [pl2_def, if_neg h1, if_neg fun z => h2 z.1]
theorem pl_3 {w0 w1 w2 : Str} (h1 : w0 ≠ "box") (h2 : w0 ≠ "world") : plT [w0, w1, w2] = none := by
  rw [pl3_def, if_neg h1, if_neg fun z => h2 z.1]
theorem start_pl {m : List Str} {l : Str} (h : plT m = none) : startT m l = none := by unfold startT; rw [h]; rfl
theorem start_num {m : List Str} {l : Str} (h : numT l = none) : startT m l = none := by unfold startT; rw [h]; cases plT m <;> rfl
theorem start_ok {m : List Str} {l : Str} {p : Pl} {i : Int} (h : plT m = some p) (hn : numT l = some i) : startT m l = some (.start p i) := by unfold startT; rw [h, hn]; rfl
theorem goes_ad {w1 w2 : Str} (h : adT w1 = none) : goesT [w1, w2] = none := by
  show (adT w1).bind _ = none
  rw [h]; rfl
theorem goes_go {w1 w2 : Str} (h : goB w2 = none) : goesT [w1, w2] = none := by
  show (adT w1).bind _ = none
  rw [h]; cases adT w1 <;> rfl
theorem goes_ok {w1 w2 : Str} {ad : List Int} {o : Option Bool} (h : adT w1 = some ad) (hn : goB w2 = some o) : goesT [w1, w2] = some (.goes ad o) := by
  show (adT w1).bind _ = _
  rw [h, hn]; rfl
theorem ne_sr : ("start" : Str) ≠ "row" := by decide +kernel
theorem ne_gr : ("goes" : Str) ≠ "row" := by decide +kernel
theorem ne_gs : ("goes" : Str) ≠ "start" := by decide +kernel
theorem ch_row (t : Str) (r : List Str) : chW t "row" r = rowT t r := by unfold chW; rw [if_pos rfl]
theorem ch_start (t : Str) (r : List Str) : chW t "start" r = startT r.dropLast (r.getLastD "start") := by unfold chW; rw [if_neg ne_sr, if_pos rfl]
theorem ch_goes (t : Str) (r : List Str) : chW t "goes" r = goesT r := by unfold chW; rw [if_neg ne_gr, if_neg ne_gs, if_pos rfl]
theorem ch_other {t w0 : Str} {r : List Str} (h1 : w0 ≠ "row") (h2 : w0 ≠ "start") (h3 : w0 ≠ "goes") : chW t w0 r = none := by unfold chW; rw [if_neg h1, if_neg h2, if_neg h3]
theorem goes_len : ∀ {r : List Str}, r.length ≠ 2 → goesT r = none
  | [], _ => rfl
  | [_], _ => rfl
  | [_, _], h => absurd rfl h
  | _ :: _ :: _ :: _, _ => rfl
end Ex
set_option Elab.async false
set_option linter.all false
set_option maxRecDepth 100000
set_option maxHeartbeats 4000000
namespace K84
open PySem L2 PyProof.Rows Ex
theorem boot_str : bootBuiltins "str" = some (.type "str") := by decide +kernel
theorem boot_int : bootBuiltins "int" = some (.type "int") := by decide +kernel
theorem boot_tuple : bootBuiltins "tuple" = some (.type "tuple") := by decide +kernel
theorem boot_all : bootBuiltins "all" = some (.builtin "all") := by decide +kernel
theorem boot_isinstance : bootBuiltins "isinstance" = some (.builtin "isinstance") := by decide +kernel
def top (i : Nat) : Stmt := PySem.Challenge.pw_hadbeen_k84_no_change.main.body.getD i (.Pass ⟨0, 0, 0, 0⟩)
abbrev s_is_made_of : Stmt := top 13
theorem sc_is_made_of : FnScope ["text", "signs"] ["text", "signs"] (defScope s_is_made_of) := ⟨rfl, rfl, rfl, by decide +kernel, rfl, by decide +kernel, by decide +kernel⟩
abbrev s_is_name : Stmt := top 14
theorem sc_is_name : FnScope ["thing"] ["thing"] (defScope s_is_name) := ⟨rfl, rfl, rfl, by decide +kernel, rfl, by decide +kernel, by decide +kernel⟩
abbrev s_is_number_text : Stmt := top 15
theorem sc_is_number_text : FnScope ["text"] ["text"] (defScope s_is_number_text) := ⟨rfl, rfl, rfl, by decide +kernel, rfl, by decide +kernel, by decide +kernel⟩
abbrev s_read_address : Stmt := top 19
theorem sc_read_address : FnScope ["word", "words"] ["word"] (defScope s_read_address) := ⟨rfl, rfl, rfl, by decide +kernel, rfl, by decide +kernel, by decide +kernel⟩
abbrev s_read_number : Stmt := top 20
theorem sc_read_number : FnScope ["word"] ["word"] (defScope s_read_number) := ⟨rfl, rfl, rfl, by decide +kernel, rfl, by decide +kernel, by decide +kernel⟩
abbrev s_read_name : Stmt := top 21
theorem sc_read_name : FnScope ["word"] ["word"] (defScope s_read_name) := ⟨rfl, rfl, rfl, by decide +kernel, rfl, by decide +kernel, by decide +kernel⟩
abbrev s_read_change : Stmt := top 22
theorem sc_read_change : FnScope ["text", "kind", "words"] ["text"] (defScope s_read_change) := ⟨rfl, rfl, rfl, by decide +kernel, rfl, by decide +kernel, by decide +kernel⟩
abbrev s_read_row_change : Stmt := top 23
theorem sc_read_row_change : FnScope ["text", "pieces", "number"] ["text"] (defScope s_read_row_change) := ⟨rfl, rfl, rfl, by decide +kernel, rfl, by decide +kernel, by decide +kernel⟩
abbrev s_read_place : Stmt := top 24
theorem sc_read_place : FnScope ["words", "kind"] ["words"] (defScope s_read_place) := ⟨rfl, rfl, rfl, by decide +kernel, rfl, by decide +kernel, by decide +kernel⟩
abbrev s_read_truth : Stmt := top 25
theorem sc_read_truth : FnScope ["word"] ["word"] (defScope s_read_truth) := ⟨rfl, rfl, rfl, by decide +kernel, rfl, by decide +kernel, by decide +kernel⟩
abbrev s_check_text : Stmt := top 26
theorem sc_check_text : FnScope ["thing"] ["thing"] (defScope s_check_text) := ⟨rfl, rfl, rfl, by decide +kernel, rfl, by decide +kernel, by decide +kernel⟩
abbrev s_law_cell : Stmt := top 28
theorem sc_law_cell : FnScope ["_law_script", "_law_k"] ["_law_script", "_law_k"] (defScope s_law_cell) := ⟨rfl, rfl, rfl, by decide +kernel, rfl, by decide +kernel, by decide +kernel⟩
abbrev s_law_mixed : Stmt := top 29
theorem sc_law_mixed : FnScope ["_law_cell_here", "_law_k", "_law_number_here"] ["_law_cell_here", "_law_k"] (defScope s_law_mixed) := ⟨rfl, rfl, rfl, by decide +kernel, rfl, by decide +kernel, by decide +kernel⟩
abbrev s_law_twice : Stmt := top 30
theorem sc_law_twice : FnScope ["_law_cell_here", "_law_k", "_law_number_here"] ["_law_cell_here", "_law_k"] (defScope s_law_twice) := ⟨rfl, rfl, rfl, by decide +kernel, rfl, by decide +kernel, by decide +kernel⟩
abbrev s_law_well : Stmt := top 31
theorem sc_law_well : FnScope ["_law_script", "_law_k"] ["_law_script", "_law_k"] (defScope s_law_well) := ⟨rfl, rfl, rfl, by decide +kernel, rfl, by decide +kernel, by decide +kernel⟩
abbrev s_law_draw : Stmt := top 32
theorem sc_law_draw : FnScope ["_law_well_here", "_law_most", "_law_number_here"] ["_law_well_here", "_law_most"] (defScope s_law_draw) := ⟨rfl, rfl, rfl, by decide +kernel, rfl, by decide +kernel, by decide +kernel⟩
abbrev s_law_number : Stmt := top 33
theorem sc_law_number : FnScope ["_law_well_here", "_law_way"] ["_law_well_here"] (defScope s_law_number) := ⟨rfl, rfl, rfl, by decide +kernel, rfl, by decide +kernel, by decide +kernel⟩
abbrev s_law_address : Stmt := top 34
theorem sc_law_address : FnScope ["_law_well_here", "_law_most"] ["_law_well_here"] (defScope s_law_address) := ⟨rfl, rfl, rfl, by decide +kernel, rfl, by decide +kernel, by decide +kernel⟩
abbrev s_law_address_text : Stmt := top 35
theorem sc_law_address_text : FnScope ["_law_address_here"] ["_law_address_here"] (defScope s_law_address_text) := ⟨rfl, rfl, rfl, by decide +kernel, rfl, by decide +kernel, by decide +kernel⟩
abbrev s_law_name : Stmt := top 36
theorem sc_law_name : FnScope ["_law_well_here", "_law_some"] ["_law_well_here"] (defScope s_law_name) := ⟨rfl, rfl, rfl, by decide +kernel, rfl, by decide +kernel, by decide +kernel⟩
abbrev s_law_is_number : Stmt := top 37
theorem sc_law_is_number : FnScope ["_law_word"] ["_law_word"] (defScope s_law_is_number) := ⟨rfl, rfl, rfl, by decide +kernel, rfl, by decide +kernel, by decide +kernel⟩
abbrev s_law_address_of : Stmt := top 38
theorem sc_law_address_of : FnScope ["_law_word", "_law_numbers"] ["_law_word"] (defScope s_law_address_of) := ⟨rfl, rfl, rfl, by decide +kernel, rfl, by decide +kernel, by decide +kernel⟩
abbrev s_law_is_name : Stmt := top 39
theorem sc_law_is_name : FnScope ["_law_word", "_law_some"] ["_law_word"] (defScope s_law_is_name) := ⟨rfl, rfl, rfl, by decide +kernel, rfl, by decide +kernel, by decide +kernel⟩
abbrev s_law_place : Stmt := top 40
theorem sc_law_place : FnScope ["_law_well_here", "_law_way"] ["_law_well_here"] (defScope s_law_place) := ⟨rfl, rfl, rfl, by decide +kernel, rfl, by decide +kernel, by decide +kernel⟩
abbrev s_law_change : Stmt := top 41
theorem sc_law_change : FnScope ["_law_well_here", "_law_way", "_law_signs", "_law_line"] ["_law_well_here"] (defScope s_law_change) := ⟨rfl, rfl, rfl, by decide +kernel, rfl, by decide +kernel, by decide +kernel⟩
abbrev s_law_text : Stmt := top 42
theorem sc_law_text : FnScope ["_law_change_here", "_law_words"] ["_law_change_here"] (defScope s_law_text) := ⟨rfl, rfl, rfl, by decide +kernel, rfl, by decide +kernel, by decide +kernel⟩
abbrev s_law_menu : Stmt := top 43
theorem sc_law_menu : FnScope ["_law_well_here", "_law_some"] ["_law_well_here"] (defScope s_law_menu) := ⟨rfl, rfl, rfl, by decide +kernel, rfl, by decide +kernel, by decide +kernel⟩
abbrev s_law_spoiled : Stmt := top 44
theorem sc_law_spoiled : FnScope ["_law_well_here", "_law_text_here", "_law_words", "_law_at", "_law_way"] ["_law_well_here", "_law_text_here"] (defScope s_law_spoiled) := ⟨rfl, rfl, rfl, by decide +kernel, rfl, by decide +kernel, by decide +kernel⟩
abbrev s_law_place_of : Stmt := top 45
theorem sc_law_place_of : FnScope ["_law_words"] ["_law_words"] (defScope s_law_place_of) := ⟨rfl, rfl, rfl, by decide +kernel, rfl, by decide +kernel, by decide +kernel⟩
abbrev s_law_due : Stmt := top 46
theorem sc_law_due : FnScope ["_law_text_here", "_law_words", "_law_place_here"] ["_law_text_here"] (defScope s_law_due) := ⟨rfl, rfl, rfl, by decide +kernel, rfl, by decide +kernel, by decide +kernel⟩
abbrev s_law_found : Stmt := top 47
theorem sc_law_found : FnScope ["_law_text_here", "_law_change_here", "e", "_law_others", "_law_alone"] ["_law_text_here"] (defScope s_law_found) := ⟨rfl, rfl, rfl, by decide +kernel, rfl, by decide +kernel, by decide +kernel⟩
abbrev s_law : Stmt := top 48
theorem sc_law : FnScope ["_law_script", "_law_k", "_law_text_here", "_law_well_here", "_law_turn", "_law_one", "_law_other"] ["_law_script"] (defScope s_law) := ⟨rfl, rfl, rfl, by decide +kernel, rfl, by decide +kernel, by decide +kernel⟩
/-- where the defs and classes stand -/
structure Ad where
  f_is_made_of : Addr
  fd_is_made_of : FuncData
  f_is_name : Addr
  fd_is_name : FuncData
  f_is_number_text : Addr
  fd_is_number_text : FuncData
  f_read_address : Addr
  fd_read_address : FuncData
  f_read_number : Addr
  fd_read_number : FuncData
  f_read_name : Addr
  fd_read_name : FuncData
  f_read_change : Addr
  fd_read_change : FuncData
  f_read_row_change : Addr
  fd_read_row_change : FuncData
  f_read_place : Addr
  fd_read_place : FuncData
  f_read_truth : Addr
  fd_read_truth : FuncData
  f_check_text : Addr
  fd_check_text : FuncData
  f_law_cell : Addr
  fd_law_cell : FuncData
  f_law_mixed : Addr
  fd_law_mixed : FuncData
  f_law_twice : Addr
  fd_law_twice : FuncData
  f_law_well : Addr
  fd_law_well : FuncData
  f_law_draw : Addr
  fd_law_draw : FuncData
  f_law_number : Addr
  fd_law_number : FuncData
  f_law_address : Addr
  fd_law_address : FuncData
  f_law_address_text : Addr
  fd_law_address_text : FuncData
  f_law_name : Addr
  fd_law_name : FuncData
  f_law_is_number : Addr
  fd_law_is_number : FuncData
  f_law_address_of : Addr
  fd_law_address_of : FuncData
  f_law_is_name : Addr
  fd_law_is_name : FuncData
  f_law_place : Addr
  fd_law_place : FuncData
  f_law_change : Addr
  fd_law_change : FuncData
  f_law_text : Addr
  fd_law_text : FuncData
  f_law_menu : Addr
  fd_law_menu : FuncData
  f_law_spoiled : Addr
  fd_law_spoiled : FuncData
  f_law_place_of : Addr
  fd_law_place_of : FuncData
  f_law_due : Addr
  fd_law_due : FuncData
  f_law_found : Addr
  fd_law_found : FuncData
  f_law : Addr
  fd_law : FuncData
  c_NoText : Addr
  c_HadError : Addr
  c_NoChange : Addr
  c_NoPlace : Addr
  c_NoProgram : Addr
  c_NoValue : Addr
  r_LANGUAGE_WORDS : Addr
/-- what the text has made -/
structure Tx (K : PySem.W.Frag) (mg : Str → Option Value) (a : Ad) : Prop where
  F_is_made_of : Fun K "is_made_of" "is_made_of" s_is_made_of a.f_is_made_of a.fd_is_made_of
  b_is_made_of : Binds K a.fd_is_made_of ["text", "signs"] []
  m_is_made_of : mg "is_made_of" = some (.ref a.f_is_made_of)
  F_is_name : Fun K "is_name" "is_name" s_is_name a.f_is_name a.fd_is_name
  b_is_name : Binds K a.fd_is_name ["thing"] []
  m_is_name : mg "is_name" = some (.ref a.f_is_name)
  F_is_number_text : Fun K "is_number_text" "is_number_text" s_is_number_text a.f_is_number_text a.fd_is_number_text
  b_is_number_text : Binds K a.fd_is_number_text ["text"] []
  m_is_number_text : mg "is_number_text" = some (.ref a.f_is_number_text)
  F_read_address : Fun K "read_address" "read_address" s_read_address a.f_read_address a.fd_read_address
  b_read_address : Binds K a.fd_read_address ["word"] []
  m_read_address : mg "read_address" = some (.ref a.f_read_address)
  F_read_number : Fun K "read_number" "read_number" s_read_number a.f_read_number a.fd_read_number
  b_read_number : Binds K a.fd_read_number ["word"] []
  m_read_number : mg "read_number" = some (.ref a.f_read_number)
  F_read_name : Fun K "read_name" "read_name" s_read_name a.f_read_name a.fd_read_name
  b_read_name : Binds K a.fd_read_name ["word"] []
  m_read_name : mg "read_name" = some (.ref a.f_read_name)
  F_read_change : Fun K "read_change" "read_change" s_read_change a.f_read_change a.fd_read_change
  b_read_change : Binds K a.fd_read_change ["text"] []
  m_read_change : mg "read_change" = some (.ref a.f_read_change)
  F_read_row_change : Fun K "read_row_change" "read_row_change" s_read_row_change a.f_read_row_change a.fd_read_row_change
  b_read_row_change : Binds K a.fd_read_row_change ["text"] []
  m_read_row_change : mg "read_row_change" = some (.ref a.f_read_row_change)
  F_read_place : Fun K "read_place" "read_place" s_read_place a.f_read_place a.fd_read_place
  b_read_place : Binds K a.fd_read_place ["words"] []
  m_read_place : mg "read_place" = some (.ref a.f_read_place)
  F_read_truth : Fun K "read_truth" "read_truth" s_read_truth a.f_read_truth a.fd_read_truth
  b_read_truth : Binds K a.fd_read_truth ["word"] []
  m_read_truth : mg "read_truth" = some (.ref a.f_read_truth)
  F_check_text : Fun K "check_text" "check_text" s_check_text a.f_check_text a.fd_check_text
  b_check_text : Binds K a.fd_check_text ["thing"] []
  m_check_text : mg "check_text" = some (.ref a.f_check_text)
  F_law_cell : Fun K "_law_cell" "_law_cell" s_law_cell a.f_law_cell a.fd_law_cell
  b_law_cell : Binds K a.fd_law_cell ["_law_script", "_law_k"] []
  m_law_cell : mg "_law_cell" = some (.ref a.f_law_cell)
  F_law_mixed : Fun K "_law_mixed" "_law_mixed" s_law_mixed a.f_law_mixed a.fd_law_mixed
  b_law_mixed : Binds K a.fd_law_mixed ["_law_cell_here", "_law_k"] []
  m_law_mixed : mg "_law_mixed" = some (.ref a.f_law_mixed)
  F_law_twice : Fun K "_law_twice" "_law_twice" s_law_twice a.f_law_twice a.fd_law_twice
  b_law_twice : Binds K a.fd_law_twice ["_law_cell_here", "_law_k"] []
  m_law_twice : mg "_law_twice" = some (.ref a.f_law_twice)
  F_law_well : Fun K "_law_well" "_law_well" s_law_well a.f_law_well a.fd_law_well
  b_law_well : Binds K a.fd_law_well ["_law_script", "_law_k"] []
  m_law_well : mg "_law_well" = some (.ref a.f_law_well)
  F_law_draw : Fun K "_law_draw" "_law_draw" s_law_draw a.f_law_draw a.fd_law_draw
  b_law_draw : Binds K a.fd_law_draw ["_law_well_here", "_law_most"] []
  m_law_draw : mg "_law_draw" = some (.ref a.f_law_draw)
  F_law_number : Fun K "_law_number" "_law_number" s_law_number a.f_law_number a.fd_law_number
  b_law_number : Binds K a.fd_law_number ["_law_well_here"] []
  m_law_number : mg "_law_number" = some (.ref a.f_law_number)
  F_law_address : Fun K "_law_address" "_law_address" s_law_address a.f_law_address a.fd_law_address
  b_law_address : Binds K a.fd_law_address ["_law_well_here"] []
  m_law_address : mg "_law_address" = some (.ref a.f_law_address)
  F_law_address_text : Fun K "_law_address_text" "_law_address_text" s_law_address_text a.f_law_address_text a.fd_law_address_text
  b_law_address_text : Binds K a.fd_law_address_text ["_law_address_here"] []
  m_law_address_text : mg "_law_address_text" = some (.ref a.f_law_address_text)
  F_law_name : Fun K "_law_name" "_law_name" s_law_name a.f_law_name a.fd_law_name
  b_law_name : Binds K a.fd_law_name ["_law_well_here"] []
  m_law_name : mg "_law_name" = some (.ref a.f_law_name)
  F_law_is_number : Fun K "_law_is_number" "_law_is_number" s_law_is_number a.f_law_is_number a.fd_law_is_number
  b_law_is_number : Binds K a.fd_law_is_number ["_law_word"] []
  m_law_is_number : mg "_law_is_number" = some (.ref a.f_law_is_number)
  F_law_address_of : Fun K "_law_address_of" "_law_address_of" s_law_address_of a.f_law_address_of a.fd_law_address_of
  b_law_address_of : Binds K a.fd_law_address_of ["_law_word"] []
  m_law_address_of : mg "_law_address_of" = some (.ref a.f_law_address_of)
  F_law_is_name : Fun K "_law_is_name" "_law_is_name" s_law_is_name a.f_law_is_name a.fd_law_is_name
  b_law_is_name : Binds K a.fd_law_is_name ["_law_word"] []
  m_law_is_name : mg "_law_is_name" = some (.ref a.f_law_is_name)
  F_law_place : Fun K "_law_place" "_law_place" s_law_place a.f_law_place a.fd_law_place
  b_law_place : Binds K a.fd_law_place ["_law_well_here"] []
  m_law_place : mg "_law_place" = some (.ref a.f_law_place)
  F_law_change : Fun K "_law_change" "_law_change" s_law_change a.f_law_change a.fd_law_change
  b_law_change : Binds K a.fd_law_change ["_law_well_here"] []
  m_law_change : mg "_law_change" = some (.ref a.f_law_change)
  F_law_text : Fun K "_law_text" "_law_text" s_law_text a.f_law_text a.fd_law_text
  b_law_text : Binds K a.fd_law_text ["_law_change_here"] []
  m_law_text : mg "_law_text" = some (.ref a.f_law_text)
  F_law_menu : Fun K "_law_menu" "_law_menu" s_law_menu a.f_law_menu a.fd_law_menu
  b_law_menu : Binds K a.fd_law_menu ["_law_well_here"] []
  m_law_menu : mg "_law_menu" = some (.ref a.f_law_menu)
  F_law_spoiled : Fun K "_law_spoiled" "_law_spoiled" s_law_spoiled a.f_law_spoiled a.fd_law_spoiled
  b_law_spoiled : Binds K a.fd_law_spoiled ["_law_well_here", "_law_text_here"] []
  m_law_spoiled : mg "_law_spoiled" = some (.ref a.f_law_spoiled)
  F_law_place_of : Fun K "_law_place_of" "_law_place_of" s_law_place_of a.f_law_place_of a.fd_law_place_of
  b_law_place_of : Binds K a.fd_law_place_of ["_law_words"] []
  m_law_place_of : mg "_law_place_of" = some (.ref a.f_law_place_of)
  F_law_due : Fun K "_law_due" "_law_due" s_law_due a.f_law_due a.fd_law_due
  b_law_due : Binds K a.fd_law_due ["_law_text_here"] []
  m_law_due : mg "_law_due" = some (.ref a.f_law_due)
  F_law_found : Fun K "_law_found" "_law_found" s_law_found a.f_law_found a.fd_law_found
  b_law_found : Binds K a.fd_law_found ["_law_text_here"] []
  m_law_found : mg "_law_found" = some (.ref a.f_law_found)
  F_law : Fun K "law" "law" s_law a.f_law a.fd_law
  b_law : Binds K a.fd_law ["_law_script"] []
  m_law : mg "law" = some (.ref a.f_law)
  m_NoText : mg "NoText" = some (.ref a.c_NoText)
  m_HadError : mg "HadError" = some (.ref a.c_HadError)
  m_NoChange : mg "NoChange" = some (.ref a.c_NoChange)
  m_NoPlace : mg "NoPlace" = some (.ref a.c_NoPlace)
  m_NoProgram : mg "NoProgram" = some (.ref a.c_NoProgram)
  m_NoValue : mg "NoValue" = some (.ref a.c_NoValue)
  z_len : mg "len" = none
  z_isinstance : mg "isinstance" = none
  z_all : mg "all" = none
  z_str : mg "str" = none
  z_int : mg "int" = none
  z_tuple : mg "tuple" = none
  z_range : mg "range" = none
  z_ValueError : mg "ValueError" = none
  g_LETTERS : ∃ t, mg "LETTERS" = some (.str "abcdefghijklmnopqrstuvwxyz" t)
  g_FIGURES : ∃ t, mg "FIGURES" = some (.str "0123456789" t)
  g_MOST_FIGURES : ∃ t, mg "MOST_FIGURES" = some (.int 6 t)
  g_MOST_LETTERS : ∃ t, mg "MOST_LETTERS" = some (.int 6 t)
  g_MOST_NUMBERS : ∃ t, mg "MOST_NUMBERS" = some (.int 100 t)
  g_NO_NUMBERS : ∃ t, mg "NO_NUMBERS" = some (.str "-" t)
  g_LANGUAGE_WORDS : mg "LANGUAGE_WORDS" = some (.ref a.r_LANGUAGE_WORDS)
  s_LANGUAGE_WORDS : ∀ H : Hp, SqT K H a.r_LANGUAGE_WORDS ((["skip", "set", "put", "ask", "draw", "tell", "if", "else", "end", "while", "call", "fun", "main", "give", "cell", "plus", "minus", "times", "over", "rest", "less", "same"] : List Str).map V.str)
  x_NoText : PySem.W.excIn K a.c_NoText [.type "ValueError", .type "Exception", .type "BaseException", .type "object"] "ValueError.__new__" = true
  x_HadError : PySem.W.excIn K a.c_HadError [.type "ValueError", .type "Exception", .type "BaseException", .type "object"] "ValueError.__new__" = true
  ek_NoText : ExK K a.c_NoText
  sp_NoText_HadError : PySem.W.subIn K (.ref a.c_NoText) (.ref a.c_HadError) = some true
  k_NoText_NoChange : PySem.W.kitOne K (.ref a.c_NoText) (.ref a.c_NoChange) = some false
  k_NoText_NoPlace : PySem.W.kitOne K (.ref a.c_NoText) (.ref a.c_NoPlace) = some false
  k_NoText_NoProgram : PySem.W.kitOne K (.ref a.c_NoText) (.ref a.c_NoProgram) = some false
  k_NoText_NoValue : PySem.W.kitOne K (.ref a.c_NoText) (.ref a.c_NoValue) = some false
  k_NoText_ValueError : PySem.W.kitOne K (.ref a.c_NoText) (.type "ValueError") = some true
theorem same_new {H : Hp} {p : Addr} (h : H p = none) (o : HO) : Same H (upd H p o) := fun b u q => by rw [upd_ne (ne_of_none q h)]; exact q
/-- all that was tracked, but at p, is as it was -/
def SameBut (p : Addr) (H H' : Hp) : Prop := ∀ b o, b ≠ p → H b = some o → H' b = some o
theorem SameBut.trans {p : Addr} {H H1 H2 : Hp} (s : SameBut p H H1) (s' : SameBut p H1 H2) : SameBut p H H2 := fun b o hb e => s' b o hb (s b o hb e)
theorem SameBut.then {p : Addr} {H H1 H2 : Hp} (s : SameBut p H H1) (s' : Same H1 H2) : SameBut p H H2 := fun b o hb e => s' b o (s b o hb e)
theorem but_same {p : Addr} {H H' : Hp} (s : Same H H') : SameBut p H H' := fun b o _ e => s b o e
theorem but_upd {p : Addr} {H : Hp} {o : HO} : SameBut p H (upd H p o) := fun b u hb e => by rw [upd_ne hb]; exact e
theorem iteB {A B : Prop} {b : Bool} (hb : b = false) (h : B) : if b = true then A else B := by subst hb; exact iteF h
theorem iteC {A B : Prop} {b : Bool} (hb : b = true) (h : A) : if b = true then A else B := by subst hb; exact iteT h
theorem neq_f {x y : V} (h : x = y) : (!decide (x = y)) = false := by rw [decide_eq_true h]; rfl
theorem lenLe' {n : Nat} (h : n ≤ 1000) : n ≤ sizeLine := Nat.le_of_lt (small1000 h)
theorem lenLe {t : Str} (h : t.length ≤ 1000) : t.length ≤ sizeLine := Nat.le_of_lt (small1000 h)
theorem lineBig {n : Nat} (h : n ≤ 1000000) : n ≤ sizeLine := by have : sizeLine = 16777216 := sizeLine_eq; omega
theorem log_wdy {i : Int} (h : Wdy i) : i.natAbs.log2 < 1920 := by
  have h0 := h.1
  have h1 := h.2
  by_cases hz : i.natAbs = 0
  · rw [hz]; decide
  · exact (Nat.log2_lt hz).mpr (Nat.lt_of_lt_of_le (show i.natAbs < 2 ^ 20 by omega) (Nat.pow_le_pow_right (by decide) (by decide)))
theorem paired_of {α β : Type} {F : α → β → Prop} : ∀ {l : List α} {m : List β}, l.length = m.length → (∀ (i : Nat) a b, l[i]? = some a → m[i]? = some b → F a b) → Paired F l m
  | [], [], _, _ => .nil
  | [], _ :: _, h, _ => by simp at h
  | _ :: _, [], h, _ => by simp at h
  | a :: l, b :: m, h, f => .cons (f 0 a b rfl rfl) (paired_of (by simpa using h) fun i x y hx hy => f (i + 1) x y (by simpa using hx) (by simpa using hy))
theorem paired_mono {α β : Type} {F G : α → β → Prop} (h : ∀ a b, F a b → G a b) : ∀ {l : List α} {m : List β}, Paired F l m → Paired G l m
  | _, _, .nil => .nil
  | _, _, .cons r t => .cons (h _ _ r) (paired_mono h t)
/-! ### a comprehension over what stays: each item by itself -/
def Src (J : It) (H1 : Hp) (us : List V) : Prop := ∀ i H2, Same H1 H2 → (i = us.length → J.stop i H2) ∧ (i < us.length → J.go i H2) ∧ ∀ x H3, i < us.length → J.yld i H2 x H3 → H3 = H2 ∧ us[i]? = some x
theorem src_list {K : PySem.W.Frag} {H1 : Hp} {q : Addr} {us : List V} (hq : SqL K H1 q us) : Src (Itl K q) H1 us := fun i H2 s => by
  have h2 := s.seq hq
  refine ⟨fun e => ⟨us, h2, Nat.le_of_eq e.symm⟩, fun h => ⟨us, us[i], h2, List.getElem?_eq_getElem h⟩, fun x H3 _ hy => ?_⟩
  obtain ⟨rfl, hy⟩ := hy
  exact ⟨rfl, hy us h2⟩
theorem src_tup {K : PySem.W.Frag} {H1 : Hp} {q : Addr} {us : List V} (hq : SqT K H1 q us) : Src (Itt K q) H1 us := fun i H2 s => by
  have h2 := hq.same s
  refine ⟨fun e => ⟨us, h2, Nat.le_of_eq e.symm⟩, fun h => ⟨us, us[i], h2, List.getElem?_eq_getElem h⟩, fun x H3 _ hy => ?_⟩
  obtain ⟨rfl, hy⟩ := hy
  exact ⟨rfl, hy us h2⟩
theorem comp_src {J : It} {σ : L2.St} {caps : List (Str × Nat)} {H1 : Hp} {c : Addr} {us : List V} {Q : Hp → Prop} {te : TE} (R : Nat → V → Hp → Prop) (src : Src J H1 us) (hc : H1 c = none) (hlen : us.length ≤ 2000000)
    (mono : ∀ (i : Nat) y H H' zs, H c = some (.lst zs) → R i y H → SameBut c H H' → R i y H')
    (step : ∀ (i : Nat) u H zs, us[i]? = some u → Same H1 H → H c = some (.lst zs) → ∀ k : VK, (∀ y H', Same H H' → R i y H' → k y H') → te (some u :: capSt caps σ) H k)
    (fin : ∀ ys H', Same H1 H' → H' c = some (.lst ys) → ys.length = us.length → (∀ (i : Nat) y, ys[i]? = some y → R i y H') → Q H') :
    ∃ W : Nat → Nat → List V → Hp → Prop, (∃ m, W 0 m [] (upd H1 c (.lst []))) ∧ ∀ i m ys H2, W i m ys H2 →
      (J.stop i H2 ∧ Q H2) ∨ (J.go i H2 ∧ ∀ x H3, J.yld i H2 x H3 → (fun (_ : L2.St) (H : Hp) (Q : Bool → Hp → Prop) => Q true H) (some x :: capSt caps σ) H3 fun b H4 =>
        if b = true then te (some x :: capSt caps σ) H4 fun y H5 => H5 c = some (.lst ys) ∧ ys.length < sizeLine ∧ ∃ m', m' < m ∧ W (i + 1) m' (ys ++ [y]) (upd H5 c (.lst (ys ++ [y])))
        else ∃ m', m' < m ∧ W (i + 1) m' ys H4) := by
  refine ⟨fun i m ys H' => i + m = us.length ∧ ys.length = i ∧ (∀ (j : Nat) y, ys[j]? = some y → R j y H') ∧ Same H1 H' ∧ H' c = some (.lst ys), ⟨us.length, Nat.zero_add _, rfl, fun j y h => by simp at h, same_new hc _, upd_same⟩, ?_⟩
  rintro i m ys H2 ⟨him, hy, hR, s2, hc2⟩
  obtain ⟨s_stop, s_go, s_yld⟩ := src i H2 s2
  by_cases hi : i = us.length
  · exact .inl ⟨s_stop hi, fin ys H2 s2 hc2 (by omega) hR⟩
  · have hlt : i < us.length := by omega
    refine .inr ⟨s_go hlt, fun x H3 hy3 => ?_⟩
    obtain ⟨rfl, hx⟩ := s_yld x H3 hlt hy3
    refine iteT (step i x H3 ys hx s2 hc2 _ fun y H5 s5 hr => ⟨s5 _ _ hc2, ?_, m - 1, by omega, by omega, ?_, ?_, ?_, upd_same⟩)
    · have : sizeLine = 16777216 := sizeLine_eq
      omega
    · rw [List.length_append]; simp [hy]
    · intro j z hz
      have h5 := s5 _ _ hc2
      by_cases hj : j < ys.length
      · rw [List.getElem?_append_left hj] at hz
        exact mono _ _ _ _ ys h5 (mono _ _ _ _ ys hc2 (hR j z hz) (but_same s5)) but_upd
      · have : j < (ys ++ [y]).length := (List.getElem?_eq_some_iff.mp hz).1
        have ej : j = ys.length := by simp at this; omega
        subst ej
        rw [List.getElem?_append_right (Nat.le_refl _)] at hz
        simp at hz
        subst hz
        rw [hy]
        exact mono _ _ _ _ ys h5 hr but_upd
    · intro b o e
      have nb : b ≠ c := ne_of_none e hc
      rw [upd_ne nb]
      exact s5 _ _ (s2 _ _ e)
/-- .. whose items are known ahead -/
theorem comp_known {J : It} {σ : L2.St} {caps : List (Str × Nat)} {H1 : Hp} {c : Addr} {us ys0 : List V} {Q : Hp → Prop} {te : TE} (src : Src J H1 us) (hc : H1 c = none) (hlen : us.length ≤ 2000000) (hl : ys0.length = us.length)
    (step : ∀ (i : Nat) u y H, us[i]? = some u → ys0[i]? = some y → Same H1 H → ∀ k : VK, (∀ H', Same H H' → k y H') → te (some u :: capSt caps σ) H k)
    (fin : ∀ H', Same H1 H' → H' c = some (.lst ys0) → Q H') :
    ∃ W : Nat → Nat → List V → Hp → Prop, (∃ m, W 0 m [] (upd H1 c (.lst []))) ∧ ∀ i m ys H2, W i m ys H2 →
      (J.stop i H2 ∧ Q H2) ∨ (J.go i H2 ∧ ∀ x H3, J.yld i H2 x H3 → (fun (_ : L2.St) (H : Hp) (Q : Bool → Hp → Prop) => Q true H) (some x :: capSt caps σ) H3 fun b H4 =>
        if b = true then te (some x :: capSt caps σ) H4 fun y H5 => H5 c = some (.lst ys) ∧ ys.length < sizeLine ∧ ∃ m', m' < m ∧ W (i + 1) m' (ys ++ [y]) (upd H5 c (.lst (ys ++ [y])))
        else ∃ m', m' < m ∧ W (i + 1) m' ys H4) :=
  comp_src (fun i y _ => ys0[i]? = some y) src hc hlen (fun _ _ _ _ _ _ h _ => h) (fun i u H zs hu s _ k hk => by
      have hi : i < us.length := (List.getElem?_eq_some_iff.mp hu).1
      have hy : ys0[i]? = some ys0[i] := List.getElem?_eq_getElem (by omega)
      exact step i u _ H hu hy s k fun H' s' => hk _ H' s' hy)
    fun ys H' s' hc' hl' hR => by
      have e : ys = ys0 := by
        apply List.ext_getElem?
        intro i
        by_cases hi : i < ys.length
        · have := hR i _ (List.getElem?_eq_getElem hi)
          rw [this]
          exact List.getElem?_eq_getElem hi
        · rw [List.getElem?_eq_none (by omega), List.getElem?_eq_none (by omega)]
      subst e
      exact fin H' s' hc'
theorem smallM {n : Nat} (h : n ≤ 1000000) : n < sizeLine := by have : sizeLine = 16777216 := sizeLine_eq; omega
/-- a comprehension that keeps what passes a test -/
theorem comp_filter {J : It} {σ : L2.St} {caps : List (Str × Nat)} {H1 : Hp} {c : Addr} {us : List V} {Q : Hp → Prop} {tc : TT} (b : V → Bool) (src : Src J H1 us) (hc : H1 c = none) (hlen : us.length ≤ 1000000)
    (test : ∀ (i : Nat) u H, us[i]? = some u → Same H1 H → ∀ k : Bool → Hp → Prop, (∀ H', Same H H' → k (b u) H') → tc (some u :: capSt caps σ) H k)
    (fin : ∀ H', Same H1 H' → H' c = some (.lst (us.filter b)) → Q H') :
    ∃ W : Nat → Nat → List V → Hp → Prop, (∃ m, W 0 m [] (upd H1 c (.lst []))) ∧ ∀ i m ys H2, W i m ys H2 →
      (J.stop i H2 ∧ Q H2) ∨ (J.go i H2 ∧ ∀ x H3, J.yld i H2 x H3 → tc (some x :: capSt caps σ) H3 fun b H4 =>
        if b = true then tVar 0 (some x :: capSt caps σ) H4 fun y H5 => H5 c = some (.lst ys) ∧ ys.length < sizeLine ∧ ∃ m', m' < m ∧ W (i + 1) m' (ys ++ [y]) (upd H5 c (.lst (ys ++ [y])))
        else ∃ m', m' < m ∧ W (i + 1) m' ys H4) := by
  refine ⟨fun i m ys H' => i + m = us.length ∧ ys = (us.take i).filter b ∧ Same H1 H' ∧ H' c = some (.lst ys), ⟨us.length, Nat.zero_add _, by simp, same_new hc _, upd_same⟩, ?_⟩
  rintro i m ys H2 ⟨him, rfl, s2, hc2⟩
  obtain ⟨s_stop, s_go, s_yld⟩ := src i H2 s2
  by_cases hi : i = us.length
  · refine .inl ⟨s_stop hi, fin H2 s2 ?_⟩
    rw [hc2, hi, List.take_length]
  · have hlt : i < us.length := by omega
    refine .inr ⟨s_go hlt, fun x H3 hy3 => ?_⟩
    obtain ⟨rfl, hx⟩ := s_yld x H3 hlt hy3
    have et : us.take (i + 1) = us.take i ++ [x] := by rw [List.take_add_one, hx]; rfl
    have hl : ((us.take i).filter b).length < sizeLine := by
      refine smallM (Nat.le_trans (List.length_filter_le _ _) ?_)
      rw [List.length_take]; omega
    refine test i x H3 hx s2 _ fun H5 s5 => ?_
    have h5 := s5 _ _ hc2
    cases hb : b x with
    | true =>
      refine iteT ⟨x, rfl, h5, hl, m - 1, by omega, by omega, ?_, fun d o e => ?_, upd_same⟩
      · rw [et, List.filter_append]; simp [hb]
      · have nd : d ≠ c := ne_of_none e hc
        rw [upd_ne nd]
        exact s5 _ _ (s2 _ _ e)
    | false =>
      refine iteF ⟨m - 1, by omega, by omega, ?_, s2.trans s5, h5⟩
      rw [et, List.filter_append]; simp [hb]
end K84
set_option Elab.async false
set_option linter.all false
set_option maxRecDepth 100000000
set_option maxHeartbeats 4000000
namespace K84
open PySem L2 PyProof.Rows Ex
def spMade : Sp := fun vs H Q _ => ∃ t g, vs = [.str t, .str g] ∧ t.length ≤ 1000000 ∧ ∀ H', Same H H' → Q (.bl (madeOf t g)) H'
section
variable {P : Program} {w : World} {K : PySem.W.Frag} {mg : Str → Option Value} {base : Heap} {a : Ad}
theorem ok_is_made_of (T : Tx K mg a) : FnOk P w K mg base CX0 1 a.f_is_made_of a.fd_is_made_of ["text", "signs"] spMade := by
  refine T.F_is_made_of.ok sc_is_made_of (fun vs H Q E h => ?_) (fun cdv A outer s H vs Q E hr h => ?_)
  · obtain ⟨_, _, rfl, _⟩ := h; rfl
  obtain ⟨t, g, rfl, ht, q⟩ := h
  refine ⟨_, (pss_one (ps_ret (pe_callB (call_all rfl (K := K)) rfl T.z_all boot_all (pa_cons (pe_comp1 (y := "signs") (j := 1) (c := s.heap.objs.size + 1) rfl (pi_str (pv 0)) (fun _ _ _ _ => pts_nil) (fun _ _ _ _ => (pe_cmpR op_in_str (pv 0) (pv 1) (by with_unfolding_all rfl))) rfl rfl rfl rfl rfl (by decide +kernel) (by decide +kernel) (by decide +kernel) (by decide +kernel) (by decide +kernel)) pa_nil)))), ?_⟩
  have hsz : t.cps.size ≤ 1000000 := ht
  refine ⟨_, rfl, t, rfl, fun p hp => ?_⟩
  refine ⟨fun i m ys H' => i + m = t.cps.size ∧ ys = (t.cps.toList.take i).map (fun c => V.bl (decide (c ∈ g.cps.toList))) ∧ H' = upd H p (.lst ys), ⟨t.cps.size, Nat.zero_add _, by simp, rfl⟩, ?_⟩
  rintro i m ys H' ⟨him, rfl, rfl⟩
  by_cases hi : i = t.cps.size
  · refine .inl ⟨Nat.le_of_eq hi.symm, ?_⟩
    have e : (t.cps.toList.take i).map (fun c => V.bl (decide (c ∈ g.cps.toList))) = (t.cps.toList.map fun c => decide (c ∈ g.cps.toList)).map V.bl := by
      rw [List.take_of_length_le (by simp [hi]), List.map_map]; rfl
    rw [e]
    refine ⟨p, _, rfl, SqL.of upd_same, ?_⟩
    have e2 : (t.cps.toList.map fun c => decide (c ∈ g.cps.toList)).all id = madeOf t g := by unfold madeOf; rw [List.all_map]; rfl
    rw [e2]
    exact q _ (same_new hp _)
  · have hlt : i < t.cps.size := by omega
    refine .inr ⟨hlt, fun x H3 hy => ?_⟩
    obtain ⟨rfl, c, hc, rfl⟩ := hy
    refine iteT ⟨_, rfl, _, rfl, _, _, rfl, rfl, upd_same, ?_, m - 1, by omega, by omega, ?_, ?_⟩
    · rw [List.length_map, List.length_take]; exact smallM (by simp; omega)
    · have hc' : t.cps.toList[i]? = some c := by simpa using hc
      rw [in_one, List.take_add_one, hc', List.map_append]; rfl
    · rw [upd_upd]
def spBool (f : Str → Bool) : Sp := fun vs H Q _ => ∃ t, vs = [.str t] ∧ t.length ≤ 1000000 ∧ ∀ H', Same H H' → Q (.bl (f t)) H'
theorem ok_is_number_text (T : Tx K mg a) : FnOk P w K mg base CX0 2 a.f_is_number_text a.fd_is_number_text ["text"] (spBool isNumT) := by
  have G_is_made_of : FnOk P w K mg base CX0 1 a.f_is_made_of a.fd_is_made_of ["text", "signs"] spMade := ok_is_made_of T
  refine T.F_is_number_text.ok sc_is_number_text (fun vs H Q E h => ?_) (fun cdv A outer s H vs Q E hr h => ?_)
  · obtain ⟨_, rfl, _⟩ := h; rfl
  obtain ⟨t, rfl, ht, q⟩ := h
  obtain ⟨_, hMOST_FIGURES⟩ := T.g_MOST_FIGURES
  obtain ⟨_, hFIGURES⟩ := T.g_FIGURES
  refine ⟨_, (pss_cons (ps_if (PW.pt (pw_or (pt_not (pt_chain op_le op_le pe_int (pe_callB call_len_str rfl T.z_len PySem.boot_len (pa_cons (pv 0) pa_nil)) (pe_glob (v := .int 6) rfl hMOST_FIGURES ⟨_, rfl⟩))) (pw_or1 (pt_not (pt_val (pe_call G_is_made_of (hr.mono (by first | decide | omega)) rfl T.m_is_made_of T.F_is_made_of.kp T.b_is_made_of .nil pass0 (pa_cons (pv 0) (pa_cons (pe_glob (v := .str "0123456789") rfl hFIGURES ⟨_, rfl⟩) pa_nil)))))))) (pss_one (ps_ret pe_bl)) pss_nil)
      (pss_one (ps_ret (pe_or (pe_cmpR op_eq (pv 0) pe_str (nomark _)) (pe_one (pe_not (pe_bm PySem.F.plainAttrs_str PySem.F.slot_str_startswith PySem.F.type_str_startswith mt_startswith (pv 0) (pa_cons pe_str pa_nil)))))))), ?_⟩
  refine ⟨_, rfl, t, rfl, lineBig ht, _, _, rfl, rfl, _, rfl, ?_⟩
  by_cases h1 : 1 ≤ t.length
  · refine iteC (decide_eq_true (by omega)) ⟨_, _, rfl, rfl, _, rfl, ?_⟩
    by_cases h2 : t.length ≤ 6
    · refine iteB (by rw [decide_eq_true (by omega)]; rfl) ?_
      refine ⟨_, rfl, t, _, rfl, ht, fun H1 s1 => ⟨_, rfl, ?_⟩⟩
      cases hm : madeOf t "0123456789" with
      | false =>
        refine iteT ?_
        have e : isNumT t = false := by unfold isNumT; rw [hm]; simp
        have q' := q H1 s1
        rw [e] at q'
        exact q'
      | true =>
        refine iteF ?_
        refine ⟨_, rfl, rfl, _, rfl, ?_⟩
        by_cases h3 : V.str t = V.str "0"
        · refine iteC (decide_eq_true h3) ?_
          have e : isNumT t = true := by unfold isNumT; rw [hm, decide_eq_true h3, decide_eq_true h1, decide_eq_true h2]; rfl
          have q' := q H1 s1
          rw [e] at q'
          exact q'
        · refine iteB (decide_eq_false h3) ⟨_, rfl, rfl, t, _, rfl, rfl, _, rfl, ?_⟩
          have e : isNumT t = !Txt.startswith t "0" := by unfold isNumT; rw [hm, decide_eq_false h3, decide_eq_true h1, decide_eq_true h2]; rfl
          have q' := q H1 s1
          rw [e] at q'
          exact q'
    · refine iteC (by rw [decide_eq_false (by omega)]; rfl) ?_
      have e : isNumT t = false := by unfold isNumT; rw [decide_eq_false h2]; simp
      have q' := q H (Same.refl H)
      rw [e] at q'
      exact q'
  · refine iteB (decide_eq_false (by omega)) ⟨_, rfl, iteT ?_⟩
    have e : isNumT t = false := by unfold isNumT; rw [decide_eq_false h1]; simp
    have q' := q H (Same.refl H)
    rw [e] at q'
    exact q'
theorem ok_is_name (T : Tx K mg a) : FnOk P w K mg base CX0 2 a.f_is_name a.fd_is_name ["thing"] (spBool isNameT) := by
  have G_is_made_of : FnOk P w K mg base CX0 1 a.f_is_made_of a.fd_is_made_of ["text", "signs"] spMade := ok_is_made_of T
  refine T.F_is_name.ok sc_is_name (fun vs H Q E h => ?_) (fun cdv A outer s H vs Q E hr h => ?_)
  · obtain ⟨_, rfl, _⟩ := h; rfl
  obtain ⟨t, rfl, ht, q⟩ := h
  obtain ⟨_, hMOST_LETTERS⟩ := T.g_MOST_LETTERS
  obtain ⟨_, hLETTERS⟩ := T.g_LETTERS
  refine ⟨_, (pss_cons (ps_if (PW.pt (pw_or (pt_not (pt_val (pe_callB (call_isi (K := K)) rfl T.z_isinstance boot_isinstance (pa_cons (pv 0) (pa_cons (pe_bltn (v := .ty "str") rfl T.z_str boot_str rfl) pa_nil))))) (pw_or1 (pt_not (pt_chain op_le op_le pe_int (pe_callB call_len_str rfl T.z_len PySem.boot_len (pa_cons (pv 0) pa_nil)) (pe_glob (v := .int 6) rfl hMOST_LETTERS ⟨_, rfl⟩)))))) (pss_one (ps_ret pe_bl)) pss_nil)
      (pss_one (ps_ret (pe_and (pe_call G_is_made_of (hr.mono (by first | decide | omega)) rfl T.m_is_made_of T.F_is_made_of.kp T.b_is_made_of .nil pass0 (pa_cons (pv 0) (pa_cons (pe_glob (v := .str "abcdefghijklmnopqrstuvwxyz") rfl hLETTERS ⟨_, rfl⟩) pa_nil))) (pe_one (pe_cmpR op_notIn_seq (pv 0) (pe_glob (v := .ref a.r_LANGUAGE_WORDS) rfl T.g_LANGUAGE_WORDS rfl) (by with_unfolding_all rfl))))))), ?_⟩
  refine ⟨_, rfl, _, _, .type "str", true, rfl, .inl rfl, TyOf.str _, rfl, _, rfl, iteF ?_⟩
  refine ⟨_, rfl, t, rfl, lineBig ht, _, _, rfl, rfl, _, rfl, ?_⟩
  by_cases h1 : 1 ≤ t.length
  · refine iteC (decide_eq_true (by omega)) ⟨_, _, rfl, rfl, _, rfl, ?_⟩
    by_cases h2 : t.length ≤ 6
    · refine iteB (by rw [decide_eq_true (by omega)]; rfl) ?_
      refine ⟨_, rfl, t, _, rfl, ht, fun H1 s1 => ⟨_, rfl, ?_⟩⟩
      cases hm : madeOf t "abcdefghijklmnopqrstuvwxyz" with
      | false =>
        refine iteF ?_
        have e : isNameT t = false := by unfold isNameT; rw [hm]; simp
        have q' := q H1 s1
        rw [e] at q'
        exact q'
      | true =>
        refine iteT ⟨_, rfl, a.r_LANGUAGE_WORDS, _, rfl, .inr (T.s_LANGUAGE_WORDS _), rfl, rfl, ?_⟩
        have e : isNameT t = !inV (.str t) (langWords.map V.str) := by unfold isNameT; rw [hm, decide_eq_true h1, decide_eq_true h2]; rfl
        have q' := q H1 s1
        rw [e] at q'
        exact q'
    · refine iteC (by rw [decide_eq_false (by omega)]; rfl) ?_
      have e : isNameT t = false := by unfold isNameT; rw [decide_eq_false h2]; simp
      have q' := q H (Same.refl H)
      rw [e] at q'
      exact q'
  · refine iteB (decide_eq_false (by omega)) ⟨_, rfl, iteT ?_⟩
    have e : isNameT t = false := by unfold isNameT; rw [decide_eq_false h1]; simp
    have q' := q H (Same.refl H)
    rw [e] at q'
    exact q'
end
end K84
set_option Elab.async false
set_option linter.all false
set_option maxRecDepth 100000
set_option maxHeartbeats 4000000
namespace K84
open PySem L2 PyProof.Rows Ex
/-! ### the law's own draws -/
def four (x0 x1 x2 x3 : Int) : HO := .lst [.int x0, .int x1, .int x2, .int x3]
def Well (H : Hp) (p : Addr) : Prop := ∃ x0 x1 x2 x3, H p = some (four x0 x1 x2 x3)
def spCell (K : PySem.W.Frag) : Sp := fun vs H Q _ => ∃ p k, ∃ ns : List Int, vs = [.ref p, .int k] ∧ SqL K H p (ns.map V.int) ∧ 0 ≤ k ∧ ∀ c, Q (.int c) H
def spMix : Sp := fun vs H Q _ => ∃ c k, vs = [.int c, .int k] ∧ ∀ r, Q (.int r) H
def spWell (K : PySem.W.Frag) : Sp := fun vs H Q _ => ∃ p k, ∃ ns : List Int, vs = [.ref p, .int k] ∧ SqL K H p (ns.map V.int) ∧ 0 ≤ k ∧ ∀ r H', Same H H' → H r = none → Well H' r → Q (.ref r) H'
def spDraw : Sp := fun vs H Q _ => ∃ p m, vs = [.ref p, .int m] ∧ 0 < m ∧ m < 1073741824 ∧ Well H p ∧ ∀ r H', 0 ≤ r → r < m → SameBut p H H' → Well H' p → Q (.int r) H'
theorem Well.same {H H' : Hp} {p : Addr} (h : Well H p) (s : Same H H') : Well H' p := by
  obtain ⟨x0, x1, x2, x3, e⟩ := h
  exact ⟨x0, x1, x2, x3, s _ _ e⟩
theorem Well.some_ {H : Hp} {p c : Addr} (h : Well H p) (hc : H c = none) : c ≠ p := fun z => by
  obtain ⟨_, _, _, _, e⟩ := h
  rw [← z, hc] at e; cases e
section
variable {P : Program} {w : World} {K : PySem.W.Frag} {mg : Str → Option Value} {base : Heap} {a : Ad}
theorem ok_law_cell (T : Tx K mg a) : FnOk P w K mg base CX0 1 a.f_law_cell a.fd_law_cell ["_law_script", "_law_k"] (spCell K) := by
  refine T.F_law_cell.ok sc_law_cell (fun vs H Q E h => ?_) (fun cdv A outer s H vs Q E hr h => ?_)
  · obtain ⟨_, _, _, rfl, _⟩ := h; rfl
  obtain ⟨p, k, ns, rfl, hS, hk, q⟩ := h
  refine ⟨_, (pss_cons (ps_if (pt_cmpR op_lt (pv 1) (pe_callB call_len_seq rfl T.z_len PySem.boot_len (pa_cons (pv 0) pa_nil)) (nomark _)) (pss_one (ps_ret (pe_ix ix_list (pv 0) (pv 1) (fun _ _ => rfl)))) pss_nil)
      (pss_one (ps_ret pe_int))), ?_⟩
  refine ⟨_, rfl, _, rfl, p, _, rfl, .inl hS, _, _, rfl, rfl, _, rfl, ite2 (fun c => ?_) (fun c => ?_)⟩
  · have c' : k < (((ns.map V.int).length : Nat) : Int) := of_decide_eq_true c
    rw [List.length_map] at c'
    have hk2 : k.toNat < ns.length := by omega
    have ek : k = ((k.toNat : Nat) : Int) := by omega
    have z : atI (ns.map V.int) ((k.toNat : Nat) : Int) = some (.int ns[k.toNat]) := atI_nat (by rw [List.getElem?_map, List.getElem?_eq_getElem hk2]; rfl)
    rw [← ek] at z
    exact ⟨_, rfl, _, rfl, p, _, _, _, rfl, rfl, hS, z, q _⟩
  · exact q 0
theorem ok_law_mixed (T : Tx K mg a) : FnOk P w K mg base CX0 1 a.f_law_mixed a.fd_law_mixed ["_law_cell_here", "_law_k"] spMix := by
  refine T.F_law_mixed.ok sc_law_mixed (fun vs H Q E h => ?_) (fun cdv A outer s H vs Q E hr h => ?_)
  · obtain ⟨_, _, rfl, _⟩ := h; rfl
  obtain ⟨c, k, rfl, q⟩ := h
  refine ⟨_, (pss_cons (ps_set (i := 2) sc_law_mixed.nd rfl (Or.inl rfl) (pe_op op_mod (pe_op op_mul (pe_op op_add (pe_op op_add (pv 0) (pe_op op_mul pe_int (pv 1))) pe_int) pe_int) pe_int))
      (pss_one (ps_ret (pe_op op_mod (pe_op op_mul (pv 2) (pe_op op_add (pe_op op_fdiv (pv 2) pe_int) pe_int)) pe_int)))), ?_⟩
  refine ⟨_, rfl, _, rfl, _, _, rfl, rfl, .inl ⟨by decide, by decide⟩, _, _, rfl, rfl, _, _, rfl, rfl, _, _, rfl, rfl, .inr ⟨by decide, by decide⟩, _, _, rfl, rfl, (by show (0 : Int) < 2147483647; decide), ?_⟩
  have h0 : (0 : Int) ≤ ((c + 7919 * k + 1) * 48271) % 2147483647 := Int.emod_nonneg _ (by decide)
  have h1 : ((c + 7919 * k + 1) * 48271) % 2147483647 < 2147483647 := Int.emod_lt_of_pos _ (by decide)
  exact ⟨_, rfl, _, rfl, _, _, rfl, rfl, ⟨by decide, by decide⟩, _, _, rfl, rfl, _, _, rfl, rfl, .inl ⟨by omega, by omega⟩, _, _, rfl, rfl, (by show (0 : Int) < 2147483647; decide), q _⟩
theorem ok_law_twice (T : Tx K mg a) : FnOk P w K mg base CX0 2 a.f_law_twice a.fd_law_twice ["_law_cell_here", "_law_k"] spMix := by
  have G_law_mixed : FnOk P w K mg base CX0 1 a.f_law_mixed a.fd_law_mixed ["_law_cell_here", "_law_k"] spMix := ok_law_mixed T
  refine T.F_law_twice.ok sc_law_twice (fun vs H Q E h => ?_) (fun cdv A outer s H vs Q E hr h => ?_)
  · obtain ⟨_, _, rfl, _⟩ := h; rfl
  obtain ⟨c, k, rfl, q⟩ := h
  refine ⟨_, (pss_cons (ps_set (i := 2) sc_law_twice.nd rfl (Or.inl rfl) (pe_op op_mod (pe_op op_mul (pe_op op_add (pe_op op_add (pe_call G_law_mixed (hr.mono (by first | decide | omega)) rfl T.m_law_mixed T.F_law_mixed.kp T.b_law_mixed .nil pass0 (pa_cons (pv 0) (pa_cons (pv 1) pa_nil))) (pe_op op_mul pe_int (pv 1))) pe_int) pe_int) pe_int))
      (pss_one (ps_ret (pe_op op_mod (pe_op op_mul (pv 2) (pe_op op_add (pe_op op_fdiv (pv 2) pe_int) pe_int)) pe_int)))), ?_⟩
  refine ⟨_, rfl, _, rfl, c, k, rfl, fun m => ⟨_, rfl, _, _, rfl, rfl, .inl ⟨by decide, by decide⟩, _, _, rfl, rfl, _, _, rfl, rfl, _, _, rfl, rfl, .inr ⟨by decide, by decide⟩, _, _, rfl, rfl, (by show (0 : Int) < 2147483647; decide), ?_⟩⟩
  have h0 : (0 : Int) ≤ ((m + 104729 * k + 11) * 69621) % 2147483647 := Int.emod_nonneg _ (by decide)
  have h1 : ((m + 104729 * k + 11) * 69621) % 2147483647 < 2147483647 := Int.emod_lt_of_pos _ (by decide)
  exact ⟨_, rfl, _, rfl, _, _, rfl, rfl, ⟨by decide, by decide⟩, _, _, rfl, rfl, _, _, rfl, rfl, .inl ⟨by omega, by omega⟩, _, _, rfl, rfl, (by show (0 : Int) < 2147483647; decide), q _⟩
theorem ok_law_well (T : Tx K mg a) : FnOk P w K mg base CX0 2 a.f_law_well a.fd_law_well ["_law_script", "_law_k"] (spWell K) := by
  have G_law_cell : FnOk P w K mg base CX0 1 a.f_law_cell a.fd_law_cell ["_law_script", "_law_k"] (spCell K) := ok_law_cell T
  refine T.F_law_well.ok sc_law_well (fun vs H Q E h => ?_) (fun cdv A outer s H vs Q E hr h => ?_)
  · obtain ⟨_, _, _, rfl, _⟩ := h; rfl
  obtain ⟨p, k, ns, rfl, hS, hk, q⟩ := h
  refine ⟨_, (pss_one (ps_ret (pe_lst (pa_cons (pe_op op_mod (pe_call G_law_cell (hr.mono (by first | decide | omega)) rfl T.m_law_cell T.F_law_cell.kp T.b_law_cell .nil pass0 (pa_cons (pv 0) (pa_cons pe_int pa_nil))) pe_int) (pa_cons (pe_call G_law_cell (hr.mono (by first | decide | omega)) rfl T.m_law_cell T.F_law_cell.kp T.b_law_cell .nil pass0 (pa_cons (pv 0) (pa_cons (pv 1) pa_nil))) (pa_cons pe_int (pa_cons (pe_op op_add (pe_call G_law_cell (hr.mono (by first | decide | omega)) rfl T.m_law_cell T.F_law_cell.kp T.b_law_cell .nil pass0 (pa_cons (pv 0) (pa_cons (pv 1) pa_nil))) (pv 1)) pa_nil))))))), ?_⟩
  exact ⟨_, rfl, p, 0, ns, rfl, hS, by omega, fun c0 => ⟨_, _, rfl, rfl, (by show (0 : Int) < 2; decide), _, rfl, _, rfl, p, k, ns, rfl, hS, hk, fun c1 => ⟨_, rfl, _, rfl, p, k, ns, rfl, hS, hk, fun c3 => ⟨_, rfl, _, _, rfl, rfl, (by show 4 ≤ sizeLine; decide), fun r hr' => q r _ (same_new hr' _) hr' ⟨_, _, _, _, upd_same⟩⟩⟩⟩⟩
theorem ok_law_draw (T : Tx K mg a) : FnOk P w K mg base CX0 3 a.f_law_draw a.fd_law_draw ["_law_well_here", "_law_most"] spDraw := by
  have G_law_twice : FnOk P w K mg base CX0 2 a.f_law_twice a.fd_law_twice ["_law_cell_here", "_law_k"] spMix := ok_law_twice T
  refine T.F_law_draw.ok sc_law_draw (fun vs H Q E h => ?_) (fun cdv A outer s H vs Q E hr h => ?_)
  · obtain ⟨_, _, rfl, _⟩ := h; rfl
  obtain ⟨p, m, rfl, hm, hm2, ⟨x0, x1, x2, x3, hp⟩, q⟩ := h
  refine ⟨_, (pss_cons (ps_if (PW.pt (pw_and (pt_cmpR op_eq (pe_ix ix_list (pv 0) pe_int (fun _ _ => rfl)) pe_int (nomark _)) (pw_and1 (pt_cmpR op_notIn_seq (pe_ix ix_list (pv 0) pe_int (fun _ _ => rfl)) (pe_tup (pa_cons pe_int (pa_cons (pe_un un_neg pe_int) pa_nil))) (by with_unfolding_all rfl))))) (pss_cons (ps_set (i := 2) sc_law_draw.nd rfl (Or.inl rfl) (pe_op op_mod (pe_ix ix_list (pv 0) pe_int (fun _ _ => rfl)) (pv 1)))
      (pss_cons (ps_asg (pe_op op_fdiv (pe_ix ix_list (pv 0) pe_int (fun _ _ => rfl)) (pv 1)) (pg_sub (pv 0) pe_int set_list))
      (pss_one (ps_ret (pv 2))))) pss_nil)
      (pss_cons (ps_asg (pe_op op_add (pe_ix ix_list (pv 0) pe_int (fun _ _ => rfl)) pe_int) (pg_sub (pv 0) pe_int set_list))
      (pss_one (ps_ret (pe_op op_mod (pe_call G_law_twice (hr.mono (by first | decide | omega)) rfl T.m_law_twice T.F_law_twice.kp T.b_law_twice .nil pass0 (pa_cons (pe_ix ix_list (pv 0) pe_int (fun _ _ => rfl)) (pa_cons (pe_ix ix_list (pv 0) pe_int (fun _ _ => rfl)) pa_nil))) (pv 1)))))), ?_⟩
  refine ⟨_, rfl, p, _, _, _, rfl, rfl, SqL.of hp, rfl, rfl, _, rfl, ite2 (fun c => ?_) (fun c => iteF ?_)⟩
  · refine ⟨_, rfl, p, _, _, _, rfl, rfl, SqL.of hp, rfl, _, rfl, (by show 2 ≤ sizeLine; decide), fun t ht => ⟨t, _, rfl, .inr (SqT.of upd_same), rfl, rfl, _, rfl, ?_⟩⟩
    have s1 : Same H (upd H t (.tup [.int 0, .int (-1)])) := same_new ht _
    have hp1 := s1 _ _ hp
    refine ite2 (fun c => ?_) (fun c => ?_)
    · refine ⟨_, rfl, p, _, _, _, rfl, rfl, SqL.of hp1, rfl, _, rfl, _, _, rfl, rfl, hm, ?_⟩
      refine ⟨_, rfl, p, _, _, _, rfl, rfl, SqL.of hp1, rfl, _, rfl, _, _, rfl, rfl, ⟨hm, hm2⟩, _, rfl, p, _, _, _, rfl, rfl, hp1, rfl, ?_⟩
      refine ⟨_, rfl, ?_⟩
      exact q _ _ (Int.emod_nonneg _ (by omega)) (Int.emod_lt_of_pos _ hm) (fun b o hb e => by rw [upd_ne hb]; exact s1 _ _ e) ⟨_, _, _, _, upd_same⟩
    · refine ⟨_, rfl, p, _, _, _, rfl, rfl, SqL.of hp1, rfl, _, _, rfl, rfl, _, rfl, p, _, _, _, rfl, rfl, hp1, rfl, ?_⟩
      refine ⟨_, rfl, p, _, _, _, rfl, rfl, SqL.of upd_same, rfl, _, rfl, p, _, _, _, rfl, rfl, SqL.of upd_same, rfl, _, _, rfl, fun r => ⟨_, rfl, _, _, rfl, rfl, hm, ?_⟩⟩
      exact q _ _ (Int.emod_nonneg _ (by omega)) (Int.emod_lt_of_pos _ hm) (fun b o hb e => by rw [upd_ne hb]; exact s1 _ _ e) ⟨_, _, _, _, upd_same⟩
  · refine ⟨_, rfl, p, _, _, _, rfl, rfl, SqL.of hp, rfl, _, _, rfl, rfl, _, rfl, p, _, _, _, rfl, rfl, hp, rfl, ?_⟩
    refine ⟨_, rfl, p, _, _, _, rfl, rfl, SqL.of upd_same, rfl, _, rfl, p, _, _, _, rfl, rfl, SqL.of upd_same, rfl, _, _, rfl, fun r => ⟨_, rfl, _, _, rfl, rfl, hm, ?_⟩⟩
    exact q _ _ (Int.emod_nonneg _ (by omega)) (Int.emod_lt_of_pos _ hm) (fun b o hb e => by rw [upd_ne hb]; exact e) ⟨_, _, _, _, upd_same⟩
end
end K84
set_option Elab.async false
set_option linter.all false
set_option maxRecDepth 100000
set_option maxHeartbeats 4000000
namespace K84
open PySem L2 PyProof.Rows Ex
def PlAt (H : Hp) : Pl → V → Prop
  | .box ad x, v => ∃ t ta, v = .ref t ∧ H ta = some (.tup (ad.map V.int)) ∧ H t = some (.tup [.str "box", .ref ta, .str x])
  | .cell i, v => ∃ t, v = .ref t ∧ H t = some (.tup [.str "cell", .int i])
  | .world x i, v => ∃ t, v = .ref t ∧ H t = some (.tup [.str "world", .str x, .int i])
  | .drawn x, v => ∃ t, v = .ref t ∧ H t = some (.tup [.str "drawn", .str x])
def ChAt (H : Hp) : Ch → V → Prop
  | .start p n, v => ∃ t vp, v = .ref t ∧ PlAt H p vp ∧ H t = some (.tup [.str "start", vp, .int n])
  | .row n l, v => ∃ t, v = .ref t ∧ H t = some (.tup [.str "row", .int n, .str l])
  | .goes ad o, v => ∃ t ta, v = .ref t ∧ H ta = some (.tup (ad.map V.int)) ∧ H t = some (.tup [.str "goes", .ref ta, truV o])
theorem PlAt.same {H H' : Hp} {p : Pl} {v : V} (h : PlAt H p v) (s : Same H H') : PlAt H' p v := by
  cases p with
  | box ad x => obtain ⟨t, ta, rfl, h1, h2⟩ := h; exact ⟨t, ta, rfl, s _ _ h1, s _ _ h2⟩
  | cell i => obtain ⟨t, rfl, h1⟩ := h; exact ⟨t, rfl, s _ _ h1⟩
  | world x i => obtain ⟨t, rfl, h1⟩ := h; exact ⟨t, rfl, s _ _ h1⟩
  | drawn x => obtain ⟨t, rfl, h1⟩ := h; exact ⟨t, rfl, s _ _ h1⟩
theorem ChAt.same {H H' : Hp} {c : Ch} {v : V} (h : ChAt H c v) (s : Same H H') : ChAt H' c v := by
  cases c with
  | start p n => obtain ⟨t, vp, rfl, h1, h2⟩ := h; exact ⟨t, vp, rfl, h1.same s, s _ _ h2⟩
  | row n l => obtain ⟨t, rfl, h1⟩ := h; exact ⟨t, rfl, s _ _ h1⟩
  | goes ad o => obtain ⟨t, ta, rfl, h1, h2⟩ := h; exact ⟨t, ta, rfl, s _ _ h1, s _ _ h2⟩
theorem cut_2 (x y : V) (r : List V) : cutV (x :: y :: r) (some 2) none = r := by
  unfold cutV
  have e : HT.sIx (x :: y :: r).length 0 (some 2) = 2 := by
    have := HT.sIx_nat (x :: y :: r).length 0 2
    rw [show ((2 : Nat) : Int) = 2 from rfl] at this
    rw [this]
    simp only [List.length_cons]
    omega
  have e2 : HT.sIx (x :: y :: r).length (x :: y :: r).length none = (x :: y :: r).length := rfl
  rw [e, e2]
  simp
theorem vne {x y : Str} (h : x ≠ y) : decide (V.str x = V.str y) = false := decide_eq_false fun z => h (by injection z)
theorem inV_str (x : Str) (ws : List Str) : inV (.str x) (ws.map V.str) = decide (x ∈ ws) := by
  unfold inV
  rw [List.any_map, Bool.eq_iff_iff, List.any_eq_true, decide_eq_true_eq]
  constructor
  · rintro ⟨y, hy, e⟩
    have : y = x := eq_of_beq (show (y == x) = true from e)
    rw [← this]; exact hy
  · intro h
    exact ⟨x, h, (show (x == x) = true from beq_self_eq_true x)⟩
def spCheck (K : PySem.W.Frag) (a : Ad) : Sp := fun vs H Q E => ∃ v, vs = [v] ∧ ((∃ t, v = .str t ∧ Q .non H) ∨ (∃ ty, TyOf K H v ty ∧ PySem.W.kitOne K ty (.type "str") = some false ∧ E (.ref a.c_NoText) none H))
def spRdNum (a : Ad) : Sp := fun vs H Q E => ∃ w, vs = [.str w] ∧ w.length ≤ 1000000 ∧ (∀ i, numT w = some i → ∀ H', Same H H' → Q (.int i) H') ∧ (numT w = none → ∀ H', Same H H' → E (.ref a.c_NoText) none H')
def spRdAd (a : Ad) : Sp := fun vs H Q E => ∃ w, vs = [.str w] ∧ w.length ≤ 1000000 ∧ (∀ ns, adT w = some ns → ∀ ta H', Same H H' → H' ta = some (.tup (ns.map V.int)) → Q (.ref ta) H') ∧ (adT w = none → ∀ H', Same H H' → E (.ref a.c_NoText) none H')
def spRdNm (a : Ad) : Sp := fun vs H Q E => ∃ w, vs = [.str w] ∧ w.length ≤ 1000000 ∧ (isNameT w = true → ∀ H', Same H H' → Q (.str w) H') ∧ (isNameT w = false → ∀ H', Same H H' → E (.ref a.c_NoText) none H')
def spRdTr (a : Ad) : Sp := fun vs H Q E => ∃ w, vs = [.str w] ∧ (∀ o, goB w = some o → ∀ H', Same H H' → Q (truV o) H') ∧ (goB w = none → ∀ H', Same H H' → E (.ref a.c_NoText) none H')
def spRdPl (a : Ad) : Sp := fun vs H Q E => ∃ g ws, vs = [.ref g] ∧ H g = some (.lst (ws.map V.str)) ∧ (∀ w ∈ ws, w.length ≤ 1000000) ∧ (∀ p, plT ws = some p → ∀ v H', Same H H' → PlAt H' p v → Q v H') ∧ (plT ws = none → ∀ H', Same H H' → E (.ref a.c_NoText) none H')
def spRdRow (a : Ad) : Sp := fun vs H Q E => ∃ t r, vs = [.str t] ∧ Txt.split t " " = ("row" : Str) :: r ∧ t.length ≤ 1000000 ∧ (∀ c, rowT t r = some c → ∀ v H', Same H H' → ChAt H' c v → Q v H') ∧ (rowT t r = none → ∀ H', Same H H' → E (.ref a.c_NoText) none H')
def spRdCh (K : PySem.W.Frag) (a : Ad) : Sp := fun vs H Q E => ∃ v, vs = [v] ∧ ((∃ t, v = .str t ∧ t.length ≤ 1000000 ∧ (∀ c, chT t = some c → ∀ v H', Same H H' → ChAt H' c v → Q v H') ∧ (chT t = none → ∀ H', Same H H' → E (.ref a.c_NoText) none H')) ∨
  (∃ ty, TyOf K H v ty ∧ PySem.W.kitOne K ty (.type "str") = some false ∧ E (.ref a.c_NoText) none H))
theorem num_eq_f {n : Nat} {k : Int} (h : ¬ ((n : Int) = k)) : decide (V.int (n : Int) = V.int k) = false := decide_eq_false fun z => by injection z with z; exact h z
theorem num_eq_t {n : Nat} {k : Int} (h : (n : Int) = k) : decide (V.int (n : Int) = V.int k) = true := decide_eq_true (by rw [h])
theorem dot_pos : 1 ≤ ("." : Str).length := by decide +kernel
theorem blank_pos : 1 ≤ (" " : Str).length := by decide +kernel
theorem nl_pos : 1 ≤ ("\n" : Str).length := by decide +kernel
section
variable {P : Program} {w : World} {K : PySem.W.Frag} {mg : Str → Option Value} {base : Heap} {a : Ad}
theorem ok_check_text (T : Tx K mg a) : FnOk P w K mg base (CXF P w) 1 a.f_check_text a.fd_check_text ["thing"] (spCheck K a) := by
  refine T.F_check_text.okX sc_check_text (fun vs H Q E h => ?_) (fun cdv A outer s H vs Q E hr h => ?_)
  · obtain ⟨_, rfl, _⟩ := h; rfl
  obtain ⟨v, rfl, h⟩ := h
  refine ⟨_, (pss_one (ps_if (pt_not (pt_val (pe_callB (call_isi (K := K)) rfl T.z_isinstance boot_isinstance (pa_cons (pv 0) (pa_cons (pe_bltn (v := .ty "str") rfl T.z_str boot_str rfl) pa_nil))))) (pss_one (ps_raise T.x_NoText PySem.F.excBase_ValueError rfl T.m_NoText rfl throwsNew_def (pa_cons pe_str pa_nil))) pss_nil)), ?_⟩
  rcases h with ⟨t, rfl, q⟩ | ⟨ty, hty, hk, e⟩
  · exact ⟨_, rfl, _, _, .type "str", true, rfl, .inl rfl, TyOf.str _, rfl, _, rfl, iteF q⟩
  · exact ⟨_, rfl, _, _, ty, false, rfl, .inl rfl, hty, hk, _, rfl, iteT ⟨(by show 1 ≤ 1000; decide), e⟩⟩
theorem ok_read_number (T : Tx K mg a) : FnOk P w K mg base (CXF P w) 3 a.f_read_number a.fd_read_number ["word"] (spRdNum a) := by
  have G_is_number_text : FnOk P w K mg base CX0 2 a.f_is_number_text a.fd_is_number_text ["text"] (spBool isNumT) := ok_is_number_text T
  refine T.F_read_number.okX sc_read_number (fun vs H Q E h => ?_) (fun cdv A outer s H vs Q E hr h => ?_)
  · obtain ⟨_, rfl, _⟩ := h; rfl
  obtain ⟨x, rfl, hx, q, e⟩ := h
  refine ⟨_, (pss_cons (ps_if (pt_not (pt_val (pe_call G_is_number_text (hr.mono (by first | decide | omega)) rfl T.m_is_number_text T.F_is_number_text.kp T.b_is_number_text .nil pass0 (pa_cons (pv 0) pa_nil)))) (pss_one (ps_raise T.x_NoText PySem.F.excBase_ValueError rfl T.m_NoText rfl throwsNew_def (pa_cons pe_str pa_nil))) pss_nil)
      (pss_one (ps_ret (pe_callTy call_int_text rfl T.z_int boot_int (pa_cons (pv 0) pa_nil))))), ?_⟩
  refine ⟨_, rfl, x, rfl, hx, fun H1 s1 => ⟨_, rfl, ?_⟩⟩
  cases hn : isNumT x with
  | true =>
    obtain ⟨i, h1, h2, h3⟩ := numT_some hn
    exact iteF ⟨_, rfl, x, i, rfl, h2, h3, q i h1 H1 s1⟩
  | false => exact iteT ⟨(by show 1 ≤ 1000; decide), e (numT_none hn) H1 s1⟩
theorem ok_read_address (T : Tx K mg a) : FnOk P w K mg base (CXF P w) 4 a.f_read_address a.fd_read_address ["word"] (spRdAd a) := by
  have G_read_number : FnOk P w K mg base (CXF P w) 3 a.f_read_number a.fd_read_number ["word"] (spRdNum a) := ok_read_number T
  refine T.F_read_address.okX sc_read_address (fun vs H Q E h => ?_) (fun cdv A outer s H vs Q E hr h => ?_)
  · obtain ⟨_, rfl, _⟩ := h; rfl
  obtain ⟨x, rfl, hx, q, e⟩ := h
  obtain ⟨_, hNO_NUMBERS⟩ := T.g_NO_NUMBERS
  obtain ⟨_, hMOST_NUMBERS⟩ := T.g_MOST_NUMBERS
  refine ⟨_, (pss_cons (ps_if (pt_cmpR op_eq (pv 0) (pe_glob (v := .str "-") rfl hNO_NUMBERS ⟨_, rfl⟩) (nomark _)) (pss_one (ps_ret (pe_tup pa_nil))) pss_nil)
      (pss_cons (ps_set (i := 1) sc_read_address.nd rfl (Or.inl rfl) (pe_bm PySem.F.plainAttrs_str PySem.F.slot_str_split PySem.F.type_str_split mt_split (pv 0) (pa_cons pe_str pa_nil)))
      (pss_cons (ps_if (pt_cmpR op_gt (pe_callB call_len_seq rfl T.z_len PySem.boot_len (pa_cons (pv 1) pa_nil)) (pe_glob (v := .int 100) rfl hMOST_NUMBERS ⟨_, rfl⟩) (nomark _)) (pss_one (ps_raise T.x_NoText PySem.F.excBase_ValueError rfl T.m_NoText rfl throwsNew_def (pa_cons pe_str pa_nil))) pss_nil)
      (pss_one (ps_ret (pe_callTy call_tuple_of rfl T.z_tuple boot_tuple (pa_cons (pe_compR0 rfl (pi_list (pv 1)) (fun _ _ _ _ => pts_nil) (fun _ _ _ _ _ hpn => (pe_call G_read_number (hr.mono (by first | decide | omega)) rfl T.m_read_number T.F_read_number.kp T.b_read_number .nil (passes_comp hpn) (pa_cons (pv 0) pa_nil))) throwsX_def rfl rfl rfl rfl (by decide +kernel) (by decide +kernel) (by decide +kernel) (by decide +kernel)) pa_nil))))))), ?_⟩
  unfold adT at q e
  by_cases h0 : x = "-"
  · subst h0
    rw [if_pos rfl] at q
    refine ⟨_, rfl, rfl, _, rfl, iteC (decide_eq_true rfl) ?_⟩
    exact ⟨(by show 0 ≤ sizeLine; decide), fun t ht => q [] rfl t _ (same_new ht _) upd_same⟩
  · rw [if_neg h0] at q e
    refine ⟨_, rfl, rfl, _, rfl, iteB (vne h0) ?_⟩
    refine ⟨_, rfl, rfl, _, _, rfl, rfl, dot_pos, (by omega), fun g hg => ?_⟩
    have s1 := same_new hg (.lst ((Txt.split x ".").map V.str))
    have hg1 : (upd H g (.lst ((Txt.split x ".").map V.str))) g = some (.lst ((Txt.split x ".").map V.str)) := upd_same
    generalize upd H g (.lst ((Txt.split x ".").map V.str)) = H1 at s1 hg1 ⊢
    have hsm : ∀ w ∈ Txt.split x ".", w.length ≤ 1000000 := fun w hw => by
      rw [dot_eq] at hw
      have := split_mem hw
      omega
    generalize Txt.split x "." = ws at q e hg1 hsm
    refine ⟨_, rfl, g, _, rfl, .inl (SqL.of hg1), _, _, rfl, rfl, _, rfl, ?_⟩
    by_cases h1 : 100 < ws.length
    · rw [if_pos h1] at e
      exact iteC (decide_eq_true (by simp only [List.length_map]; omega)) ⟨(by show 1 ≤ 1000; decide), e rfl H1 s1⟩
    · rw [if_neg h1] at q e
      refine iteB (decide_eq_false (by simp only [List.length_map]; omega)) ?_
      refine ⟨_, rfl, g, rfl, ⟨_, SqL.of hg1⟩, fun c hc => ?_⟩
      refine comp_src (fun i y _ => ∃ w n, ws[i]? = some w ∧ numT w = some n ∧ y = .int n) (us := ws.map V.str) (src_list (SqL.of hg1)) hc (by simp only [List.length_map]; omega) (fun _ _ _ _ _ _ h _ => h) (fun i u H2 zs hu s2 hz k hk => ?_) fun ys H2 s2 hc2 hl hR => ?_
      · rw [List.getElem?_map] at hu
        cases hi : ws[i]? with
        | none => rw [hi] at hu; cases hu
        | some w =>
          rw [hi] at hu
          cases Option.some.inj hu
          have hm := List.mem_of_getElem? hi
          exact ⟨_, rfl, w, rfl, hsm w hm, fun n hn H3 s3 => hk _ H3 s3 ⟨w, n, hi, hn, rfl⟩, fun hn H3 s3 => e (allT_none hm hn) H3 (s1.trans (s2.trans s3))⟩
      · have hex : ∃ ns : List Int, ys = ns.map V.int ∧ allT numT ws = some ns := by
          have : ∀ y ∈ ys, ∃ n : Int, y = .int n := fun y hy => by
            obtain ⟨i, hi⟩ := List.getElem?_of_mem hy
            obtain ⟨_, n, _, _, e⟩ := hR i y hi
            exact ⟨n, e⟩
          obtain ⟨ns, rfl⟩ : ∃ ns : List Int, ys = ns.map V.int := by
            clear hR hl hc2
            induction ys with
            | nil => exact ⟨[], rfl⟩
            | cons y r ih =>
              obtain ⟨n, rfl⟩ := this y (by simp)
              obtain ⟨ns, rfl⟩ := ih fun z hz => this z (List.mem_cons_of_mem _ hz)
              exact ⟨n :: ns, rfl⟩
          refine ⟨ns, rfl, allT_some (by simp only [List.length_map] at hl; omega) fun i w n h1 h2 => ?_⟩
          obtain ⟨w', n', g1, g2, g3⟩ := hR i (.int n) (by rw [List.getElem?_map, h2]; rfl)
          rw [h1] at g1
          cases Option.some.inj g1
          injection g3 with g3
          rw [g3]; exact g2
        obtain ⟨ns, rfl, ha⟩ := hex
        exact ⟨c, _, rfl, .inl ⟨SqL.of hc2, fun l hl => q ns ha l _ (s1.trans (s2.trans (same_new hl _))) upd_same⟩⟩
theorem ok_read_name (T : Tx K mg a) : FnOk P w K mg base (CXF P w) 3 a.f_read_name a.fd_read_name ["word"] (spRdNm a) := by
  have G_is_name : FnOk P w K mg base CX0 2 a.f_is_name a.fd_is_name ["thing"] (spBool isNameT) := ok_is_name T
  refine T.F_read_name.okX sc_read_name (fun vs H Q E h => ?_) (fun cdv A outer s H vs Q E hr h => ?_)
  · obtain ⟨_, rfl, _⟩ := h; rfl
  obtain ⟨x, rfl, hx, q, e⟩ := h
  refine ⟨_, (pss_cons (ps_if (pt_not (pt_val (pe_call G_is_name (hr.mono (by first | decide | omega)) rfl T.m_is_name T.F_is_name.kp T.b_is_name .nil pass0 (pa_cons (pv 0) pa_nil)))) (pss_one (ps_raise T.x_NoText PySem.F.excBase_ValueError rfl T.m_NoText rfl throwsNew_def (pa_cons pe_str pa_nil))) pss_nil)
      (pss_one (ps_ret (pv 0)))), ?_⟩
  refine ⟨_, rfl, x, rfl, hx, fun H1 s1 => ⟨_, rfl, ?_⟩⟩
  cases hn : isNameT x with
  | true => exact iteF ⟨_, rfl, q hn H1 s1⟩
  | false => exact iteT ⟨(by show 1 ≤ 1000; decide), e hn H1 s1⟩
theorem ok_read_truth (T : Tx K mg a) : FnOk P w K mg base (CXF P w) 1 a.f_read_truth a.fd_read_truth ["word"] (spRdTr a) := by
  refine T.F_read_truth.okX sc_read_truth (fun vs H Q E h => ?_) (fun cdv A outer s H vs Q E hr h => ?_)
  · obtain ⟨_, rfl, _⟩ := h; rfl
  obtain ⟨x, rfl, q, e⟩ := h
  refine ⟨_, (pss_cons (ps_if (pt_cmpR op_eq (pv 0) pe_str (nomark _)) (pss_one (ps_ret pe_non)) pss_nil)
      (pss_cons (ps_if (pt_cmpR op_notIn_seq (pv 0) (pe_tup (pa_cons pe_str (pa_cons pe_str pa_nil))) (by with_unfolding_all rfl)) (pss_one (ps_raise T.x_NoText PySem.F.excBase_ValueError rfl T.m_NoText rfl throwsNew_def (pa_cons pe_str pa_nil))) pss_nil)
      (pss_one (ps_ret (pe_cmpR op_eq (pv 0) pe_str (nomark _)))))), ?_⟩
  unfold goB at q e
  by_cases h0 : x = "free"
  · rw [if_pos h0] at q
    exact ⟨_, rfl, rfl, _, rfl, iteC (decide_eq_true (by rw [h0])) (q none rfl H (Same.refl H))⟩
  rw [if_neg h0] at q e
  refine ⟨_, rfl, rfl, _, rfl, iteB (vne h0) ?_⟩
  refine ⟨_, rfl, (by show 2 ≤ sizeLine; decide), fun t ht => ⟨t, _, rfl, .inr (SqT.of upd_same), rfl, rfl, _, rfl, ?_⟩⟩
  have s1 := same_new ht (.tup [.str "yes", .str "no"])
  have hin := inV_str x ["yes", "no"]
  by_cases h1 : x = "yes"
  · rw [if_pos h1] at q
    refine iteB (by show (!inV (.str x) ((["yes", "no"] : List Str).map V.str)) = false; rw [hin, decide_eq_true (by simp [h1])]; rfl) ⟨_, rfl, rfl, ?_⟩
    have q' := q (some true) rfl _ s1
    have e1 : decide (V.str x = V.str "yes") = true := decide_eq_true (by rw [h1])
    show Q (V.bl (decide (V.str x = V.str "yes"))) _
    rw [e1]; exact q'
  rw [if_neg h1] at q e
  by_cases h2 : x = "no"
  · rw [if_pos h2] at q
    refine iteB (by show (!inV (.str x) ((["yes", "no"] : List Str).map V.str)) = false; rw [hin, decide_eq_true (by simp [h2])]; rfl) ⟨_, rfl, rfl, ?_⟩
    have q' := q (some false) rfl _ s1
    show Q (V.bl (decide (V.str x = V.str "yes"))) _
    rw [vne h1]; exact q'
  · rw [if_neg h2] at e
    refine iteC (by show (!inV (.str x) ((["yes", "no"] : List Str).map V.str)) = true; rw [hin, decide_eq_false (by simp [h1, h2])]; rfl) ⟨(by show 1 ≤ 1000; decide), e rfl _ s1⟩
end
end K84
set_option Elab.async false
set_option linter.all false
set_option maxRecDepth 100000
set_option maxHeartbeats 4000000
namespace K84
open PySem L2 PyProof.Rows Ex
theorem cut_mid (x y : V) (ws : List V) : cutV (x :: (ws ++ [y])) (some 1) (some (-1)) = ws := by
  unfold cutV
  have e : HT.sIx (x :: (ws ++ [y])).length 0 (some 1) = 1 := by
    have := HT.sIx_nat (x :: (ws ++ [y])).length 0 1
    rw [show ((1 : Nat) : Int) = 1 from rfl] at this
    rw [this]
    simp only [List.length_cons]
    omega
  have e2 : HT.sIx (x :: (ws ++ [y])).length (x :: (ws ++ [y])).length (some (-1)) = ws.length + 1 := by
    show (if (-1 : Int) < 0 then ((-1 : Int) + ((x :: (ws ++ [y])).length : Int)).toNat else min (-1 : Int).toNat (x :: (ws ++ [y])).length) = _
    rw [if_pos (by decide)]
    simp only [List.length_cons, List.length_append, List.length_nil]
    omega
  rw [e, e2]
  simp
theorem at_last (x y : V) (ws : List V) : atI (x :: (ws ++ [y])) (-1) = some y := by
  have e : ixN (x :: (ws ++ [y])).length (-1) = some (ws.length + 1) := by
    unfold ixN
    rw [if_neg (by decide), if_pos (by simp only [List.length_cons]; omega)]
    simp only [List.length_cons, List.length_append, List.length_nil]
    congr 1
    omega
  unfold atI
  rw [e]
  show (x :: (ws ++ [y]))[ws.length + 1]? = some y
  simp
theorem cut_mid2 (w0 : Str) (r : List Str) : cutV ((w0 :: r).map V.str) (some 1) (some (-1)) = r.dropLast.map V.str := by
  rcases List.eq_nil_or_concat r with rfl | ⟨m, l, rfl⟩
  · rfl
  · rw [List.concat_eq_append, List.dropLast_concat, List.map_cons, List.map_append]
    exact cut_mid _ _ _
theorem at_last2 (w0 : Str) (r : List Str) : atI ((w0 :: r).map V.str) (-1) = some (.str (r.getLastD w0)) := by
  rcases List.eq_nil_or_concat r with rfl | ⟨m, l, rfl⟩
  · rfl
  · rw [List.concat_eq_append, List.getLastD_concat, List.map_cons, List.map_append]
    exact at_last _ _ _
section
variable {P : Program} {w : World} {K : PySem.W.Frag} {mg : Str → Option Value} {base : Heap} {a : Ad}
theorem ok_read_place (T : Tx K mg a) : FnOk P w K mg base (CXF P w) 5 a.f_read_place a.fd_read_place ["words"] (spRdPl a) := by
  have G_read_address : FnOk P w K mg base (CXF P w) 4 a.f_read_address a.fd_read_address ["word"] (spRdAd a) := ok_read_address T
  have G_read_number : FnOk P w K mg base (CXF P w) 3 a.f_read_number a.fd_read_number ["word"] (spRdNum a) := ok_read_number T
  have G_read_name : FnOk P w K mg base (CXF P w) 3 a.f_read_name a.fd_read_name ["word"] (spRdNm a) := ok_read_name T
  refine T.F_read_place.okX sc_read_place (fun vs H Q E h => ?_) (fun cdv A outer s H vs Q E hr h => ?_)
  · obtain ⟨_, _, rfl, _⟩ := h; rfl
  obtain ⟨g, ws, rfl, hg, hsm, q, e⟩ := h
  refine ⟨_, (pss_cons (ps_set (i := 1) sc_read_place.nd rfl (Or.inl rfl) (pe_ifExp (pt_truth (pv 0) (fun _ => rfl)) (pe_ix ix_list (pv 0) pe_int (fun _ _ => rfl)) pe_str))
      (pss_cons (ps_if (PW.pt (pw_and (pt_cmpR op_eq (pv 1) pe_str (nomark _)) (pw_and1 (pt_cmpR op_eq (pe_callB call_len_seq rfl T.z_len PySem.boot_len (pa_cons (pv 0) pa_nil)) pe_int (nomark _))))) (pss_one (ps_ret (pe_tup (pa_cons pe_str (pa_cons (pe_call G_read_address (hr.mono (by first | decide | omega)) rfl T.m_read_address T.F_read_address.kp T.b_read_address .nil (throws_def.passes rfl) (pa_cons (pe_ix ix_list (pv 0) pe_int (fun _ _ => rfl)) pa_nil)) (pa_cons (pe_call G_read_name (hr.mono (by first | decide | omega)) rfl T.m_read_name T.F_read_name.kp T.b_read_name .nil (throws_def.passes rfl) (pa_cons (pe_ix ix_list (pv 0) pe_int (fun _ _ => rfl)) pa_nil)) pa_nil)))))) pss_nil)
      (pss_cons (ps_if (PW.pt (pw_and (pt_cmpR op_eq (pv 1) pe_str (nomark _)) (pw_and1 (pt_cmpR op_eq (pe_callB call_len_seq rfl T.z_len PySem.boot_len (pa_cons (pv 0) pa_nil)) pe_int (nomark _))))) (pss_one (ps_ret (pe_tup (pa_cons pe_str (pa_cons (pe_call G_read_number (hr.mono (by first | decide | omega)) rfl T.m_read_number T.F_read_number.kp T.b_read_number .nil (throws_def.passes rfl) (pa_cons (pe_ix ix_list (pv 0) pe_int (fun _ _ => rfl)) pa_nil)) pa_nil))))) pss_nil)
      (pss_cons (ps_if (PW.pt (pw_and (pt_cmpR op_eq (pv 1) pe_str (nomark _)) (pw_and1 (pt_cmpR op_eq (pe_callB call_len_seq rfl T.z_len PySem.boot_len (pa_cons (pv 0) pa_nil)) pe_int (nomark _))))) (pss_one (ps_ret (pe_tup (pa_cons pe_str (pa_cons (pe_call G_read_name (hr.mono (by first | decide | omega)) rfl T.m_read_name T.F_read_name.kp T.b_read_name .nil (throws_def.passes rfl) (pa_cons (pe_ix ix_list (pv 0) pe_int (fun _ _ => rfl)) pa_nil)) (pa_cons (pe_call G_read_number (hr.mono (by first | decide | omega)) rfl T.m_read_number T.F_read_number.kp T.b_read_number .nil (throws_def.passes rfl) (pa_cons (pe_ix ix_list (pv 0) pe_int (fun _ _ => rfl)) pa_nil)) pa_nil)))))) pss_nil)
      (pss_cons (ps_if (PW.pt (pw_and (pt_cmpR op_eq (pv 1) pe_str (nomark _)) (pw_and1 (pt_cmpR op_eq (pe_callB call_len_seq rfl T.z_len PySem.boot_len (pa_cons (pv 0) pa_nil)) pe_int (nomark _))))) (pss_one (ps_ret (pe_tup (pa_cons pe_str (pa_cons (pe_call G_read_name (hr.mono (by first | decide | omega)) rfl T.m_read_name T.F_read_name.kp T.b_read_name .nil (throws_def.passes rfl) (pa_cons (pe_ix ix_list (pv 0) pe_int (fun _ _ => rfl)) pa_nil)) pa_nil))))) pss_nil)
      (pss_one (ps_raise T.x_NoText PySem.F.excBase_ValueError rfl T.m_NoText rfl throwsNew_def (pa_cons pe_str pa_nil)))))))), ?_⟩
  have rz : ∀ H', Same H H' → plT ws = none → E (.ref a.c_NoText) none H' := fun H' s' h => e h H' s'
  match ws, hg, hsm, q, e, rz with
  | [], hg, hsm, q, e, rz =>
    have hg : H g = some (.lst []) := hg
    refine ⟨_, rfl, _, .inl ⟨_, SqL.of hg, rfl⟩, iteF ?_⟩
    refine ⟨_, rfl, rfl, _, rfl, iteB (vne (by decide +kernel)) (iteF ?_)⟩
    refine ⟨_, rfl, rfl, _, rfl, iteB (vne (by decide +kernel)) (iteF ?_)⟩
    refine ⟨_, rfl, rfl, _, rfl, iteB (vne (by decide +kernel)) (iteF ?_)⟩
    refine ⟨_, rfl, rfl, _, rfl, iteB (vne (by decide +kernel)) (iteF ?_)⟩
    exact ⟨(by show 1 ≤ 1000; decide), rz H (Same.refl H) rfl⟩
  | [w0], hg, hsm, q, e, rz =>
    have hg : H g = some (.lst [.str w0]) := hg
    refine ⟨_, rfl, _, .inl ⟨_, SqL.of hg, rfl⟩, iteT ⟨_, rfl, g, _, _, _, rfl, rfl, SqL.of hg, rfl, ?_⟩⟩
    refine (fun rest => ⟨_, rfl, rfl, _, rfl, ite2 (fun c => ⟨_, rfl, g, _, rfl, .inl (SqL.of hg), rfl, _, rfl, iteB (num_eq_f (n := 1) (by decide)) rest⟩) (fun c => iteF rest)⟩) ?_
    refine (fun rest => ⟨_, rfl, rfl, _, rfl, ite2 (fun c => ⟨_, rfl, g, _, rfl, .inl (SqL.of hg), rfl, _, rfl, iteB (num_eq_f (n := 1) (by decide)) rest⟩) (fun c => iteF rest)⟩) ?_
    refine (fun rest => ⟨_, rfl, rfl, _, rfl, ite2 (fun c => ⟨_, rfl, g, _, rfl, .inl (SqL.of hg), rfl, _, rfl, iteB (num_eq_f (n := 1) (by decide)) rest⟩) (fun c => iteF rest)⟩) ?_
    refine (fun rest => ⟨_, rfl, rfl, _, rfl, ite2 (fun c => ⟨_, rfl, g, _, rfl, .inl (SqL.of hg), rfl, _, rfl, iteB (num_eq_f (n := 1) (by decide)) rest⟩) (fun c => iteF rest)⟩) ?_
    exact ⟨(by show 1 ≤ 1000; decide), rz H (Same.refl H) rfl⟩
  | [w0, w1], hg, hsm, q, e, rz =>
    have hg : H g = some (.lst [.str w0, .str w1]) := hg
    have h1 := hsm w1 (by simp)
    refine ⟨_, rfl, _, .inl ⟨_, SqL.of hg, rfl⟩, iteT ⟨_, rfl, g, _, _, _, rfl, rfl, SqL.of hg, rfl, ?_⟩⟩
    refine (fun rest => ⟨_, rfl, rfl, _, rfl, ite2 (fun c => ⟨_, rfl, g, _, rfl, .inl (SqL.of hg), rfl, _, rfl, iteB (num_eq_f (n := 2) (by decide)) rest⟩) (fun c => iteF rest)⟩) ?_
    by_cases hc : w0 = "cell"
    · subst hc
      refine ⟨_, rfl, rfl, _, rfl, iteC (decide_eq_true rfl) ⟨_, rfl, g, _, rfl, .inl (SqL.of hg), rfl, _, rfl, iteC (decide_eq_true rfl) ?_⟩⟩
      refine ⟨_, rfl, g, _, _, _, rfl, rfl, SqL.of hg, rfl, w1, rfl, h1, fun i hi H1 s1 => ⟨(by show 2 ≤ sizeLine; decide), fun t ht => ?_⟩, fun hn H1 s1 => rz H1 s1 (pl_cell_no hn)⟩
      exact q _ (pl_cell_ok hi) _ _ (s1.trans (same_new ht _)) ⟨t, rfl, upd_same⟩
    refine ⟨_, rfl, rfl, _, rfl, iteB (vne hc) (iteF ?_)⟩
    refine (fun rest => ⟨_, rfl, rfl, _, rfl, ite2 (fun c => ⟨_, rfl, g, _, rfl, .inl (SqL.of hg), rfl, _, rfl, iteB (num_eq_f (n := 2) (by decide)) rest⟩) (fun c => iteF rest)⟩) ?_
    by_cases hd : w0 = "drawn"
    · subst hd
      refine ⟨_, rfl, rfl, _, rfl, iteC (decide_eq_true rfl) ⟨_, rfl, g, _, rfl, .inl (SqL.of hg), rfl, _, rfl, iteC (decide_eq_true rfl) ?_⟩⟩
      refine ⟨_, rfl, g, _, _, _, rfl, rfl, SqL.of hg, rfl, w1, rfl, h1, fun hi H1 s1 => ⟨(by show 2 ≤ sizeLine; decide), fun t ht => ?_⟩, fun hn H1 s1 => rz H1 s1 (pl_drawn_no hn)⟩
      exact q _ (pl_drawn_ok hi) _ _ (s1.trans (same_new ht _)) ⟨t, rfl, upd_same⟩
    refine ⟨_, rfl, rfl, _, rfl, iteB (vne hd) (iteF ?_)⟩
    exact ⟨(by show 1 ≤ 1000; decide), rz H (Same.refl H) (pl_2 hc hd)⟩
  | [w0, w1, w2], hg, hsm, q, e, rz =>
    have hg : H g = some (.lst [.str w0, .str w1, .str w2]) := hg
    have h1 := hsm w1 (by simp)
    have h2 := hsm w2 (by simp)
    refine ⟨_, rfl, _, .inl ⟨_, SqL.of hg, rfl⟩, iteT ⟨_, rfl, g, _, _, _, rfl, rfl, SqL.of hg, rfl, ?_⟩⟩
    by_cases hc : w0 = "box"
    · subst hc
      refine ⟨_, rfl, rfl, _, rfl, iteC (decide_eq_true rfl) ⟨_, rfl, g, _, rfl, .inl (SqL.of hg), rfl, _, rfl, iteC (decide_eq_true rfl) ?_⟩⟩
      refine ⟨_, rfl, g, _, _, _, rfl, rfl, SqL.of hg, rfl, w1, rfl, h1, fun ad had ta H1 s1 hta => ?_, fun hn H1 s1 => rz H1 s1 (pl_box_ad hn)⟩
      refine ⟨_, rfl, g, _, _, _, rfl, rfl, SqL.of (s1 _ _ hg), rfl, w2, rfl, h2, fun hi H2 s2 => ⟨(by show 3 ≤ sizeLine; decide), fun t ht => ?_⟩, fun hn H2 s2 => rz H2 (s1.trans s2) (pl_box_nm hn)⟩
      have s3 := same_new ht (.tup [.str "box", .ref ta, .str w2])
      exact q _ (pl_box_ok had hi) _ _ (s1.trans (s2.trans s3)) ⟨t, ta, rfl, s3 _ _ (s2 _ _ hta), upd_same⟩
    refine ⟨_, rfl, rfl, _, rfl, iteB (vne hc) (iteF ?_)⟩
    refine (fun rest => ⟨_, rfl, rfl, _, rfl, ite2 (fun c => ⟨_, rfl, g, _, rfl, .inl (SqL.of hg), rfl, _, rfl, iteB (num_eq_f (n := 3) (by decide)) rest⟩) (fun c => iteF rest)⟩) ?_
    by_cases hd : w0 = "world"
    · subst hd
      refine ⟨_, rfl, rfl, _, rfl, iteC (decide_eq_true rfl) ⟨_, rfl, g, _, rfl, .inl (SqL.of hg), rfl, _, rfl, iteC (decide_eq_true rfl) ?_⟩⟩
      refine ⟨_, rfl, g, _, _, _, rfl, rfl, SqL.of hg, rfl, w1, rfl, h1, fun hi H1 s1 => ?_, fun hn H1 s1 => rz H1 s1 (pl_world_nm hn)⟩
      refine ⟨_, rfl, g, _, _, _, rfl, rfl, SqL.of (s1 _ _ hg), rfl, w2, rfl, h2, fun i hn H2 s2 => ⟨(by show 3 ≤ sizeLine; decide), fun t ht => ?_⟩, fun hn H2 s2 => rz H2 (s1.trans s2) (pl_world_num hn)⟩
      exact q _ (pl_world_ok hn hi) _ _ (s1.trans (s2.trans (same_new ht _))) ⟨t, rfl, upd_same⟩
    refine ⟨_, rfl, rfl, _, rfl, iteB (vne hd) (iteF ?_)⟩
    refine (fun rest => ⟨_, rfl, rfl, _, rfl, ite2 (fun c => ⟨_, rfl, g, _, rfl, .inl (SqL.of hg), rfl, _, rfl, iteB (num_eq_f (n := 3) (by decide)) rest⟩) (fun c => iteF rest)⟩) ?_
    exact ⟨(by show 1 ≤ 1000; decide), rz H (Same.refl H) (pl_3 hc hd)⟩
  | w0 :: w1 :: w2 :: w3 :: r, hg, hsm, q, e, rz =>
    have hl : ∀ k : Int, k ≤ 3 → ¬ (((((w0 :: w1 :: w2 :: w3 :: r).map V.str).length : Nat) : Int) = k) := fun k hk => by simp only [List.length_map, List.length_cons]; omega
    refine ⟨_, rfl, _, .inl ⟨_, SqL.of hg, rfl⟩, iteT ⟨_, rfl, g, _, _, _, rfl, rfl, SqL.of hg, atI_nat (j := 0) rfl, ?_⟩⟩
    refine (fun rest => ⟨_, rfl, rfl, _, rfl, ite2 (fun c => ⟨_, rfl, g, _, rfl, .inl (SqL.of hg), rfl, _, rfl, iteB (num_eq_f (hl 3 (by decide))) rest⟩) (fun c => iteF rest)⟩) ?_
    refine (fun rest => ⟨_, rfl, rfl, _, rfl, ite2 (fun c => ⟨_, rfl, g, _, rfl, .inl (SqL.of hg), rfl, _, rfl, iteB (num_eq_f (hl 2 (by decide))) rest⟩) (fun c => iteF rest)⟩) ?_
    refine (fun rest => ⟨_, rfl, rfl, _, rfl, ite2 (fun c => ⟨_, rfl, g, _, rfl, .inl (SqL.of hg), rfl, _, rfl, iteB (num_eq_f (hl 3 (by decide))) rest⟩) (fun c => iteF rest)⟩) ?_
    refine (fun rest => ⟨_, rfl, rfl, _, rfl, ite2 (fun c => ⟨_, rfl, g, _, rfl, .inl (SqL.of hg), rfl, _, rfl, iteB (num_eq_f (hl 2 (by decide))) rest⟩) (fun c => iteF rest)⟩) ?_
    exact ⟨(by show 1 ≤ 1000; decide), rz H (Same.refl H) rfl⟩
end
end K84
set_option Elab.async false
set_option linter.all false
set_option maxRecDepth 100000
set_option maxHeartbeats 4000000
namespace K84
open PySem L2 PyProof.Rows Ex
theorem rest_len (w0 : Str) (r : List Str) : (Txt.join " " r).length ≤ (Txt.join " " (w0 :: r)).length := by
  cases r with
  | nil =>
    rw [Ex.join_nil]
    have : ("" : Str).length = 0 := by decide +kernel
    omega
  | cons b r => rw [join_first, Str.length_append]; omega
theorem last_in (w0 : Str) (r : List Str) : r.getLastD w0 ∈ w0 :: r := by
  rcases List.eq_nil_or_concat r with rfl | ⟨m, l, rfl⟩
  · simp
  · rw [List.concat_eq_append, List.getLastD_concat]; simp
theorem words_len {x : Str} {ws : List Str} (h : Txt.split x " " = ws) (hx : x.length ≤ 1000000) : ∀ w ∈ ws, w.length ≤ 1000000 := fun w hw => by
  rw [← h, blank_sg] at hw
  have := split_mem hw
  omega
theorem words_some (x : Str) : ∃ w0 r, Txt.split x " " = w0 :: r := by
  have hne : Txt.split x " " ≠ [] := by rw [blank_sg]; exact split_ne x 32
  cases h : Txt.split x " " with
  | nil => exact absurd h hne
  | cons w0 r => exact ⟨w0, r, rfl⟩
section
variable {P : Program} {w : World} {K : PySem.W.Frag} {mg : Str → Option Value} {base : Heap} {a : Ad}
theorem ok_read_row_change (T : Tx K mg a) : FnOk P w K mg base (CXF P w) 4 a.f_read_row_change a.fd_read_row_change ["text"] (spRdRow a) := by
  have G_read_number : FnOk P w K mg base (CXF P w) 3 a.f_read_number a.fd_read_number ["word"] (spRdNum a) := ok_read_number T
  refine T.F_read_row_change.okX sc_read_row_change (fun vs H Q E h => ?_) (fun cdv A outer s H vs Q E hr h => ?_)
  · obtain ⟨_, _, rfl, _⟩ := h; rfl
  obtain ⟨t, r, rfl, hs, ht, q, e⟩ := h
  refine ⟨_, (pss_cons (ps_set (i := 1) sc_read_row_change.nd rfl (Or.inl rfl) (pe_bm PySem.F.plainAttrs_str PySem.F.slot_str_partition PySem.F.type_str_partition mt_partition (pe_ix ix_tup (pe_bm PySem.F.plainAttrs_str PySem.F.slot_str_partition PySem.F.type_str_partition mt_partition (pv 0) (pa_cons pe_str pa_nil)) pe_int (fun _ _ => rfl)) (pa_cons pe_str pa_nil)))
      (pss_cons (ps_set (i := 2) sc_read_row_change.nd rfl (Or.inl rfl) (pe_call G_read_number (hr.mono (by first | decide | omega)) rfl T.m_read_number T.F_read_number.kp T.b_read_number .nil (throws_def.passes rfl) (pa_cons (pe_ix ix_tup (pv 1) pe_int (fun _ _ => rfl)) pa_nil)))
      (pss_cons (ps_if (PW.pt (pw_or (pt_cmpR op_eq (pe_ix ix_tup (pv 1) pe_int (fun _ _ => rfl)) pe_str (nomark _)) (pw_or1 (pt_cmpR op_in_str pe_str (pe_ix ix_tup (pv 1) pe_int (fun _ _ => rfl)) (by with_unfolding_all rfl))))) (pss_one (ps_raise T.x_NoText PySem.F.excBase_ValueError rfl T.m_NoText rfl throwsNew_def (pa_cons pe_str pa_nil))) pss_nil)
      (pss_one (ps_ret (pe_tup (pa_cons pe_str (pa_cons (pv 2) (pa_cons (pe_ix ix_tup (pv 1) pe_int (fun _ _ => rfl)) pa_nil))))))))), ?_⟩
  obtain ⟨sA, e1⟩ := part_split hs
  obtain ⟨et, free⟩ := words_text hs
  have hrl := rest_len "row" r
  rw [← et] at hrl
  have hwl := words_len hs ht
  refine ⟨_, rfl, rfl, _, _, rfl, rfl, blank_pos, (by omega), fun p1 hp1 => ?_⟩
  rw [e1]
  refine ⟨p1, _, _, _, rfl, rfl, SqT.of upd_same, rfl, rfl, _, _, rfl, rfl, blank_pos, (by show (Txt.join " " r).length ≤ 1000000; omega), fun p2 hp2 => ?_⟩
  have s1 : Same H (upd H p1 (.tup [.str "row", .str sA, .str (Txt.join " " r)])) := same_new hp1 _
  match r, hs, e1, et, free, hrl, hwl, q, e, s1, p2, hp2 with
  | [], hs, e1, et, free, hrl, hwl, q, e, s1, p2, hp2 =>
    rw [Ex.join_nil, part_empty]
    rw [Ex.join_nil] at s1 hp2
    refine ⟨_, rfl, p2, _, _, _, rfl, rfl, SqT.of upd_same, rfl, "", rfl, by decide +kernel, fun n hn => absurd (num_empty.symm.trans hn) (by intro z; cases z), fun hn H3 s3 => ?_⟩
    exact e rfl H3 (s1.trans ((same_new hp2 _).trans s3))
  | w1 :: r2, hs, e1, et, free, hrl, hwl, q, e, s1, p2, hp2 =>
    obtain ⟨sB, e2⟩ := part_split (split_again (List.cons_ne_nil w1 r2) fun w hw => free w (List.mem_cons_of_mem _ hw))
    rw [e2]
    have s2 := s1.trans (same_new hp2 (.tup [.str w1, .str sB, .str (Txt.join " " r2)]))
    have h2 : (upd (upd H p1 (.tup [.str "row", .str sA, .str (Txt.join " " (w1 :: r2))])) p2 (.tup [.str w1, .str sB, .str (Txt.join " " r2)])) p2 = some (.tup [.str w1, .str sB, .str (Txt.join " " r2)]) := upd_same
    generalize upd (upd H p1 (.tup [.str "row", .str sA, .str (Txt.join " " (w1 :: r2))])) p2 (.tup [.str w1, .str sB, .str (Txt.join " " r2)]) = H2 at s2 h2 ⊢
    refine ⟨_, rfl, p2, _, _, _, rfl, rfl, SqT.of h2, rfl, w1, rfl, hwl w1 (by simp), fun n hn H3 s3 => ?_, fun hn H3 s3 => e (row_none hn) H3 (s2.trans s3)⟩
    have h3 := s3 _ _ h2
    have hnum : isNumT w1 = true := by
      cases hc : isNumT w1 with
      | true => rfl
      | false => rw [numT_none hc] at hn; cases hn
    match r2, hs, h3, e, q with
    | [], hs, h3, e, q =>
      refine ⟨_, rfl, p2, _, _, _, rfl, rfl, SqT.of h3, rfl, rfl, _, rfl, iteC (decide_eq_true (by rw [Ex.join_nil])) (iteT ⟨(by show 1 ≤ 1000; decide), e rfl H3 (s2.trans s3)⟩)⟩
    | w2 :: r3, hs, h3, e, q =>
      by_cases hE : w2 :: r3 = [("" : Str)]
      · refine ⟨_, rfl, p2, _, _, _, rfl, rfl, SqT.of h3, rfl, rfl, _, rfl, iteC (decide_eq_true (by rw [join_empty.mpr hE])) (iteT ⟨(by show 1 ≤ 1000; decide), e (row_bad (.inr hE)) H3 (s2.trans s3)⟩)⟩
      · refine ⟨_, rfl, p2, _, _, _, rfl, rfl, SqT.of h3, rfl, rfl, _, rfl, iteB (vne fun z => hE (join_empty.mp z)) ?_⟩
        have hsg := row_sign hs hnum
        by_cases h10 : 10 ∈ (Txt.join " " (w2 :: r3)).cps.toList
        · exact ⟨_, rfl, p2, _, _, _, rfl, rfl, SqT.of h3, rfl, _, _, rfl, rfl, _, rfl, iteC (by rw [nl_eq]; exact (in_one _ 10).trans (decide_eq_true h10)) ⟨(by show 1 ≤ 1000; decide), e (row_bad (.inl (hsg.mpr h10))) H3 (s2.trans s3)⟩⟩
        · refine ⟨_, rfl, p2, _, _, _, rfl, rfl, SqT.of h3, rfl, _, _, rfl, rfl, _, rfl, iteB (by rw [nl_eq]; exact (in_one _ 10).trans (decide_eq_false h10)) ?_⟩
          refine ⟨_, rfl, _, rfl, p2, _, _, _, rfl, rfl, SqT.of h3, rfl, (by show 3 ≤ sizeLine; decide), fun u hu => ?_⟩
          exact q _ (row_good (fun z => z.elim (fun z => h10 (hsg.mp z)) hE) hn) _ _ (s2.trans (s3.trans (same_new hu _))) ⟨u, rfl, upd_same⟩
theorem ok_read_change (T : Tx K mg a) : FnOk P w K mg base (CXF P w) 6 a.f_read_change a.fd_read_change ["text"] (spRdCh K a) := by
  have G_check_text : FnOk P w K mg base (CXF P w) 1 a.f_check_text a.fd_check_text ["thing"] (spCheck K a) := ok_check_text T
  have G_read_row_change : FnOk P w K mg base (CXF P w) 4 a.f_read_row_change a.fd_read_row_change ["text"] (spRdRow a) := ok_read_row_change T
  have G_read_place : FnOk P w K mg base (CXF P w) 5 a.f_read_place a.fd_read_place ["words"] (spRdPl a) := ok_read_place T
  have G_read_number : FnOk P w K mg base (CXF P w) 3 a.f_read_number a.fd_read_number ["word"] (spRdNum a) := ok_read_number T
  have G_read_address : FnOk P w K mg base (CXF P w) 4 a.f_read_address a.fd_read_address ["word"] (spRdAd a) := ok_read_address T
  have G_read_truth : FnOk P w K mg base (CXF P w) 1 a.f_read_truth a.fd_read_truth ["word"] (spRdTr a) := ok_read_truth T
  refine T.F_read_change.okX sc_read_change (fun vs H Q E h => ?_) (fun cdv A outer s H vs Q E hr h => ?_)
  · obtain ⟨_, rfl, _⟩ := h; rfl
  obtain ⟨v, rfl, h⟩ := h
  refine ⟨_, (pss_cons (ps_expr (pe_call G_check_text (hr.mono (by first | decide | omega)) rfl T.m_check_text T.F_check_text.kp T.b_check_text .nil (throws_def.passes rfl) (pa_cons (pv 0) pa_nil)))
      (pss_cons (ps_set (i := 1) sc_read_change.nd rfl (Or.inl rfl) (pe_ix ix_tup (pe_bm PySem.F.plainAttrs_str PySem.F.slot_str_partition PySem.F.type_str_partition mt_partition (pv 0) (pa_cons pe_str pa_nil)) pe_int (fun _ _ => rfl)))
      (pss_cons (ps_if (pt_cmpR op_eq (pv 1) pe_str (nomark _)) (pss_one (ps_ret (pe_call G_read_row_change (hr.mono (by first | decide | omega)) rfl T.m_read_row_change T.F_read_row_change.kp T.b_read_row_change .nil (throws_def.passes rfl) (pa_cons (pv 0) pa_nil)))) pss_nil)
      (pss_cons (ps_set (i := 2) sc_read_change.nd rfl (Or.inl rfl) (pe_bm PySem.F.plainAttrs_str PySem.F.slot_str_split PySem.F.type_str_split mt_split (pv 0) (pa_cons pe_str pa_nil)))
      (pss_cons (ps_if (pt_cmpR op_eq (pv 1) pe_str (nomark _)) (pss_one (ps_ret (pe_tup (pa_cons pe_str (pa_cons (pe_call G_read_place (hr.mono (by first | decide | omega)) rfl T.m_read_place T.F_read_place.kp T.b_read_place .nil (throws_def.passes rfl) (pa_cons (pe_slice sl_list (pv 2) (po_some pe_int) (po_some (pe_un un_neg pe_int))) pa_nil)) (pa_cons (pe_call G_read_number (hr.mono (by first | decide | omega)) rfl T.m_read_number T.F_read_number.kp T.b_read_number .nil (throws_def.passes rfl) (pa_cons (pe_ix ix_list (pv 2) (pe_un un_neg pe_int) (fun _ _ => rfl)) pa_nil)) pa_nil)))))) pss_nil)
      (pss_cons (ps_if (PW.pt (pw_and (pt_cmpR op_eq (pv 1) pe_str (nomark _)) (pw_and1 (pt_cmpR op_eq (pe_callB call_len_seq rfl T.z_len PySem.boot_len (pa_cons (pv 2) pa_nil)) pe_int (nomark _))))) (pss_one (ps_ret (pe_tup (pa_cons pe_str (pa_cons (pe_call G_read_address (hr.mono (by first | decide | omega)) rfl T.m_read_address T.F_read_address.kp T.b_read_address .nil (throws_def.passes rfl) (pa_cons (pe_ix ix_list (pv 2) pe_int (fun _ _ => rfl)) pa_nil)) (pa_cons (pe_call G_read_truth (hr.mono (by first | decide | omega)) rfl T.m_read_truth T.F_read_truth.kp T.b_read_truth .nil (throws_def.passes rfl) (pa_cons (pe_ix ix_list (pv 2) pe_int (fun _ _ => rfl)) pa_nil)) pa_nil)))))) pss_nil)
      (pss_one (ps_raise T.x_NoText PySem.F.excBase_ValueError rfl T.m_NoText rfl throwsNew_def (pa_cons pe_str pa_nil))))))))), ?_⟩
  rcases h with ⟨x, rfl, hx, q, e⟩ | ⟨ty, hty, hk, e⟩
  rotate_left
  · exact ⟨_, rfl, v, rfl, .inr ⟨ty, hty, hk, e⟩⟩
  refine ⟨_, rfl, .str x, rfl, .inl ⟨x, rfl, ?_⟩⟩
  obtain ⟨w0, r, hs⟩ := words_some x
  rw [chT_eq hs] at q e
  obtain ⟨sA, e1⟩ := part_split hs
  have hwl := words_len hs hx
  refine ⟨_, rfl, rfl, _, _, rfl, rfl, blank_pos, (by omega), fun p1 hp1 => ?_⟩
  rw [e1]
  have s1 := same_new hp1 (.tup [.str w0, .str sA, .str (Txt.join " " r)])
  refine ⟨p1, _, _, _, rfl, rfl, SqT.of upd_same, rfl, ?_⟩
  generalize upd H p1 (.tup [.str w0, .str sA, .str (Txt.join " " r)]) = H1 at s1 ⊢
  by_cases c1 : w0 = "row"
  · subst c1
    rw [ch_row] at q e
    refine ⟨_, rfl, rfl, _, rfl, iteC (decide_eq_true rfl) ?_⟩
    exact ⟨_, rfl, x, r, rfl, hs, hx, fun c hc v H' s' hv => q c hc v H' (s1.trans s') hv, fun hn H' s' => e hn H' (s1.trans s')⟩
  refine ⟨_, rfl, rfl, _, rfl, iteB (vne c1) ?_⟩
  refine ⟨_, rfl, rfl, _, _, rfl, rfl, blank_pos, (by omega), fun g hg => ?_⟩
  rw [hs]
  have s2 := s1.trans (same_new hg (.lst ((w0 :: r).map V.str)))
  have h2 : (upd H1 g (.lst ((w0 :: r).map V.str))) g = some (.lst ((w0 :: r).map V.str)) := upd_same
  generalize upd H1 g (.lst ((w0 :: r).map V.str)) = H2 at s2 h2 ⊢
  by_cases c2 : w0 = "start"
  · subst c2
    rw [ch_start] at q e
    refine ⟨_, rfl, rfl, _, rfl, iteC (decide_eq_true rfl) ?_⟩
    refine ⟨_, rfl, _, rfl, _, rfl, _, rfl, g, _, rfl, SqL.of h2, fun y hy => ?_⟩
    rw [cut_mid2]
    have s3 := same_new hy (.lst (r.dropLast.map V.str))
    refine ⟨y, r.dropLast, rfl, upd_same, fun w hw => hwl w (List.mem_cons_of_mem _ (List.dropLast_subset _ hw)), fun p hp v H4 s4 hv => ?_, fun hn H4 s4 => e (start_pl hn) H4 (s2.trans (s3.trans s4))⟩
    have h4 := s4 _ _ (s3 _ _ h2)
    refine ⟨_, rfl, _, rfl, g, _, _, _, rfl, rfl, SqL.of h4, at_last2 _ _, r.getLastD "start", rfl, hwl _ (last_in _ _), fun n hn H5 s5 => ⟨(by show 3 ≤ sizeLine; decide), fun t ht => ?_⟩, fun hn H5 s5 => e (start_num hn) H5 (s2.trans (s3.trans (s4.trans s5)))⟩
    have s6 := same_new ht (.tup [.str "start", v, .int n])
    exact q _ (start_ok hp hn) _ _ (s2.trans (s3.trans (s4.trans (s5.trans s6)))) ⟨t, v, rfl, hv.same (s5.trans s6), upd_same⟩
  refine ⟨_, rfl, rfl, _, rfl, iteB (vne c2) ?_⟩
  by_cases c3 : w0 = "goes"
  · subst c3
    rw [ch_goes] at q e
    refine ⟨_, rfl, rfl, _, rfl, iteC (decide_eq_true rfl) ⟨_, rfl, g, _, rfl, .inl (SqL.of h2), rfl, _, rfl, ?_⟩⟩
    by_cases hl : r.length = 2
    · match r, hl, hwl, q, e, h2 with
      | [w1, w2], _, hwl, q, e, h2 =>
        refine iteC (decide_eq_true rfl) ?_
        refine ⟨_, rfl, g, _, _, _, rfl, rfl, SqL.of h2, rfl, w1, rfl, hwl w1 (by simp), fun ad had ta H3 s3 h3 => ?_, fun hn H3 s3 => e (goes_ad hn) H3 (s2.trans s3)⟩
        refine ⟨_, rfl, g, _, _, _, rfl, rfl, SqL.of (s3 _ _ h2), rfl, w2, rfl, fun o ho H4 s4 => ⟨(by show 3 ≤ sizeLine; decide), fun t ht => ?_⟩, fun hn H4 s4 => e (goes_go hn) H4 (s2.trans (s3.trans s4))⟩
        have s5 := same_new ht (.tup [.str "goes", .ref ta, truV o])
        exact q _ (goes_ok had ho) _ _ (s2.trans (s3.trans (s4.trans s5))) ⟨t, ta, rfl, s5 _ _ (s4 _ _ h3), upd_same⟩
    · refine iteB (num_eq_f (by simp only [List.length_map, List.length_cons]; omega)) ⟨(by show 1 ≤ 1000; decide), e (goes_len hl) H2 s2⟩
  · refine ⟨_, rfl, rfl, _, rfl, iteB (vne c3) (iteF ⟨(by show 1 ≤ 1000; decide), e (ch_other c1 c2 c3) H2 s2⟩)⟩
end
end K84
set_option Elab.async false
set_option linter.all false
set_option maxRecDepth 100000
set_option maxHeartbeats 4000000
namespace K84
open PySem L2 PyProof.Rows Ex
theorem lt_one (c d : Nat) : decide (([c] : List Nat) < [d]) = decide (c < d) := by
  rw [Bool.eq_iff_iff, decide_eq_true_eq, decide_eq_true_eq, List.cons_lt_cons_iff]
  constructor
  · rintro (h | ⟨_, h⟩)
    · exact h
    · exact absurd h (List.not_lt_nil _)
  · exact .inl
def bad (a b c : Nat) : Bool := !(decide (a ≤ c) && decide (c ≤ b))
abbrev rLeS : R2 := fun x y H Q => ∃ i j, x = .str i ∧ y = .str j ∧ Q (.bl (!decide (j.cps.toList < i.cps.toList))) H
theorem walk_bad {σ : L2.St} {H : Hp} {t lo hi : Str} {a b : Nat} {Q : VK} (ha : lo.cps.toList = [a]) (hb : hi.cps.toList = [b]) (ht : t.length ≤ 1000000)
    (q : ∀ p, H p = none → Q (.ref p) (upd H p (.lst ((t.cps.toList.filter (bad a b)).map fun c => V.str ⟨#[c]⟩)))) (hσ : σ[0]? = some (some (.str t))) :
    tComp (iStr (tVar 0)) [] (tNot (tTest (tChain rLeS rLeS (tC (.str lo)) (tVar 0) (tC (.str hi))))) (tVar 0) σ H Q := by
  have hsz : t.cps.size ≤ 1000000 := ht
  refine ⟨_, hσ, t, rfl, fun p hp => ?_⟩
  refine ⟨fun i m ys H' => i + m = t.cps.size ∧ ys = ((t.cps.toList.take i).filter (bad a b)).map (fun c => V.str ⟨#[c]⟩) ∧ H' = upd H p (.lst ys), ⟨t.cps.size, Nat.zero_add _, by simp, rfl⟩, ?_⟩
  rintro i m ys H' ⟨him, rfl, rfl⟩
  by_cases hi' : i = t.cps.size
  · refine .inl ⟨Nat.le_of_eq hi'.symm, ?_⟩
    have q' := q p hp
    rw [List.take_of_length_le (by simp [hi'])]
    exact q'
  · have hlt : i < t.cps.size := by omega
    refine .inr ⟨hlt, fun x H3 hy => ?_⟩
    obtain ⟨rfl, c, hc, rfl⟩ := hy
    have hc' : t.cps.toList[i]? = some c := by simpa using hc
    have e1 : (!decide ((⟨#[c]⟩ : Str).cps.toList < lo.cps.toList)) = decide (a ≤ c) := by
      rw [ha]
      show (!decide (([c] : List Nat) < [a])) = _
      rw [lt_one]
      by_cases z : a ≤ c
      · rw [decide_eq_false (by omega), decide_eq_true z]; rfl
      · rw [decide_eq_true (by omega), decide_eq_false z]; rfl
    have e2 : (!decide (hi.cps.toList < (⟨#[c]⟩ : Str).cps.toList)) = decide (c ≤ b) := by
      rw [hb]
      show (!decide (([b] : List Nat) < [c])) = _
      rw [lt_one]
      by_cases z : c ≤ b
      · rw [decide_eq_false (by omega), decide_eq_true z]; rfl
      · rw [decide_eq_true (by omega), decide_eq_false z]; rfl
    have len : ((((t.cps.toList.take i).filter (bad a b)).map (fun c => V.str ⟨#[c]⟩)).length) < sizeLine := by
      rw [List.length_map]
      refine smallM (Nat.le_trans (List.length_filter_le _ _) ?_)
      rw [List.length_take]; simp; omega
    have keep : bad a b c = false → ∃ m', m' < m ∧ (i + 1 + m' = t.cps.size ∧ ((t.cps.toList.take i).filter (bad a b)).map (fun c => V.str ⟨#[c]⟩) = ((t.cps.toList.take (i + 1)).filter (bad a b)).map (fun c => V.str ⟨#[c]⟩) ∧
        upd H p (.lst (((t.cps.toList.take i).filter (bad a b)).map (fun c => V.str ⟨#[c]⟩))) = upd H p (.lst (((t.cps.toList.take i).filter (bad a b)).map (fun c => V.str ⟨#[c]⟩)))) := fun hbad => by
      refine ⟨m - 1, by omega, by omega, ?_, rfl⟩
      rw [List.take_add_one, hc', List.filter_append]
      simp [hbad]
    have more : bad a b c = true → ∃ m', m' < m ∧ (i + 1 + m' = t.cps.size ∧ ((t.cps.toList.take i).filter (bad a b)).map (fun c => V.str ⟨#[c]⟩) ++ [V.str ⟨#[c]⟩] = ((t.cps.toList.take (i + 1)).filter (bad a b)).map (fun c => V.str ⟨#[c]⟩) ∧
        upd (upd H p (.lst (((t.cps.toList.take i).filter (bad a b)).map (fun c => V.str ⟨#[c]⟩)))) p (.lst (((t.cps.toList.take i).filter (bad a b)).map (fun c => V.str ⟨#[c]⟩) ++ [V.str ⟨#[c]⟩])) = upd H p (.lst (((t.cps.toList.take i).filter (bad a b)).map (fun c => V.str ⟨#[c]⟩) ++ [V.str ⟨#[c]⟩]))) := fun hbad => by
      refine ⟨m - 1, by omega, by omega, ?_, upd_upd⟩
      rw [List.take_add_one, hc', List.filter_append, List.map_append]
      simp [hbad]
    refine ⟨_, rfl, _, _, rfl, rfl, _, rfl, ?_⟩
    rw [e1]
    by_cases z1 : a ≤ c
    · refine iteC (decide_eq_true z1) ⟨_, _, rfl, rfl, _, rfl, ?_⟩
      rw [e2]
      by_cases z2 : c ≤ b
      · have hbad : bad a b c = false := by unfold bad; rw [decide_eq_true z1, decide_eq_true z2]; rfl
        rw [decide_eq_true z2]
        exact iteF (keep hbad)
      · have hbad : bad a b c = true := by unfold bad; rw [decide_eq_true z1, decide_eq_false z2]; rfl
        rw [decide_eq_false z2]
        exact iteT ⟨_, rfl, upd_same, len, more hbad⟩
    · have hbad : bad a b c = true := by unfold bad; rw [decide_eq_false z1]; rfl
      refine iteB (decide_eq_false z1) ⟨_, rfl, ?_⟩
      exact iteT ⟨_, rfl, upd_same, len, more hbad⟩
theorem bad_empty {t g : Str} {a b : Nat} (hg : ∀ c, c ∈ g.cps.toList ↔ a ≤ c ∧ c ≤ b) : ((t.cps.toList.filter (bad a b)).map fun c => V.str ⟨#[c]⟩).isEmpty = madeOf t g := by
  rw [Bool.eq_iff_iff, List.isEmpty_iff, List.map_eq_nil_iff, List.filter_eq_nil_iff, made_iff]
  constructor
  · intro h c hc
    have := h c hc
    unfold bad at this
    rw [hg]
    simpa using this
  · intro h c hc
    have := (hg c).mp (h c hc)
    unfold bad
    simp [this.1, this.2]
theorem starts_head {t : Str} {c : Nat} {r : List Nat} (h : t.cps.toList = c :: r) : Txt.startswith t "0" = decide (c = 48) := by
  have e0 : ("0" : Str) = ⟨#[48]⟩ := by decide +kernel
  have hl : 1 ≤ t.length := by rw [len_cps, h]; simp
  unfold Txt.startswith
  rw [e0, StrLaws.subAt_eq, h]
  have e2 : ((List.drop 0 (c :: r)).take (⟨#[48]⟩ : Str).length == (⟨#[48]⟩ : Str).cps.toList) = decide (c = 48) := by
    show ([c] == [48]) = _
    by_cases z : c = 48
    · subst z; rfl
    · rw [decide_eq_false z, beq_eq_false_iff_ne]
      intro y
      exact z (List.head_eq_of_cons_eq y)
  rw [e2]
  have e3 : (⟨#[48]⟩ : Str).length = 1 := rfl
  simp [e3, hl]
def lw19 : List Str := ["skip", "set", "put", "ask", "draw", "tell", "if", "else", "end", "while", "call", "fun", "main", "give", "cell", "plus", "minus", "times", "over"]
theorem split19 : Txt.split "skip set put ask draw tell if else end while call fun main give cell plus minus times over" " " = lw19 := by
  have e : ("skip set put ask draw tell if else end while call fun main give cell plus minus times over" : Str) = Str.join blank lw19 := by decide +kernel
  rw [e, ← join_eq]
  refine split_join (by decide) fun w hw => ?_
  have h := List.all_eq_true.mp (show (lw19.all fun x => decide (32 ∉ x.cps.toList)) = true by decide +kernel) w hw
  exact of_decide_eq_true h
theorem lang_eq : lw19 ++ (["rest", "less", "same"] : List Str) = langWords := by decide +kernel
theorem one_lt : ((" " : Str)).length = 1 := by decide +kernel
section
variable {P : Program} {w : World} {K : PySem.W.Frag} {mg : Str → Option Value} {base : Heap} {a : Ad}
theorem ok_law_is_number (T : Tx K mg a) : FnOk P w K mg base CX0 1 a.f_law_is_number a.fd_law_is_number ["_law_word"] (spBool isNumT) := by
  refine T.F_law_is_number.ok sc_law_is_number (fun vs H Q E h => ?_) (fun cdv A outer s H vs Q E hr h => ?_)
  · obtain ⟨_, rfl, _⟩ := h; rfl
  obtain ⟨t, rfl, ht, q⟩ := h
  refine ⟨_, (pss_cons (ps_if (PW.pt (pw_or (pt_cmpR op_eq (pv 0) pe_str (nomark _)) (pw_or1 (pt_cmpR (op_ne_nil (hr.units0)) (pe_comp0 rfl (pi_str (pv 0)) (fun _ _ _ _ => (pts_one (pt_not (pt_chain op_le_str op_le_str pe_str (pv 0) pe_str)))) (fun _ _ _ _ => (pv 0)) rfl (by decide +kernel) (by decide +kernel) (by decide +kernel) (by decide +kernel)) (pe_lst pa_nil) (nomark _))))) (pss_one (ps_ret pe_bl)) pss_nil)
      (pss_one (ps_ret (pe_and (pe_cmpR op_lt (pe_callB call_len_str rfl T.z_len PySem.boot_len (pa_cons (pv 0) pa_nil)) pe_int (nomark _)) (pe_one (pe_or (pe_cmpR op_eq (pv 0) pe_str (nomark _)) (pe_one (pe_cmpR op_ne (pe_ix ix_str (pv 0) pe_int (fun _ _ => rfl)) pe_str (nomark _))))))))), ?_⟩
  have fls : isNumT t = false → ∀ H', Same H H' → Q (.bl false) H' := fun e H' s' => by
    have q' := q H' s'
    rw [e] at q'
    exact q'
  have e0 : ("" : Str).length = 0 := by decide +kernel
  refine ⟨_, rfl, rfl, _, rfl, ?_⟩
  by_cases hz : t = ""
  · subst hz
    exact iteC (decide_eq_true rfl) (iteT (fls (by unfold isNumT; rw [decide_eq_false (p := 1 ≤ ("" : Str).length) (by omega)]; simp) H (Same.refl H)))
  refine iteB (decide_eq_false (fun z => hz (by injection z))) ?_
  dsimp only [tTest, tOp]
  refine walk_bad (σ := [some (.str t)]) (lo := "0") (hi := "9") (a := 48) (b := 57) (by decide +kernel) (by decide +kernel) ht (fun p hp => ?_) (by rfl)
  have s1 := same_new hp (.lst ((t.cps.toList.filter (bad 48 57)).map fun c => V.str ⟨#[c]⟩))
  refine ⟨(by show 0 ≤ sizeLine; decide), fun l4 hl4 => ⟨p, l4, _, rfl, rfl, same_new hl4 _ _ _ upd_same, upd_same, _, rfl, ?_⟩⟩
  have s2 := s1.trans (same_new hl4 (.lst []))
  have em := bad_empty (t := t) fig_iff
  cases hm : madeOf t "0123456789" with
  | false =>
    rw [hm] at em
    refine iteC (by show (!_) = true; rw [em]; rfl) ?_
    exact fls (by unfold isNumT; rw [hm]; simp) _ s2
  | true =>
    rw [hm] at em
    refine iteB (by show (!_) = false; rw [em]; rfl) ?_
    obtain ⟨c, r, hcr⟩ : ∃ c r, t.cps.toList = c :: r := by
      cases hc : t.cps.toList with
      | nil => exact absurd (PyProof.Rows.ext_toList (show t.cps.toList = ("" : Str).cps.toList by rw [hc]; decide +kernel)) hz
      | cons c r => exact ⟨c, r, rfl⟩
    have hl : 1 ≤ t.length := by rw [len_cps, hcr]; simp
    refine ⟨_, rfl, t, rfl, lineBig ht, _, _, rfl, rfl, _, rfl, ?_⟩
    by_cases h7 : t.length ≤ 6
    · refine iteC (decide_eq_true (by omega)) ?_
      refine ⟨_, rfl, rfl, _, rfl, ?_⟩
      by_cases h0 : t = "0"
      · refine iteC (decide_eq_true (by rw [h0])) ?_
        have q' := q _ s2
        rw [show isNumT t = true by unfold isNumT; rw [hm, decide_eq_true hl, decide_eq_true h7, decide_eq_true (show V.str t = V.str "0" by rw [h0])]; rfl] at q'
        exact q'
      · refine iteB (decide_eq_false (fun z => h0 (by injection z))) ?_
        refine ⟨_, rfl, _, _, c, rfl, rfl, lineBig ht, (atI_nat (j := 0) (by rw [hcr]; rfl)), rfl, ?_⟩
        have q' := q _ s2
        have e48 : decide (V.str (⟨#[c]⟩ : Str) = V.str "0") = decide (c = 48) := by
          have e0 : ("0" : Str) = ⟨#[48]⟩ := by decide +kernel
          rw [e0]
          by_cases z : c = 48
          · subst z; rw [decide_eq_true rfl, decide_eq_true rfl]
          · rw [decide_eq_false z, decide_eq_false]
            intro y
            injection y with y
            injection y with y
            exact z (List.head_eq_of_cons_eq (congrArg Array.toList y))
        rw [show isNumT t = !decide (V.str (⟨#[c]⟩ : Str) = V.str "0") by unfold isNumT; rw [hm, decide_eq_true hl, decide_eq_true h7, decide_eq_false (fun z => h0 (by injection z)), starts_head hcr, e48]; rfl] at q'
        exact q'
    · refine iteB (decide_eq_false (by omega)) ?_
      exact fls (by unfold isNumT; rw [decide_eq_false h7]; simp) _ s2
theorem ok_law_is_name (T : Tx K mg a) : FnOk P w K mg base CX0 1 a.f_law_is_name a.fd_law_is_name ["_law_word"] (spBool isNameT) := by
  refine T.F_law_is_name.ok sc_law_is_name (fun vs H Q E h => ?_) (fun cdv A outer s H vs Q E hr h => ?_)
  · obtain ⟨_, rfl, _⟩ := h; rfl
  obtain ⟨t, rfl, ht, q⟩ := h
  refine ⟨_, (pss_cons (ps_set (i := 1) sc_law_is_name.nd rfl (Or.inl rfl) pe_str)
      (pss_cons (ps_if (PW.pt (pw_or (pt_not (pt_chain op_le op_le pe_int (pe_callB call_len_str rfl T.z_len PySem.boot_len (pa_cons (pv 0) pa_nil)) pe_int)) (pw_or1 (pt_cmpR op_in_seq (pv 0) (pe_op op_cat (pe_bm PySem.F.plainAttrs_str PySem.F.slot_str_split PySem.F.type_str_split mt_split (pv 1) (pa_cons pe_str pa_nil)) (pe_lst (pa_cons pe_str (pa_cons pe_str (pa_cons pe_str pa_nil))))) (by with_unfolding_all rfl))))) (pss_one (ps_ret pe_bl)) pss_nil)
      (pss_one (ps_ret (pe_cmpR (op_eq_nil (hr.units0)) (pe_comp0 rfl (pi_str (pv 0)) (fun _ _ _ _ => (pts_one (pt_not (pt_chain op_le_str op_le_str pe_str (pv 0) pe_str)))) (fun _ _ _ _ => (pv 0)) rfl (by decide +kernel) (by decide +kernel) (by decide +kernel) (by decide +kernel)) (pe_lst pa_nil) (nomark _)))))), ?_⟩
  have fls : isNameT t = false → ∀ H', Same H H' → Q (.bl false) H' := fun e H' s' => by
    have q' := q H' s'
    rw [e] at q'
    exact q'
  refine ⟨_, rfl, t, rfl, lineBig ht, _, _, rfl, rfl, _, rfl, ?_⟩
  by_cases h1 : 1 ≤ t.length
  · refine iteC (decide_eq_true (by omega)) ⟨_, _, rfl, rfl, _, rfl, ?_⟩
    by_cases h2 : t.length ≤ 6
    · refine iteB (by rw [decide_eq_true (by omega)]; rfl) ?_
      refine ⟨_, rfl, _, rfl, rfl, _, _, rfl, rfl, (by decide +kernel), (by decide +kernel), fun l hl => ?_⟩
      rw [split19]
      refine ⟨(by show 3 ≤ sizeLine; decide), fun l2 hl2 => ?_⟩
      have n12 : l ≠ l2 := fun z => by rw [← z, upd_same] at hl2; cases hl2
      refine ⟨l, l2, _, _, rfl, rfl, (by rw [upd_ne n12]; exact upd_same), upd_same, (by show 22 ≤ sizeLine; decide), fun l3 hl3 => ?_⟩
      have sA := (same_new hl (.lst (lw19.map V.str))).trans ((same_new hl2 (.lst [.str "rest", .str "less", .str "same"])).trans (same_new hl3 (.lst (lw19.map V.str ++ [.str "rest", .str "less", .str "same"]))))
      refine ⟨l3, _, rfl, .inl (SqL.of upd_same), rfl, rfl, _, rfl, ?_⟩
      have el : lw19.map V.str ++ [.str "rest", .str "less", .str "same"] = langWords.map V.str := by rw [← lang_eq, List.map_append]; rfl
      rw [el] at sA ⊢
      cases hin : inV (.str t) (langWords.map V.str) with
      | true => exact iteT (fls (by unfold isNameT; rw [hin]; simp) _ sA)
      | false =>
        refine iteF ?_
        dsimp only [tNext, tRet, tOp]
        refine walk_bad (σ := [some (.str t), some (.str "skip set put ask draw tell if else end while call fun main give cell plus minus times over")]) (lo := "a") (hi := "z") (a := 97) (b := 122) (by decide +kernel) (by decide +kernel) ht (fun p hp => ?_) (by rfl)
        have s1 := sA.trans (same_new hp (.lst ((t.cps.toList.filter (bad 97 122)).map fun c => V.str ⟨#[c]⟩)))
        refine ⟨(by show 0 ≤ sizeLine; decide), fun l4 hl4 => ⟨p, l4, _, rfl, rfl, same_new hl4 _ _ _ upd_same, upd_same, ?_⟩⟩
        have q' := q _ (s1.trans (same_new hl4 (.lst [])))
        have e : isNameT t = ((t.cps.toList.filter (bad 97 122)).map fun c => V.str ⟨#[c]⟩).isEmpty := by
          rw [bad_empty let_iff]
          unfold isNameT
          rw [hin, decide_eq_true h1, decide_eq_true h2]
          simp
        rw [e] at q'
        exact q'
    · refine iteC (by rw [decide_eq_false (by omega)]; rfl) ?_
      exact fls (by unfold isNameT; rw [decide_eq_false h2]; simp) H (Same.refl H)
  · refine iteB (decide_eq_false (by omega)) ⟨_, rfl, iteT ?_⟩
    exact fls (by unfold isNameT; rw [decide_eq_false h1]; simp) H (Same.refl H)
end
def badNum : V → Bool
  | .str w => !isNumT w
  | _ => false
def badMkV : V → Bool
  | .str w => badMk w
  | _ => false
theorem badNum_str (w : Str) : badNum (.str w) = !isNumT w := rfl
theorem badMkV_str (w : Str) : badMkV (.str w) = badMk w := rfl
theorem filt_dec (b : V → Bool) : ∀ ws : List Str, (((ws.map V.str).filter b).isEmpty = true ∧ ∀ w ∈ ws, b (.str w) = false) ∨ (((ws.map V.str).filter b).isEmpty = false ∧ ∃ w ∈ ws, b (.str w) = true)
  | [] => .inl ⟨rfl, fun w hw => by simp at hw⟩
  | x :: r => by
    cases hb : b (.str x) with
    | true => exact .inr ⟨by simp [hb], x, by simp, hb⟩
    | false =>
      rcases filt_dec b r with ⟨h1, h2⟩ | ⟨h1, w, hw, h2⟩
      · refine .inl ⟨by rw [List.map_cons, List.filter_cons_of_neg (by simp [hb])]; exact h1, fun w hw => ?_⟩
        rcases List.mem_cons.mp hw with rfl | hw
        · exact hb
        · exact h2 w hw
      · exact .inr ⟨by rw [List.map_cons, List.filter_cons_of_neg (by simp [hb])]; exact h1, w, List.mem_cons_of_mem _ hw, h2⟩
def spAdOf : Sp := fun vs H Q _ => ∃ w, vs = [.str w] ∧ w.length ≤ 1000000 ∧ (∀ ns, adT w = some ns → ∀ ta H', Same H H' → H' ta = some (.tup (ns.map V.int)) → Q (.ref ta) H') ∧ (adT w = none → ∀ H', Same H H' → Q .non H')
/-- a comprehension of int(..) over words that are read -/
theorem ints_of {K : PySem.W.Frag} {σ : L2.St} {H1 : Hp} {c q : Addr} {ws : List Str} {ns : List Int} {f : Str → Option Int} {Q : Hp → Prop} (hq : H1 q = some (.lst (ws.map V.str))) (hc : H1 c = none) (hl : ws.length ≤ 1000000) (ha : allT f ws = some ns) (hf : ∀ w i, f w = some i → intText? w = some i ∧ w.length ≤ 640)
    {te : TE} (hte : ∀ w i H (k : VK), intText? w = some i → w.length ≤ 640 → k (.int i) H → te [some (.str w)] H k) (fin : ∀ H', Same H1 H' → H' c = some (.lst (ns.map V.int)) → Q H') :
    ∃ W : Nat → Nat → List V → Hp → Prop, (∃ m, W 0 m [] (upd H1 c (.lst []))) ∧ ∀ i m ys H2, W i m ys H2 →
      ((Itl K q).stop i H2 ∧ Q H2) ∨ ((Itl K q).go i H2 ∧ ∀ x H3, (Itl K q).yld i H2 x H3 → (fun (_ : L2.St) (H : Hp) (Q : Bool → Hp → Prop) => Q true H) (some x :: capSt [] σ) H3 fun b H4 =>
        if b = true then te (some x :: capSt [] σ) H4 fun y H5 => H5 c = some (.lst ys) ∧ ys.length < sizeLine ∧ ∃ m', m' < m ∧ W (i + 1) m' (ys ++ [y]) (upd H5 c (.lst (ys ++ [y])))
        else ∃ m', m' < m ∧ W (i + 1) m' ys H4) := by
  obtain ⟨hl2, hat⟩ := allT_at ha
  refine comp_known (us := ws.map V.str) (ys0 := ns.map V.int) (src_list (SqL.of hq)) hc (by rw [List.length_map]; omega) (by simp [hl2]) (fun i u y H2 hu hy s2 k hk => ?_) fun H' s' h' => fin H' s' h'
  rw [List.getElem?_map] at hu hy
  cases hi : ws[i]? with
  | none => rw [hi] at hu; cases hu
  | some w =>
    cases hj : ns[i]? with
    | none => rw [hj] at hy; cases hy
    | some n =>
      rw [hi] at hu
      rw [hj] at hy
      cases Option.some.inj hu
      cases Option.some.inj hy
      obtain ⟨g1, g2⟩ := hf w n (hat i w n hi hj)
      exact hte w n H2 k g1 g2 (hk H2 (Same.refl _))
section
variable {P : Program} {w : World} {K : PySem.W.Frag} {mg : Str → Option Value} {base : Heap} {a : Ad}
theorem ok_law_address_of (T : Tx K mg a) : FnOk P w K mg base CX0 2 a.f_law_address_of a.fd_law_address_of ["_law_word"] spAdOf := by
  have G_law_is_number : FnOk P w K mg base CX0 1 a.f_law_is_number a.fd_law_is_number ["_law_word"] (spBool isNumT) := ok_law_is_number T
  refine T.F_law_address_of.ok sc_law_address_of (fun vs H Q E h => ?_) (fun cdv A outer s H vs Q E hr h => ?_)
  · obtain ⟨_, rfl, _⟩ := h; rfl
  obtain ⟨x, rfl, hx, q, e⟩ := h
  refine ⟨_, (pss_cons (ps_if (pt_cmpR op_eq (pv 0) pe_str (nomark _)) (pss_one (ps_ret (pe_tup pa_nil))) pss_nil)
      (pss_cons (ps_set (i := 1) sc_law_address_of.nd rfl (Or.inl rfl) (pe_bm PySem.F.plainAttrs_str PySem.F.slot_str_split PySem.F.type_str_split mt_split (pv 0) (pa_cons pe_str pa_nil)))
      (pss_cons (ps_if (PW.pt (pw_or (pt_cmpR op_gt (pe_callB call_len_seq rfl T.z_len PySem.boot_len (pa_cons (pv 1) pa_nil)) pe_int (nomark _)) (pw_or1 (pt_cmpR (op_ne_nil (hr.units0)) (pe_comp0 rfl (pi_list (pv 1)) (fun _ _ _ _ => (pts_one (pt_not (pt_val (pe_call G_law_is_number (hr.mono (by first | decide | omega)) rfl T.m_law_is_number T.F_law_is_number.kp T.b_law_is_number .nil pass0 (pa_cons (pv 0) pa_nil)))))) (fun _ _ _ _ => (pv 0)) rfl (by decide +kernel) (by decide +kernel) (by decide +kernel) (by decide +kernel)) (pe_lst pa_nil) (nomark _))))) (pss_one (ps_ret pe_non)) pss_nil)
      (pss_one (ps_ret (pe_callTy call_tuple_of rfl T.z_tuple boot_tuple (pa_cons (pe_comp0 rfl (pi_list (pv 1)) (fun _ _ _ _ => pts_nil) (fun _ _ _ _ => (pe_callTy call_int_text rfl T.z_int boot_int (pa_cons (pv 0) pa_nil))) rfl (by decide +kernel) (by decide +kernel) (by decide +kernel) (by decide +kernel)) pa_nil))))))), ?_⟩
  unfold adT at q e
  by_cases h0 : x = "-"
  · subst h0
    rw [if_pos rfl] at q
    refine ⟨_, rfl, rfl, _, rfl, iteC (decide_eq_true rfl) ?_⟩
    exact ⟨(by show 0 ≤ sizeLine; decide), fun t ht => q [] rfl t _ (same_new ht _) upd_same⟩
  · rw [if_neg h0] at q e
    refine ⟨_, rfl, rfl, _, rfl, iteB (vne h0) ?_⟩
    refine ⟨_, rfl, rfl, _, _, rfl, rfl, dot_pos, (by omega), fun g hg => ?_⟩
    have s1 := same_new hg (.lst ((Txt.split x ".").map V.str))
    have hg1 : (upd H g (.lst ((Txt.split x ".").map V.str))) g = some (.lst ((Txt.split x ".").map V.str)) := upd_same
    generalize upd H g (.lst ((Txt.split x ".").map V.str)) = H1 at s1 hg1 ⊢
    have hsm : ∀ w ∈ Txt.split x ".", w.length ≤ 1000000 := fun w hw => by
      rw [dot_eq] at hw
      have := split_mem hw
      omega
    have hln : (Txt.split x ".").length ≤ 1000001 := by
      rw [dot_eq]
      have := split_len (x := x) (k := 46)
      omega
    generalize Txt.split x "." = ws at q e hg1 hsm hln
    refine ⟨_, rfl, g, _, rfl, .inl (SqL.of hg1), _, _, rfl, rfl, _, rfl, ?_⟩
    by_cases h1 : 100 < ws.length
    · rw [if_pos h1] at e
      exact iteC (decide_eq_true (by simp only [List.length_map]; omega)) (iteT (e rfl H1 s1))
    · rw [if_neg h1] at q e
      refine iteB (decide_eq_false (by simp only [List.length_map]; omega)) ?_
      refine ⟨_, rfl, g, rfl, ⟨_, SqL.of hg1⟩, fun c hc => ?_⟩
      refine comp_filter badNum (us := ws.map V.str) (src_list (SqL.of hg1)) hc (by simp only [List.length_map]; omega) (fun i u H2 hu s2 k hk => ?_) fun H2 s2 hc2 => ?_
      · rw [List.getElem?_map] at hu
        cases hi : ws[i]? with
        | none => rw [hi] at hu; cases hu
        | some w =>
          rw [hi] at hu
          cases Option.some.inj hu
          exact ⟨_, rfl, w, rfl, hsm w (List.mem_of_getElem? hi), fun H3 s3 => ⟨_, rfl, hk H3 s3⟩⟩
      · refine ⟨(by show 0 ≤ sizeLine; decide), fun l hl => ⟨c, l, _, rfl, rfl, same_new hl _ _ _ hc2, upd_same, _, rfl, ?_⟩⟩
        have s3 := s1.trans (s2.trans (same_new hl (.lst [])))
        have hg3 := same_new hl (.lst []) _ _ (s2 _ _ hg1)
        generalize upd H2 l (.lst []) = H3 at s3 hg3 ⊢
        rcases filt_dec badNum ws with ⟨hem, hall⟩ | ⟨hem, w, hw, hb⟩
        rotate_left
        · refine iteC (show (!((ws.map V.str).filter badNum).isEmpty) = true by rw [hem]; rfl) (e ?_ H3 s3)
          refine allT_none hw (numT_none ?_)
          rw [badNum_str] at hb
          cases hn : isNumT w with
          | false => rfl
          | true => rw [hn] at hb; cases hb
        · refine iteB (show (!((ws.map V.str).filter badNum).isEmpty) = false by rw [hem]; rfl) ?_
          obtain ⟨ns, hns⟩ : ∃ ns, allT numT ws = some ns := by
            cases h : allT numT ws with
            | some ns => exact ⟨ns, rfl⟩
            | none =>
              obtain ⟨w, hw, hn⟩ := allT_dec h
              have hb := hall w hw
              rw [badNum_str] at hb
              have hi : isNumT w = true := by
                cases hn' : isNumT w with
                | true => rfl
                | false => rw [hn'] at hb; cases hb
              obtain ⟨i, h1, _⟩ := numT_some hi
              rw [h1] at hn; cases hn
          refine ⟨_, rfl, g, rfl, ⟨_, SqL.of hg3⟩, fun c4 hc4 => ?_⟩
          refine ints_of hg3 hc4 (by omega) hns (fun w i h => ⟨(numT_int h).1, (numT_int h).2.1⟩) (fun w i H5 k h1 h2 hk => ⟨_, rfl, w, i, rfl, h1, h2, hk⟩) fun H5 s5 h5 => ?_
          exact ⟨c4, _, rfl, .inl ⟨SqL.of h5, fun t ht => q ns hns t _ (s3.trans (s5.trans (same_new ht _))) upd_same⟩⟩
end
end K84
set_option Elab.async false
set_option linter.all false
set_option maxRecDepth 100000
set_option maxHeartbeats 4000000
namespace K84
open PySem L2 PyProof.Rows Ex
theorem isN_ref (t : Addr) : (!decide (V.ref t = V.non)) = true := by rw [decide_eq_false (by intro z; cases z)]; rfl
theorem PlAt.isT {H : Hp} {p : Pl} {v : V} (h : PlAt H p v) : ∃ t, v = .ref t := by
  cases p with
  | box ad x => obtain ⟨t, ta, rfl, _⟩ := h; exact ⟨t, rfl⟩
  | cell i => obtain ⟨t, rfl, _⟩ := h; exact ⟨t, rfl⟩
  | world x i => obtain ⟨t, rfl, _⟩ := h; exact ⟨t, rfl⟩
  | drawn x => obtain ⟨t, rfl, _⟩ := h; exact ⟨t, rfl⟩
def spPlOf : Sp := fun vs H Q _ => ∃ g ws, vs = [.ref g] ∧ H g = some (.lst (ws.map V.str)) ∧ (∀ w ∈ ws, w.length ≤ 1000000) ∧ (∀ p, plT ws = some p → ∀ v H', Same H H' → PlAt H' p v → Q v H') ∧ (plT ws = none → ∀ H', Same H H' → Q .non H')
def spDue : Sp := fun vs H Q _ => ∃ t, vs = [.str t] ∧ t.length ≤ 1000000 ∧ (∀ c, chT t = some c → ∀ v H', Same H H' → ChAt H' c v → Q v H') ∧ (chT t = none → ∀ H', Same H H' → Q (.str "refused") H')
section
variable {P : Program} {w : World} {K : PySem.W.Frag} {mg : Str → Option Value} {base : Heap} {a : Ad}
theorem ok_law_place_of (T : Tx K mg a) : FnOk P w K mg base CX0 3 a.f_law_place_of a.fd_law_place_of ["_law_words"] spPlOf := by
  have G_law_address_of : FnOk P w K mg base CX0 2 a.f_law_address_of a.fd_law_address_of ["_law_word"] spAdOf := ok_law_address_of T
  have G_law_is_number : FnOk P w K mg base CX0 1 a.f_law_is_number a.fd_law_is_number ["_law_word"] (spBool isNumT) := ok_law_is_number T
  have G_law_is_name : FnOk P w K mg base CX0 1 a.f_law_is_name a.fd_law_is_name ["_law_word"] (spBool isNameT) := ok_law_is_name T
  refine T.F_law_place_of.ok sc_law_place_of (fun vs H Q E h => ?_) (fun cdv A outer s H vs Q E hr h => ?_)
  · obtain ⟨_, _, rfl, _⟩ := h; rfl
  obtain ⟨g, ws, rfl, hg, hsm, q, e⟩ := h
  refine ⟨_, (pss_cons (ps_if (PW.pt (pw_and (pt_cmpR op_eq (pe_callB call_len_seq rfl T.z_len PySem.boot_len (pa_cons (pv 0) pa_nil)) pe_int (nomark _)) (pw_and (pt_cmpR op_eq (pe_ix ix_list (pv 0) pe_int (fun _ _ => rfl)) pe_str (nomark _)) (pw_and (pt_cmpR op_notN (pe_call G_law_address_of (hr.mono (by first | decide | omega)) rfl T.m_law_address_of T.F_law_address_of.kp T.b_law_address_of .nil pass0 (pa_cons (pe_ix ix_list (pv 0) pe_int (fun _ _ => rfl)) pa_nil)) pe_non (nomark _)) (pw_and1 (pt_val (pe_call G_law_is_name (hr.mono (by first | decide | omega)) rfl T.m_law_is_name T.F_law_is_name.kp T.b_law_is_name .nil pass0 (pa_cons (pe_ix ix_list (pv 0) pe_int (fun _ _ => rfl)) pa_nil)))))))) (pss_one (ps_ret (pe_tup (pa_cons pe_str (pa_cons (pe_call G_law_address_of (hr.mono (by first | decide | omega)) rfl T.m_law_address_of T.F_law_address_of.kp T.b_law_address_of .nil pass0 (pa_cons (pe_ix ix_list (pv 0) pe_int (fun _ _ => rfl)) pa_nil)) (pa_cons (pe_ix ix_list (pv 0) pe_int (fun _ _ => rfl)) pa_nil)))))) pss_nil)
      (pss_cons (ps_if (PW.pt (pw_and (pt_cmpR op_eq (pe_callB call_len_seq rfl T.z_len PySem.boot_len (pa_cons (pv 0) pa_nil)) pe_int (nomark _)) (pw_and (pt_cmpR op_eq (pe_ix ix_list (pv 0) pe_int (fun _ _ => rfl)) pe_str (nomark _)) (pw_and1 (pt_val (pe_call G_law_is_number (hr.mono (by first | decide | omega)) rfl T.m_law_is_number T.F_law_is_number.kp T.b_law_is_number .nil pass0 (pa_cons (pe_ix ix_list (pv 0) pe_int (fun _ _ => rfl)) pa_nil))))))) (pss_one (ps_ret (pe_tup (pa_cons pe_str (pa_cons (pe_callTy call_int_text rfl T.z_int boot_int (pa_cons (pe_ix ix_list (pv 0) pe_int (fun _ _ => rfl)) pa_nil)) pa_nil))))) pss_nil)
      (pss_cons (ps_if (PW.pt (pw_and (pt_cmpR op_eq (pe_callB call_len_seq rfl T.z_len PySem.boot_len (pa_cons (pv 0) pa_nil)) pe_int (nomark _)) (pw_and (pt_cmpR op_eq (pe_ix ix_list (pv 0) pe_int (fun _ _ => rfl)) pe_str (nomark _)) (pw_and (pt_val (pe_call G_law_is_name (hr.mono (by first | decide | omega)) rfl T.m_law_is_name T.F_law_is_name.kp T.b_law_is_name .nil pass0 (pa_cons (pe_ix ix_list (pv 0) pe_int (fun _ _ => rfl)) pa_nil))) (pw_and1 (pt_val (pe_call G_law_is_number (hr.mono (by first | decide | omega)) rfl T.m_law_is_number T.F_law_is_number.kp T.b_law_is_number .nil pass0 (pa_cons (pe_ix ix_list (pv 0) pe_int (fun _ _ => rfl)) pa_nil)))))))) (pss_one (ps_ret (pe_tup (pa_cons pe_str (pa_cons (pe_ix ix_list (pv 0) pe_int (fun _ _ => rfl)) (pa_cons (pe_callTy call_int_text rfl T.z_int boot_int (pa_cons (pe_ix ix_list (pv 0) pe_int (fun _ _ => rfl)) pa_nil)) pa_nil)))))) pss_nil)
      (pss_cons (ps_if (PW.pt (pw_and (pt_cmpR op_eq (pe_callB call_len_seq rfl T.z_len PySem.boot_len (pa_cons (pv 0) pa_nil)) pe_int (nomark _)) (pw_and (pt_cmpR op_eq (pe_ix ix_list (pv 0) pe_int (fun _ _ => rfl)) pe_str (nomark _)) (pw_and1 (pt_val (pe_call G_law_is_name (hr.mono (by first | decide | omega)) rfl T.m_law_is_name T.F_law_is_name.kp T.b_law_is_name .nil pass0 (pa_cons (pe_ix ix_list (pv 0) pe_int (fun _ _ => rfl)) pa_nil))))))) (pss_one (ps_ret (pe_tup (pa_cons pe_str (pa_cons (pe_ix ix_list (pv 0) pe_int (fun _ _ => rfl)) pa_nil))))) pss_nil)
      (pss_one (ps_ret pe_non)))))), ?_⟩
  by_cases hl3 : ws.length = 3
  · match ws, hl3, hg, hsm, q, e with
    | [w0, w1, w2], _, hg, hsm, q, e =>
      have hg : H g = some (.lst [.str w0, .str w1, .str w2]) := hg
      have h1 := hsm w1 (by simp)
      have h2 := hsm w2 (by simp)
      by_cases hc : w0 = "box"
      · subst hc
        refine ⟨_, rfl, g, _, rfl, .inl (SqL.of hg), rfl, _, rfl, iteC (decide_eq_true rfl) ⟨_, rfl, g, _, _, _, rfl, rfl, SqL.of hg, rfl, rfl, _, rfl, iteC (decide_eq_true rfl) ?_⟩⟩
        refine ⟨_, rfl, g, _, _, _, rfl, rfl, SqL.of hg, rfl, w1, rfl, h1, fun ad had ta H1 s1 hta => ⟨rfl, _, rfl, iteC (isN_ref ta) ?_⟩, fun hn H1 s1 => ⟨rfl, _, rfl, iteB (show (!decide (V.non = V.non)) = false by decide) (iteF ?_)⟩⟩
        · have hg1 := s1 _ _ hg
          refine ⟨_, rfl, g, _, _, _, rfl, rfl, SqL.of hg1, rfl, w2, rfl, h2, fun H2 s2 => ⟨_, rfl, ?_⟩⟩
          have hg2 := s2 _ _ hg1
          cases hi : isNameT w2 with
          | true =>
            refine iteT ⟨_, rfl, g, _, _, _, rfl, rfl, SqL.of hg2, rfl, w1, rfl, h1, fun ad' had' ta' H3 s3 hta' => ?_, fun hn => absurd (had.symm.trans hn) (by intro z; cases z)⟩
            refine ⟨_, rfl, g, _, _, _, rfl, rfl, SqL.of (s3 _ _ hg2), rfl, (by show 3 ≤ sizeLine; decide), fun t ht => ?_⟩
            have s4 := same_new ht (.tup [.str "box", .ref ta', .str w2])
            exact q _ (pl_box_ok had' hi) _ _ (s1.trans (s2.trans (s3.trans s4))) ⟨t, ta', rfl, s4 _ _ hta', upd_same⟩
          | false =>
            refine iteF ?_
            refine ⟨_, rfl, g, _, rfl, .inl (SqL.of hg2), rfl, _, rfl, iteB (num_eq_f (n := 3) (by decide)) (iteF ?_)⟩
            refine ⟨_, rfl, g, _, rfl, .inl (SqL.of hg2), rfl, _, rfl, iteC (decide_eq_true rfl) ⟨_, rfl, g, _, _, _, rfl, rfl, SqL.of hg2, rfl, rfl, _, rfl, iteB (vne (by decide +kernel)) (iteF ?_)⟩⟩
            refine ⟨_, rfl, g, _, rfl, .inl (SqL.of hg2), rfl, _, rfl, iteB (num_eq_f (n := 3) (by decide)) (iteF ?_)⟩
            exact e (pl_box_nm hi) H2 (s1.trans s2)
        · have hg1 := s1 _ _ hg
          refine ⟨_, rfl, g, _, rfl, .inl (SqL.of hg1), rfl, _, rfl, iteB (num_eq_f (n := 3) (by decide)) (iteF ?_)⟩
          refine ⟨_, rfl, g, _, rfl, .inl (SqL.of hg1), rfl, _, rfl, iteC (decide_eq_true rfl) ⟨_, rfl, g, _, _, _, rfl, rfl, SqL.of hg1, rfl, rfl, _, rfl, iteB (vne (by decide +kernel)) (iteF ?_)⟩⟩
          refine ⟨_, rfl, g, _, rfl, .inl (SqL.of hg1), rfl, _, rfl, iteB (num_eq_f (n := 3) (by decide)) (iteF ?_)⟩
          exact e (pl_box_ad hn) H1 s1
      refine ⟨_, rfl, g, _, rfl, .inl (SqL.of hg), rfl, _, rfl, iteC (decide_eq_true rfl) ⟨_, rfl, g, _, _, _, rfl, rfl, SqL.of hg, rfl, rfl, _, rfl, iteB (vne hc) (iteF ?_)⟩⟩
      refine ⟨_, rfl, g, _, rfl, .inl (SqL.of hg), rfl, _, rfl, iteB (num_eq_f (n := 3) (by decide)) (iteF ?_)⟩
      by_cases hd : w0 = "world"
      · subst hd
        refine ⟨_, rfl, g, _, rfl, .inl (SqL.of hg), rfl, _, rfl, iteC (decide_eq_true rfl) ⟨_, rfl, g, _, _, _, rfl, rfl, SqL.of hg, rfl, rfl, _, rfl, iteC (decide_eq_true rfl) ?_⟩⟩
        refine ⟨_, rfl, g, _, _, _, rfl, rfl, SqL.of hg, rfl, w1, rfl, h1, fun H1 s1 => ⟨_, rfl, ?_⟩⟩
        have hg1 := s1 _ _ hg
        cases hi : isNameT w1 with
        | true =>
          refine iteT ⟨_, rfl, g, _, _, _, rfl, rfl, SqL.of hg1, rfl, w2, rfl, h2, fun H2 s2 => ⟨_, rfl, ?_⟩⟩
          have hg2 := s2 _ _ hg1
          rcases numT_dec w2 with ⟨hb, i, hn, hi2, hi3⟩ | ⟨hb, hn⟩
          · refine iteC hb ⟨_, rfl, g, _, _, _, rfl, rfl, SqL.of hg2, rfl, _, rfl, g, _, _, _, rfl, rfl, SqL.of hg2, rfl, w2, i, rfl, hi2, hi3, (by show 3 ≤ sizeLine; decide), fun t ht => ?_⟩
            exact q _ (pl_world_ok hn hi) _ _ (s1.trans (s2.trans (same_new ht _))) ⟨t, rfl, upd_same⟩
          · refine iteB hb ?_
            refine ⟨_, rfl, g, _, rfl, .inl (SqL.of hg2), rfl, _, rfl, iteB (num_eq_f (n := 3) (by decide)) (iteF ?_)⟩
            exact e (pl_world_num hn) H2 (s1.trans s2)
        | false =>
          refine iteF (iteF ?_)
          refine ⟨_, rfl, g, _, rfl, .inl (SqL.of hg1), rfl, _, rfl, iteB (num_eq_f (n := 3) (by decide)) (iteF ?_)⟩
          exact e (pl_world_nm hi) H1 s1
      refine ⟨_, rfl, g, _, rfl, .inl (SqL.of hg), rfl, _, rfl, iteC (decide_eq_true rfl) ⟨_, rfl, g, _, _, _, rfl, rfl, SqL.of hg, rfl, rfl, _, rfl, iteB (vne hd) (iteF ?_)⟩⟩
      refine ⟨_, rfl, g, _, rfl, .inl (SqL.of hg), rfl, _, rfl, iteB (num_eq_f (n := 3) (by decide)) (iteF ?_)⟩
      exact e (pl_3 hc hd) H (Same.refl H)
  by_cases hl2 : ws.length = 2
  · match ws, hl2, hg, hsm, q, e with
    | [w0, w1], _, hg, hsm, q, e =>
      have hg : H g = some (.lst [.str w0, .str w1]) := hg
      have h1 := hsm w1 (by simp)
      refine ⟨_, rfl, g, _, rfl, .inl (SqL.of hg), rfl, _, rfl, iteB (num_eq_f (n := 2) (by decide)) (iteF ?_)⟩
      by_cases hc : w0 = "cell"
      · subst hc
        refine ⟨_, rfl, g, _, rfl, .inl (SqL.of hg), rfl, _, rfl, iteC (decide_eq_true rfl) ⟨_, rfl, g, _, _, _, rfl, rfl, SqL.of hg, rfl, rfl, _, rfl, iteC (decide_eq_true rfl) ?_⟩⟩
        refine ⟨_, rfl, g, _, _, _, rfl, rfl, SqL.of hg, rfl, w1, rfl, h1, fun H1 s1 => ⟨_, rfl, ?_⟩⟩
        have hg1 := s1 _ _ hg
        rcases numT_dec w1 with ⟨hb, i, hn, hi2, hi3⟩ | ⟨hb, hn⟩
        · refine iteC hb ⟨_, rfl, g, _, _, _, rfl, rfl, SqL.of hg1, rfl, w1, i, rfl, hi2, hi3, (by show 2 ≤ sizeLine; decide), fun t ht => ?_⟩
          exact q _ (pl_cell_ok hn) _ _ (s1.trans (same_new ht _)) ⟨t, rfl, upd_same⟩
        · refine iteB hb ?_
          refine ⟨_, rfl, g, _, rfl, .inl (SqL.of hg1), rfl, _, rfl, iteB (num_eq_f (n := 2) (by decide)) (iteF ?_)⟩
          refine ⟨_, rfl, g, _, rfl, .inl (SqL.of hg1), rfl, _, rfl, iteC (decide_eq_true rfl) ⟨_, rfl, g, _, _, _, rfl, rfl, SqL.of hg1, rfl, rfl, _, rfl, iteB (vne (by decide +kernel)) (iteF ?_)⟩⟩
          exact e (pl_cell_no hn) H1 s1
      refine ⟨_, rfl, g, _, rfl, .inl (SqL.of hg), rfl, _, rfl, iteC (decide_eq_true rfl) ⟨_, rfl, g, _, _, _, rfl, rfl, SqL.of hg, rfl, rfl, _, rfl, iteB (vne hc) (iteF ?_)⟩⟩
      refine ⟨_, rfl, g, _, rfl, .inl (SqL.of hg), rfl, _, rfl, iteB (num_eq_f (n := 2) (by decide)) (iteF ?_)⟩
      by_cases hd : w0 = "drawn"
      · subst hd
        refine ⟨_, rfl, g, _, rfl, .inl (SqL.of hg), rfl, _, rfl, iteC (decide_eq_true rfl) ⟨_, rfl, g, _, _, _, rfl, rfl, SqL.of hg, rfl, rfl, _, rfl, iteC (decide_eq_true rfl) ?_⟩⟩
        refine ⟨_, rfl, g, _, _, _, rfl, rfl, SqL.of hg, rfl, w1, rfl, h1, fun H1 s1 => ⟨_, rfl, ?_⟩⟩
        have hg1 := s1 _ _ hg
        cases hi : isNameT w1 with
        | true =>
          refine iteT ⟨_, rfl, g, _, _, _, rfl, rfl, SqL.of hg1, rfl, (by show 2 ≤ sizeLine; decide), fun t ht => ?_⟩
          exact q _ (pl_drawn_ok hi) _ _ (s1.trans (same_new ht _)) ⟨t, rfl, upd_same⟩
        | false => exact iteF (e (pl_drawn_no hi) H1 s1)
      refine ⟨_, rfl, g, _, rfl, .inl (SqL.of hg), rfl, _, rfl, iteC (decide_eq_true rfl) ⟨_, rfl, g, _, _, _, rfl, rfl, SqL.of hg, rfl, rfl, _, rfl, iteB (vne hd) (iteF ?_)⟩⟩
      exact e (pl_2 hc hd) H (Same.refl H)
  · have hl : ∀ k : Int, k = 2 ∨ k = 3 → ¬ (((ws.map V.str).length : Nat) : Int) = k := fun k hk => by rw [List.length_map]; omega
    refine ⟨_, rfl, g, _, rfl, .inl (SqL.of hg), rfl, _, rfl, iteB (num_eq_f (hl 3 (by decide))) (iteF ?_)⟩
    refine ⟨_, rfl, g, _, rfl, .inl (SqL.of hg), rfl, _, rfl, iteB (num_eq_f (hl 2 (by decide))) (iteF ?_)⟩
    refine ⟨_, rfl, g, _, rfl, .inl (SqL.of hg), rfl, _, rfl, iteB (num_eq_f (hl 3 (by decide))) (iteF ?_)⟩
    refine ⟨_, rfl, g, _, rfl, .inl (SqL.of hg), rfl, _, rfl, iteB (num_eq_f (hl 2 (by decide))) (iteF ?_)⟩
    refine e ?_ H (Same.refl H)
    match ws, hl2, hl3 with
    | [], _, _ => rfl
    | [_], _, _ => rfl
    | [_, _], h, _ => exact absurd rfl h
    | [_, _, _], _, h => exact absurd rfl h
    | _ :: _ :: _ :: _ :: _, _, _ => rfl
end
end K84
set_option Elab.async false
set_option linter.all false
set_option maxRecDepth 100000
set_option maxHeartbeats 4000000
namespace K84
open PySem L2 PyProof.Rows Ex
theorem nonF : (!decide (V.non = V.non)) = false := by decide
theorem cut_2s (w0 w1 : Str) (r : List Str) : cutV ((w0 :: w1 :: r).map V.str) (some 2) none = r.map V.str := by
  rw [List.map_cons, List.map_cons]; exact cut_2 _ _ _
theorem start_short {w0 : Str} : ∀ {r : List Str}, ¬ 2 < r.length + 1 → ∀ l, startT r.dropLast l = none
  | [], _, l => rfl
  | [_], _, l => rfl
  | _ :: _ :: _, h, l => absurd (by simp only [List.length_cons]; omega) h
theorem row_short {t : Str} : ∀ {r : List Str}, ¬ 2 < r.length + 1 → rowT t r = none
  | [], _ => rfl
  | [_], _ => rfl
  | _ :: _ :: _, h => absurd (by simp only [List.length_cons]; omega) h
theorem row_nl {t : Str} (h : 10 ∈ t.cps.toList) : ∀ r : List Str, rowT t r = none
  | [] => rfl
  | [_] => rfl
  | _ :: _ :: _ => row_bad (.inl h)
theorem go3 {x : Str} : inV (.str x) [.str "yes", .str "no", .str "free"] = decide (x ∈ (["yes", "no", "free"] : List Str)) := inV_str x ["yes", "no", "free"]
theorem go_find {x : Str} (h : x ∈ (["yes", "no", "free"] : List Str)) : ∃ o, goB x = some o ∧ ([(("yes" : Str), some true), (("no" : Str), some false), (("free" : Str), none)].find? fun kv => decide (kv.1 = x)) = some (x, o) := by
  rcases List.mem_cons.mp h with rfl | h
  · exact ⟨some true, by decide +kernel, by decide +kernel⟩
  rcases List.mem_cons.mp h with rfl | h
  · exact ⟨some false, by decide +kernel, by decide +kernel⟩
  rcases List.mem_singleton.mp h with rfl
  exact ⟨none, by decide +kernel, by decide +kernel⟩
theorem go_not {x : Str} (h : x ∉ (["yes", "no", "free"] : List Str)) : goB x = none := by
  unfold goB
  rw [if_neg fun z => h (by rw [z]; simp), if_neg fun z => h (by rw [z]; simp), if_neg fun z => h (by rw [z]; simp)]
def wsumJ (ws : List Str) : Nat := (ws.map (·.length)).sum + ws.length
theorem wsumJ_ok {w0 w1 : Str} {r : List Str} (h : wsumJ (w0 :: w1 :: r) ≤ 1000001) : (r.map (·.length)).sum + r.length * (" " : Str).length ≤ 16777216 := by
  have h1 : (" " : Str).length = 1 := by decide +kernel
  unfold wsumJ at h
  simp only [List.map_cons, List.sum_cons, List.length_cons] at h
  rw [h1]; omega
section
variable {P : Program} {w : World} {K : PySem.W.Frag} {mg : Str → Option Value} {base : Heap} {a : Ad}
theorem ok_law_due (T : Tx K mg a) : FnOk P w K mg base CX0 4 a.f_law_due a.fd_law_due ["_law_text_here"] spDue := by
  have G_law_address_of : FnOk P w K mg base CX0 2 a.f_law_address_of a.fd_law_address_of ["_law_word"] spAdOf := ok_law_address_of T
  have G_law_is_number : FnOk P w K mg base CX0 1 a.f_law_is_number a.fd_law_is_number ["_law_word"] (spBool isNumT) := ok_law_is_number T
  have G_law_place_of : FnOk P w K mg base CX0 3 a.f_law_place_of a.fd_law_place_of ["_law_words"] spPlOf := ok_law_place_of T
  refine T.F_law_due.ok sc_law_due (fun vs H Q E h => ?_) (fun cdv A outer s H vs Q E hr h => ?_)
  · obtain ⟨_, rfl, _⟩ := h; rfl
  obtain ⟨x, rfl, hx, q, e⟩ := h
  refine ⟨_, (pss_cons (ps_set (i := 1) sc_law_due.nd rfl (Or.inl rfl) (pe_bm PySem.F.plainAttrs_str PySem.F.slot_str_split PySem.F.type_str_split mt_split (pv 0) (pa_cons pe_str pa_nil)))
      (pss_cons (ps_if (PW.pt (pw_and (pt_cmpR op_eq (pe_ix ix_list (pv 1) pe_int (fun _ _ => rfl)) pe_str (nomark _)) (pw_and (pt_cmpR op_gt (pe_callB call_len_seq rfl T.z_len PySem.boot_len (pa_cons (pv 1) pa_nil)) pe_int (nomark _)) (pw_and1 (pt_val (pe_call G_law_is_number (hr.mono (by first | decide | omega)) rfl T.m_law_is_number T.F_law_is_number.kp T.b_law_is_number .nil pass0 (pa_cons (pe_ix ix_list (pv 1) (pe_un un_neg pe_int) (fun _ _ => rfl)) pa_nil))))))) (pss_cons (ps_set (i := 2) sc_law_due.nd rfl (Or.inl rfl) (pe_call G_law_place_of (hr.mono (by first | decide | omega)) rfl T.m_law_place_of T.F_law_place_of.kp T.b_law_place_of .nil pass0 (pa_cons (pe_slice sl_list (pv 1) (po_some pe_int) (po_some (pe_un un_neg pe_int))) pa_nil)))
      (pss_one (ps_if (pt_cmpR op_notN (pv 2) pe_non (nomark _)) (pss_one (ps_ret (pe_tup (pa_cons pe_str (pa_cons (pv 2) (pa_cons (pe_callTy call_int_text rfl T.z_int boot_int (pa_cons (pe_ix ix_list (pv 1) (pe_un un_neg pe_int) (fun _ _ => rfl)) pa_nil)) pa_nil)))))) pss_nil))) pss_nil)
      (pss_cons (ps_if (PW.pt (pw_and (pt_cmpR op_eq (pe_ix ix_list (pv 1) pe_int (fun _ _ => rfl)) pe_str (nomark _)) (pw_and1 (pt_cmpR op_in_str pe_str (pv 0) (by with_unfolding_all rfl))))) (pss_one (ps_ret pe_str)) pss_nil)
      (pss_cons (ps_if (PW.pt (pw_and (pt_cmpR op_eq (pe_ix ix_list (pv 1) pe_int (fun _ _ => rfl)) pe_str (nomark _)) (pw_and (pt_cmpR op_gt (pe_callB call_len_seq rfl T.z_len PySem.boot_len (pa_cons (pv 1) pa_nil)) pe_int (nomark _)) (pw_and (pt_val (pe_call G_law_is_number (hr.mono (by first | decide | omega)) rfl T.m_law_is_number T.F_law_is_number.kp T.b_law_is_number .nil pass0 (pa_cons (pe_ix ix_list (pv 1) pe_int (fun _ _ => rfl)) pa_nil))) (pw_and1 (pt_cmpR (op_ne_emp1 (hr.units0)) (pe_slice sl_list (pv 1) (po_some pe_int) po_none) (pe_lst (pa_cons pe_str pa_nil)) (nomark _))))))) (pss_one (ps_ret (pe_tup (pa_cons pe_str (pa_cons (pe_callTy call_int_text rfl T.z_int boot_int (pa_cons (pe_ix ix_list (pv 1) pe_int (fun _ _ => rfl)) pa_nil)) (pa_cons (pe_bm PySem.F.plainAttrs_str PySem.F.slot_str_join PySem.F.type_str_join mt_join pe_str (pa_cons (pe_slice sl_list (pv 1) (po_some pe_int) po_none) pa_nil)) pa_nil)))))) pss_nil)
      (pss_cons (ps_if (PW.pt (pw_and (pt_cmpR op_eq (pe_ix ix_list (pv 1) pe_int (fun _ _ => rfl)) pe_str (nomark _)) (pw_and (pt_cmpR op_eq (pe_callB call_len_seq rfl T.z_len PySem.boot_len (pa_cons (pv 1) pa_nil)) pe_int (nomark _)) (pw_and1 (pt_cmpR op_notN (pe_call G_law_address_of (hr.mono (by first | decide | omega)) rfl T.m_law_address_of T.F_law_address_of.kp T.b_law_address_of .nil pass0 (pa_cons (pe_ix ix_list (pv 1) pe_int (fun _ _ => rfl)) pa_nil)) pe_non (nomark _)))))) (pss_one (ps_if (pt_cmpR op_in_seq (pe_ix ix_list (pv 1) pe_int (fun _ _ => rfl)) (pe_lst (pa_cons pe_str (pa_cons pe_str (pa_cons pe_str pa_nil)))) (by with_unfolding_all rfl)) (pss_one (ps_ret (pe_tup (pa_cons pe_str (pa_cons (pe_call G_law_address_of (hr.mono (by first | decide | omega)) rfl T.m_law_address_of T.F_law_address_of.kp T.b_law_address_of .nil pass0 (pa_cons (pe_ix ix_list (pv 1) pe_int (fun _ _ => rfl)) pa_nil)) (pa_cons (pe_ix ix_yn (pe_yn (by decide +kernel) (by decide +kernel) (by decide +kernel)) (pe_ix ix_list (pv 1) pe_int (fun _ _ => rfl)) (fun _ _ => rfl)) pa_nil)))))) pss_nil)) pss_nil)
      (pss_one (ps_ret pe_str))))))), ?_⟩
  obtain ⟨w0, r, hs⟩ := words_some x
  have hsum : wsumJ (w0 :: r) ≤ 1000001 := by
    rw [← hs, blank_sg]
    have := split_sum x 32
    unfold wsumJ
    omega
  rw [chT_eq hs] at q e
  have hwl := words_len hs hx
  refine ⟨_, rfl, rfl, _, _, rfl, rfl, blank_pos, (by omega), fun g hg => ?_⟩
  rw [hs]
  have s1 := same_new hg (.lst ((w0 :: r).map V.str))
  have h1 : (upd H g (.lst ((w0 :: r).map V.str))) g = some (.lst ((w0 :: r).map V.str)) := upd_same
  generalize upd H g (.lst ((w0 :: r).map V.str)) = H1 at s1 h1 ⊢
  have at0 : atI ((w0 :: r).map V.str) 0 = some (.str w0) := atI_nat (show ((w0 :: r).map V.str)[0]? = some (V.str w0) from rfl)
  have hlen : ((((w0 :: r).map V.str).length : Nat) : Int) = (r.length : Int) + 1 := by simp
  by_cases c2 : w0 = "start"
  · subst c2
    rw [ch_start] at q e
    refine ⟨_, rfl, g, _, _, _, rfl, rfl, SqL.of h1, at0, rfl, _, rfl, iteC (decide_eq_true rfl) ?_⟩
    refine ⟨_, rfl, g, _, rfl, .inl (SqL.of h1), _, _, rfl, rfl, _, rfl, ?_⟩
    by_cases hl : 2 < r.length + 1
    · refine iteC (decide_eq_true (by rw [hlen]; omega)) ?_
      refine ⟨_, rfl, _, rfl, g, _, _, _, rfl, rfl, SqL.of h1, at_last2 _ _, r.getLastD "start", rfl, hwl _ (last_in _ _), fun H2 s2 => ⟨_, rfl, ?_⟩⟩
      have h2 := s2 _ _ h1
      have s12 := s1.trans s2
      rcases numT_dec (r.getLastD "start") with ⟨hb, i, hn, hi2, hi3⟩ | ⟨hb, hn⟩
      · refine iteC hb ?_
        refine ⟨_, rfl, _, rfl, _, rfl, _, rfl, g, _, rfl, SqL.of h2, fun y hy => ?_⟩
        rw [cut_mid2]
        have s3 := same_new hy (.lst (r.dropLast.map V.str))
        refine ⟨y, r.dropLast, rfl, upd_same, fun w hw => hwl w (List.mem_cons_of_mem _ (List.dropLast_subset _ hw)), fun p hp v H4 s4 hv => ?_, fun hn' H4 s4 => ?_⟩
        · have h4 := s4 _ _ (s3 _ _ h2)
          obtain ⟨tp, rfl⟩ := hv.isT
          refine ⟨_, rfl, rfl, _, rfl, iteC (isN_ref tp) ?_⟩
          refine ⟨_, rfl, _, rfl, _, rfl, g, _, _, _, rfl, rfl, SqL.of h4, at_last2 _ _, r.getLastD "start", i, rfl, hi2, hi3, (by show 3 ≤ sizeLine; decide), fun t ht => ?_⟩
          have s6 := same_new ht (.tup [.str "start", .ref tp, .int i])
          exact q _ (start_ok hp hn) _ _ (s12.trans (s3.trans (s4.trans s6))) ⟨t, _, rfl, hv.same s6, upd_same⟩
        · have h4 := s4 _ _ (s3 _ _ h2)
          refine ⟨_, rfl, rfl, _, rfl, iteB nonF ?_⟩
          refine ⟨_, rfl, g, _, _, _, rfl, rfl, SqL.of h4, at0, rfl, _, rfl, iteB (vne (by decide +kernel)) (iteF ?_)⟩
          refine ⟨_, rfl, g, _, _, _, rfl, rfl, SqL.of h4, at0, rfl, _, rfl, iteB (vne (by decide +kernel)) (iteF ?_)⟩
          refine ⟨_, rfl, g, _, _, _, rfl, rfl, SqL.of h4, at0, rfl, _, rfl, iteB (vne (by decide +kernel)) (iteF ?_)⟩
          exact e (start_pl hn') H4 (s12.trans (s3.trans s4))
      · refine iteB hb ?_
        refine ⟨_, rfl, g, _, _, _, rfl, rfl, SqL.of h2, at0, rfl, _, rfl, iteB (vne (by decide +kernel)) (iteF ?_)⟩
        refine ⟨_, rfl, g, _, _, _, rfl, rfl, SqL.of h2, at0, rfl, _, rfl, iteB (vne (by decide +kernel)) (iteF ?_)⟩
        refine ⟨_, rfl, g, _, _, _, rfl, rfl, SqL.of h2, at0, rfl, _, rfl, iteB (vne (by decide +kernel)) (iteF ?_)⟩
        exact e (start_num hn) H2 s12
    · refine iteB (decide_eq_false (by rw [hlen]; omega)) (iteF ?_)
      refine ⟨_, rfl, g, _, _, _, rfl, rfl, SqL.of h1, at0, rfl, _, rfl, iteB (vne (by decide +kernel)) (iteF ?_)⟩
      refine ⟨_, rfl, g, _, _, _, rfl, rfl, SqL.of h1, at0, rfl, _, rfl, iteB (vne (by decide +kernel)) (iteF ?_)⟩
      refine ⟨_, rfl, g, _, _, _, rfl, rfl, SqL.of h1, at0, rfl, _, rfl, iteB (vne (by decide +kernel)) (iteF ?_)⟩
      exact e (start_short (w0 := "start") hl _) H1 s1
  refine ⟨_, rfl, g, _, _, _, rfl, rfl, SqL.of h1, at0, rfl, _, rfl, iteB (vne c2) (iteF ?_)⟩
  by_cases c1 : w0 = "row"
  · subst c1
    rw [ch_row] at q e
    refine ⟨_, rfl, g, _, _, _, rfl, rfl, SqL.of h1, at0, rfl, _, rfl, iteC (decide_eq_true rfl) ?_⟩
    by_cases h10 : 10 ∈ x.cps.toList
    · exact ⟨_, rfl, _, _, rfl, rfl, _, rfl, iteC (by rw [nl_eq]; exact (in_one _ 10).trans (decide_eq_true h10)) (e (row_nl h10 r) H1 s1)⟩
    refine ⟨_, rfl, _, _, rfl, rfl, _, rfl, iteB (by rw [nl_eq]; exact (in_one _ 10).trans (decide_eq_false h10)) ?_⟩
    refine ⟨_, rfl, g, _, _, _, rfl, rfl, SqL.of h1, at0, rfl, _, rfl, iteC (decide_eq_true rfl) ?_⟩
    refine ⟨_, rfl, g, _, rfl, .inl (SqL.of h1), _, _, rfl, rfl, _, rfl, ?_⟩
    by_cases hl : 2 < r.length + 1
    · refine iteC (decide_eq_true (by rw [hlen]; omega)) ?_
      match r, hl, h1, hwl, hs, q, e, at0, hsum with
      | [], hl, _, _, _, _, _, _, _ => exact absurd hl (by simp)
      | [_], hl, _, _, _, _, _, _, _ => exact absurd hl (by simp)
      | w1 :: w2 :: r3, hl, h1, hwl, hs, q, e, at0, hsum =>
        have at1 : atI ((("row" : Str) :: w1 :: w2 :: r3).map V.str) 1 = some (.str w1) := atI_nat (show ((("row" : Str) :: w1 :: w2 :: r3).map V.str)[1]? = some (V.str w1) from rfl)
        refine ⟨_, rfl, g, _, _, _, rfl, rfl, SqL.of h1, at1, w1, rfl, hwl w1 (by simp), fun H2 s2 => ⟨_, rfl, ?_⟩⟩
        have h2 := s2 _ _ h1
        have s12 := s1.trans s2
        rcases numT_dec w1 with ⟨hb, i, hn, hi2, hi3⟩ | ⟨hb, hn⟩
        · refine iteC hb ?_
          refine ⟨_, rfl, _, rfl, g, _, rfl, SqL.of h2, fun y hy => ?_⟩
          rw [cut_2s]
          have s3 := same_new hy (.lst ((w2 :: r3).map V.str))
          refine ⟨(by show 1 ≤ sizeLine; decide), fun l hl => ?_⟩
          have s4 := same_new hl (.lst [.str ""])
          refine ⟨y, l, w2 :: r3, "", rfl, rfl, s4 _ _ upd_same, upd_same, _, rfl, ?_⟩
          have h4 := s4 _ _ (s3 _ _ h2)
          have s14 := s12.trans (s3.trans s4)
          show (if (!decide (w2 :: r3 = [("" : Str)])) = true then _ else _)
          generalize upd (upd H2 y (.lst ((w2 :: r3).map V.str))) l (.lst [.str ""]) = H4 at h4 s14 ⊢
          by_cases hE : w2 :: r3 = [("" : Str)]
          · refine iteB (by rw [decide_eq_true hE]; rfl) ?_
            refine ⟨_, rfl, g, _, _, _, rfl, rfl, SqL.of h4, at0, rfl, _, rfl, iteB (vne (by decide +kernel)) (iteF ?_)⟩
            exact e (row_bad (.inr hE)) H4 s14
          · refine iteC (by rw [decide_eq_false hE]; rfl) ?_
            refine ⟨_, rfl, g, _, _, _, rfl, rfl, SqL.of h4, at1, w1, i, rfl, hi2, hi3, rfl, _, rfl, _, rfl, g, _, rfl, SqL.of h4, fun y2 hy2 => ?_⟩
            rw [cut_2s]
            refine ⟨" ", y2, w2 :: r3, rfl, rfl, SqL.of upd_same, wsumJ_ok (r := w2 :: r3) hsum, (by show 3 ≤ sizeLine; decide), fun t ht => ?_⟩
            exact q _ (row_good (fun z => z.elim h10 hE) hn) _ _ (s14.trans ((same_new hy2 _).trans (same_new ht _))) ⟨t, rfl, upd_same⟩
        · refine iteB hb (iteF ?_)
          refine ⟨_, rfl, g, _, _, _, rfl, rfl, SqL.of h2, at0, rfl, _, rfl, iteB (vne (by decide +kernel)) (iteF ?_)⟩
          exact e (row_none hn) H2 s12
    · refine iteB (decide_eq_false (by rw [hlen]; omega)) (iteF ?_)
      refine ⟨_, rfl, g, _, _, _, rfl, rfl, SqL.of h1, at0, rfl, _, rfl, iteB (vne (by decide +kernel)) (iteF ?_)⟩
      exact e (row_short hl) H1 s1
  refine ⟨_, rfl, g, _, _, _, rfl, rfl, SqL.of h1, at0, rfl, _, rfl, iteB (vne c1) (iteF ?_)⟩
  refine ⟨_, rfl, g, _, _, _, rfl, rfl, SqL.of h1, at0, rfl, _, rfl, iteB (vne c1) (iteF ?_)⟩
  by_cases c3 : w0 = "goes"
  · subst c3
    rw [ch_goes] at q e
    refine ⟨_, rfl, g, _, _, _, rfl, rfl, SqL.of h1, at0, rfl, _, rfl, iteC (decide_eq_true rfl) ?_⟩
    refine ⟨_, rfl, g, _, rfl, .inl (SqL.of h1), rfl, _, rfl, ?_⟩
    by_cases hl : r.length = 2
    · match r, hl, hwl, q, e, h1, at0 with
      | [w1, w2], _, hwl, q, e, h1, at0 =>
        have h1 : H1 g = some (.lst [.str "goes", .str w1, .str w2]) := h1
        refine iteC (decide_eq_true rfl) ?_
        refine ⟨_, rfl, g, _, _, _, rfl, rfl, SqL.of h1, rfl, w1, rfl, hwl w1 (by simp), fun ad had ta H2 s2 hta => ⟨rfl, _, rfl, iteC (isN_ref ta) ?_⟩, fun hn H2 s2 => ⟨rfl, _, rfl, iteB nonF (e (goes_ad hn) H2 (s1.trans s2))⟩⟩
        have h2 := s2 _ _ h1
        refine ⟨_, rfl, g, _, _, _, rfl, rfl, SqL.of h2, rfl, (by show 3 ≤ sizeLine; decide), fun l hl => ?_⟩
        have s3 := same_new hl (.lst [.str "yes", .str "no", .str "free"])
        refine ⟨l, _, rfl, .inl (SqL.of upd_same), rfl, rfl, _, rfl, ?_⟩
        have h3 := s3 _ _ h2
        have s13 := s1.trans (s2.trans s3)
        generalize upd H2 l (.lst [.str "yes", .str "no", .str "free"]) = H3 at h3 s13 ⊢
        by_cases hin : w2 ∈ (["yes", "no", "free"] : List Str)
        · refine iteC (go3.trans (decide_eq_true hin)) ?_
          obtain ⟨o, ho, hf⟩ := go_find hin
          refine ⟨_, rfl, g, _, _, _, rfl, rfl, SqL.of h3, rfl, w1, rfl, hwl w1 (by simp), fun ad' had' ta' H4 s4 hta' => ?_, fun hn => absurd (had.symm.trans hn) (by intro z; cases z)⟩
          intro dd hdd
          have s5 := same_new hdd (ynO P w dd [(("yes" : Str), some true), (("no" : Str), some false), (("free" : Str), none)])
          refine ⟨_, rfl, g, _, _, _, rfl, rfl, SqL.of (s5 _ _ (s4 _ _ h3)), rfl, dd, _, w2, o, rfl, rfl, upd_same, hf, (by show 3 ≤ sizeLine; decide), fun t ht => ?_⟩
          have s6 := same_new ht (.tup [.str "goes", .ref ta', truV o])
          exact q _ (goes_ok had' ho) _ _ (s13.trans (s4.trans (s5.trans s6))) ⟨t, ta', rfl, s6 _ _ (s5 _ _ hta'), upd_same⟩
        · exact iteB (go3.trans (decide_eq_false hin)) (e (goes_go (go_not hin)) H3 s13)
    · exact iteB (num_eq_f (by rw [hlen]; omega)) (iteF (e (goes_len hl) H1 s1))
  refine ⟨_, rfl, g, _, _, _, rfl, rfl, SqL.of h1, at0, rfl, _, rfl, iteB (vne c3) (iteF ?_)⟩
  exact e (ch_other c1 c2 c3) H1 s1
end
end K84
set_option Elab.async false
set_option linter.all false
set_option maxRecDepth 100000
set_option maxHeartbeats 4000000
namespace K84
open PySem L2 PyProof.Rows Ex
theorem kit_self (K : PySem.W.Frag) (C : Addr) : PySem.W.kitOne K (.ref C) (.ref C) = some true := by
  unfold PySem.W.kitOne
  rw [if_pos (beq_self_eq_true _)]
def spFound (K : PySem.W.Frag) : Sp := fun vs H Q _ => ∃ v, vs = [v] ∧ ((∃ t, v = .str t ∧ t.length ≤ 1000000 ∧ (∀ c, chT t = some c → ∀ v H', Same H H' → ChAt H' c v → Q v H') ∧ (chT t = none → ∀ H', Same H H' → Q (.str "refused") H')) ∨
  (∃ ty, TyOf K H v ty ∧ PySem.W.kitOne K ty (.type "str") = some false ∧ ∀ H', Same H H' → Q (.str "refused") H'))
section
variable {P : Program} {w : World} {K : PySem.W.Frag} {mg : Str → Option Value} {base : Heap} {a : Ad}
theorem any4 (T : Tx K mg a) : PySem.W.kitAny K (.ref a.c_NoText) [.ref a.c_NoChange, .ref a.c_NoPlace, .ref a.c_NoProgram, .ref a.c_NoValue] = some false := by
  show (match PySem.W.kitOne K (.ref a.c_NoText) (.ref a.c_NoChange) with | some true => some true | some false => PySem.W.kitAny K (.ref a.c_NoText) [.ref a.c_NoPlace, .ref a.c_NoProgram, .ref a.c_NoValue] | none => none) = some false
  rw [T.k_NoText_NoChange]
  show (match PySem.W.kitOne K (.ref a.c_NoText) (.ref a.c_NoPlace) with | some true => some true | some false => PySem.W.kitAny K (.ref a.c_NoText) [.ref a.c_NoProgram, .ref a.c_NoValue] | none => none) = some false
  rw [T.k_NoText_NoPlace]
  show (match PySem.W.kitOne K (.ref a.c_NoText) (.ref a.c_NoProgram) with | some true => some true | some false => PySem.W.kitAny K (.ref a.c_NoText) [.ref a.c_NoValue] | none => none) = some false
  rw [T.k_NoText_NoProgram]
  show (match PySem.W.kitOne K (.ref a.c_NoText) (.ref a.c_NoValue) with | some true => some true | some false => PySem.W.kitAny K (.ref a.c_NoText) [] | none => none) = some false
  rw [T.k_NoText_NoValue]
  rfl
theorem ok_law_found (T : Tx K mg a) : FnOk P w K mg base CX0 7 a.f_law_found a.fd_law_found ["_law_text_here"] (spFound K) := by
  have G_read_change : FnOk P w K mg base (CXF P w) 6 a.f_read_change a.fd_read_change ["text"] (spRdCh K a) := ok_read_change T
  refine T.F_law_found.ok sc_law_found (fun vs H Q E h => ?_) (fun cdv A outer s H vs Q E hr h => ?_)
  · obtain ⟨_, rfl, _⟩ := h; rfl
  obtain ⟨v, rfl, h⟩ := h
  let Eb : XK := fun cls _ H' => cls = .ref a.c_NoText ∧ Same H H' ∧ ∀ H'', Same H H'' → Q (.str "refused") H''
  refine ⟨_, (pss_cons (ps_try (i := 2) (Eb := Eb) sc_law_found.nd rfl rfl T.x_HadError (by decide +kernel) rfl T.m_HadError rfl rfl rfl
      (by exact fun pins => (pss_one (ps_set (i := 1) sc_law_found.nd rfl (Or.inl rfl) (pe_call G_read_change (hr.mono (by first | decide | omega)) rfl T.m_read_change T.F_read_change.kp T.b_read_change .nil (throws_try.passes rfl) (pa_cons (pv 0) pa_nil)))))
      (by exact fun ax => (pss_cons (ps_set (i := 3) sc_law_found.nd rfl (Or.inl rfl) (pe_callB (call_isi_exc_tup (K := K)) rfl T.z_isinstance boot_isinstance (pa_cons (pv 2) (pa_cons (pe_tup (pa_cons (pe_glob (v := .ref a.c_NoChange) rfl T.m_NoChange rfl) (pa_cons (pe_glob (v := .ref a.c_NoPlace) rfl T.m_NoPlace rfl) (pa_cons (pe_glob (v := .ref a.c_NoProgram) rfl T.m_NoProgram rfl) (pa_cons (pe_glob (v := .ref a.c_NoValue) rfl T.m_NoValue rfl) pa_nil))))) pa_nil))))
      (pss_cons (ps_set (i := 4) sc_law_found.nd rfl (Or.inl rfl) (pe_and (pe_callB (call_isi_exc (K := K)) rfl T.z_isinstance boot_isinstance (pa_cons (pv 2) (pa_cons (pe_glob (v := .ref a.c_NoText) rfl T.m_NoText rfl) pa_nil))) (pe_and (pe_callB (call_isi_exc (K := K)) rfl T.z_isinstance boot_isinstance (pa_cons (pv 2) (pa_cons (pe_bltn (v := .ty "ValueError") rfl T.z_ValueError boot_ValueError rfl) pa_nil))) (pe_one (pe_not (pv 3))))))
      (pss_one (ps_ret (pe_ix (ix_listK (K := K)) (pe_lst (pa_cons pe_str (pa_cons pe_str pa_nil))) (pe_callTy call_int1 rfl T.z_int boot_int (pa_cons (pv 4) pa_nil)) (fun _ _ => rfl))))))))
      (pss_one (ps_ret (pv 1)))), ?_⟩
  refine ⟨⟨_, rfl, v, rfl, ?_⟩, ?_⟩
  · rcases h with ⟨x, rfl, hx, q, e⟩ | ⟨ty, hty, hk, e⟩
    · exact .inl ⟨x, rfl, hx, fun c hc u H1 s1 hb => ⟨_, rfl, q c hc u H1 s1 hb⟩, fun hn H1 s1 => ⟨rfl, s1, e hn⟩⟩
    · exact .inr ⟨ty, hty, hk, ⟨rfl, Same.refl H, e⟩⟩
  · rintro cls H1 σ1 ax ⟨rfl, s1, e⟩ hax hlen
    refine ⟨a.c_NoText, rfl, T.sp_NoText_HadError, ?_⟩
    match σ1, hlen with
    | [u0, u1, u2, u3, u4], _ =>
      have sx := same_new hax (excO ax a.c_NoText)
      refine ⟨_, rfl, (by show 4 ≤ sizeLine; decide), fun tp htp => ?_⟩
      have st := same_new htp (.tup [.ref a.c_NoChange, .ref a.c_NoPlace, .ref a.c_NoProgram, .ref a.c_NoValue])
      have hx : upd (upd H1 ax (excO ax a.c_NoText)) tp (.tup [.ref a.c_NoChange, .ref a.c_NoPlace, .ref a.c_NoProgram, .ref a.c_NoValue]) ax = some (excO ax a.c_NoText) := st _ _ upd_same
      refine ⟨ax, tp, _, a.c_NoText, false, rfl, upd_same, rfl, hx, T.ek_NoText, any4 T, ?_⟩
      refine ⟨_, rfl, ax, _, a.c_NoText, true, rfl, .inr rfl, hx, T.ek_NoText, kit_self _ _, _, rfl, iteT ?_⟩
      refine ⟨_, rfl, ax, _, a.c_NoText, true, rfl, .inl rfl, hx, T.ek_NoText, T.k_NoText_ValueError, _, rfl, iteT ?_⟩
      refine ⟨_, rfl, _, rfl, ?_⟩
      refine ⟨(by show 2 ≤ sizeLine; decide), fun l hl => ⟨_, rfl, .inr ⟨true, rfl, l, _, _, _, rfl, rfl, SqL.of upd_same, rfl, e _ (s1.trans (sx.trans (st.trans (same_new hl _))))⟩⟩⟩
end
end K84
set_option Elab.async false
set_option linter.all false
set_option maxRecDepth 100000
set_option maxHeartbeats 4000000
namespace K84
open PySem L2 PyProof.Rows Ex
theorem but_free {p c : Addr} {H H' : Hp} (s : SameBut p H H') (hW : Well H' p) (hc : H' c = none) : H c = none := by
  cases e : H c with
  | none => rfl
  | some o =>
    have := s c o (hW.some_ hc) e
    rw [hc] at this; cases this
theorem comp_well {σ : L2.St} {caps : List (Str × Nat)} {lo : Int} {n : Nat} {H1 : Hp} {c p : Addr} {Q : Hp → Prop} {te : TE} (R : V → Prop) (hW : Well H1 p) (hc : H1 c = none) (hlen : n ≤ 10000)
    (step : ∀ (i : Nat) H, i < n → SameBut p H1 H → Well H p → ∀ k : VK, (∀ y H', SameBut p H H' → Well H' p → R y → k y H') → te (some (.int (lo + i)) :: capSt caps σ) H k)
    (fin : ∀ ys H', SameBut p H1 H' → Well H' p → H' c = some (.lst ys) → ys.length = n → (∀ y ∈ ys, R y) → Q H') :
    ∃ W : Nat → Nat → List V → Hp → Prop, (∃ m, W 0 m [] (upd H1 c (.lst []))) ∧ ∀ i m ys H2, W i m ys H2 →
      ((Itr lo n).stop i H2 ∧ Q H2) ∨ ((Itr lo n).go i H2 ∧ ∀ x H3, (Itr lo n).yld i H2 x H3 → (fun (_ : L2.St) (H : Hp) (Q : Bool → Hp → Prop) => Q true H) (some x :: capSt caps σ) H3 fun b H4 =>
        if b = true then te (some x :: capSt caps σ) H4 fun y H5 => H5 c = some (.lst ys) ∧ ys.length < sizeLine ∧ ∃ m', m' < m ∧ W (i + 1) m' (ys ++ [y]) (upd H5 c (.lst (ys ++ [y])))
        else ∃ m', m' < m ∧ W (i + 1) m' ys H4) := by
  have ncp : c ≠ p := hW.some_ hc
  refine ⟨fun i m ys H' => i + m = n ∧ ys.length = i ∧ (∀ y ∈ ys, R y) ∧ SameBut p H1 H' ∧ Well H' p ∧ H' c = some (.lst ys), ⟨n, Nat.zero_add _, rfl, fun y h => by simp at h, but_same (same_new hc _), hW.same (same_new hc _), upd_same⟩, ?_⟩
  rintro i m ys H2 ⟨him, hy, hR, s2, W2, hc2⟩
  by_cases hi : i = n
  · exact .inl ⟨Nat.le_of_eq hi.symm, fin ys H2 s2 W2 hc2 (by omega) hR⟩
  · have hlt : i < n := by omega
    refine .inr ⟨hlt, fun x H3 hy3 => ?_⟩
    obtain ⟨rfl, rfl⟩ := hy3
    refine iteT (step i H3 hlt s2 W2 _ fun y H5 s5 W5 hr => ⟨s5 _ _ ncp hc2, ?_, m - 1, by omega, by omega, ?_, ?_, ?_, ?_, upd_same⟩)
    · have : sizeLine = 16777216 := sizeLine_eq
      omega
    · rw [List.length_append]; simp [hy]
    · intro z hz
      rcases List.mem_append.mp hz with hz | hz
      · exact hR z hz
      · rcases List.mem_singleton.mp hz with rfl
        exact hr
    · intro b o nb e
      have nc : b ≠ c := ne_of_none e hc
      rw [upd_ne nc]
      exact s5 _ _ nb (s2 _ _ nb e)
    · obtain ⟨x0, x1, x2, x3, e⟩ := W5
      exact ⟨x0, x1, x2, x3, by rw [upd_ne ncp.symm]; exact e⟩
theorem ints_from {R : Int → Prop} : ∀ (ys : List V), (∀ y ∈ ys, ∃ i, y = .int i ∧ R i) → ∃ ns : List Int, ys = ns.map V.int ∧ ∀ i ∈ ns, R i
  | [], _ => ⟨[], rfl, fun i h => by simp at h⟩
  | y :: r, h => by
    obtain ⟨i, rfl, hi⟩ := h y (by simp)
    obtain ⟨ns, e, hn⟩ := ints_from r fun z hz => h z (List.mem_cons_of_mem _ hz)
    exact ⟨i :: ns, by rw [e]; rfl, fun j hj => by
      rcases List.mem_cons.mp hj with rfl | hj
      · exact hi
      · exact hn j hj⟩
theorem int_at {ws : List Int} {r : Int} (h0 : 0 ≤ r) (h1 : r < ws.length) : ∃ x ∈ ws, atI (ws.map V.int) r = some (.int x) := by
  obtain ⟨m, rfl⟩ := Int.eq_ofNat_of_zero_le h0
  have hr : m < ws.length := by omega
  exact ⟨ws[m], List.getElem_mem hr, atI_nat (by rw [List.getElem?_map, List.getElem?_eq_getElem hr]; rfl)⟩
theorem str_at {ws : List Str} {r : Int} (h0 : 0 ≤ r) (h1 : r < ws.length) : ∃ x ∈ ws, atI (ws.map V.str) r = some (.str x) := by
  obtain ⟨m, rfl⟩ := Int.eq_ofNat_of_zero_le h0
  have hr : m < ws.length := by omega
  exact ⟨ws[m], List.getElem_mem hr, atI_nat (by rw [List.getElem?_map, List.getElem?_eq_getElem hr]; rfl)⟩
def spNumb : Sp := fun vs H Q _ => ∃ p, vs = [.ref p] ∧ Well H p ∧ ∀ i H', Num i → SameBut p H H' → Well H' p → Q (.int i) H'
def spAddr : Sp := fun vs H Q _ => ∃ p, vs = [.ref p] ∧ Well H p ∧ ∀ ta (ns : List Int) H', Ad1 ns → SameBut p H H' → Well H' p → H' ta = some (.tup (ns.map V.int)) → Q (.ref ta) H'
def six : List Int := [0, 9, 10, 99999, 100000, 999999]
theorem six_num : ∀ i ∈ six, Num i := fun i hi => by
  have h := List.all_eq_true.mp (show (six.all fun x => decide (0 ≤ x) && decide (x < 1000000)) = true by decide) i hi
  simp only [Bool.and_eq_true, decide_eq_true_eq] at h
  exact h
def spAdText : Sp := fun vs H Q _ => ∃ ta ns, vs = [.ref ta] ∧ H ta = some (.tup (ns.map V.int)) ∧ Ad1 ns ∧ ∀ H', Same H H' → Q (.str (adText ns)) H'
theorem ad_sum {ns : List Int} (h : Ad1 ns) : ((ns.map wd).map (·.length)).sum + (ns.map wd).length * ("." : Str).length ≤ 16777216 := by
  have := sum_le 6 (ns.map wd) (fun w hw => by
    obtain ⟨i, hi, rfl⟩ := List.mem_map.mp hw
    exact (wd_signs (h.2 i hi).wdy).2.1)
  rw [List.length_map] at *
  have h1 : ("." : Str).length = 1 := by decide +kernel
  have := h.1
  rw [h1]
  omega
section
variable {P : Program} {w : World} {K : PySem.W.Frag} {mg : Str → Option Value} {base : Heap} {a : Ad}
theorem ok_law_number (T : Tx K mg a) : FnOk P w K mg base CX0 4 a.f_law_number a.fd_law_number ["_law_well_here"] spNumb := by
  have G_law_draw : FnOk P w K mg base CX0 3 a.f_law_draw a.fd_law_draw ["_law_well_here", "_law_most"] spDraw := ok_law_draw T
  refine T.F_law_number.ok sc_law_number (fun vs H Q E h => ?_) (fun cdv A outer s H vs Q E hr h => ?_)
  · obtain ⟨_, rfl, _⟩ := h; rfl
  obtain ⟨p, rfl, hW, q⟩ := h
  refine ⟨_, (pss_cons (ps_set (i := 1) sc_law_number.nd rfl (Or.inl rfl) (pe_call G_law_draw (hr.mono (by first | decide | omega)) rfl T.m_law_draw T.F_law_draw.kp T.b_law_draw .nil pass0 (pa_cons (pv 0) (pa_cons pe_int pa_nil))))
      (pss_cons (ps_if (pt_cmpR op_eq (pv 1) pe_int (nomark _)) (pss_one (ps_ret (pe_call G_law_draw (hr.mono (by first | decide | omega)) rfl T.m_law_draw T.F_law_draw.kp T.b_law_draw .nil pass0 (pa_cons (pv 0) (pa_cons (pe_op op_pow pe_int pe_int) pa_nil))))) pss_nil)
      (pss_cons (ps_if (pt_cmpR op_eq (pv 1) pe_int (nomark _)) (pss_one (ps_ret (pe_ix ix_list (pe_lst (pa_ci (pa_ci (pa_ci (pa_ci (pa_ci (pa_ci pa_nil))))))) (pe_call G_law_draw (hr.mono (by first | decide | omega)) rfl T.m_law_draw T.F_law_draw.kp T.b_law_draw .nil pass0 (pa_cons (pv 0) (pa_cons pe_int pa_nil))) (fun _ _ => rfl)))) pss_nil)
      (pss_one (ps_ret (pe_call G_law_draw (hr.mono (by first | decide | omega)) rfl T.m_law_draw T.F_law_draw.kp T.b_law_draw .nil pass0 (pa_cons (pv 0) (pa_cons pe_int pa_nil)))))))), ?_⟩
  refine ⟨_, rfl, p, 4, rfl, by decide, by decide, hW, fun r H1 r0 r1 s1 W1 => ?_⟩
  refine ⟨_, rfl, rfl, _, rfl, ite2 (fun c => ?_) (fun c => ?_)⟩
  · exact ⟨_, rfl, _, _, rfl, rfl, ⟨by decide, by decide, by decide⟩, p, 1000000, rfl, by decide, by decide, W1, fun r' H2 q0 q1 s2 W2 => q r' H2 ⟨q0, q1⟩ (s1.trans s2) W2⟩
  · refine ⟨_, rfl, rfl, _, rfl, ite2 (fun c => ?_) (fun c => ?_)⟩
    · refine ⟨(by show 6 ≤ sizeLine; decide), fun l hl => ⟨_, rfl, p, 6, rfl, by decide, by decide, W1.same (same_new hl _), fun r2 H2 q0 q1 s2 W2 => ?_⟩⟩
      obtain ⟨x, hx, hat⟩ := int_at (ws := six) q0 q1
      have hl2 : H2 l = some (.lst (six.map V.int)) := s2 _ _ (W1.some_ hl) upd_same
      exact ⟨l, _, _, _, rfl, rfl, SqL.of hl2, hat, q x H2 (six_num x hx) ((s1.then (same_new hl _)).trans s2) W2⟩
    · exact ⟨_, rfl, p, 30, rfl, by decide, by decide, W1, fun r' H2 q0 q1 s2 W2 => q r' H2 ⟨q0, by omega⟩ (s1.trans s2) W2⟩
theorem ix3 {r1 r2 : Int} (h0 : 0 ≤ r1) (h1 : r1 < 8) : 0 ≤ r1 / 4 + (if decide (V.int r2 = V.int 7) then 1 else 0) ∧ r1 / 4 + (if decide (V.int r2 = V.int 7) then 1 else 0) < 3 := by
  split <;> omega
theorem ok_law_address (T : Tx K mg a) : FnOk P w K mg base CX0 5 a.f_law_address a.fd_law_address ["_law_well_here"] spAddr := by
  have G_law_draw : FnOk P w K mg base CX0 3 a.f_law_draw a.fd_law_draw ["_law_well_here", "_law_most"] spDraw := ok_law_draw T
  have G_law_number : FnOk P w K mg base CX0 4 a.f_law_number a.fd_law_number ["_law_well_here"] spNumb := ok_law_number T
  refine T.F_law_address.ok sc_law_address (fun vs H Q E h => ?_) (fun cdv A outer s H vs Q E hr h => ?_)
  · obtain ⟨_, rfl, _⟩ := h; rfl
  obtain ⟨p, rfl, hW, q⟩ := h
  refine ⟨_, (pss_cons (ps_set (i := 1) sc_law_address.nd rfl (Or.inl rfl) (pe_ix ix_list (pe_lst (pa_cons pe_int (pa_cons pe_int (pa_cons pe_int pa_nil)))) (pe_op op_add (pe_op op_fdiv (pe_call G_law_draw (hr.mono (by first | decide | omega)) rfl T.m_law_draw T.F_law_draw.kp T.b_law_draw .nil pass0 (pa_cons (pv 0) (pa_cons pe_int pa_nil))) pe_int) (pe_callTy call_int1 rfl T.z_int boot_int (pa_cons (pe_cmpR op_eq (pe_call G_law_draw (hr.mono (by first | decide | omega)) rfl T.m_law_draw T.F_law_draw.kp T.b_law_draw .nil pass0 (pa_cons (pv 0) (pa_cons pe_int pa_nil))) pe_int (nomark _)) pa_nil))) (fun _ _ => rfl)))
      (pss_one (ps_ret (pe_callTy call_tuple_of rfl T.z_tuple boot_tuple (pa_cons (pe_comp1 (y := "_law_well_here") (j := 0) (c := s.heap.objs.size + 1) rfl (pi_range1 rfl T.z_range (pa_cons (pe_call G_law_draw (hr.mono (by first | decide | omega)) rfl T.m_law_draw T.F_law_draw.kp T.b_law_draw .nil pass0 (pa_cons (pv 0) (pa_cons (pv 1) pa_nil))) pa_nil)) (fun _ _ _ _ => pts_nil) (fun _ _ _ _ => (pe_call G_law_number (hr.mono (by first | decide | omega)) rfl T.m_law_number T.F_law_number.kp T.b_law_number .nil pass0 (pa_cons (pv 1) pa_nil))) rfl rfl rfl rfl rfl (by decide +kernel) (by decide +kernel) (by decide +kernel) (by decide +kernel) (by decide +kernel)) pa_nil))))), ?_⟩
  refine ⟨(by show 3 ≤ sizeLine; decide), fun l hl => ?_⟩
  have W0 := hW.same (same_new hl (.lst [.int 3, .int 6, .int 101]))
  have nl := hW.some_ hl
  refine ⟨_, rfl, p, 8, rfl, by decide, by decide, W0, fun r1 H1 a0 a1 s1 W1 => ⟨_, _, rfl, rfl, ⟨by decide, by decide⟩, ?_⟩⟩
  refine ⟨_, rfl, p, 8, rfl, by decide, by decide, W1, fun r2 H2 b0 b1 s2 W2 => ⟨rfl, .inr ⟨_, rfl, _, _, rfl, rfl, ?_⟩⟩⟩
  have hl2 : H2 l = some (.lst (([3, 6, 101] : List Int).map V.int)) := s2 _ _ nl (s1 _ _ nl upd_same)
  obtain ⟨i0, i1⟩ := ix3 (r2 := r2) a0 a1
  obtain ⟨m, hm, hat⟩ := int_at (ws := [3, 6, 101]) i0 i1
  have hm' : 1 ≤ m ∧ m ≤ 101 := by
    simp at hm
    omega
  have sH : SameBut p H H2 := (but_same (same_new hl _)).trans (s1.trans s2)
  refine ⟨l, _, _, _, rfl, rfl, SqL.of hl2, hat, ?_⟩
  refine ⟨_, rfl, _, rfl, p, m, rfl, by omega, by omega, W2, fun n H3 c0 c1 s3 W3 => ⟨n, rfl, by omega, by omega, fun c hc => ?_⟩⟩
  refine comp_well (fun y => ∃ i, y = .int i ∧ Num i) W3 hc (by omega) (fun i H4 hi s4 W4 k hk => ?_) fun ys H4 s4 W4 hc4 hl4 hR => ?_
  · exact ⟨_, rfl, p, rfl, W4, fun j H5 hj s5 W5 => hk _ H5 s5 W5 ⟨j, rfl, hj⟩⟩
  · obtain ⟨ns, rfl, hn⟩ := ints_from ys hR
    rw [List.length_map] at hl4
    refine ⟨c, _, rfl, .inl ⟨SqL.of hc4, fun t ht => q t ns _ ⟨by omega, hn⟩ ((sH.trans (s3.trans s4)).then (same_new ht _)) (W4.same (same_new ht _)) upd_same⟩⟩
theorem ok_law_address_text (T : Tx K mg a) : FnOk P w K mg base CX0 1 a.f_law_address_text a.fd_law_address_text ["_law_address_here"] spAdText := by
  refine T.F_law_address_text.ok sc_law_address_text (fun vs H Q E h => ?_) (fun cdv A outer s H vs Q E hr h => ?_)
  · obtain ⟨_, _, rfl, _⟩ := h; rfl
  obtain ⟨ta, ns, rfl, ht, hA, q⟩ := h
  refine ⟨_, (pss_cons (ps_if (pt_cmpR (op_eq_emp (Nat.lt_of_succ_lt (hu_of hr))) (pv 0) (pe_tup pa_nil) (nomark _)) (pss_one (ps_ret pe_str)) pss_nil)
      (pss_one (ps_ret (pe_bm PySem.F.plainAttrs_str PySem.F.slot_str_join PySem.F.type_str_join mt_join pe_str (pa_cons (pe_comp0 rfl (pi_tup (pv 0)) (fun _ _ _ _ => pts_nil) (fun _ _ _ _ => (pe_callTy call_str_int rfl T.z_str boot_str (pa_cons (pv 0) pa_nil))) rfl (by decide +kernel) (by decide +kernel) (by decide +kernel) (by decide +kernel)) pa_nil))))), ?_⟩
  refine ⟨_, rfl, (by show 0 ≤ sizeLine; decide), fun t0 ht0 => ?_⟩
  have s0 : Same H (upd H t0 (.tup [])) := same_new ht0 _
  refine ⟨ta, t0, _, rfl, rfl, SqT.of (s0 _ _ ht), SqT.of upd_same, _, rfl, ?_⟩
  cases hn : ns.isEmpty with
  | true =>
    have e : ns = [] := List.isEmpty_iff.mp hn
    subst e
    exact iteT (q _ s0)
  | false =>
    have e0 : (ns.map V.int).isEmpty = false := by cases ns with | nil => cases hn | cons _ _ => rfl
    refine iteB e0 ?_
    refine ⟨rfl, _, rfl, ta, rfl, ⟨_, SqT.of (s0 _ _ ht)⟩, fun c hc => ?_⟩
    refine comp_known (us := ns.map V.int) (ys0 := (ns.map wd).map V.str) (src_tup (SqT.of (s0 _ _ ht))) hc (by have := hA.1; rw [List.length_map]; omega) (by simp) (fun i u y H1 hu hy s1 k hk => ?_) fun H' s' h' => ?_
    · rw [List.getElem?_map] at hu
      rw [List.getElem?_map, List.getElem?_map] at hy
      cases hi : ns[i]? with
      | none => rw [hi] at hu; cases hu
      | some n =>
        rw [hi] at hu hy
        cases Option.some.inj hu
        cases Option.some.inj hy
        exact ⟨_, rfl, n, rfl, log_wdy (hA.2 n (List.mem_of_getElem? hi)).wdy, hk H1 (Same.refl H1)⟩
    · refine ⟨".", c, ns.map wd, rfl, rfl, SqL.of h', ad_sum hA, ?_⟩
      have q' := q H' (s0.trans s')
      unfold adText at q'
      rw [hn] at q'
      exact q'
end
theorem cut_to (ws : List Str) (k : Nat) : cutV (ws.map V.str) none (some (k : Int)) = (ws.take k).map V.str := by
  unfold cutV
  rw [HT.sIx_none, HT.sIx_nat, List.drop_zero, Nat.sub_zero, List.map_take, List.length_map]
  by_cases h : k ≤ ws.length
  · rw [Nat.min_eq_left h]
  · rw [Nat.min_eq_right (by omega), List.take_of_length_le (by simp), List.take_of_length_le (by simp; omega)]
theorem cut_from (ws : List Str) (k : Nat) : cutV (ws.map V.str) (some (k : Int)) none = (ws.drop k).map V.str := by
  unfold cutV
  rw [HT.sIx_none, HT.sIx_nat, List.map_drop, List.length_map]
  by_cases h : k ≤ ws.length
  · rw [Nat.min_eq_left h, List.take_of_length_le (by simp)]
  · rw [Nat.min_eq_right (by omega), Nat.sub_self, List.take_zero, List.drop_of_length_le (by simp; omega)]
/-! ### the size of words -/
def wsum (ws : List Str) : Nat := (ws.map (·.length)).sum + ws.length
theorem wsum_app (x y : List Str) : wsum (x ++ y) = wsum x + wsum y := by
  unfold wsum
  rw [List.map_append, List.sum_append, List.length_append]
  omega
theorem wsum_cut (ws : List Str) (k : Nat) : wsum (ws.take k) + wsum (ws.drop k) = wsum ws := by rw [← wsum_app, List.take_append_drop]
theorem wsum_drop1 (ws : List Str) (k : Nat) : wsum (ws.drop (k + 1)) ≤ wsum (ws.drop k) := by
  have h := wsum_cut (ws.drop k) 1
  rw [List.drop_drop] at h
  omega
theorem wsum_one (x : Str) : wsum [x] = x.length + 1 := by unfold wsum; simp
theorem wsum_len (ws : List Str) : ws.length ≤ wsum ws := by unfold wsum; omega
theorem wsum_split (x : Str) (k : Nat) : wsum (Txt.split x (sg k)) = x.length + 1 := split_sum x k
theorem wsum_join (ws : List Str) (k : Nat) : (Txt.join (sg k) ws).length ≤ wsum ws := by rw [sg_join_eq]; exact sg_join_sum k ws
theorem join_ok {ws : List Str} (h : wsum ws ≤ 16777216) : (ws.map (·.length)).sum + ws.length * (" " : Str).length ≤ 16777216 := by
  have h1 : (" " : Str).length = 1 := by decide +kernel
  unfold wsum at h
  rw [h1]; omega
theorem join_okN {ws : List Str} (h : wsum ws ≤ 16777216) : (ws.map (·.length)).sum + ws.length * ("\n" : Str).length ≤ 16777216 := by
  have h1 : ("\n" : Str).length = 1 := by decide +kernel
  unfold wsum at h
  rw [h1]; omega
end K84
set_option Elab.async false
set_option linter.all false
set_option maxRecDepth 100000
set_option maxHeartbeats 4000000
namespace K84
open PySem L2 PyProof.Rows Ex
/-! ### what the law draws -/
theorem PlAt.but {H H' : Hp} {p : Addr} {pl : Pl} {v : V} (hW : Well H p) (h : PlAt H pl v) (s : SameBut p H H') : PlAt H' pl v := by
  obtain ⟨x0, x1, x2, x3, hp⟩ := hW
  have nt : ∀ {b : Addr} {xs : List V}, H b = some (.tup xs) → b ≠ p := fun h => ne_of h hp (by intro z; cases z)
  cases pl with
  | box ad x => obtain ⟨t, ta, rfl, h1, h2⟩ := h; exact ⟨t, ta, rfl, s _ _ (nt h1) h1, s _ _ (nt h2) h2⟩
  | cell i => obtain ⟨t, rfl, h1⟩ := h; exact ⟨t, rfl, s _ _ (nt h1) h1⟩
  | world x i => obtain ⟨t, rfl, h1⟩ := h; exact ⟨t, rfl, s _ _ (nt h1) h1⟩
  | drawn x => obtain ⟨t, rfl, h1⟩ := h; exact ⟨t, rfl, s _ _ (nt h1) h1⟩
def names14 : List Str := ["a", "b", "zz", "boxes", "cells", "world", "drawn", "start", "row", "goes", "yes", "no", "free", "part"]
def names6 : List Str := ["kept", "done", "box", "iff", "abcdef", "zzzzzz"]
theorem names_eq : names14 ++ names6 = names20 := rfl
def spName : Sp := fun vs H Q _ => ∃ p, vs = [.ref p] ∧ Well H p ∧ ∀ x H', Nm x → SameBut p H H' → Well H' p → Q (.str x) H'
def spPlace : Sp := fun vs H Q _ => ∃ p, vs = [.ref p] ∧ Well H p ∧ ∀ v (pl : Pl) H', pl.Ok → SameBut p H H' → Well H' p → PlAt H' pl v → Q v H'
def spChange : Sp := fun vs H Q _ => ∃ p, vs = [.ref p] ∧ Well H p ∧ ∀ v (c : Ch) H', c.Ok → SameBut p H H' → Well H' p → ChAt H' c v → Q v H'
def nameBody (e14 e6 : List Expr) : List Stmt := match defBody s_law_name with
  | [.Assign ts (.List _ p1) q1, .Assign ts2 (.BinOp l op (.List _ p2) b2) q2, r] => [.Assign ts (.List e14 p1) q1, .Assign ts2 (.BinOp l op (.List e6 p2) b2) q2, r]
  | _ => []
def nameLists : List Expr × List Expr := match defBody s_law_name with
  | [.Assign ts (.List x _) q1, .Assign ts2 (.BinOp l op (.List y _) b2) q2, r] => (x, y)
  | _ => ([], [])
theorem name_same : defBody s_law_name = nameBody nameLists.1 nameLists.2 := rfl
theorem name14 : strsOf nameLists.1 = some names14 := rfl
theorem name6 : strsOf nameLists.2 = some names6 := rfl
section
variable {P : Program} {w : World} {K : PySem.W.Frag} {mg : Str → Option Value} {base : Heap} {a : Ad}
theorem ok_law_name (T : Tx K mg a) : FnOk P w K mg base CX0 4 a.f_law_name a.fd_law_name ["_law_well_here"] spName := by
  have G_law_draw : FnOk P w K mg base CX0 3 a.f_law_draw a.fd_law_draw ["_law_well_here", "_law_most"] spDraw := ok_law_draw T
  refine T.F_law_name.ok sc_law_name (fun vs H Q E h => ?_) (fun cdv A outer s H vs Q E hr h => ?_)
  · obtain ⟨_, rfl, _⟩ := h; rfl
  obtain ⟨p, rfl, hW, q⟩ := h
  rw [name_same]
  have h14 := name14
  have h6 := name6
  generalize nameLists.1 = e14 at h14 ⊢
  generalize nameLists.2 = e6 at h6 ⊢
  refine ⟨_, (pss_cons (ps_set (i := 1) sc_law_name.nd rfl (Or.inl rfl) (pe_lst (pa_strs (ws := names14) h14)))
      (pss_cons (ps_set (i := 1) sc_law_name.nd rfl (Or.inl rfl) (pe_op op_cat (pv 1) (pe_lst (pa_strs (ws := names6) h6))))
      (pss_one (ps_ret (pe_ix ix_list (pv 1) (pe_call G_law_draw (hr.mono (by first | decide | omega)) rfl T.m_law_draw T.F_law_draw.kp T.b_law_draw .nil pass0 (pa_cons (pv 0) (pa_cons (pe_callB call_len_seq rfl T.z_len PySem.boot_len (pa_cons (pv 1) pa_nil)) pa_nil))) (fun _ _ => rfl)))))), ?_⟩
  refine ⟨(by show 14 ≤ sizeLine; decide), fun l hl => ?_⟩
  have s1 := same_new hl (.lst (names14.map V.str))
  refine ⟨_, rfl, (by show 6 ≤ sizeLine; decide), fun l2 hl2 => ⟨l, l2, _, _, rfl, rfl, same_new hl2 _ _ _ upd_same, upd_same, (by show 20 ≤ sizeLine; decide), fun l3 hl3 => ?_⟩⟩
  have s3 := s1.trans ((same_new hl2 (.lst (names6.map V.str))).trans (same_new hl3 (.lst (names20.map V.str))))
  have h3 : (upd (upd (upd H l (.lst (names14.map V.str))) l2 (.lst (names6.map V.str))) l3 (.lst (names20.map V.str))) l3 = some (.lst (names20.map V.str)) := upd_same
  rw [show (names14.map V.str ++ names6.map V.str) = names20.map V.str from rfl]
  generalize upd (upd (upd H l (.lst (names14.map V.str))) l2 (.lst (names6.map V.str))) l3 (.lst (names20.map V.str)) = H3 at s3 h3 ⊢
  have W3 := hW.same s3
  have n3 : l3 ≠ p := fun z => by
    obtain ⟨_, _, _, _, e⟩ := W3
    rw [← z, h3] at e
    have := congrArg (fun o => match o with | some (HO.lst xs) => xs.length | _ => 0) e
    exact absurd (show (20 : Nat) = 4 from this) (by decide)
  refine ⟨_, rfl, _, rfl, _, rfl, l3, _, rfl, .inl (SqL.of h3), p, 20, rfl, by decide, by decide, W3, fun r H4 r0 r1 s4 W4 => ?_⟩
  obtain ⟨x, hx, hat⟩ := str_at (ws := names20) r0 r1
  exact ⟨l3, _, _, _, rfl, rfl, SqL.of (s4 _ _ n3 h3), hat, q x H4 hx ((but_same s3).trans s4) W4⟩
theorem ok_law_place (T : Tx K mg a) : FnOk P w K mg base CX0 6 a.f_law_place a.fd_law_place ["_law_well_here"] spPlace := by
  have G_law_draw : FnOk P w K mg base CX0 3 a.f_law_draw a.fd_law_draw ["_law_well_here", "_law_most"] spDraw := ok_law_draw T
  have G_law_number : FnOk P w K mg base CX0 4 a.f_law_number a.fd_law_number ["_law_well_here"] spNumb := ok_law_number T
  have G_law_address : FnOk P w K mg base CX0 5 a.f_law_address a.fd_law_address ["_law_well_here"] spAddr := ok_law_address T
  have G_law_name : FnOk P w K mg base CX0 4 a.f_law_name a.fd_law_name ["_law_well_here"] spName := ok_law_name T
  refine T.F_law_place.ok sc_law_place (fun vs H Q E h => ?_) (fun cdv A outer s H vs Q E hr h => ?_)
  · obtain ⟨_, rfl, _⟩ := h; rfl
  obtain ⟨p, rfl, hW, q⟩ := h
  refine ⟨_, (pss_cons (ps_set (i := 1) sc_law_place.nd rfl (Or.inl rfl) (pe_call G_law_draw (hr.mono (by first | decide | omega)) rfl T.m_law_draw T.F_law_draw.kp T.b_law_draw .nil pass0 (pa_cons (pv 0) (pa_cons pe_int pa_nil))))
      (pss_cons (ps_if (pt_cmpR op_eq (pv 1) pe_int (nomark _)) (pss_one (ps_ret (pe_tup (pa_cons pe_str (pa_cons (pe_call G_law_address (hr.mono (by first | decide | omega)) rfl T.m_law_address T.F_law_address.kp T.b_law_address .nil pass0 (pa_cons (pv 0) pa_nil)) (pa_cons (pe_call G_law_name (hr.mono (by first | decide | omega)) rfl T.m_law_name T.F_law_name.kp T.b_law_name .nil pass0 (pa_cons (pv 0) pa_nil)) pa_nil)))))) pss_nil)
      (pss_cons (ps_if (pt_cmpR op_eq (pv 1) pe_int (nomark _)) (pss_one (ps_ret (pe_tup (pa_cons pe_str (pa_cons (pe_call G_law_number (hr.mono (by first | decide | omega)) rfl T.m_law_number T.F_law_number.kp T.b_law_number .nil pass0 (pa_cons (pv 0) pa_nil)) pa_nil))))) pss_nil)
      (pss_cons (ps_if (pt_cmpR op_eq (pv 1) pe_int (nomark _)) (pss_one (ps_ret (pe_tup (pa_cons pe_str (pa_cons (pe_call G_law_name (hr.mono (by first | decide | omega)) rfl T.m_law_name T.F_law_name.kp T.b_law_name .nil pass0 (pa_cons (pv 0) pa_nil)) (pa_cons (pe_call G_law_number (hr.mono (by first | decide | omega)) rfl T.m_law_number T.F_law_number.kp T.b_law_number .nil pass0 (pa_cons (pv 0) pa_nil)) pa_nil)))))) pss_nil)
      (pss_one (ps_ret (pe_tup (pa_cons pe_str (pa_cons (pe_call G_law_name (hr.mono (by first | decide | omega)) rfl T.m_law_name T.F_law_name.kp T.b_law_name .nil pass0 (pa_cons (pv 0) pa_nil)) pa_nil))))))))), ?_⟩
  refine ⟨_, rfl, p, 4, rfl, by decide, by decide, hW, fun r H1 r0 r1 s1 W1 => ?_⟩
  refine ⟨_, rfl, rfl, _, rfl, ite2 (fun c => ?_) (fun c => ?_)⟩
  · refine ⟨_, rfl, p, rfl, W1, fun ta ns H2 hA s2 W2 h2 => ⟨_, rfl, p, rfl, W2, fun x H3 hx s3 W3 => ⟨(by show 3 ≤ sizeLine; decide), fun t ht => ?_⟩⟩⟩
    have s4 := same_new ht (.tup [.str "box", .ref ta, .str x])
    have h3 : H3 ta = some (.tup (ns.map V.int)) := by
      obtain ⟨x0, x1, x2, x3, hp⟩ := W2
      exact s3 _ _ (ne_of h2 hp (by intro z; cases z)) h2
    exact q _ (.box ns x) _ ⟨hA, hx⟩ ((s1.trans (s2.trans s3)).then s4) (W3.same s4) ⟨t, ta, rfl, s4 _ _ h3, upd_same⟩
  · refine ⟨_, rfl, rfl, _, rfl, ite2 (fun c => ?_) (fun c => ?_)⟩
    · refine ⟨_, rfl, p, rfl, W1, fun i H2 hi s2 W2 => ⟨(by show 2 ≤ sizeLine; decide), fun t ht => ?_⟩⟩
      exact q _ (.cell i) _ hi ((s1.trans s2).then (same_new ht _)) (W2.same (same_new ht _)) ⟨t, rfl, upd_same⟩
    · refine ⟨_, rfl, rfl, _, rfl, ite2 (fun c => ?_) (fun c => ?_)⟩
      · refine ⟨_, rfl, p, rfl, W1, fun x H2 hx s2 W2 => ⟨_, rfl, p, rfl, W2, fun i H3 hi s3 W3 => ⟨(by show 3 ≤ sizeLine; decide), fun t ht => ?_⟩⟩⟩
        exact q _ (.world x i) _ ⟨hx, hi⟩ ((s1.trans (s2.trans s3)).then (same_new ht _)) (W3.same (same_new ht _)) ⟨t, rfl, upd_same⟩
      · refine ⟨_, rfl, p, rfl, W1, fun x H2 hx s2 W2 => ⟨(by show 2 ≤ sizeLine; decide), fun t ht => ?_⟩⟩
        exact q _ (.drawn x) _ hx ((s1.trans s2).then (same_new ht _)) (W2.same (same_new ht _)) ⟨t, rfl, upd_same⟩
end
/-! ### a row's line, sign by sign -/
def signs : Str := " abz09 !#$&()*+,-./:;<=>?\x40[]^_{|}~AZ skip tell if \"'"
theorem signs_ok : ∀ c ∈ signs.cps.toList, c ≠ 10 := fun c hc => by
  have := List.all_eq_true.mp (show (signs.cps.toList.all fun c => decide (c ≠ 10)) = true by decide +kernel) c hc
  exact of_decide_eq_true this
theorem signs_len : signs.length = 52 := by decide +kernel
def One (z : Str) : Prop := z.length = 1 ∧ 10 ∉ z.cps.toList
theorem strs_from {R : Str → Prop} : ∀ (ys : List V), (∀ y ∈ ys, ∃ z, y = .str z ∧ R z) → ∃ zs : List Str, ys = zs.map V.str ∧ ∀ z ∈ zs, R z
  | [], _ => ⟨[], rfl, fun i h => by simp at h⟩
  | y :: r, h => by
    obtain ⟨i, rfl, hi⟩ := h y (by simp)
    obtain ⟨ns, e, hn⟩ := strs_from r fun z hz => h z (List.mem_cons_of_mem _ hz)
    exact ⟨i :: ns, by rw [e]; rfl, fun j hj => by
      rcases List.mem_cons.mp hj with rfl | hj
      · exact hi
      · exact hn j hj⟩
theorem empty_cps : ("" : Str).cps.toList = [] := by decide +kernel
theorem glue_codes : ∀ zs : List Str, (Str.join "" zs).cps.toList = (zs.map fun z => z.cps.toList).flatten
  | [] => by show (Str.join "" []).cps.toList = []; exact (by decide +kernel)
  | [z] => by
    show z.cps.toList = _
    simp
  | z :: y :: r => by
    have ih := glue_codes (y :: r)
    show (z ++ "" ++ Str.join "" (y :: r)).cps.toList = _
    rw [PySem.W.KT.app_list, PySem.W.KT.app_list, ih, empty_cps]
    simp
theorem glue_ones {zs : List Str} (h : ∀ z ∈ zs, One z) : (Txt.join "" zs).length = zs.length ∧ 10 ∉ (Txt.join "" zs).cps.toList := by
  have ej : Txt.join "" zs = Str.join "" zs := StrLaws.glued_eq_join "" zs
  rw [ej]
  constructor
  · rw [len_cps, glue_codes]
    clear ej
    induction zs with
    | nil => rfl
    | cons z r ih =>
      have h1 := (h z (by simp)).1
      rw [len_cps] at h1
      rw [List.map_cons, List.flatten_cons, List.length_append, ih fun y hy => h y (List.mem_cons_of_mem _ hy), h1, List.length_cons]
      omega
  · rw [glue_codes]
    intro hc
    obtain ⟨l, hl, hc⟩ := List.mem_flatten.mp hc
    obtain ⟨z, hz, rfl⟩ := List.mem_map.mp hl
    exact (h z hz).2 hc
theorem sign_at {r : Int} (h0 : 0 ≤ r) (h1 : r < 52) : ∃ c, atI signs.cps.toList r = some c ∧ c ∈ signs.cps.toList := by
  obtain ⟨m, rfl⟩ := Int.eq_ofNat_of_zero_le h0
  have hl : signs.cps.toList.length = 52 := by rw [← len_cps]; exact signs_len
  have hr : m < signs.cps.toList.length := by omega
  exact ⟨_, atI_nat (List.getElem?_eq_getElem hr), List.getElem_mem hr⟩
def goOf (r : Int) : Option Bool := if r = 0 then some true else if r = 1 then some false else none
section
variable {P : Program} {w : World} {K : PySem.W.Frag} {mg : Str → Option Value} {base : Heap} {a : Ad}
theorem ok_law_change (T : Tx K mg a) : FnOk P w K mg base CX0 7 a.f_law_change a.fd_law_change ["_law_well_here"] spChange := by
  have G_law_draw : FnOk P w K mg base CX0 3 a.f_law_draw a.fd_law_draw ["_law_well_here", "_law_most"] spDraw := ok_law_draw T
  have G_law_number : FnOk P w K mg base CX0 4 a.f_law_number a.fd_law_number ["_law_well_here"] spNumb := ok_law_number T
  have G_law_address : FnOk P w K mg base CX0 5 a.f_law_address a.fd_law_address ["_law_well_here"] spAddr := ok_law_address T
  have G_law_place : FnOk P w K mg base CX0 6 a.f_law_place a.fd_law_place ["_law_well_here"] spPlace := ok_law_place T
  refine T.F_law_change.ok sc_law_change (fun vs H Q E h => ?_) (fun cdv A outer s H vs Q E hr h => ?_)
  · obtain ⟨_, rfl, _⟩ := h; rfl
  obtain ⟨p, rfl, hW, q⟩ := h
  refine ⟨_, (pss_cons (ps_set (i := 1) sc_law_change.nd rfl (Or.inl rfl) (pe_call G_law_draw (hr.mono (by first | decide | omega)) rfl T.m_law_draw T.F_law_draw.kp T.b_law_draw .nil pass0 (pa_cons (pv 0) (pa_cons pe_int pa_nil))))
      (pss_cons (ps_if (pt_cmpR op_eq (pv 1) pe_int (nomark _)) (pss_one (ps_ret (pe_tup (pa_cons pe_str (pa_cons (pe_call G_law_place (hr.mono (by first | decide | omega)) rfl T.m_law_place T.F_law_place.kp T.b_law_place .nil pass0 (pa_cons (pv 0) pa_nil)) (pa_cons (pe_call G_law_number (hr.mono (by first | decide | omega)) rfl T.m_law_number T.F_law_number.kp T.b_law_number .nil pass0 (pa_cons (pv 0) pa_nil)) pa_nil)))))) pss_nil)
      (pss_cons (ps_if (pt_cmpR op_eq (pv 1) pe_int (nomark _)) (pss_cons (ps_set (i := 2) sc_law_change.nd rfl (Or.inr rfl) pe_str)
      (pss_cons (ps_set (i := 3) sc_law_change.nd rfl (Or.inl rfl) (pe_bm PySem.F.plainAttrs_str PySem.F.slot_str_join PySem.F.type_str_join mt_join pe_str (pa_cons (pe_comp2 (y := "_law_well_here") (z := "_law_signs") (j := 0) (k := 2) (c := s.heap.objs.size + 1) (d := s.heap.objs.size + 2) rfl (pi_range1 rfl T.z_range (pa_cons (pe_op op_add pe_int (pe_call G_law_draw (hr.mono (by first | decide | omega)) rfl T.m_law_draw T.F_law_draw.kp T.b_law_draw .nil pass0 (pa_cons (pv 0) (pa_cons pe_int pa_nil)))) pa_nil)) (fun _ _ _ _ => pts_nil) (fun _ _ _ _ => (pe_ix ix_str (pv 2) (pe_call G_law_draw (hr.mono (by first | decide | omega)) rfl T.m_law_draw T.F_law_draw.kp T.b_law_draw .nil pass0 (pa_cons (pv 1) (pa_cons (pe_callB call_len_str rfl T.z_len PySem.boot_len (pa_cons (pv 2) pa_nil)) pa_nil))) (fun _ _ => rfl))) rfl rfl rfl rfl rfl rfl rfl rfl (by decide +kernel) (by decide +kernel) (by decide +kernel) (by decide +kernel) (by decide +kernel) (by decide +kernel) (by decide +kernel)) pa_nil)))
      (pss_one (ps_ret (pe_tup (pa_cons pe_str (pa_cons (pe_call G_law_number (hr.mono (by first | decide | omega)) rfl T.m_law_number T.F_law_number.kp T.b_law_number .nil pass0 (pa_cons (pv 0) pa_nil)) (pa_cons (pv 3) pa_nil)))))))) pss_nil)
      (pss_one (ps_ret (pe_tup (pa_cons pe_str (pa_cons (pe_call G_law_address (hr.mono (by first | decide | omega)) rfl T.m_law_address T.F_law_address.kp T.b_law_address .nil pass0 (pa_cons (pv 0) pa_nil)) (pa_cons (pe_ix ix_list (pe_lst (pa_cons pe_bl (pa_cons pe_bl (pa_cons pe_non pa_nil)))) (pe_call G_law_draw (hr.mono (by first | decide | omega)) rfl T.m_law_draw T.F_law_draw.kp T.b_law_draw .nil pass0 (pa_cons (pv 0) (pa_cons pe_int pa_nil))) (fun _ _ => rfl)) pa_nil))))))))), ?_⟩
  refine ⟨_, rfl, p, 3, rfl, by decide, by decide, hW, fun r H1 r0 r1 s1 W1 => ?_⟩
  refine ⟨_, rfl, rfl, _, rfl, ite2 (fun c => ?_) (fun c => ?_)⟩
  · refine ⟨_, rfl, p, rfl, W1, fun v pl H2 hP s2 W2 h2 => ⟨_, rfl, p, rfl, W2, fun n H3 hn s3 W3 => ⟨(by show 3 ≤ sizeLine; decide), fun t ht => ?_⟩⟩⟩
    have s4 := same_new ht (.tup [.str "start", v, .int n])
    exact q _ (.start pl n) _ ⟨hP, hn⟩ ((s1.trans (s2.trans s3)).then s4) (W3.same s4) ⟨t, v, rfl, (h2.but W2 s3).same s4, upd_same⟩
  · refine ⟨_, rfl, rfl, _, rfl, ite2 (fun c => ?_) (fun c => ?_)⟩
    · refine ⟨rfl, _, rfl, p, 30, rfl, by decide, by decide, W1, fun r2 H2 a0 a1 s2 W2 => ⟨_, _, rfl, rfl, 1 + r2, rfl, by omega, by omega, fun c hc => ?_⟩⟩
      refine comp_well (fun y => ∃ z, y = .str z ∧ One z) W2 hc (by omega) (fun i H3 hi s3 W3 k hk => ?_) fun ys H3 s3 W3 hc3 hl3 hR => ?_
      · refine ⟨_, rfl, _, rfl, _, rfl, _, rfl, (by decide +kernel), p, 52, ?_, by decide, by decide, W3, fun r4 H4 b0 b1 s4 W4 => ?_⟩
        · exact congrArg (fun n : Nat => [V.ref p, V.int (n : Int)]) signs_len
        · obtain ⟨cc, hcc, hm⟩ := sign_at b0 b1
          exact ⟨signs, r4, cc, rfl, rfl, (by decide +kernel), hcc, hk _ H4 s4 W4 ⟨_, rfl, rfl, fun z => by
            have : (10 : Nat) = cc := by simpa using z
            exact signs_ok cc hm this.symm⟩⟩
      · obtain ⟨zs, rfl, hz⟩ := strs_from ys hR
        rw [List.length_map] at hl3
        obtain ⟨g1, g2⟩ := glue_ones hz
        have hsum : (zs.map (·.length)).sum + zs.length * ("" : Str).length ≤ 16777216 := by
          have h1 := sum_le 1 zs fun z hz' => Nat.le_of_eq (hz z hz').1
          have h0 : ("" : Str).length = 0 := by decide +kernel
          rw [h0]
          omega
        refine ⟨"", c, zs, rfl, rfl, SqL.of hc3, hsum, ?_⟩
        refine ⟨_, rfl, p, rfl, W3, fun n H4 hn s4 W4 => ⟨_, rfl, (by show 3 ≤ sizeLine; decide), fun t ht => ?_⟩⟩
        have s5 := same_new ht (.tup [.str "row", .int n, .str (Txt.join "" zs)])
        exact q _ (.row n (Txt.join "" zs)) _ ⟨hn, by omega, by omega, g2⟩ ((s1.trans (s2.trans (s3.trans s4))).then s5) (W4.same s5) ⟨t, rfl, upd_same⟩
    · refine ⟨_, rfl, p, rfl, W1, fun ta ns H2 hA s2 W2 h2 => ⟨(by show 3 ≤ sizeLine; decide), fun l hl => ?_⟩⟩
      have sl := same_new hl (.lst [.bl true, .bl false, .non])
      refine ⟨_, rfl, p, 3, rfl, by decide, by decide, W2.same sl, fun r3 H3 b0 b1 s3 W3 => ?_⟩
      have hl3 : H3 l = some (.lst [.bl true, .bl false, .non]) := s3 _ _ (W2.some_ hl) upd_same
      have hat : atI [V.bl true, V.bl false, V.non] r3 = some (truV (goOf r3)) := by
        have : r3 = 0 ∨ r3 = 1 ∨ r3 = 2 := by omega
        rcases this with rfl | rfl | rfl <;> rfl
      refine ⟨l, _, _, _, rfl, rfl, SqL.of hl3, hat, (by show 3 ≤ sizeLine; decide), fun t ht => ?_⟩
      have s4 := same_new ht (.tup [.str "goes", .ref ta, truV (goOf r3)])
      have h3 : H3 ta = some (.tup (ns.map V.int)) := by
        obtain ⟨x0, x1, x2, x3, hp⟩ := W2.same sl
        exact s3 _ _ (ne_of (sl _ _ h2) hp (by intro z; cases z)) (sl _ _ h2)
      exact q _ (.goes ns (goOf r3)) _ hA ((s1.trans ((s2.then sl).trans s3)).then s4) (W3.same s4) ⟨t, ta, rfl, s4 _ _ h3, upd_same⟩
end
end K84
set_option Elab.async false
set_option linter.all false
set_option maxRecDepth 100000
set_option maxHeartbeats 4000000
namespace K84
open PySem L2 PyProof.Rows Ex
def spChText : Sp := fun vs H Q _ => ∃ c v, vs = [v] ∧ ChAt H c v ∧ c.Ok ∧ ∀ H', Same H H' → Q (.str c.text) H'
theorem words_sum {ws : List Str} (h : ∀ w ∈ ws, Tight w) (hl : ws.length ≤ 5) : (ws.map (·.length)).sum + ws.length * (" " : Str).length ≤ 16777216 := by
  have h1 : (" " : Str).length = 1 := by decide +kernel
  have := tight_sum h
  rw [h1]
  omega
theorem join_one (x : Str) : Txt.join " " [x] = x := by rw [join_text]; rfl
def spLaw (K : PySem.W.Frag) : Sp := fun vs H Q _ => ∃ (p : Addr) (ns : List Int), vs = [.ref p] ∧ SqL K H p (ns.map V.int) ∧ ns.length ≤ 63 ∧ ∀ H', Q (.bl true) H'
theorem row_blank : ("row " : Str) = "row" ++ sg 32 := by decide +kernel
theorem goes_blank : ("goes " : Str) = "goes" ++ sg 32 := by decide +kernel
theorem tru_find (o : Option Bool) : (([(some true, ("yes" : Str)), (some false, ("no" : Str)), (none, ("free" : Str))] : List (Option Bool × Str)).find? fun kv => decide (kv.1 = o)) = some (o, goT o) := by
  match o with
  | none => rfl
  | some true => rfl
  | some false => rfl
/-! ### two of one change are the same -/
def dtI (ns : List Int) : List Dt := ns.map Dt.int
def dtT : Option Bool → Dt
  | none => .non
  | some b => .bl b
def dtP : Pl → Dt
  | .box ad x => .tup [.str "box", .tup (dtI ad), .str x]
  | .cell i => .tup [.str "cell", .int i]
  | .world x i => .tup [.str "world", .str x, .int i]
  | .drawn x => .tup [.str "drawn", .str x]
def dtC : Ch → Dt
  | .start p n => .tup [.str "start", dtP p, .int n]
  | .row n l => .tup [.str "row", .int n, .str l]
  | .goes ad o => .tup [.str "goes", .tup (dtI ad), dtT o]
theorem ints_dt {K : PySem.W.Frag} {H : Hp} : ∀ ns : List Int, Paired (DAt K H 0) (ns.map V.int) (dtI ns)
  | [] => .nil
  | i :: r => .cons rfl (ints_dt r)
theorem pl_dt {K : PySem.W.Frag} {H : Hp} {p : Pl} {v : V} (h : PlAt H p v) : DAt K H 2 v (dtP p) := by
  cases p with
  | box ad x =>
    obtain ⟨t, ta, rfl, h1, h2⟩ := h
    exact .inr (.inl ⟨t, _, _, rfl, rfl, SqT.of h2, .cons (.inl rfl) (.cons (.inr (.inl ⟨ta, _, _, rfl, rfl, SqT.of h1, ints_dt ad⟩)) (.cons (.inl rfl) .nil))⟩)
  | cell i => obtain ⟨t, rfl, h1⟩ := h; exact .inr (.inl ⟨t, _, _, rfl, rfl, SqT.of h1, .cons (.inl rfl) (.cons (.inl rfl) .nil)⟩)
  | world x i => obtain ⟨t, rfl, h1⟩ := h; exact .inr (.inl ⟨t, _, _, rfl, rfl, SqT.of h1, .cons (.inl rfl) (.cons (.inl rfl) (.cons (.inl rfl) .nil))⟩)
  | drawn x => obtain ⟨t, rfl, h1⟩ := h; exact .inr (.inl ⟨t, _, _, rfl, rfl, SqT.of h1, .cons (.inl rfl) (.cons (.inl rfl) .nil)⟩)
theorem ch_dt {K : PySem.W.Frag} {H : Hp} {c : Ch} {v : V} (h : ChAt H c v) : DAt K H 3 v (dtC c) := by
  cases c with
  | start p n =>
    obtain ⟨t, vp, rfl, h1, h2⟩ := h
    exact .inr (.inl ⟨t, _, _, rfl, rfl, SqT.of h2, .cons (.inl rfl) (.cons (pl_dt h1) (.cons (.inl rfl) .nil))⟩)
  | row n l => obtain ⟨t, rfl, h1⟩ := h; exact .inr (.inl ⟨t, _, _, rfl, rfl, SqT.of h1, .cons (.inl rfl) (.cons (.inl rfl) (.cons (.inl rfl) .nil))⟩)
  | goes ad o =>
    obtain ⟨t, ta, rfl, h1, h2⟩ := h
    have d1 : DAt K H 2 (.ref ta) (.tup (dtI ad)) := .inr (.inl ⟨ta, _, _, rfl, rfl, SqT.of h1, (by
      have : ∀ ns : List Int, Paired (DAt K H 1) (ns.map V.int) (dtI ns) := fun ns => by
        induction ns with
        | nil => exact .nil
        | cons i r ih => exact .cons (.inl rfl) ih
      exact this ad)⟩)
    have d2 : DAt K H 2 (truV o) (dtT o) := by cases o <;> exact .inl (by first | trivial | rfl)
    exact .inr (.inl ⟨t, _, _, rfl, rfl, SqT.of h2, .cons (.inl rfl) (.cons d1 (.cons d2 .nil))⟩)
theorem room3 {k : Nat} {A : Around} (hr : Room k A) : A.units + 3 < cLine := by have := hr.un; omega
section
variable {P : Program} {w : World} {K : PySem.W.Frag} {mg : Str → Option Value} {base : Heap} {a : Ad}
theorem ok_law_text (T : Tx K mg a) : FnOk P w K mg base CX0 2 a.f_law_text a.fd_law_text ["_law_change_here"] spChText := by
  have G_law_address_text : FnOk P w K mg base CX0 1 a.f_law_address_text a.fd_law_address_text ["_law_address_here"] spAdText := ok_law_address_text T
  refine T.F_law_text.ok sc_law_text (fun vs H Q E h => ?_) (fun cdv A outer s H vs Q E hr h => ?_)
  · obtain ⟨_, _, rfl, _⟩ := h; rfl
  obtain ⟨c, v, rfl, hC, ho, q⟩ := h
  refine ⟨_, (pss_cons (ps_if (pt_cmpR op_eq (pe_ix ix_tup (pv 0) pe_int (fun _ _ => rfl)) pe_str (nomark _)) (pss_one (ps_ret (pe_op op_add_str (pe_op op_add_str (pe_op op_add_str pe_str (pe_callTy call_str_int rfl T.z_str boot_str (pa_cons (pe_ix ix_tup (pv 0) pe_int (fun _ _ => rfl)) pa_nil))) pe_str) (pe_ix ix_tup (pv 0) pe_int (fun _ _ => rfl))))) pss_nil)
      (pss_cons (ps_if (pt_cmpR op_eq (pe_ix ix_tup (pv 0) pe_int (fun _ _ => rfl)) pe_str (nomark _)) (pss_cons (ps_set (i := 1) sc_law_text.nd rfl (Or.inl rfl) pe_tru)
      (pss_one (ps_ret (pe_op op_add_str (pe_op op_add_str (pe_op op_add_str pe_str (pe_call G_law_address_text (hr.mono (by first | decide | omega)) rfl T.m_law_address_text T.F_law_address_text.kp T.b_law_address_text .nil pass0 (pa_cons (pe_ix ix_tup (pv 0) pe_int (fun _ _ => rfl)) pa_nil))) pe_str) (pe_ix ix_tru (pv 1) (pe_ix ix_tup (pv 0) pe_int (fun _ _ => rfl)) (fun _ _ => rfl)))))) pss_nil)
      (pss_cons (ps_setComp (i := 1) sc_law_text.nd rfl (Or.inl rfl) (by first | exact .inl rfl | exact .inr rfl) (cu_comp0 rfl (pi_tup (pe_ix ix_tup (pv 0) pe_int (fun _ _ => rfl))) (fun _ _ _ _ => pts_nil) (fun _ _ _ _ => (pe_callTy (CallR.or call_str_int (CallR.or call_str_str (call_str_tup (K := K) hr))) rfl T.z_str boot_str (pa_cons (pv 0) pa_nil))) rfl (by decide +kernel) (by decide +kernel) (by decide +kernel) (by decide +kernel)))
      (pss_cons (ps_if (pt_cmpR op_eq (pe_ix ix_list (pv 1) pe_int (fun _ _ => rfl)) pe_str (nomark _)) (pss_one (ps_asg (pe_call G_law_address_text (hr.mono (by first | decide | omega)) rfl T.m_law_address_text T.F_law_address_text.kp T.b_law_address_text .nil pass0 (pa_cons (pe_ix ix_tup (pe_ix ix_tup (pv 0) pe_int (fun _ _ => rfl)) pe_int (fun _ _ => rfl)) pa_nil)) (pg_sub (pv 1) pe_int set_list))) pss_nil)
      (pss_one (ps_ret (pe_bm PySem.F.plainAttrs_str PySem.F.slot_str_join PySem.F.type_str_join mt_join pe_str (pa_cons (pe_op op_cat (pe_op op_cat (pe_lst (pa_cons pe_str pa_nil)) (pv 1)) (pe_lst (pa_cons (pe_callTy call_str_int rfl T.z_str boot_str (pa_cons (pe_ix ix_tup (pv 0) pe_int (fun _ _ => rfl)) pa_nil)) pa_nil))) pa_nil)))))))), ?_⟩
  have b1 : (" " : Str).length = 1 := by decide +kernel
  cases c with
  | row n l =>
    obtain ⟨t, rfl, h1⟩ := hC
    obtain ⟨hn, l1, l2, l3⟩ : Num n ∧ 1 ≤ l.length ∧ l.length ≤ 30 ∧ 10 ∉ l.cps.toList := ho
    have hw := (wd_signs hn.wdy).2.1
    have r4 : ("row " : Str).length = 4 := by decide +kernel
    refine ⟨_, rfl, t, _, _, _, rfl, rfl, SqT.of h1, rfl, rfl, _, rfl, iteC (decide_eq_true rfl) ?_⟩
    refine ⟨_, rfl, t, _, _, _, rfl, rfl, SqT.of h1, rfl, n, rfl, log_wdy hn.wdy, _, _, rfl, rfl, lenLe' (by show ("row " : Str).length + (wd n).length ≤ 1000; omega), ?_⟩
    refine ⟨_, _, rfl, rfl, lenLe' (by show ("row " ++ wd n).length + (" " : Str).length ≤ 1000; rw [Str.length_append]; omega), ?_⟩
    refine ⟨_, rfl, t, _, _, _, rfl, rfl, SqT.of h1, rfl, _, _, rfl, rfl, lenLe' (by show ("row " ++ wd n ++ " ").length + l.length ≤ 1000; rw [Str.length_append, Str.length_append]; omega), ?_⟩
    have q' := q H (Same.refl H)
    rw [show (Ch.row n l).text = "row " ++ wd n ++ " " ++ l from (three_app _ _ _ _ row_blank).symm] at q'
    exact q'
  | goes ad o =>
    obtain ⟨t, ta, rfl, hta, h1⟩ := hC
    have hA : Ad1 ad := ho
    have hal := adText_len hA
    have r5 : ("goes " : Str).length = 5 := by decide +kernel
    have hgo : (goT o).length ≤ 700 := (tight_go o).1
    refine ⟨_, rfl, t, _, _, _, rfl, rfl, SqT.of h1, rfl, rfl, _, rfl, iteB (vne (show ("goes" : Str) ≠ "row" by decide +kernel)) ?_⟩
    refine ⟨_, rfl, t, _, _, _, rfl, rfl, SqT.of h1, rfl, rfl, _, rfl, iteC (decide_eq_true rfl) ?_⟩
    intro d hd
    have s1 := same_new hd (truO P w d [(some true, "yes"), (some false, "no"), (none, "free")])
    have hd1 : (upd H d (truO P w d [(some true, "yes"), (some false, "no"), (none, "free")])) d = some (truO P w d [(some true, "yes"), (some false, "no"), (none, "free")]) := upd_same
    refine ⟨_, rfl, t, _, _, _, rfl, rfl, SqT.of (s1 _ _ h1), rfl, ta, ad, rfl, s1 _ _ hta, hA, fun H2 s2 => ?_⟩
    refine ⟨_, _, rfl, rfl, lineBig (by show ("goes " : Str).length + (adText ad).length ≤ 1000000; omega), ?_⟩
    refine ⟨_, _, rfl, rfl, lineBig (by show ("goes " ++ adText ad).length + (" " : Str).length ≤ 1000000; rw [Str.length_append]; omega), ?_⟩
    refine ⟨_, rfl, _, rfl, t, _, _, _, rfl, rfl, SqT.of (s2 _ _ (s1 _ _ h1)), rfl, d, _, o, goT o, rfl, rfl, s2 _ _ hd1, tru_find o, ?_⟩
    refine ⟨_, _, rfl, rfl, lineBig (by show ("goes " ++ adText ad ++ " ").length + (goT o).length ≤ 1000000; rw [Str.length_append, Str.length_append]; omega), ?_⟩
    have q' := q H2 (s1.trans s2)
    rw [show (Ch.goes ad o).text = "goes " ++ adText ad ++ " " ++ goT o from (three_app _ _ _ _ goes_blank).symm] at q'
    exact q'
  | start p n =>
    obtain ⟨t, vp, rfl, hp, h1⟩ := hC
    obtain ⟨hP, hn⟩ : p.Ok ∧ Num n := ho
    have htt := start_tight hP hn
    have hpl := p.len
    refine ⟨_, rfl, t, _, _, _, rfl, rfl, SqT.of h1, rfl, rfl, _, rfl, iteB (vne (show ("start" : Str) ≠ "row" by decide +kernel)) ?_⟩
    refine ⟨_, rfl, t, _, _, _, rfl, rfl, SqT.of h1, rfl, rfl, _, rfl, iteB (vne (show ("start" : Str) ≠ "goes" by decide +kernel)) ?_⟩
    have sm : ((Ch.start p n).words.map (·.length)).sum + (Ch.start p n).words.length * (" " : Str).length ≤ 16777216 := words_sum htt (by simp [Ch.words]; omega)
    -- the words of the place
    cases p with
    | box ad x =>
      obtain ⟨tp, ta, rfl, hta, h2⟩ := hp
      obtain ⟨hA, hx⟩ : Ad1 ad ∧ Nm x := hP
      refine ⟨_, rfl, t, _, _, _, rfl, rfl, SqT.of h1, rfl, tp, rfl, ⟨_, SqT.of h2⟩, fun c hc => ?_⟩
      refine comp_src (fun i y _ => (i = 0 ∧ y = .str "box") ∨ (i = 1 ∧ ∃ z, y = .str z) ∨ (i = 2 ∧ y = .str x)) (us := [.str "box", .ref ta, .str x]) (src_tup (SqT.of h2)) hc (by show 3 ≤ 2000000; decide) (fun _ _ _ _ _ _ h _ => h) (fun i u H2 zs hu s2 hz k hk => ?_) fun ys H2 s2 hc2 hl2 hR => ?_
      · match i, hu with
        | 0, hu => cases Option.some.inj hu; exact ⟨_, rfl, .inr (.inl ⟨_, rfl, hk _ H2 (Same.refl _) (.inl ⟨rfl, rfl⟩)⟩)⟩
        | 1, hu => cases Option.some.inj hu; exact ⟨_, rfl, .inr (.inr ⟨ta, ad, rfl, SqT.of (s2 _ _ hta), (by have := hA.1; omega), (fun i hi => by have := hA.2 i hi; have h0 := this.1; have h1 := this.2; omega), fun z => hk _ H2 (Same.refl _) (.inr (.inl ⟨rfl, z, rfl⟩))⟩)⟩
        | 2, hu => cases Option.some.inj hu; exact ⟨_, rfl, .inr (.inl ⟨_, rfl, hk _ H2 (Same.refl _) (.inr (.inr ⟨rfl, rfl⟩))⟩)⟩
      · match ys, hl2, hc2, hR with
        | [y0, y1, y2], _, hc2, hR =>
          have e0 : y0 = .str "box" := by
            rcases hR 0 y0 rfl with ⟨_, h⟩ | ⟨h, _⟩ | ⟨h, _⟩
            · exact h
            · cases h
            · cases h
          have e2 : y2 = .str x := by
            rcases hR 2 y2 rfl with ⟨h, _⟩ | ⟨h, _⟩ | ⟨_, h⟩
            · cases h
            · cases h
            · exact h
          subst e0 e2
          refine ⟨_, rfl, c, _, _, _, rfl, rfl, SqL.of hc2, rfl, rfl, _, rfl, iteC (decide_eq_true rfl) ?_⟩
          refine ⟨_, rfl, t, _, _, _, rfl, rfl, SqT.of (s2 _ _ h1), rfl, tp, _, _, _, rfl, rfl, SqT.of (s2 _ _ h2), rfl, ta, ad, rfl, s2 _ _ hta, hA, fun H3 s3 => ?_⟩
          refine ⟨_, rfl, c, _, _, _, rfl, rfl, s3 _ _ hc2, rfl, ?_⟩
          have s4 : Same H (upd H3 c (.lst [.str "box", .str (adText ad), .str x])) := fun b o e => by
            have nb : b ≠ c := ne_of_none e hc
            rw [upd_ne nb]; exact s3 _ _ (s2 _ _ e)
          have hc4 : (upd H3 c (.lst [.str "box", .str (adText ad), .str x])) c = some (.lst ((Pl.box ad x).words.map V.str)) := upd_same
          rw [show ([V.str "box", y1, V.str x].set (Int.toNat 1) (V.str (adText ad))) = [V.str "box", V.str (adText ad), V.str x] from rfl]
          generalize upd H3 c (.lst [.str "box", .str (adText ad), .str x]) = H4 at s4 hc4 ⊢
          refine ⟨rfl, (by show 1 ≤ sizeLine; decide), fun l hl => ⟨_, rfl, l, c, _, _, rfl, rfl, upd_same, same_new hl _ _ _ hc4, lenLe' (by show 4 ≤ 1000; decide), fun l2 hl2 => ?_⟩⟩
          have s5 := (same_new hl (.lst [.str "start"])).trans (same_new hl2 (.lst ([.str "start"] ++ (Pl.box ad x).words.map V.str)))
          refine ⟨_, rfl, t, _, _, _, rfl, rfl, SqT.of (s5 _ _ (s4 _ _ h1)), rfl, n, rfl, log_wdy hn.wdy, (by show 1 ≤ sizeLine; decide), fun l3 hl3 => ⟨l2, l3, _, _, rfl, rfl, same_new hl3 _ _ _ upd_same, upd_same, lenLe' (by show 5 ≤ 1000; decide), fun l4 hl4 => ?_⟩⟩
          exact ⟨" ", l4, (Ch.start (.box ad x) n).words, rfl, rfl, SqL.of upd_same, sm, q _ (s4.trans (s5.trans ((same_new hl3 _).trans (same_new hl4 _))))⟩
    | cell i =>
      obtain ⟨tp, rfl, h2⟩ := hp
      have hi : Num i := hP
      refine ⟨_, rfl, t, _, _, _, rfl, rfl, SqT.of h1, rfl, tp, rfl, ⟨_, SqT.of h2⟩, fun c hc => ?_⟩
      refine comp_known (us := [.str "cell", .int i]) (ys0 := (Pl.cell i).words.map V.str) (src_tup (SqT.of h2)) hc (by show 2 ≤ 2000000; decide) rfl (fun j u y H2 hu hy s2 k hk => ?_) fun H4 s4 hc4 => ?_
      · match j, hu, hy with
        | 0, hu, hy => cases Option.some.inj hu; cases Option.some.inj hy; exact ⟨_, rfl, .inr (.inl ⟨_, rfl, hk H2 (Same.refl _)⟩)⟩
        | 1, hu, hy => cases Option.some.inj hu; cases Option.some.inj hy; exact ⟨_, rfl, .inl ⟨i, rfl, log_wdy hi.wdy, hk H2 (Same.refl _)⟩⟩
      · refine ⟨_, rfl, c, _, _, _, rfl, rfl, SqL.of hc4, rfl, rfl, _, rfl, iteB (vne (show ("cell" : Str) ≠ "box" by decide +kernel)) ?_⟩
        refine ⟨rfl, (by show 1 ≤ sizeLine; decide), fun l hl => ⟨_, rfl, l, c, _, _, rfl, rfl, upd_same, same_new hl _ _ _ hc4, lenLe' (by show 3 ≤ 1000; decide), fun l2 hl2 => ?_⟩⟩
        have s5 := (same_new hl (.lst [.str "start"])).trans (same_new hl2 (.lst ([.str "start"] ++ (Pl.cell i).words.map V.str)))
        refine ⟨_, rfl, t, _, _, _, rfl, rfl, SqT.of (s5 _ _ (s4 _ _ h1)), rfl, n, rfl, log_wdy hn.wdy, (by show 1 ≤ sizeLine; decide), fun l3 hl3 => ⟨l2, l3, _, _, rfl, rfl, same_new hl3 _ _ _ upd_same, upd_same, lenLe' (by show 4 ≤ 1000; decide), fun l4 hl4 => ?_⟩⟩
        exact ⟨" ", l4, (Ch.start (.cell i) n).words, rfl, rfl, SqL.of upd_same, sm, q _ (s4.trans (s5.trans ((same_new hl3 _).trans (same_new hl4 _))))⟩
    | world x i =>
      obtain ⟨tp, rfl, h2⟩ := hp
      obtain ⟨hx, hi⟩ : Nm x ∧ Num i := hP
      refine ⟨_, rfl, t, _, _, _, rfl, rfl, SqT.of h1, rfl, tp, rfl, ⟨_, SqT.of h2⟩, fun c hc => ?_⟩
      refine comp_known (us := [.str "world", .str x, .int i]) (ys0 := (Pl.world x i).words.map V.str) (src_tup (SqT.of h2)) hc (by show 3 ≤ 2000000; decide) rfl (fun j u y H2 hu hy s2 k hk => ?_) fun H4 s4 hc4 => ?_
      · match j, hu, hy with
        | 0, hu, hy => cases Option.some.inj hu; cases Option.some.inj hy; exact ⟨_, rfl, .inr (.inl ⟨_, rfl, hk H2 (Same.refl _)⟩)⟩
        | 1, hu, hy => cases Option.some.inj hu; cases Option.some.inj hy; exact ⟨_, rfl, .inr (.inl ⟨_, rfl, hk H2 (Same.refl _)⟩)⟩
        | 2, hu, hy => cases Option.some.inj hu; cases Option.some.inj hy; exact ⟨_, rfl, .inl ⟨i, rfl, log_wdy hi.wdy, hk H2 (Same.refl _)⟩⟩
      · refine ⟨_, rfl, c, _, _, _, rfl, rfl, SqL.of hc4, rfl, rfl, _, rfl, iteB (vne (show ("world" : Str) ≠ "box" by decide +kernel)) ?_⟩
        refine ⟨rfl, (by show 1 ≤ sizeLine; decide), fun l hl => ⟨_, rfl, l, c, _, _, rfl, rfl, upd_same, same_new hl _ _ _ hc4, lenLe' (by show 4 ≤ 1000; decide), fun l2 hl2 => ?_⟩⟩
        have s5 := (same_new hl (.lst [.str "start"])).trans (same_new hl2 (.lst ([.str "start"] ++ (Pl.world x i).words.map V.str)))
        refine ⟨_, rfl, t, _, _, _, rfl, rfl, SqT.of (s5 _ _ (s4 _ _ h1)), rfl, n, rfl, log_wdy hn.wdy, (by show 1 ≤ sizeLine; decide), fun l3 hl3 => ⟨l2, l3, _, _, rfl, rfl, same_new hl3 _ _ _ upd_same, upd_same, lenLe' (by show 5 ≤ 1000; decide), fun l4 hl4 => ?_⟩⟩
        exact ⟨" ", l4, (Ch.start (.world x i) n).words, rfl, rfl, SqL.of upd_same, sm, q _ (s4.trans (s5.trans ((same_new hl3 _).trans (same_new hl4 _))))⟩
    | drawn x =>
      obtain ⟨tp, rfl, h2⟩ := hp
      have hx : Nm x := hP
      refine ⟨_, rfl, t, _, _, _, rfl, rfl, SqT.of h1, rfl, tp, rfl, ⟨_, SqT.of h2⟩, fun c hc => ?_⟩
      refine comp_known (us := [.str "drawn", .str x]) (ys0 := (Pl.drawn x).words.map V.str) (src_tup (SqT.of h2)) hc (by show 2 ≤ 2000000; decide) rfl (fun j u y H2 hu hy s2 k hk => ?_) fun H4 s4 hc4 => ?_
      · match j, hu, hy with
        | 0, hu, hy => cases Option.some.inj hu; cases Option.some.inj hy; exact ⟨_, rfl, .inr (.inl ⟨_, rfl, hk H2 (Same.refl _)⟩)⟩
        | 1, hu, hy => cases Option.some.inj hu; cases Option.some.inj hy; exact ⟨_, rfl, .inr (.inl ⟨_, rfl, hk H2 (Same.refl _)⟩)⟩
      · refine ⟨_, rfl, c, _, _, _, rfl, rfl, SqL.of hc4, rfl, rfl, _, rfl, iteB (vne (show ("drawn" : Str) ≠ "box" by decide +kernel)) ?_⟩
        refine ⟨rfl, (by show 1 ≤ sizeLine; decide), fun l hl => ⟨_, rfl, l, c, _, _, rfl, rfl, upd_same, same_new hl _ _ _ hc4, lenLe' (by show 3 ≤ 1000; decide), fun l2 hl2 => ?_⟩⟩
        have s5 := (same_new hl (.lst [.str "start"])).trans (same_new hl2 (.lst ([.str "start"] ++ (Pl.drawn x).words.map V.str)))
        refine ⟨_, rfl, t, _, _, _, rfl, rfl, SqT.of (s5 _ _ (s4 _ _ h1)), rfl, n, rfl, log_wdy hn.wdy, (by show 1 ≤ sizeLine; decide), fun l3 hl3 => ⟨l2, l3, _, _, rfl, rfl, same_new hl3 _ _ _ upd_same, upd_same, lenLe' (by show 4 ≤ 1000; decide), fun l4 hl4 => ?_⟩⟩
        exact ⟨" ", l4, (Ch.start (.drawn x) n).words, rfl, rfl, SqL.of upd_same, sm, q _ (s4.trans (s5.trans ((same_new hl3 _).trans (same_new hl4 _))))⟩
end
end K84
set_option Elab.async false
set_option linter.all false
set_option maxRecDepth 100000
set_option maxHeartbeats 4000000
namespace K84
open PySem L2 PyProof.Rows Ex
def n15 : List Str := ["", "-", "-1", "0", "00", "01", "1.2", "1.", "1000000", "999999", "start", "row", "goes", "box", "cell"]
def n13 : List Str := ["world", "drawn", "yes", "no", "free", "Yes", "true", "None", "a", "abcdef", "abcdefg", "A", "if"]
def n12 : List Str := ["skip", "tell", "goes yes", "1.02", "-.1", "+1", "a1", "starts", "none", "boxes", "end", "7"]
def n40 : List Str := n15 ++ n13 ++ n12
theorem n40_ok : ∀ x ∈ n40, x.length ≤ 20 := fun x hx => of_decide_eq_true (List.all_eq_true.mp (show (n40.all fun x => decide (x.length ≤ 20)) = true by decide +kernel) x hx)
def menuBody (x y z : List Expr) : List Stmt := match defBody s_law_menu with
  | [.Assign ts (.List _ p1) q1, .Assign ts2 (.BinOp l op (.List _ p2) b2) q2, .Assign ts3 (.BinOp l3 op3 (.List _ p3) b3) q3, r4] => [.Assign ts (.List x p1) q1, .Assign ts2 (.BinOp l op (.List y p2) b2) q2, .Assign ts3 (.BinOp l3 op3 (.List z p3) b3) q3, r4]
  | _ => []
def menuLists : List Expr × List Expr × List Expr := match defBody s_law_menu with
  | [.Assign ts (.List x _) q1, .Assign ts2 (.BinOp l op (.List y _) b2) q2, .Assign ts3 (.BinOp l3 op3 (.List z p3) b3) q3, r4] => (x, y, z)
  | _ => ([], [], [])
theorem menu_same : defBody s_law_menu = menuBody menuLists.1 menuLists.2.1 menuLists.2.2 := rfl
theorem menu15 : strsOf menuLists.1 = some n15 := rfl
theorem menu13 : strsOf menuLists.2.1 = some n13 := rfl
theorem menu12 : strsOf menuLists.2.2 = some n12 := rfl
def spMenu : Sp := fun vs H Q _ => ∃ p, vs = [.ref p] ∧ Well H p ∧ ∀ x H', x.length ≤ 20 → SameBut p H H' → Well H' p → Q (.str x) H'
def spSpLine : Sp := fun vs H Q _ => ∃ p x, vs = [.ref p, .str x] ∧ Well H p ∧ x.length ≤ 100000 ∧ ∀ y H', y.length ≤ 2 * x.length + 30 → SameBut p H H' → Well H' p → Q (.str y) H'
section
variable {P : Program} {w : World} {K : PySem.W.Frag} {mg : Str → Option Value} {base : Heap} {a : Ad}
theorem ok_law_menu (T : Tx K mg a) : FnOk P w K mg base CX0 4 a.f_law_menu a.fd_law_menu ["_law_well_here"] spMenu := by
  have G_law_draw : FnOk P w K mg base CX0 3 a.f_law_draw a.fd_law_draw ["_law_well_here", "_law_most"] spDraw := ok_law_draw T
  refine T.F_law_menu.ok sc_law_menu (fun vs H Q E h => ?_) (fun cdv A outer s H vs Q E hr h => ?_)
  · obtain ⟨_, rfl, _⟩ := h; rfl
  obtain ⟨p, rfl, hW, q⟩ := h
  rw [menu_same]
  have h15 := menu15
  have h13 := menu13
  have h12 := menu12
  generalize menuLists.1 = e15 at h15 ⊢
  generalize menuLists.2.1 = e13 at h13 ⊢
  generalize menuLists.2.2 = e12 at h12 ⊢
  refine ⟨_, (pss_cons (ps_set (i := 1) sc_law_menu.nd rfl (Or.inl rfl) (pe_lst (pa_strs (ws := n15) h15)))
      (pss_cons (ps_set (i := 1) sc_law_menu.nd rfl (Or.inl rfl) (pe_op op_cat (pv 1) (pe_lst (pa_strs (ws := n13) h13))))
      (pss_cons (ps_set (i := 1) sc_law_menu.nd rfl (Or.inl rfl) (pe_op op_cat (pv 1) (pe_lst (pa_strs (ws := n12) h12))))
      (pss_one (ps_ret (pe_ix ix_list (pv 1) (pe_call G_law_draw (hr.mono (by first | decide | omega)) rfl T.m_law_draw T.F_law_draw.kp T.b_law_draw .nil pass0 (pa_cons (pv 0) (pa_cons (pe_callB call_len_seq rfl T.z_len PySem.boot_len (pa_cons (pv 1) pa_nil)) pa_nil))) (fun _ _ => rfl))))))), ?_⟩
  refine ⟨(by show 15 ≤ sizeLine; decide), fun l1 hl1 => ?_⟩
  have s1 := same_new hl1 (.lst (n15.map V.str))
  refine ⟨_, rfl, (by show 13 ≤ sizeLine; decide), fun l2 hl2 => ⟨l1, l2, _, _, rfl, rfl, same_new hl2 _ _ _ upd_same, upd_same, (by show 28 ≤ sizeLine; decide), fun l3 hl3 => ?_⟩⟩
  have s3 := s1.trans ((same_new hl2 (.lst (n13.map V.str))).trans (same_new hl3 (.lst (n15.map V.str ++ n13.map V.str))))
  have h3 : (upd (upd (upd H l1 (.lst (n15.map V.str))) l2 (.lst (n13.map V.str))) l3 (.lst (n15.map V.str ++ n13.map V.str))) l3 = some (.lst (n15.map V.str ++ n13.map V.str)) := upd_same
  generalize upd (upd (upd H l1 (.lst (n15.map V.str))) l2 (.lst (n13.map V.str))) l3 (.lst (n15.map V.str ++ n13.map V.str)) = H3 at s3 h3 ⊢
  refine ⟨_, rfl, (by show 12 ≤ sizeLine; decide), fun l4 hl4 => ⟨l3, l4, _, _, rfl, rfl, same_new hl4 _ _ _ h3, upd_same, (by show 40 ≤ sizeLine; decide), fun l5 hl5 => ?_⟩⟩
  rw [show (n15.map V.str ++ n13.map V.str ++ n12.map V.str) = n40.map V.str from rfl]
  have s5 := s3.trans ((same_new hl4 (.lst (n12.map V.str))).trans (same_new hl5 (.lst (n40.map V.str))))
  have h5 : (upd (upd H3 l4 (.lst (n12.map V.str))) l5 (.lst (n40.map V.str))) l5 = some (.lst (n40.map V.str)) := upd_same
  generalize upd (upd H3 l4 (.lst (n12.map V.str))) l5 (.lst (n40.map V.str)) = H5 at s5 h5 ⊢
  have W5 := hW.same s5
  have n5 : l5 ≠ p := fun z => by
    obtain ⟨_, _, _, _, e⟩ := W5
    rw [← z, h5] at e
    have := congrArg (fun o => match o with | some (HO.lst xs) => xs.length | _ => 0) e
    exact absurd (show (40 : Nat) = 4 from this) (by decide)
  refine ⟨_, rfl, _, rfl, _, rfl, l5, _, rfl, .inl (SqL.of h5), p, 40, rfl, by decide, by decide, W5, fun r H6 r0 r1 s6 W6 => ?_⟩
  obtain ⟨x, hx, hat⟩ := str_at (ws := n40) r0 r1
  exact ⟨l5, _, _, _, rfl, rfl, SqL.of (s6 _ _ n5 h5), hat, q x H6 (n40_ok x hx) ((but_same s5).trans s6) W6⟩
theorem ok_law_spoiled (T : Tx K mg a) : FnOk P w K mg base CX0 5 a.f_law_spoiled a.fd_law_spoiled ["_law_well_here", "_law_text_here"] spSpLine := by
  have G_law_draw : FnOk P w K mg base CX0 3 a.f_law_draw a.fd_law_draw ["_law_well_here", "_law_most"] spDraw := ok_law_draw T
  have G_law_menu : FnOk P w K mg base CX0 4 a.f_law_menu a.fd_law_menu ["_law_well_here"] spMenu := ok_law_menu T
  refine T.F_law_spoiled.ok sc_law_spoiled (fun vs H Q E h => ?_) (fun cdv A outer s H vs Q E hr h => ?_)
  · obtain ⟨_, _, rfl, _⟩ := h; rfl
  obtain ⟨p, x, rfl, hW, hx, q⟩ := h
  refine ⟨_, (pss_cons (ps_set (i := 2) sc_law_spoiled.nd rfl (Or.inl rfl) (pe_bm PySem.F.plainAttrs_str PySem.F.slot_str_split PySem.F.type_str_split mt_split (pv 1) (pa_cons pe_str pa_nil)))
      (pss_cons (ps_set (i := 3) sc_law_spoiled.nd rfl (Or.inl rfl) (pe_call G_law_draw (hr.mono (by first | decide | omega)) rfl T.m_law_draw T.F_law_draw.kp T.b_law_draw .nil pass0 (pa_cons (pv 0) (pa_cons (pe_callB call_len_seq rfl T.z_len PySem.boot_len (pa_cons (pv 2) pa_nil)) pa_nil))))
      (pss_cons (ps_set (i := 4) sc_law_spoiled.nd rfl (Or.inl rfl) (pe_call G_law_draw (hr.mono (by first | decide | omega)) rfl T.m_law_draw T.F_law_draw.kp T.b_law_draw .nil pass0 (pa_cons (pv 0) (pa_cons pe_int pa_nil))))
      (pss_cons (ps_if (pt_cmpR op_eq (pv 4) pe_int (nomark _)) (pss_one (ps_ret (pe_bm PySem.F.plainAttrs_str PySem.F.slot_str_join PySem.F.type_str_join mt_join pe_str (pa_cons (pe_op op_cat (pe_op op_cat (pe_slice sl_list (pv 2) po_none (po_some (pv 3))) (pe_lst (pa_cons (pe_call G_law_menu (hr.mono (by first | decide | omega)) rfl T.m_law_menu T.F_law_menu.kp T.b_law_menu .nil pass0 (pa_cons (pv 0) pa_nil)) pa_nil))) (pe_slice sl_list (pv 2) (po_some (pe_op op_add (pv 3) pe_int)) po_none)) pa_nil)))) pss_nil)
      (pss_cons (ps_if (pt_cmpR op_eq (pv 4) pe_int (nomark _)) (pss_one (ps_ret (pe_bm PySem.F.plainAttrs_str PySem.F.slot_str_join PySem.F.type_str_join mt_join pe_str (pa_cons (pe_op op_cat (pe_slice sl_list (pv 2) po_none (po_some (pv 3))) (pe_slice sl_list (pv 2) (po_some (pe_op op_add (pv 3) pe_int)) po_none)) pa_nil)))) pss_nil)
      (pss_cons (ps_if (pt_cmpR op_eq (pv 4) pe_int (nomark _)) (pss_one (ps_ret (pe_bm PySem.F.plainAttrs_str PySem.F.slot_str_join PySem.F.type_str_join mt_join pe_str (pa_cons (pe_op op_cat (pe_slice sl_list (pv 2) po_none (po_some (pe_op op_add (pv 3) pe_int))) (pe_slice sl_list (pv 2) (po_some (pv 3)) po_none)) pa_nil)))) pss_nil)
      (pss_one (ps_ret (pe_bm PySem.F.plainAttrs_str PySem.F.slot_str_join PySem.F.type_str_join mt_join pe_str (pa_cons (pe_op op_cat (pe_op op_cat (pe_slice sl_list (pv 2) po_none (po_some (pv 3))) (pe_lst (pa_cons (pe_call G_law_menu (hr.mono (by first | decide | omega)) rfl T.m_law_menu T.F_law_menu.kp T.b_law_menu .nil pass0 (pa_cons (pv 0) pa_nil)) pa_nil))) (pe_slice sl_list (pv 2) (po_some (pv 3)) po_none)) pa_nil)))))))))), ?_⟩
  refine ⟨_, rfl, rfl, _, _, rfl, rfl, blank_pos, (by omega), fun l hl => ?_⟩
  have s0 := same_new hl (.lst ((Txt.split x " ").map V.str))
  have hl0 : (upd H l (.lst ((Txt.split x " ").map V.str))) l = some (.lst ((Txt.split x " ").map V.str)) := upd_same
  have W0 := hW.same s0
  have npl : l ≠ p := hW.some_ hl
  have hws : wsum (Txt.split x " ") = x.length + 1 := by rw [blank_sg]; exact wsum_split x 32
  have hne : Txt.split x " " ≠ [] := by rw [blank_sg]; exact split_ne x 32
  generalize upd H l (.lst ((Txt.split x " ").map V.str)) = H0 at s0 hl0 W0 ⊢
  generalize Txt.split x " " = ws at hws hne hl0 ⊢
  have hpos : 0 < ws.length := List.length_pos_iff.mpr hne
  have hwl := wsum_len ws
  have sz : sizeLine = 16777216 := sizeLine_eq
  refine ⟨_, rfl, _, rfl, l, _, rfl, .inl (SqL.of hl0), p, _, rfl, (by rw [List.length_map]; omega), (by rw [List.length_map]; omega), W0, fun at_ H1 a0 a1 s1 W1 => ?_⟩
  rw [List.length_map] at a1
  obtain ⟨k, rfl⟩ := Int.eq_ofNat_of_zero_le a0
  have hk : k < ws.length := by omega
  have hl1 := s1 _ _ npl hl0
  refine ⟨_, rfl, p, 4, rfl, by decide, by decide, W1, fun way H2 w0 w1 s2 W2 => ?_⟩
  have hl2 := s2 _ _ npl hl1
  have e1 := cut_to ws k
  have e1' := cut_to ws (k + 1)
  have e2 := cut_from ws (k + 1)
  have e2' := cut_from ws k
  have c1 := wsum_cut ws k
  have c2 := wsum_cut ws (k + 1)
  have c3 := wsum_drop1 ws k
  have L1 := wsum_len (ws.take k)
  have L2 := wsum_len (ws.take (k + 1))
  have L3 := wsum_len (ws.drop k)
  have L4 := wsum_len (ws.drop (k + 1))
  have sB : SameBut p H H2 := (but_same s0).trans (s1.trans s2)
  refine ⟨_, rfl, rfl, _, rfl, ite2 (fun c => ?_) (fun c => ?_)⟩
  · refine ⟨rfl, _, rfl, _, rfl, _, rfl, l, _, rfl, SqL.of hl2, fun x1 hx1 => ?_⟩
    rw [e1]
    have t1 := same_new hx1 (.lst ((ws.take k).map V.str))
    refine ⟨_, rfl, p, rfl, W2.same t1, fun y H3 hy s3 W3 => ⟨(by show 1 ≤ sizeLine; decide), fun x2 hx2 => ?_⟩⟩
    have nx1 : x1 ≠ p := W2.some_ hx1
    have hx1' : H3 x1 = some (.lst ((ws.take k).map V.str)) := s3 _ _ nx1 upd_same
    have t2 := same_new hx2 (.lst [.str y])
    refine ⟨x1, x2, _, _, rfl, rfl, t2 _ _ hx1', upd_same, (by rw [List.length_map]; show (ws.take k).length + 1 ≤ sizeLine; omega), fun x3 hx3 => ?_⟩
    have t3 := same_new hx3 (.lst ((ws.take k).map V.str ++ [.str y]))
    have hl3 := t3 _ _ (t2 _ _ (s3 _ _ npl (t1 _ _ hl2)))
    refine ⟨_, rfl, _, rfl, _, _, rfl, rfl, _, rfl, l, _, rfl, SqL.of hl3, fun x4 hx4 => ?_⟩
    have e2n : cutV (ws.map V.str) (some ((k : Int) + 1)) none = (ws.drop (k + 1)).map V.str := e2
    rw [e2n]
    have t4 := same_new hx4 (.lst ((ws.drop (k + 1)).map V.str))
    refine ⟨x3, x4, _, _, rfl, rfl, t4 _ _ upd_same, upd_same, (by rw [List.length_append, List.length_map, List.length_map]; show (ws.take k).length + 1 + _ ≤ _; omega), fun x5 hx5 => ?_⟩
    have t5 := same_new hx5 (.lst ((ws.take k).map V.str ++ [.str y] ++ (ws.drop (k + 1)).map V.str))
    have hsum : wsum (ws.take k ++ [y] ++ ws.drop (k + 1)) ≤ x.length + 22 := by rw [wsum_app, wsum_app, wsum_one]; omega
    have hj := wsum_join (ws.take k ++ [y] ++ ws.drop (k + 1)) 32
    exact ⟨" ", x5, ws.take k ++ [y] ++ ws.drop (k + 1), rfl, rfl, SqL.of (by rw [upd_same, List.map_append, List.map_append]; rfl), join_ok (by omega), q _ _ (by rw [blank_sg]; omega) ((((sB.then t1).trans s3).then t2).then (t3.trans (t4.trans t5))) (W3.same (t2.trans (t3.trans (t4.trans t5))))⟩
  refine ⟨_, rfl, rfl, _, rfl, ite2 (fun c => ?_) (fun c => ?_)⟩
  · refine ⟨rfl, _, rfl, _, rfl, _, rfl, l, _, rfl, SqL.of hl2, fun x1 hx1 => ?_⟩
    rw [e1]
    have t1 := same_new hx1 (.lst ((ws.take k).map V.str))
    refine ⟨_, rfl, _, rfl, _, _, rfl, rfl, _, rfl, l, _, rfl, SqL.of (t1 _ _ hl2), fun x2 hx2 => ?_⟩
    have e2n : cutV (ws.map V.str) (some ((k : Int) + 1)) none = (ws.drop (k + 1)).map V.str := e2
    rw [e2n]
    have t2 := same_new hx2 (.lst ((ws.drop (k + 1)).map V.str))
    refine ⟨x1, x2, _, _, rfl, rfl, t2 _ _ upd_same, upd_same, (by rw [List.length_map, List.length_map]; omega), fun x3 hx3 => ?_⟩
    have t3 := same_new hx3 (.lst ((ws.take k).map V.str ++ (ws.drop (k + 1)).map V.str))
    have hsum : wsum (ws.take k ++ ws.drop (k + 1)) ≤ x.length + 22 := by rw [wsum_app]; omega
    have hj := wsum_join (ws.take k ++ ws.drop (k + 1)) 32
    exact ⟨" ", x3, ws.take k ++ ws.drop (k + 1), rfl, rfl, SqL.of (by rw [upd_same, List.map_append]), join_ok (by omega), q _ _ (by rw [blank_sg]; omega) (sB.then (t1.trans (t2.trans t3))) (W2.same (t1.trans (t2.trans t3)))⟩
  refine ⟨_, rfl, rfl, _, rfl, ite2 (fun c => ?_) (fun c => ?_)⟩
  · refine ⟨rfl, _, rfl, _, rfl, _, _, rfl, rfl, _, rfl, l, _, rfl, SqL.of hl2, fun x1 hx1 => ?_⟩
    have e1n : cutV (ws.map V.str) none (some ((k : Int) + 1)) = (ws.take (k + 1)).map V.str := e1'
    rw [e1n]
    have t1 := same_new hx1 (.lst ((ws.take (k + 1)).map V.str))
    refine ⟨_, rfl, _, rfl, _, rfl, l, _, rfl, SqL.of (t1 _ _ hl2), fun x2 hx2 => ?_⟩
    rw [e2']
    have t2 := same_new hx2 (.lst ((ws.drop k).map V.str))
    refine ⟨x1, x2, _, _, rfl, rfl, t2 _ _ upd_same, upd_same, (by rw [List.length_map, List.length_map]; omega), fun x3 hx3 => ?_⟩
    have t3 := same_new hx3 (.lst ((ws.take (k + 1)).map V.str ++ (ws.drop k).map V.str))
    have hsum : wsum (ws.take (k + 1) ++ ws.drop k) ≤ 2 * x.length + 2 := by rw [wsum_app]; omega
    have hj := wsum_join (ws.take (k + 1) ++ ws.drop k) 32
    exact ⟨" ", x3, ws.take (k + 1) ++ ws.drop k, rfl, rfl, SqL.of (by rw [upd_same, List.map_append]), join_ok (by omega), q _ _ (by rw [blank_sg]; omega) (sB.then (t1.trans (t2.trans t3))) (W2.same (t1.trans (t2.trans t3)))⟩
  · refine ⟨rfl, _, rfl, _, rfl, _, rfl, l, _, rfl, SqL.of hl2, fun x1 hx1 => ?_⟩
    rw [e1]
    have t1 := same_new hx1 (.lst ((ws.take k).map V.str))
    refine ⟨_, rfl, p, rfl, W2.same t1, fun y H3 hy s3 W3 => ⟨(by show 1 ≤ sizeLine; decide), fun x2 hx2 => ?_⟩⟩
    have nx1 : x1 ≠ p := W2.some_ hx1
    have hx1' : H3 x1 = some (.lst ((ws.take k).map V.str)) := s3 _ _ nx1 upd_same
    have t2 := same_new hx2 (.lst [.str y])
    refine ⟨x1, x2, _, _, rfl, rfl, t2 _ _ hx1', upd_same, (by rw [List.length_map]; show (ws.take k).length + 1 ≤ sizeLine; omega), fun x3 hx3 => ?_⟩
    have t3 := same_new hx3 (.lst ((ws.take k).map V.str ++ [.str y]))
    have hl3 := t3 _ _ (t2 _ _ (s3 _ _ npl (t1 _ _ hl2)))
    refine ⟨_, rfl, _, rfl, _, rfl, l, _, rfl, SqL.of hl3, fun x4 hx4 => ?_⟩
    rw [e2']
    have t4 := same_new hx4 (.lst ((ws.drop k).map V.str))
    refine ⟨x3, x4, _, _, rfl, rfl, t4 _ _ upd_same, upd_same, (by rw [List.length_append, List.length_map, List.length_map]; show (ws.take k).length + 1 + _ ≤ _; omega), fun x5 hx5 => ?_⟩
    have t5 := same_new hx5 (.lst ((ws.take k).map V.str ++ [.str y] ++ (ws.drop k).map V.str))
    have hsum : wsum (ws.take k ++ [y] ++ ws.drop k) ≤ x.length + 22 := by rw [wsum_app, wsum_app, wsum_one]; omega
    have hj := wsum_join (ws.take k ++ [y] ++ ws.drop k) 32
    exact ⟨" ", x5, ws.take k ++ [y] ++ ws.drop k, rfl, rfl, SqL.of (by rw [upd_same, List.map_append, List.map_append]; rfl), join_ok (by omega), q _ _ (by rw [blank_sg]; omega) ((((sB.then t1).trans s3).then t2).then (t3.trans (t4.trans t5))) (W3.same (t2.trans (t3.trans (t4.trans t5))))⟩
end
end K84
set_option Elab.async false
set_option linter.all false
set_option maxRecDepth 100000
set_option maxHeartbeats 4000000
namespace K84
open PySem L2 PyProof.Rows Ex
def Bd : Nat → Nat
  | 0 => 4000
  | n + 1 => 2 * Bd n + 30
theorem Bd_le : ∀ j, j ≤ 2 → Bd j ≤ 33000 := fun j h => by
  rcases (by omega : j = 0 ∨ j = 1 ∨ j = 2) with rfl | rfl | rfl <;> decide
theorem row_len {n : Int} {l : Str} (hn : Num n) (hl : l.length ≤ 30) : (Ch.row n l).text.length ≤ 100 := by
  unfold Ch.text
  rw [join_text]
  have h1 := sg_join_sum 32 (Ch.row n l).words
  have h2 : ("row" : Str).length = 3 := by decide +kernel
  have h3 := (wd_signs hn.wdy).2.1
  have e : ((Ch.row n l).words.map (·.length)).sum = ("row" : Str).length + ((wd n).length + (l.length + 0)) := rfl
  have e2 : (Ch.row n l).words.length = 3 := rfl
  omega
theorem ch_len {c : Ch} (h : c.Ok) : c.text.length ≤ 4000 := by
  cases c with
  | row n l =>
    obtain ⟨hn, l1, l2, l3⟩ : Num n ∧ 1 ≤ l.length ∧ l.length ≤ 30 ∧ 10 ∉ l.cps.toList := h
    have := row_len hn l2
    omega
  | goes ad o =>
    have hA : Ad1 ad := h
    have := tight_len (goes_tight (t := o) hA)
    have e : (Ch.goes ad o).words.length = 3 := rfl
    unfold Ch.text
    omega
  | start p n =>
    obtain ⟨hP, hn⟩ : p.Ok ∧ Num n := h
    have := tight_len (start_tight hP hn)
    have e : (Ch.start p n).words.length ≤ 5 := by
      have := p.len
      simp [Ch.words]; omega
    unfold Ch.text
    omega
def six6 (t : Str) : List Str := [t, t ++ " ", " " ++ t, "row 7 " ++ t, t ++ " yes", t ++ "\n"]
theorem six6_len {t : Str} (h : t.length ≤ 900000) : ∀ u ∈ six6 t, u.length ≤ 1000000 := fun u hu => by
  have b1 : (" " : Str).length = 1 := by decide +kernel
  have b2 : ("row 7 " : Str).length = 6 := by decide +kernel
  have b3 : (" yes" : Str).length = 4 := by decide +kernel
  have b4 : ("\n" : Str).length = 1 := by decide +kernel
  unfold six6 at hu
  simp only [List.mem_cons, List.not_mem_nil, or_false] at hu
  rcases hu with rfl | rfl | rfl | rfl | rfl | rfl <;> (try rw [Str.length_append]) <;> omega
def nine (t1 : Addr) : List V := [.non, .int 7, .bl true, .ref t1, .str "", .str "row", .str "row 3", .str "row 3 ", .str "start"]
theorem no0 : chT "" = none := Option.isNone_iff_eq_none.mp (by decide +kernel)
theorem no1 : chT "row" = none := Option.isNone_iff_eq_none.mp (by decide +kernel)
theorem no2 : chT "row 3" = none := Option.isNone_iff_eq_none.mp (by decide +kernel)
theorem no3 : chT "row 3 " = none := Option.isNone_iff_eq_none.mp (by decide +kernel)
theorem no4 : chT "start" = none := Option.isNone_iff_eq_none.mp (by decide +kernel)
theorem other_at {K : PySem.W.Frag} {H : Hp} {t1 : Addr} {z' : List V} {r : Int} (h0 : 0 ≤ r) (h1 : r < 9) (ht : H t1 = some (.tup z')) :
    ∃ v, atI (nine t1) r = some v ∧ ((∃ ty, TyOf K H v ty ∧ PySem.W.kitOne K ty (.type "str") = some false) ∨ ∃ u, v = .str u ∧ u.length ≤ 1000000 ∧ chT u = none) := by
  rcases (by omega : r = 0 ∨ r = 1 ∨ r = 2 ∨ r = 3 ∨ r = 4 ∨ r = 5 ∨ r = 6 ∨ r = 7 ∨ r = 8) with rfl | rfl | rfl | rfl | rfl | rfl | rfl | rfl | rfl
  · exact ⟨_, rfl, .inl ⟨_, TyOf.non, rfl⟩⟩
  · exact ⟨_, rfl, .inl ⟨_, TyOf.int _, rfl⟩⟩
  · exact ⟨_, rfl, .inl ⟨_, TyOf.bl _, rfl⟩⟩
  · exact ⟨_, rfl, .inl ⟨_, TyOf.tup ht, rfl⟩⟩
  · exact ⟨_, rfl, .inr ⟨_, rfl, by decide +kernel, no0⟩⟩
  · exact ⟨_, rfl, .inr ⟨_, rfl, by decide +kernel, no1⟩⟩
  · exact ⟨_, rfl, .inr ⟨_, rfl, by decide +kernel, no2⟩⟩
  · exact ⟨_, rfl, .inr ⟨_, rfl, by decide +kernel, no3⟩⟩
  · exact ⟨_, rfl, .inr ⟨_, rfl, by decide +kernel, no4⟩⟩
theorem room0 {k : Nat} {A : Around} (hr : Room k A) : A.units + 0 < cLine := by have := hr.un; omega
section
variable {P : Program} {w : World} {K : PySem.W.Frag} {mg : Str → Option Value} {base : Heap} {a : Ad}
theorem ok_law (T : Tx K mg a) : FnOk P w K mg base CX0 8 a.f_law a.fd_law ["_law_script"] (spLaw K) := by
  have G_law_well : FnOk P w K mg base CX0 2 a.f_law_well a.fd_law_well ["_law_script", "_law_k"] (spWell K) := ok_law_well T
  have G_law_draw : FnOk P w K mg base CX0 3 a.f_law_draw a.fd_law_draw ["_law_well_here", "_law_most"] spDraw := ok_law_draw T
  have G_law_change : FnOk P w K mg base CX0 7 a.f_law_change a.fd_law_change ["_law_well_here"] spChange := ok_law_change T
  have G_law_text : FnOk P w K mg base CX0 2 a.f_law_text a.fd_law_text ["_law_change_here"] spChText := ok_law_text T
  have G_law_spoiled : FnOk P w K mg base CX0 5 a.f_law_spoiled a.fd_law_spoiled ["_law_well_here", "_law_text_here"] spSpLine := ok_law_spoiled T
  have G_law_found : FnOk P w K mg base CX0 7 a.f_law_found a.fd_law_found ["_law_text_here"] (spFound K) := ok_law_found T
  have G_law_due : FnOk P w K mg base CX0 4 a.f_law_due a.fd_law_due ["_law_text_here"] spDue := ok_law_due T
  refine T.F_law.ok sc_law (fun vs H Q E h => ?_) (fun cdv A outer s H vs Q E hr h => ?_)
  · obtain ⟨_, _, rfl, _⟩ := h; rfl
  obtain ⟨p, ns, rfl, hS, hlen, q⟩ := h
  refine ⟨_, (pss_cons (ps_for PassesOwn.never rfl (pi_range2 rfl T.z_range (pa_cons pe_int (pa_cons pe_int pa_nil))) (pg_name (i := 1) sc_law.nd rfl (Or.inl rfl)) (pss_cons (ps_set (i := 2) sc_law.nd rfl (Or.inl rfl) (pe_call G_law_text (hr.mono (by first | decide | omega)) rfl T.m_law_text T.F_law_text.kp T.b_law_text .nil pass0 (pa_cons (pe_call G_law_change (hr.mono (by first | decide | omega)) rfl T.m_law_change T.F_law_change.kp T.b_law_change .nil pass0 (pa_cons (pe_call G_law_well (hr.mono (by first | decide | omega)) rfl T.m_law_well T.F_law_well.kp T.b_law_well .nil pass0 (pa_cons (pv 0) (pa_cons (pv 1) pa_nil))) pa_nil)) pa_nil)))
      (pss_cons (ps_set (i := 3) sc_law.nd rfl (Or.inl rfl) (pe_call G_law_well (hr.mono (by first | decide | omega)) rfl T.m_law_well T.F_law_well.kp T.b_law_well .nil pass0 (pa_cons (pv 0) (pa_cons (pe_op op_add (pv 1) pe_int) pa_nil))))
      (pss_cons (ps_for PassesOwn.never rfl (pi_range1 rfl T.z_range (pa_cons (pe_call G_law_draw (hr.mono (by first | decide | omega)) rfl T.m_law_draw T.F_law_draw.kp T.b_law_draw .nil pass0 (pa_cons (pv 3) (pa_cons pe_int pa_nil))) pa_nil)) (pg_name (i := 4) sc_law.nd rfl (Or.inl rfl)) (pss_one (ps_set (i := 2) sc_law.nd rfl (Or.inl rfl) (pe_call G_law_spoiled (hr.mono (by first | decide | omega)) rfl T.m_law_spoiled T.F_law_spoiled.kp T.b_law_spoiled .nil pass0 (pa_cons (pv 3) (pa_cons (pv 2) pa_nil))))))
      (pss_cons (ps_for PassesOwn.never rfl (pi_list (pe_lst (pa_cons (pv 2) (pa_cons (pe_op op_add_str (pv 2) pe_str) (pa_cons (pe_op op_add_str pe_str (pv 2)) (pa_cons (pe_op op_add_str pe_str (pv 2)) (pa_cons (pe_op op_add_str (pv 2) pe_str) (pa_cons (pe_op op_add_str (pv 2) pe_str) pa_nil)))))))) (pg_name (i := 5) sc_law.nd rfl (Or.inl rfl)) (pss_one (ps_if (pt_cmpR op_ne_same (pe_call G_law_found (hr.mono (by first | decide | omega)) rfl T.m_law_found T.F_law_found.kp T.b_law_found .nil pass0 (pa_cons (pv 5) pa_nil)) (pe_call G_law_due (hr.mono (by first | decide | omega)) rfl T.m_law_due T.F_law_due.kp T.b_law_due .nil pass0 (pa_cons (pv 5) pa_nil)) (nomark _)) (pss_one (ps_ret pe_bl)) pss_nil)))
      (pss_cons (ps_set (i := 6) sc_law.nd rfl (Or.inl rfl) (pe_ix ix_list (pe_lst (pa_cons pe_non (pa_ci (pa_cons pe_bl (pa_cons (pe_tup (pa_cons pe_str (pa_cons (pe_tup pa_nil) (pa_cons pe_bl pa_nil)))) (pa_cs (pa_cs (pa_cs (pa_cs (pa_cs pa_nil)))))))))) (pe_call G_law_draw (hr.mono (by first | decide | omega)) rfl T.m_law_draw T.F_law_draw.kp T.b_law_draw .nil pass0 (pa_cons (pv 3) (pa_cons pe_int pa_nil))) (fun _ _ => rfl)))
      (pss_one (ps_if (pt_cmpR op_ne (pe_call G_law_found (hr.mono (by first | decide | omega)) rfl T.m_law_found T.F_law_found.kp T.b_law_found .nil pass0 (pa_cons (pv 6) pa_nil)) pe_str (nomark _)) (pss_one (ps_ret pe_bl)) pss_nil))))))))
      (pss_one (ps_ret pe_bl))), ?_⟩
  have sz : sizeLine = 16777216 := sizeLine_eq
  refine ⟨1, 16, rfl, ⟨by decide, by decide, by decide, by decide⟩, for_range (n := 15) (fun i σ H1 => ∃ v1 v2 v3 v4 v5 v6 : Option V, σ = [some (.ref p), v1, v2, v3, v4, v5, v6] ∧ Same H H1) ⟨none, none, none, none, none, none, rfl, Same.refl H⟩ ?_ ?_⟩
  · rintro i σ H1 hi ⟨v1, v2, v3, v4, v5, v6, rfl, s1⟩
    refine ⟨_, rfl, _, rfl, p, 1 + (i : Int), ns, rfl, s1.seq hS, by omega, fun x H2 s2 f2 W2 => ?_⟩
    refine ⟨x, rfl, W2, fun v c H3 hc s3 W3 hC => ?_⟩
    refine ⟨c, v, rfl, hC, hc, fun H3' s3' => ?_⟩
    have sm3 : Same H H3' := fun b o e => s3' _ _ (s3 b o (ne_of_none (s1 _ _ e) f2) (s2 _ _ (s1 _ _ e)))
    refine ⟨_, rfl, _, rfl, _, _, rfl, rfl, p, 1 + (i : Int) + 15, ns, rfl, sm3.seq hS, by omega, fun x2 H4 s4 f4 W4 => ?_⟩
    have hL := ch_len hc
    generalize c.text = t at hL ⊢
    refine ⟨_, rfl, x2, 3, rfl, by decide, by decide, W4, fun n5 H5 m0 m1 s5 W5 => ⟨n5, rfl, by omega, by omega, ?_⟩⟩
    refine for_range (n := n5.toNat) (fun j σ H6 => ∃ (t : Str) (v4 : Option V), σ = [some (.ref p), some (.int (1 + (i : Int))), some (.str t), some (.ref x2), v4, v5, v6] ∧ SameBut x2 H3' H6 ∧ Well H6 x2 ∧ t.length ≤ Bd j)
      ⟨t, v4, rfl, (but_same s4).trans s5, W5, hL⟩ ?_ ?_
    · rintro j σ H6 hj ⟨t, v4, rfl, s6, W6, hL⟩
      have hB := Bd_le j (by omega)
      refine ⟨_, rfl, _, rfl, x2, t, rfl, W6, by omega, fun t' H7 hL' s7 W7 => ?_⟩
      exact ⟨t', _, rfl, s6.trans s7, W7, by show t'.length ≤ 2 * Bd j + 30; omega⟩
    · rintro σ H6 ⟨t, v4, rfl, s6, W6, hL⟩
      have hB := Bd_le n5.toNat (by omega)
      have ht : t.length ≤ 900000 := by omega
      have b1 : (" " : Str).length = 1 := by decide +kernel
      have b2 : ("row 7 " : Str).length = 6 := by decide +kernel
      have b3 : (" yes" : Str).length = 4 := by decide +kernel
      have b4 : ("\n" : Str).length = 1 := by decide +kernel
      refine ⟨_, rfl, _, rfl, _, _, rfl, rfl, (by rw [b1]; omega), _, rfl, _, _, rfl, rfl, (by rw [b1]; omega), _, rfl, _, _, rfl, rfl, (by rw [b2]; omega), _, rfl, _, _, rfl, rfl, (by rw [b3]; omega), _, rfl, _, _, rfl, rfl, (by rw [b4]; omega), (by show 6 ≤ sizeLine; decide), fun lo hlo => ?_⟩
      have s7 : Same H6 (upd H6 lo (.lst ((six6 t).map V.str))) := same_new hlo _
      have h7 : (upd H6 lo (.lst ((six6 t).map V.str))) lo = some (.lst ((six6 t).map V.str)) := upd_same
      refine ⟨lo, rfl, ⟨_, SqL.of h7⟩, ?_⟩
      generalize hU : upd H6 lo (.lst ((six6 t).map V.str)) = H7 at s7 h7
      have hU' : upd H6 lo (.lst [.str t, .str (t ++ " "), .str (" " ++ t), .str ("row 7 " ++ t), .str (t ++ " yes"), .str (t ++ "\n")]) = H7 := hU
      rw [hU']
      have hlen6 : ∀ y ∈ (six6 t).map V.str, ∃ u, y = .str u ∧ u.length ≤ 1000000 := fun y hy => by
        obtain ⟨u, hu, rfl⟩ := List.mem_map.mp hy
        exact ⟨u, rfl, six6_len ht u hu⟩
      refine for_list (xs := (six6 t).map V.str) (fun j σ H8 => ∃ v5 : Option V, σ = [some (.ref p), some (.int (1 + (i : Int))), some (.str t), some (.ref x2), v4, v5, v6] ∧ Same H7 H8) ⟨v5, rfl, Same.refl H7⟩ (fun j σ H8 _ h => by obtain ⟨_, _, s8⟩ := h; exact SqL.of (s8 _ _ h7)) ?_ ?_
      · rintro j y σ H8 hy ⟨v5, rfl, s8⟩
        obtain ⟨u, rfl, hu⟩ := hlen6 y (List.mem_of_getElem? hy)
        refine ⟨_, rfl, _, rfl, .inl ⟨u, rfl, hu, fun c he r H9 s9 hb => ?_, fun hn H9 s9 => ?_⟩⟩
        · refine ⟨_, rfl, u, rfl, hu, fun c' he' r' Ha sa hb' => ?_, fun hn => absurd (he.symm.trans hn) (by intro z; cases z)⟩
          have ee : c' = c := Option.some.inj (he'.symm.trans he)
          subst ee
          exact ⟨3, _, ch_dt (hb.same sa), ch_dt hb', room3 hr, _, rfl, iteF ⟨_, rfl, s8.trans (s9.trans sa)⟩⟩
        · refine ⟨_, rfl, u, rfl, hu, fun es' he' => absurd (he'.symm.trans hn) (by intro z; cases z), fun _ Ha sa => ?_⟩
          exact ⟨0, .str "refused", rfl, rfl, room0 hr, _, rfl, iteF ⟨_, rfl, s8.trans (s9.trans sa)⟩⟩
      · rintro σ H8 ⟨v5, rfl, s8⟩
        have W8 := (W6.same s7).same s8
        have s38 : SameBut x2 H3' H8 := (s6.then s7).then s8
        refine ⟨(by show 0 ≤ sizeLine; decide), fun t0 ht0 => ⟨(by show 3 ≤ sizeLine; decide), fun t1 ht1 => ⟨(by show 9 ≤ sizeLine; decide), fun l5 hl5 => ?_⟩⟩⟩
        have u2 := same_new ht0 (.tup [])
        have u3 := same_new ht1 (.tup [.str "goes", .ref t0, .bl true])
        have u4 := same_new hl5 (.lst (nine t1))
        have k3 := u4 _ _ (upd_same (a := t1))
        have k4 : (upd (upd (upd H8 t0 (.tup [])) t1 (.tup [.str "goes", .ref t0, .bl true])) l5 (.lst (nine t1))) l5 = some (.lst (nine t1)) := upd_same
        have U := u2.trans (u3.trans u4)
        have n3 : t1 ≠ x2 := (W8.same u2).some_ ht1
        have n5' : l5 ≠ x2 := ((W8.same u2).same u3).some_ hl5
        have hU2 : ∃ H9, H9 = (upd (upd (upd H8 t0 (.tup [])) t1 (.tup [.str "goes", .ref t0, .bl true])) l5 (.lst (nine t1))) := ⟨_, rfl⟩
        obtain ⟨H9, hH9⟩ := hU2
        rw [← hH9] at U k3 k4
        have hH9' : upd (upd (upd H8 t0 (.tup [])) t1 (.tup [.str "goes", .ref t0, .bl true])) l5 (.lst [.non, .int 7, .bl true, .ref t1, .str "", .str "row", .str "row 3", .str "row 3 ", .str "start"]) = H9 := hH9.symm
        rw [hH9']
        refine ⟨_, rfl, x2, 9, rfl, by decide, by decide, W8.same U, fun r5 Ha r0 r1 sa Wa => ?_⟩
        obtain ⟨v, hat, hk⟩ := other_at (K := K) r0 r1 (sa _ _ n3 k3)
        refine ⟨l5, nine t1, _, _, rfl, rfl, SqL.of (sa _ _ n5' k4), hat, ?_⟩
        have fin : ∀ Hb, Same Ha Hb → Same H Hb := fun Hb sb b o e => by
          have e3 := sm3 _ _ e
          exact sb _ _ (sa _ _ (ne_of_none e3 f4) (U _ _ (s38 _ _ (ne_of_none e3 f4) e3)))
        rcases hk with ⟨ty, hty, hk⟩ | ⟨u, rfl, hu, hn⟩
        · exact ⟨_, rfl, v, rfl, .inr ⟨ty, hty, hk, fun Hb sb => ⟨rfl, _, rfl, iteB (neq_f rfl) ⟨_, _, _, _, _, _, rfl, fin Hb sb⟩⟩⟩⟩
        · exact ⟨_, rfl, .str u, rfl, .inl ⟨u, rfl, hu, fun c' he' => absurd (he'.symm.trans hn) (by intro z; cases z), fun _ Hb sb => ⟨rfl, _, rfl, iteB (neq_f rfl) ⟨_, _, _, _, _, _, rfl, fin Hb sb⟩⟩⟩⟩
  · rintro σ H2 ⟨v1, v2, v3, v4, v5, v6, rfl, s2⟩
    exact q H2
end
end K84
set_option Elab.async false
set_option linter.all false
set_option maxRecDepth 100000
set_option maxHeartbeats 4000000
namespace K84
open PySem L2 PyProof.Rows Ex
theorem all_mk {l : PySem.W.OpenLaw} {w : World} {K : PySem.W.Frag} {h : Heap} {mg : Str → Option Value} {fa : Addr} (X : K.In h) (G : h.Ns mainGlobals mg) (hfa : mg "law" = some (.ref fa))
    {f1 : Addr} {od1 an1 : Option Addr} {sl1 : Array (Option Value)} {oc1 kV1 dc1 pm1 cd1 ct1 : Value}
    {f2 : Addr} {od2 an2 : Option Addr} {sl2 : Array (Option Value)} {oc2 kV2 dc2 pm2 cd2 ct2 : Value}
    {f3 : Addr} {od3 an3 : Option Addr} {sl3 : Array (Option Value)} {oc3 kV3 dc3 pm3 cd3 ct3 : Value}
    {f4 : Addr} {od4 an4 : Option Addr} {sl4 : Array (Option Value)} {oc4 kV4 dc4 pm4 cd4 ct4 : Value}
    {f5 : Addr} {od5 an5 : Option Addr} {sl5 : Array (Option Value)} {oc5 kV5 dc5 pm5 cd5 ct5 : Value}
    {f6 : Addr} {od6 an6 : Option Addr} {sl6 : Array (Option Value)} {oc6 kV6 dc6 pm6 cd6 ct6 : Value}
    {f7 : Addr} {od7 an7 : Option Addr} {sl7 : Array (Option Value)} {oc7 kV7 dc7 pm7 cd7 ct7 : Value}
    {f8 : Addr} {od8 an8 : Option Addr} {sl8 : Array (Option Value)} {oc8 kV8 dc8 pm8 cd8 ct8 : Value}
    {f9 : Addr} {od9 an9 : Option Addr} {sl9 : Array (Option Value)} {oc9 kV9 dc9 pm9 cd9 ct9 : Value}
    {f10 : Addr} {od10 an10 : Option Addr} {sl10 : Array (Option Value)} {oc10 kV10 dc10 pm10 cd10 ct10 : Value}
    {f11 : Addr} {od11 an11 : Option Addr} {sl11 : Array (Option Value)} {oc11 kV11 dc11 pm11 cd11 ct11 : Value}
    {f12 : Addr} {od12 an12 : Option Addr} {sl12 : Array (Option Value)} {oc12 kV12 dc12 pm12 cd12 ct12 : Value}
    {f13 : Addr} {od13 an13 : Option Addr} {sl13 : Array (Option Value)} {oc13 kV13 dc13 pm13 cd13 ct13 : Value}
    {f14 : Addr} {od14 an14 : Option Addr} {sl14 : Array (Option Value)} {oc14 kV14 dc14 pm14 cd14 ct14 : Value}
    {f15 : Addr} {od15 an15 : Option Addr} {sl15 : Array (Option Value)} {oc15 kV15 dc15 pm15 cd15 ct15 : Value}
    {f16 : Addr} {od16 an16 : Option Addr} {sl16 : Array (Option Value)} {oc16 kV16 dc16 pm16 cd16 ct16 : Value}
    {f17 : Addr} {od17 an17 : Option Addr} {sl17 : Array (Option Value)} {oc17 kV17 dc17 pm17 cd17 ct17 : Value}
    {f18 : Addr} {od18 an18 : Option Addr} {sl18 : Array (Option Value)} {oc18 kV18 dc18 pm18 cd18 ct18 : Value}
    {f19 : Addr} {od19 an19 : Option Addr} {sl19 : Array (Option Value)} {oc19 kV19 dc19 pm19 cd19 ct19 : Value}
    {f20 : Addr} {od20 an20 : Option Addr} {sl20 : Array (Option Value)} {oc20 kV20 dc20 pm20 cd20 ct20 : Value}
    {f21 : Addr} {od21 an21 : Option Addr} {sl21 : Array (Option Value)} {oc21 kV21 dc21 pm21 cd21 ct21 : Value}
    {f22 : Addr} {od22 an22 : Option Addr} {sl22 : Array (Option Value)} {oc22 kV22 dc22 pm22 cd22 ct22 : Value}
    {f23 : Addr} {od23 an23 : Option Addr} {sl23 : Array (Option Value)} {oc23 kV23 dc23 pm23 cd23 ct23 : Value}
    {f24 : Addr} {od24 an24 : Option Addr} {sl24 : Array (Option Value)} {oc24 kV24 dc24 pm24 cd24 ct24 : Value}
    {f25 : Addr} {od25 an25 : Option Addr} {sl25 : Array (Option Value)} {oc25 kV25 dc25 pm25 cd25 ct25 : Value}
    {f26 : Addr} {od26 an26 : Option Addr} {sl26 : Array (Option Value)} {oc26 kV26 dc26 pm26 cd26 ct26 : Value}
    {f27 : Addr} {od27 an27 : Option Addr} {sl27 : Array (Option Value)} {oc27 kV27 dc27 pm27 cd27 ct27 : Value}
    {f28 : Addr} {od28 an28 : Option Addr} {sl28 : Array (Option Value)} {oc28 kV28 dc28 pm28 cd28 ct28 : Value}
    {f29 : Addr} {od29 an29 : Option Addr} {sl29 : Array (Option Value)} {oc29 kV29 dc29 pm29 cd29 ct29 : Value}
    {f30 : Addr} {od30 an30 : Option Addr} {sl30 : Array (Option Value)} {oc30 kV30 dc30 pm30 cd30 ct30 : Value}
    {f31 : Addr} {od31 an31 : Option Addr} {sl31 : Array (Option Value)} {oc31 kV31 dc31 pm31 cd31 ct31 : Value}
    {f32 : Addr} {od32 an32 : Option Addr} {sl32 : Array (Option Value)} {oc32 kV32 dc32 pm32 cd32 ct32 : Value}
    {X_NoText : Addr}
    {X_HadError : Addr}
    {X_NoChange : Addr}
    {X_NoPlace : Addr}
    {X_NoProgram : Addr}
    {X_NoValue : Addr}
    {t_LETTERS : Tok}
    {t_FIGURES : Tok}
    {t_MOST_FIGURES : Tok}
    {t_MOST_LETTERS : Tok}
    {t_MOST_NUMBERS : Tok}
    {t_NO_NUMBERS : Tok}
    {r_LANGUAGE_WORDS : Addr} {od_LANGUAGE_WORDS : Option Addr} {n_LANGUAGE_WORDS : Nat} {sl_LANGUAGE_WORDS : Array (Option Value)} {t_LANGUAGE_WORDS_0 t_LANGUAGE_WORDS_1 t_LANGUAGE_WORDS_2 t_LANGUAGE_WORDS_3 t_LANGUAGE_WORDS_4 t_LANGUAGE_WORDS_5 t_LANGUAGE_WORDS_6 t_LANGUAGE_WORDS_7 t_LANGUAGE_WORDS_8 t_LANGUAGE_WORDS_9 t_LANGUAGE_WORDS_10 t_LANGUAGE_WORDS_11 t_LANGUAGE_WORDS_12 t_LANGUAGE_WORDS_13 t_LANGUAGE_WORDS_14 t_LANGUAGE_WORDS_15 t_LANGUAGE_WORDS_16 t_LANGUAGE_WORDS_17 t_LANGUAGE_WORDS_18 t_LANGUAGE_WORDS_19 t_LANGUAGE_WORDS_20 t_LANGUAGE_WORDS_21 : Tok}
    {cdx_NoText : ClassData}
    {cdx_NoChange : ClassData}
    {cdx_NoPlace : ClassData}
    {cdx_NoProgram : ClassData}
    {cdx_NoValue : ClassData}
    (a1 : PySem.W.nsIn K mainGlobals "is_made_of" = some (some (.ref f1)))
    (l1 : K.lookup f1 = some ⟨oc1, od1, .func (PySem.W.fnOf "is_made_of" "is_made_of" (defArgs s_is_made_of) (defBody s_is_made_of) (defScope s_is_made_of) .none kV1 dc1 pm1 an1 cd1 ct1), sl1⟩)
    (c1 : PySem.W.codeIn K cd1 "is_made_of" = true)
    (k1 : PySem.W.keepIn K (.ref f1) = true)
    (a2 : PySem.W.nsIn K mainGlobals "is_name" = some (some (.ref f2)))
    (l2 : K.lookup f2 = some ⟨oc2, od2, .func (PySem.W.fnOf "is_name" "is_name" (defArgs s_is_name) (defBody s_is_name) (defScope s_is_name) .none kV2 dc2 pm2 an2 cd2 ct2), sl2⟩)
    (c2 : PySem.W.codeIn K cd2 "is_name" = true)
    (k2 : PySem.W.keepIn K (.ref f2) = true)
    (a3 : PySem.W.nsIn K mainGlobals "is_number_text" = some (some (.ref f3)))
    (l3 : K.lookup f3 = some ⟨oc3, od3, .func (PySem.W.fnOf "is_number_text" "is_number_text" (defArgs s_is_number_text) (defBody s_is_number_text) (defScope s_is_number_text) .none kV3 dc3 pm3 an3 cd3 ct3), sl3⟩)
    (c3 : PySem.W.codeIn K cd3 "is_number_text" = true)
    (k3 : PySem.W.keepIn K (.ref f3) = true)
    (a4 : PySem.W.nsIn K mainGlobals "read_address" = some (some (.ref f4)))
    (l4 : K.lookup f4 = some ⟨oc4, od4, .func (PySem.W.fnOf "read_address" "read_address" (defArgs s_read_address) (defBody s_read_address) (defScope s_read_address) .none kV4 dc4 pm4 an4 cd4 ct4), sl4⟩)
    (c4 : PySem.W.codeIn K cd4 "read_address" = true)
    (k4 : PySem.W.keepIn K (.ref f4) = true)
    (a5 : PySem.W.nsIn K mainGlobals "read_number" = some (some (.ref f5)))
    (l5 : K.lookup f5 = some ⟨oc5, od5, .func (PySem.W.fnOf "read_number" "read_number" (defArgs s_read_number) (defBody s_read_number) (defScope s_read_number) .none kV5 dc5 pm5 an5 cd5 ct5), sl5⟩)
    (c5 : PySem.W.codeIn K cd5 "read_number" = true)
    (k5 : PySem.W.keepIn K (.ref f5) = true)
    (a6 : PySem.W.nsIn K mainGlobals "read_name" = some (some (.ref f6)))
    (l6 : K.lookup f6 = some ⟨oc6, od6, .func (PySem.W.fnOf "read_name" "read_name" (defArgs s_read_name) (defBody s_read_name) (defScope s_read_name) .none kV6 dc6 pm6 an6 cd6 ct6), sl6⟩)
    (c6 : PySem.W.codeIn K cd6 "read_name" = true)
    (k6 : PySem.W.keepIn K (.ref f6) = true)
    (a7 : PySem.W.nsIn K mainGlobals "read_change" = some (some (.ref f7)))
    (l7 : K.lookup f7 = some ⟨oc7, od7, .func (PySem.W.fnOf "read_change" "read_change" (defArgs s_read_change) (defBody s_read_change) (defScope s_read_change) .none kV7 dc7 pm7 an7 cd7 ct7), sl7⟩)
    (c7 : PySem.W.codeIn K cd7 "read_change" = true)
    (k7 : PySem.W.keepIn K (.ref f7) = true)
    (a8 : PySem.W.nsIn K mainGlobals "read_row_change" = some (some (.ref f8)))
    (l8 : K.lookup f8 = some ⟨oc8, od8, .func (PySem.W.fnOf "read_row_change" "read_row_change" (defArgs s_read_row_change) (defBody s_read_row_change) (defScope s_read_row_change) .none kV8 dc8 pm8 an8 cd8 ct8), sl8⟩)
    (c8 : PySem.W.codeIn K cd8 "read_row_change" = true)
    (k8 : PySem.W.keepIn K (.ref f8) = true)
    (a9 : PySem.W.nsIn K mainGlobals "read_place" = some (some (.ref f9)))
    (l9 : K.lookup f9 = some ⟨oc9, od9, .func (PySem.W.fnOf "read_place" "read_place" (defArgs s_read_place) (defBody s_read_place) (defScope s_read_place) .none kV9 dc9 pm9 an9 cd9 ct9), sl9⟩)
    (c9 : PySem.W.codeIn K cd9 "read_place" = true)
    (k9 : PySem.W.keepIn K (.ref f9) = true)
    (a10 : PySem.W.nsIn K mainGlobals "read_truth" = some (some (.ref f10)))
    (l10 : K.lookup f10 = some ⟨oc10, od10, .func (PySem.W.fnOf "read_truth" "read_truth" (defArgs s_read_truth) (defBody s_read_truth) (defScope s_read_truth) .none kV10 dc10 pm10 an10 cd10 ct10), sl10⟩)
    (c10 : PySem.W.codeIn K cd10 "read_truth" = true)
    (k10 : PySem.W.keepIn K (.ref f10) = true)
    (a11 : PySem.W.nsIn K mainGlobals "check_text" = some (some (.ref f11)))
    (l11 : K.lookup f11 = some ⟨oc11, od11, .func (PySem.W.fnOf "check_text" "check_text" (defArgs s_check_text) (defBody s_check_text) (defScope s_check_text) .none kV11 dc11 pm11 an11 cd11 ct11), sl11⟩)
    (c11 : PySem.W.codeIn K cd11 "check_text" = true)
    (k11 : PySem.W.keepIn K (.ref f11) = true)
    (a12 : PySem.W.nsIn K mainGlobals "_law_cell" = some (some (.ref f12)))
    (l12 : K.lookup f12 = some ⟨oc12, od12, .func (PySem.W.fnOf "_law_cell" "_law_cell" (defArgs s_law_cell) (defBody s_law_cell) (defScope s_law_cell) .none kV12 dc12 pm12 an12 cd12 ct12), sl12⟩)
    (c12 : PySem.W.codeIn K cd12 "_law_cell" = true)
    (k12 : PySem.W.keepIn K (.ref f12) = true)
    (a13 : PySem.W.nsIn K mainGlobals "_law_mixed" = some (some (.ref f13)))
    (l13 : K.lookup f13 = some ⟨oc13, od13, .func (PySem.W.fnOf "_law_mixed" "_law_mixed" (defArgs s_law_mixed) (defBody s_law_mixed) (defScope s_law_mixed) .none kV13 dc13 pm13 an13 cd13 ct13), sl13⟩)
    (c13 : PySem.W.codeIn K cd13 "_law_mixed" = true)
    (k13 : PySem.W.keepIn K (.ref f13) = true)
    (a14 : PySem.W.nsIn K mainGlobals "_law_twice" = some (some (.ref f14)))
    (l14 : K.lookup f14 = some ⟨oc14, od14, .func (PySem.W.fnOf "_law_twice" "_law_twice" (defArgs s_law_twice) (defBody s_law_twice) (defScope s_law_twice) .none kV14 dc14 pm14 an14 cd14 ct14), sl14⟩)
    (c14 : PySem.W.codeIn K cd14 "_law_twice" = true)
    (k14 : PySem.W.keepIn K (.ref f14) = true)
    (a15 : PySem.W.nsIn K mainGlobals "_law_well" = some (some (.ref f15)))
    (l15 : K.lookup f15 = some ⟨oc15, od15, .func (PySem.W.fnOf "_law_well" "_law_well" (defArgs s_law_well) (defBody s_law_well) (defScope s_law_well) .none kV15 dc15 pm15 an15 cd15 ct15), sl15⟩)
    (c15 : PySem.W.codeIn K cd15 "_law_well" = true)
    (k15 : PySem.W.keepIn K (.ref f15) = true)
    (a16 : PySem.W.nsIn K mainGlobals "_law_draw" = some (some (.ref f16)))
    (l16 : K.lookup f16 = some ⟨oc16, od16, .func (PySem.W.fnOf "_law_draw" "_law_draw" (defArgs s_law_draw) (defBody s_law_draw) (defScope s_law_draw) .none kV16 dc16 pm16 an16 cd16 ct16), sl16⟩)
    (c16 : PySem.W.codeIn K cd16 "_law_draw" = true)
    (k16 : PySem.W.keepIn K (.ref f16) = true)
    (a17 : PySem.W.nsIn K mainGlobals "_law_number" = some (some (.ref f17)))
    (l17 : K.lookup f17 = some ⟨oc17, od17, .func (PySem.W.fnOf "_law_number" "_law_number" (defArgs s_law_number) (defBody s_law_number) (defScope s_law_number) .none kV17 dc17 pm17 an17 cd17 ct17), sl17⟩)
    (c17 : PySem.W.codeIn K cd17 "_law_number" = true)
    (k17 : PySem.W.keepIn K (.ref f17) = true)
    (a18 : PySem.W.nsIn K mainGlobals "_law_address" = some (some (.ref f18)))
    (l18 : K.lookup f18 = some ⟨oc18, od18, .func (PySem.W.fnOf "_law_address" "_law_address" (defArgs s_law_address) (defBody s_law_address) (defScope s_law_address) .none kV18 dc18 pm18 an18 cd18 ct18), sl18⟩)
    (c18 : PySem.W.codeIn K cd18 "_law_address" = true)
    (k18 : PySem.W.keepIn K (.ref f18) = true)
    (a19 : PySem.W.nsIn K mainGlobals "_law_address_text" = some (some (.ref f19)))
    (l19 : K.lookup f19 = some ⟨oc19, od19, .func (PySem.W.fnOf "_law_address_text" "_law_address_text" (defArgs s_law_address_text) (defBody s_law_address_text) (defScope s_law_address_text) .none kV19 dc19 pm19 an19 cd19 ct19), sl19⟩)
    (c19 : PySem.W.codeIn K cd19 "_law_address_text" = true)
    (k19 : PySem.W.keepIn K (.ref f19) = true)
    (a20 : PySem.W.nsIn K mainGlobals "_law_name" = some (some (.ref f20)))
    (l20 : K.lookup f20 = some ⟨oc20, od20, .func (PySem.W.fnOf "_law_name" "_law_name" (defArgs s_law_name) (defBody s_law_name) (defScope s_law_name) .none kV20 dc20 pm20 an20 cd20 ct20), sl20⟩)
    (c20 : PySem.W.codeIn K cd20 "_law_name" = true)
    (k20 : PySem.W.keepIn K (.ref f20) = true)
    (a21 : PySem.W.nsIn K mainGlobals "_law_is_number" = some (some (.ref f21)))
    (l21 : K.lookup f21 = some ⟨oc21, od21, .func (PySem.W.fnOf "_law_is_number" "_law_is_number" (defArgs s_law_is_number) (defBody s_law_is_number) (defScope s_law_is_number) .none kV21 dc21 pm21 an21 cd21 ct21), sl21⟩)
    (c21 : PySem.W.codeIn K cd21 "_law_is_number" = true)
    (k21 : PySem.W.keepIn K (.ref f21) = true)
    (a22 : PySem.W.nsIn K mainGlobals "_law_address_of" = some (some (.ref f22)))
    (l22 : K.lookup f22 = some ⟨oc22, od22, .func (PySem.W.fnOf "_law_address_of" "_law_address_of" (defArgs s_law_address_of) (defBody s_law_address_of) (defScope s_law_address_of) .none kV22 dc22 pm22 an22 cd22 ct22), sl22⟩)
    (c22 : PySem.W.codeIn K cd22 "_law_address_of" = true)
    (k22 : PySem.W.keepIn K (.ref f22) = true)
    (a23 : PySem.W.nsIn K mainGlobals "_law_is_name" = some (some (.ref f23)))
    (l23 : K.lookup f23 = some ⟨oc23, od23, .func (PySem.W.fnOf "_law_is_name" "_law_is_name" (defArgs s_law_is_name) (defBody s_law_is_name) (defScope s_law_is_name) .none kV23 dc23 pm23 an23 cd23 ct23), sl23⟩)
    (c23 : PySem.W.codeIn K cd23 "_law_is_name" = true)
    (k23 : PySem.W.keepIn K (.ref f23) = true)
    (a24 : PySem.W.nsIn K mainGlobals "_law_place" = some (some (.ref f24)))
    (l24 : K.lookup f24 = some ⟨oc24, od24, .func (PySem.W.fnOf "_law_place" "_law_place" (defArgs s_law_place) (defBody s_law_place) (defScope s_law_place) .none kV24 dc24 pm24 an24 cd24 ct24), sl24⟩)
    (c24 : PySem.W.codeIn K cd24 "_law_place" = true)
    (k24 : PySem.W.keepIn K (.ref f24) = true)
    (a25 : PySem.W.nsIn K mainGlobals "_law_change" = some (some (.ref f25)))
    (l25 : K.lookup f25 = some ⟨oc25, od25, .func (PySem.W.fnOf "_law_change" "_law_change" (defArgs s_law_change) (defBody s_law_change) (defScope s_law_change) .none kV25 dc25 pm25 an25 cd25 ct25), sl25⟩)
    (c25 : PySem.W.codeIn K cd25 "_law_change" = true)
    (k25 : PySem.W.keepIn K (.ref f25) = true)
    (a26 : PySem.W.nsIn K mainGlobals "_law_text" = some (some (.ref f26)))
    (l26 : K.lookup f26 = some ⟨oc26, od26, .func (PySem.W.fnOf "_law_text" "_law_text" (defArgs s_law_text) (defBody s_law_text) (defScope s_law_text) .none kV26 dc26 pm26 an26 cd26 ct26), sl26⟩)
    (c26 : PySem.W.codeIn K cd26 "_law_text" = true)
    (k26 : PySem.W.keepIn K (.ref f26) = true)
    (a27 : PySem.W.nsIn K mainGlobals "_law_menu" = some (some (.ref f27)))
    (l27 : K.lookup f27 = some ⟨oc27, od27, .func (PySem.W.fnOf "_law_menu" "_law_menu" (defArgs s_law_menu) (defBody s_law_menu) (defScope s_law_menu) .none kV27 dc27 pm27 an27 cd27 ct27), sl27⟩)
    (c27 : PySem.W.codeIn K cd27 "_law_menu" = true)
    (k27 : PySem.W.keepIn K (.ref f27) = true)
    (a28 : PySem.W.nsIn K mainGlobals "_law_spoiled" = some (some (.ref f28)))
    (l28 : K.lookup f28 = some ⟨oc28, od28, .func (PySem.W.fnOf "_law_spoiled" "_law_spoiled" (defArgs s_law_spoiled) (defBody s_law_spoiled) (defScope s_law_spoiled) .none kV28 dc28 pm28 an28 cd28 ct28), sl28⟩)
    (c28 : PySem.W.codeIn K cd28 "_law_spoiled" = true)
    (k28 : PySem.W.keepIn K (.ref f28) = true)
    (a29 : PySem.W.nsIn K mainGlobals "_law_place_of" = some (some (.ref f29)))
    (l29 : K.lookup f29 = some ⟨oc29, od29, .func (PySem.W.fnOf "_law_place_of" "_law_place_of" (defArgs s_law_place_of) (defBody s_law_place_of) (defScope s_law_place_of) .none kV29 dc29 pm29 an29 cd29 ct29), sl29⟩)
    (c29 : PySem.W.codeIn K cd29 "_law_place_of" = true)
    (k29 : PySem.W.keepIn K (.ref f29) = true)
    (a30 : PySem.W.nsIn K mainGlobals "_law_due" = some (some (.ref f30)))
    (l30 : K.lookup f30 = some ⟨oc30, od30, .func (PySem.W.fnOf "_law_due" "_law_due" (defArgs s_law_due) (defBody s_law_due) (defScope s_law_due) .none kV30 dc30 pm30 an30 cd30 ct30), sl30⟩)
    (c30 : PySem.W.codeIn K cd30 "_law_due" = true)
    (k30 : PySem.W.keepIn K (.ref f30) = true)
    (a31 : PySem.W.nsIn K mainGlobals "_law_found" = some (some (.ref f31)))
    (l31 : K.lookup f31 = some ⟨oc31, od31, .func (PySem.W.fnOf "_law_found" "_law_found" (defArgs s_law_found) (defBody s_law_found) (defScope s_law_found) .none kV31 dc31 pm31 an31 cd31 ct31), sl31⟩)
    (c31 : PySem.W.codeIn K cd31 "_law_found" = true)
    (k31 : PySem.W.keepIn K (.ref f31) = true)
    (a32 : PySem.W.nsIn K mainGlobals "law" = some (some (.ref f32)))
    (l32 : K.lookup f32 = some ⟨oc32, od32, .func (PySem.W.fnOf "law" "law" (defArgs s_law) (defBody s_law) (defScope s_law) .none kV32 dc32 pm32 an32 cd32 ct32), sl32⟩)
    (c32 : PySem.W.codeIn K cd32 "law" = true)
    (k32 : PySem.W.keepIn K (.ref f32) = true)
    (z_len : PySem.W.nsIn K mainGlobals "len" = some none)
    (z_isinstance : PySem.W.nsIn K mainGlobals "isinstance" = some none)
    (z_all : PySem.W.nsIn K mainGlobals "all" = some none)
    (z_str : PySem.W.nsIn K mainGlobals "str" = some none)
    (z_int : PySem.W.nsIn K mainGlobals "int" = some none)
    (z_tuple : PySem.W.nsIn K mainGlobals "tuple" = some none)
    (z_range : PySem.W.nsIn K mainGlobals "range" = some none)
    (z_ValueError : PySem.W.nsIn K mainGlobals "ValueError" = some none)
    (aX_NoText : PySem.W.nsIn K mainGlobals "NoText" = some (some (.ref X_NoText)))
    (aX_HadError : PySem.W.nsIn K mainGlobals "HadError" = some (some (.ref X_HadError)))
    (aX_NoChange : PySem.W.nsIn K mainGlobals "NoChange" = some (some (.ref X_NoChange)))
    (aX_NoPlace : PySem.W.nsIn K mainGlobals "NoPlace" = some (some (.ref X_NoPlace)))
    (aX_NoProgram : PySem.W.nsIn K mainGlobals "NoProgram" = some (some (.ref X_NoProgram)))
    (aX_NoValue : PySem.W.nsIn K mainGlobals "NoValue" = some (some (.ref X_NoValue)))
    (g_LETTERS : PySem.W.nsIn K mainGlobals "LETTERS" = some (some (.str "abcdefghijklmnopqrstuvwxyz" t_LETTERS)))
    (g_FIGURES : PySem.W.nsIn K mainGlobals "FIGURES" = some (some (.str "0123456789" t_FIGURES)))
    (g_MOST_FIGURES : PySem.W.nsIn K mainGlobals "MOST_FIGURES" = some (some (.int 6 t_MOST_FIGURES)))
    (g_MOST_LETTERS : PySem.W.nsIn K mainGlobals "MOST_LETTERS" = some (some (.int 6 t_MOST_LETTERS)))
    (g_MOST_NUMBERS : PySem.W.nsIn K mainGlobals "MOST_NUMBERS" = some (some (.int 100 t_MOST_NUMBERS)))
    (g_NO_NUMBERS : PySem.W.nsIn K mainGlobals "NO_NUMBERS" = some (some (.str "-" t_NO_NUMBERS)))
    (g_LANGUAGE_WORDS : PySem.W.nsIn K mainGlobals "LANGUAGE_WORDS" = some (some (.ref r_LANGUAGE_WORDS)))
    (l_LANGUAGE_WORDS : K.lookup r_LANGUAGE_WORDS = some ⟨.type "tuple", od_LANGUAGE_WORDS, .seq #[.str "skip" t_LANGUAGE_WORDS_0, .str "set" t_LANGUAGE_WORDS_1, .str "put" t_LANGUAGE_WORDS_2, .str "ask" t_LANGUAGE_WORDS_3, .str "draw" t_LANGUAGE_WORDS_4, .str "tell" t_LANGUAGE_WORDS_5, .str "if" t_LANGUAGE_WORDS_6, .str "else" t_LANGUAGE_WORDS_7, .str "end" t_LANGUAGE_WORDS_8, .str "while" t_LANGUAGE_WORDS_9, .str "call" t_LANGUAGE_WORDS_10, .str "fun" t_LANGUAGE_WORDS_11, .str "main" t_LANGUAGE_WORDS_12, .str "give" t_LANGUAGE_WORDS_13, .str "cell" t_LANGUAGE_WORDS_14, .str "plus" t_LANGUAGE_WORDS_15, .str "minus" t_LANGUAGE_WORDS_16, .str "times" t_LANGUAGE_WORDS_17, .str "over" t_LANGUAGE_WORDS_18, .str "rest" t_LANGUAGE_WORDS_19, .str "less" t_LANGUAGE_WORDS_20, .str "same" t_LANGUAGE_WORDS_21] n_LANGUAGE_WORDS, sl_LANGUAGE_WORDS⟩)
    (ex_NoText : PySem.W.excIn K X_NoText [.type "ValueError", .type "Exception", .type "BaseException", .type "object"] "ValueError.__new__" = true)
    (ex_HadError : PySem.W.excIn K X_HadError [.type "ValueError", .type "Exception", .type "BaseException", .type "object"] "ValueError.__new__" = true)
    (clx_NoText : PySem.W.clsIn K X_NoText = some cdx_NoText)
    (tyx_NoText : PySem.W.typeIn K (.ref X_NoText) = some (.type "type"))
    (me_NoText : PySem.W.subIn K (.ref X_NoText) (.ref X_NoText) = some true)
    (gax_NoText : PySem.W.findIn K (.ref X_NoText) "__getattribute__" = some (some (.builtin "BaseException.__getattribute__")))
    (gnx_NoText : PySem.W.findIn K (.ref X_NoText) "__getattr__" = some none)
    (gcx_NoText : PySem.W.findIn K (.ref X_NoText) "__class__" = some (some (.builtin "object.__class__")))
    (obx_NoText : PySem.W.mroIn K X_NoText (.type "object") = some true)
    (bex_NoText : PySem.W.mroIn K X_NoText (.type "BaseException") = some true)
    (sb_NoText_HadError : PySem.W.subIn K (.ref X_NoText) (.ref X_HadError) = some true)
    (clx_NoChange : PySem.W.clsIn K X_NoChange = some cdx_NoChange)
    (tyx_NoChange : PySem.W.typeIn K (.ref X_NoChange) = some (.type "type"))
    (sb_NoText_NoChange : PySem.W.subIn K (.ref X_NoText) (.ref X_NoChange) = some false)
    (clx_NoPlace : PySem.W.clsIn K X_NoPlace = some cdx_NoPlace)
    (tyx_NoPlace : PySem.W.typeIn K (.ref X_NoPlace) = some (.type "type"))
    (sb_NoText_NoPlace : PySem.W.subIn K (.ref X_NoText) (.ref X_NoPlace) = some false)
    (clx_NoProgram : PySem.W.clsIn K X_NoProgram = some cdx_NoProgram)
    (tyx_NoProgram : PySem.W.typeIn K (.ref X_NoProgram) = some (.type "type"))
    (sb_NoText_NoProgram : PySem.W.subIn K (.ref X_NoText) (.ref X_NoProgram) = some false)
    (clx_NoValue : PySem.W.clsIn K X_NoValue = some cdx_NoValue)
    (tyx_NoValue : PySem.W.typeIn K (.ref X_NoValue) = some (.type "type"))
    (sb_NoText_NoValue : PySem.W.subIn K (.ref X_NoText) (.ref X_NoValue) = some false)
    (sb_NoText_ValueError : PySem.W.subIn K (.ref X_NoText) (.type "ValueError") = some true) :
    ∃ fd : FuncData, (∀ (s : Shared) (v : Value), BindsTo s fd ⟨[v], []⟩ [("_law_script", v)]) ∧ ∀ base : Heap, K.In base → base.Ns mainGlobals mg → FnOk l.prog w K mg base CX0 8 fa fd ["_law_script"] (spLaw K) := by
  have e := hfa.symm.trans (PySem.W.mg_of X G a32)
  cases e
  have F1 := fun_mk (st := s_is_made_of) l1 c1 k1
  have b1 := F1.binds (ps := ["text", "signs"]) fun _ _ _ _ _ _ us hl => match us, hl with | [_, _], _ => rfl
  have F2 := fun_mk (st := s_is_name) l2 c2 k2
  have b2 := F2.binds (ps := ["thing"]) fun _ _ _ _ _ _ us hl => match us, hl with | [_], _ => rfl
  have F3 := fun_mk (st := s_is_number_text) l3 c3 k3
  have b3 := F3.binds (ps := ["text"]) fun _ _ _ _ _ _ us hl => match us, hl with | [_], _ => rfl
  have F4 := fun_mk (st := s_read_address) l4 c4 k4
  have b4 := F4.binds (ps := ["word"]) fun _ _ _ _ _ _ us hl => match us, hl with | [_], _ => rfl
  have F5 := fun_mk (st := s_read_number) l5 c5 k5
  have b5 := F5.binds (ps := ["word"]) fun _ _ _ _ _ _ us hl => match us, hl with | [_], _ => rfl
  have F6 := fun_mk (st := s_read_name) l6 c6 k6
  have b6 := F6.binds (ps := ["word"]) fun _ _ _ _ _ _ us hl => match us, hl with | [_], _ => rfl
  have F7 := fun_mk (st := s_read_change) l7 c7 k7
  have b7 := F7.binds (ps := ["text"]) fun _ _ _ _ _ _ us hl => match us, hl with | [_], _ => rfl
  have F8 := fun_mk (st := s_read_row_change) l8 c8 k8
  have b8 := F8.binds (ps := ["text"]) fun _ _ _ _ _ _ us hl => match us, hl with | [_], _ => rfl
  have F9 := fun_mk (st := s_read_place) l9 c9 k9
  have b9 := F9.binds (ps := ["words"]) fun _ _ _ _ _ _ us hl => match us, hl with | [_], _ => rfl
  have F10 := fun_mk (st := s_read_truth) l10 c10 k10
  have b10 := F10.binds (ps := ["word"]) fun _ _ _ _ _ _ us hl => match us, hl with | [_], _ => rfl
  have F11 := fun_mk (st := s_check_text) l11 c11 k11
  have b11 := F11.binds (ps := ["thing"]) fun _ _ _ _ _ _ us hl => match us, hl with | [_], _ => rfl
  have F12 := fun_mk (st := s_law_cell) l12 c12 k12
  have b12 := F12.binds (ps := ["_law_script", "_law_k"]) fun _ _ _ _ _ _ us hl => match us, hl with | [_, _], _ => rfl
  have F13 := fun_mk (st := s_law_mixed) l13 c13 k13
  have b13 := F13.binds (ps := ["_law_cell_here", "_law_k"]) fun _ _ _ _ _ _ us hl => match us, hl with | [_, _], _ => rfl
  have F14 := fun_mk (st := s_law_twice) l14 c14 k14
  have b14 := F14.binds (ps := ["_law_cell_here", "_law_k"]) fun _ _ _ _ _ _ us hl => match us, hl with | [_, _], _ => rfl
  have F15 := fun_mk (st := s_law_well) l15 c15 k15
  have b15 := F15.binds (ps := ["_law_script", "_law_k"]) fun _ _ _ _ _ _ us hl => match us, hl with | [_, _], _ => rfl
  have F16 := fun_mk (st := s_law_draw) l16 c16 k16
  have b16 := F16.binds (ps := ["_law_well_here", "_law_most"]) fun _ _ _ _ _ _ us hl => match us, hl with | [_, _], _ => rfl
  have F17 := fun_mk (st := s_law_number) l17 c17 k17
  have b17 := F17.binds (ps := ["_law_well_here"]) fun _ _ _ _ _ _ us hl => match us, hl with | [_], _ => rfl
  have F18 := fun_mk (st := s_law_address) l18 c18 k18
  have b18 := F18.binds (ps := ["_law_well_here"]) fun _ _ _ _ _ _ us hl => match us, hl with | [_], _ => rfl
  have F19 := fun_mk (st := s_law_address_text) l19 c19 k19
  have b19 := F19.binds (ps := ["_law_address_here"]) fun _ _ _ _ _ _ us hl => match us, hl with | [_], _ => rfl
  have F20 := fun_mk (st := s_law_name) l20 c20 k20
  have b20 := F20.binds (ps := ["_law_well_here"]) fun _ _ _ _ _ _ us hl => match us, hl with | [_], _ => rfl
  have F21 := fun_mk (st := s_law_is_number) l21 c21 k21
  have b21 := F21.binds (ps := ["_law_word"]) fun _ _ _ _ _ _ us hl => match us, hl with | [_], _ => rfl
  have F22 := fun_mk (st := s_law_address_of) l22 c22 k22
  have b22 := F22.binds (ps := ["_law_word"]) fun _ _ _ _ _ _ us hl => match us, hl with | [_], _ => rfl
  have F23 := fun_mk (st := s_law_is_name) l23 c23 k23
  have b23 := F23.binds (ps := ["_law_word"]) fun _ _ _ _ _ _ us hl => match us, hl with | [_], _ => rfl
  have F24 := fun_mk (st := s_law_place) l24 c24 k24
  have b24 := F24.binds (ps := ["_law_well_here"]) fun _ _ _ _ _ _ us hl => match us, hl with | [_], _ => rfl
  have F25 := fun_mk (st := s_law_change) l25 c25 k25
  have b25 := F25.binds (ps := ["_law_well_here"]) fun _ _ _ _ _ _ us hl => match us, hl with | [_], _ => rfl
  have F26 := fun_mk (st := s_law_text) l26 c26 k26
  have b26 := F26.binds (ps := ["_law_change_here"]) fun _ _ _ _ _ _ us hl => match us, hl with | [_], _ => rfl
  have F27 := fun_mk (st := s_law_menu) l27 c27 k27
  have b27 := F27.binds (ps := ["_law_well_here"]) fun _ _ _ _ _ _ us hl => match us, hl with | [_], _ => rfl
  have F28 := fun_mk (st := s_law_spoiled) l28 c28 k28
  have b28 := F28.binds (ps := ["_law_well_here", "_law_text_here"]) fun _ _ _ _ _ _ us hl => match us, hl with | [_, _], _ => rfl
  have F29 := fun_mk (st := s_law_place_of) l29 c29 k29
  have b29 := F29.binds (ps := ["_law_words"]) fun _ _ _ _ _ _ us hl => match us, hl with | [_], _ => rfl
  have F30 := fun_mk (st := s_law_due) l30 c30 k30
  have b30 := F30.binds (ps := ["_law_text_here"]) fun _ _ _ _ _ _ us hl => match us, hl with | [_], _ => rfl
  have F31 := fun_mk (st := s_law_found) l31 c31 k31
  have b31 := F31.binds (ps := ["_law_text_here"]) fun _ _ _ _ _ _ us hl => match us, hl with | [_], _ => rfl
  have F32 := fun_mk (st := s_law) l32 c32 k32
  have b32 := F32.binds (ps := ["_law_script"]) fun _ _ _ _ _ _ us hl => match us, hl with | [_], _ => rfl
  have T : Tx K mg ⟨f1, _, f2, _, f3, _, f4, _, f5, _, f6, _, f7, _, f8, _, f9, _, f10, _, f11, _, f12, _, f13, _, f14, _, f15, _, f16, _, f17, _, f18, _, f19, _, f20, _, f21, _, f22, _, f23, _, f24, _, f25, _, f26, _, f27, _, f28, _, f29, _, f30, _, f31, _, _, _, X_NoText, X_HadError, X_NoChange, X_NoPlace, X_NoProgram, X_NoValue, r_LANGUAGE_WORDS⟩ := ⟨F1, b1, PySem.W.mg_of X G a1, F2, b2, PySem.W.mg_of X G a2, F3, b3, PySem.W.mg_of X G a3, F4, b4, PySem.W.mg_of X G a4, F5, b5, PySem.W.mg_of X G a5, F6, b6, PySem.W.mg_of X G a6, F7, b7, PySem.W.mg_of X G a7, F8, b8, PySem.W.mg_of X G a8, F9, b9, PySem.W.mg_of X G a9, F10, b10, PySem.W.mg_of X G a10, F11, b11, PySem.W.mg_of X G a11, F12, b12, PySem.W.mg_of X G a12, F13, b13, PySem.W.mg_of X G a13, F14, b14, PySem.W.mg_of X G a14, F15, b15, PySem.W.mg_of X G a15, F16, b16, PySem.W.mg_of X G a16, F17, b17, PySem.W.mg_of X G a17, F18, b18, PySem.W.mg_of X G a18, F19, b19, PySem.W.mg_of X G a19, F20, b20, PySem.W.mg_of X G a20, F21, b21, PySem.W.mg_of X G a21, F22, b22, PySem.W.mg_of X G a22, F23, b23, PySem.W.mg_of X G a23, F24, b24, PySem.W.mg_of X G a24, F25, b25, PySem.W.mg_of X G a25, F26, b26, PySem.W.mg_of X G a26, F27, b27, PySem.W.mg_of X G a27, F28, b28, PySem.W.mg_of X G a28, F29, b29, PySem.W.mg_of X G a29, F30, b30, PySem.W.mg_of X G a30, F31, b31, PySem.W.mg_of X G a31, F32, b32, PySem.W.mg_of X G a32, PySem.W.mg_of X G aX_NoText, PySem.W.mg_of X G aX_HadError, PySem.W.mg_of X G aX_NoChange, PySem.W.mg_of X G aX_NoPlace, PySem.W.mg_of X G aX_NoProgram, PySem.W.mg_of X G aX_NoValue, PySem.W.mg_none_of X G z_len, PySem.W.mg_none_of X G z_isinstance, PySem.W.mg_none_of X G z_all, PySem.W.mg_none_of X G z_str, PySem.W.mg_none_of X G z_int, PySem.W.mg_none_of X G z_tuple, PySem.W.mg_none_of X G z_range, PySem.W.mg_none_of X G z_ValueError, ⟨_, PySem.W.mg_of X G g_LETTERS⟩, ⟨_, PySem.W.mg_of X G g_FIGURES⟩, ⟨_, PySem.W.mg_of X G g_MOST_FIGURES⟩, ⟨_, PySem.W.mg_of X G g_MOST_LETTERS⟩, ⟨_, PySem.W.mg_of X G g_MOST_NUMBERS⟩, ⟨_, PySem.W.mg_of X G g_NO_NUMBERS⟩, PySem.W.mg_of X G g_LANGUAGE_WORDS, fun H => .inr ⟨_, _, _, l_LANGUAGE_WORDS, rfl, rfl, (by show 22 ≤ sizeLine; decide), .cons ⟨_, rfl⟩ (.cons ⟨_, rfl⟩ (.cons ⟨_, rfl⟩ (.cons ⟨_, rfl⟩ (.cons ⟨_, rfl⟩ (.cons ⟨_, rfl⟩ (.cons ⟨_, rfl⟩ (.cons ⟨_, rfl⟩ (.cons ⟨_, rfl⟩ (.cons ⟨_, rfl⟩ (.cons ⟨_, rfl⟩ (.cons ⟨_, rfl⟩ (.cons ⟨_, rfl⟩ (.cons ⟨_, rfl⟩ (.cons ⟨_, rfl⟩ (.cons ⟨_, rfl⟩ (.cons ⟨_, rfl⟩ (.cons ⟨_, rfl⟩ (.cons ⟨_, rfl⟩ (.cons ⟨_, rfl⟩ (.cons ⟨_, rfl⟩ (.cons ⟨_, rfl⟩ (.nil))))))))))))))))))))))⟩, ex_NoText, ex_HadError, ⟨(by rw [clx_NoText]; rfl), gax_NoText, gnx_NoText, gcx_NoText, obx_NoText, bex_NoText, tyx_NoText, me_NoText⟩, sb_NoText_HadError, kit_ofF clx_NoChange tyx_NoChange me_NoText sb_NoText_NoChange, kit_ofF clx_NoPlace tyx_NoPlace me_NoText sb_NoText_NoPlace, kit_ofF clx_NoProgram tyx_NoProgram me_NoText sb_NoText_NoProgram, kit_ofF clx_NoValue tyx_NoValue me_NoText sb_NoText_NoValue, kit_ty (by decide +kernel) sb_NoText_ValueError⟩
  exact ⟨_, fun s v => .of_eq rfl, fun base _ _ => ok_law T⟩
theorem walk {l : PySem.W.OpenLaw} {q : Program} {loose : List Str} {XP : (Str → Option Value) → Heap → Prop} {YP : World → Heap → Prop} {d : DefRec} {K : Params → PySem.W.Frag} (hn : l.most = some 63) (hdf : d.params.defaults = [])
    (hY : ∀ (w : World) (h : Heap), YP w h → (K w.params).In h)
    (F : ∀ (w : World) (mg : Str → Option Value) (fa : Addr) (h : Heap), (K w.params).In h → h.Ns mainGlobals mg → mg d.name = some (.ref fa) →
      ∃ fd : FuncData, (∀ (s : Shared) (u : Value), BindsTo s fd ⟨[u], []⟩ [("_law_script", u)]) ∧ ∀ base : Heap, (K w.params).In base → base.Ns mainGlobals mg → FnOk l.prog w (K w.params) mg base CX0 8 fa fd ["_law_script"] (spLaw (K w.params))) :
    PySem.W.WalkO q loose XP YP l.row.toRowW d [] (fun f vs => PySem.call f vs) :=
  L2.walk_of (n := 63) (k := 8) (x := "_law_script") (CX := fun _ => CX0) (sp := fun w => spLaw (K w.params)) hn (by decide) hdf ⟨rfl, by decide, by decide, rfl⟩ hY F (fun _ _ a ns hl _ hS => ⟨a, ns, rfl, hS, hl, fun _ => rfl⟩) fun _ _ _ _ _ z => z
end K84
def PySem.W.Fast.tw11046831552676519417 : Nat := 0
def PySem.W.Fast.tw13172138601844205206 : Nat := 0
def PySem.W.Fast.tw7142458853914957492 : Nat := 0
def PySem.W.Fast.tw9298536515310318460 : Nat := 0
def PySem.W.Fast.tw2386558416953729452 : Nat := 0
def PySem.W.Fast.tw17957696841611093526 : Nat := 0
def PySem.W.Fast.tw956077769590185813 : Nat := 0
def PySem.W.Fast.tw9756770374369155449 : Nat := 0
def PySem.W.Fast.tw3137448261920122980 : Nat := 0
open PySem PySem.W PyProof.Rows
set_option maxRecDepth 100000 in
set_option maxHeartbeats 0 in
theorem PySem.Challenge.cw_hadbeen_k84_no_change_holds : PySem.Challenge.rw_hadbeen_k84_no_change.Holds := by
  w_on; o_law; k_head; (case hw => w_witness2)
  k_fill
  refine K84.walk (l := PySem.Challenge.rw_hadbeen_k84_no_change) rfl rfl (fun w h Y => PySem.W.kIn_of Y) ?F
  case F =>
    intro w mg fa h KX G hmg
    refine' K84.all_mk KX G hmg ?a1 ?l1 ?c1 ?k1 ?a2 ?l2 ?c2 ?k2 ?a3 ?l3 ?c3 ?k3 ?a4 ?l4 ?c4 ?k4 ?a5 ?l5 ?c5 ?k5 ?a6 ?l6 ?c6 ?k6 ?a7 ?l7 ?c7 ?k7 ?a8 ?l8 ?c8 ?k8 ?a9 ?l9 ?c9 ?k9 ?a10 ?l10 ?c10 ?k10 ?a11 ?l11 ?c11 ?k11 ?a12 ?l12 ?c12 ?k12 ?a13 ?l13 ?c13 ?k13 ?a14 ?l14 ?c14 ?k14 ?a15 ?l15 ?c15 ?k15 ?a16 ?l16 ?c16 ?k16 ?a17 ?l17 ?c17 ?k17 ?a18 ?l18 ?c18 ?k18 ?a19 ?l19 ?c19 ?k19 ?a20 ?l20 ?c20 ?k20 ?a21 ?l21 ?c21 ?k21 ?a22 ?l22 ?c22 ?k22 ?a23 ?l23 ?c23 ?k23 ?a24 ?l24 ?c24 ?k24 ?a25 ?l25 ?c25 ?k25 ?a26 ?l26 ?c26 ?k26 ?a27 ?l27 ?c27 ?k27 ?a28 ?l28 ?c28 ?k28 ?a29 ?l29 ?c29 ?k29 ?a30 ?l30 ?c30 ?k30 ?a31 ?l31 ?c31 ?k31 ?a32 ?l32 ?c32 ?k32 ?z_len ?z_isinstance ?z_all ?z_str ?z_int ?z_tuple ?z_range ?z_ValueError ?aX_NoText ?aX_HadError ?aX_NoChange ?aX_NoPlace ?aX_NoProgram ?aX_NoValue ?g_LETTERS ?g_FIGURES ?g_MOST_FIGURES ?g_MOST_LETTERS ?g_MOST_NUMBERS ?g_NO_NUMBERS ?g_LANGUAGE_WORDS ?l_LANGUAGE_WORDS ?ex_NoText ?ex_HadError ?clx_NoText ?tyx_NoText ?me_NoText ?gax_NoText ?gnx_NoText ?gcx_NoText ?obx_NoText ?bex_NoText ?sb_NoText_HadError ?clx_NoChange ?tyx_NoChange ?sb_NoText_NoChange ?clx_NoPlace ?tyx_NoPlace ?sb_NoText_NoPlace ?clx_NoProgram ?tyx_NoProgram ?sb_NoText_NoProgram ?clx_NoValue ?tyx_NoValue ?sb_NoText_NoValue ?sb_NoText_ValueError
    (case a1 => k_is)
    (case l1 => k_is)
    (case c1 => k_is)
    (case k1 => k_is)
    (case a2 => k_is)
    (case l2 => k_is)
    (case c2 => k_is)
    (case k2 => k_is)
    (case a3 => k_is)
    (case l3 => k_is)
    (case c3 => k_is)
    (case k3 => k_is)
    (case a4 => k_is)
    (case l4 => k_is)
    (case c4 => k_is)
    (case k4 => k_is)
    (case a5 => k_is)
    (case l5 => k_is)
    (case c5 => k_is)
    (case k5 => k_is)
    (case a6 => k_is)
    (case l6 => k_is)
    (case c6 => k_is)
    (case k6 => k_is)
    (case a7 => k_is)
    (case l7 => k_is)
    (case c7 => k_is)
    (case k7 => k_is)
    (case a8 => k_is)
    (case l8 => k_is)
    (case c8 => k_is)
    (case k8 => k_is)
    (case a9 => k_is)
    (case l9 => k_is)
    (case c9 => k_is)
    (case k9 => k_is)
    (case a10 => k_is)
    (case l10 => k_is)
    (case c10 => k_is)
    (case k10 => k_is)
    (case a11 => k_is)
    (case l11 => k_is)
    (case c11 => k_is)
    (case k11 => k_is)
    (case a12 => k_is)
    (case l12 => k_is)
    (case c12 => k_is)
    (case k12 => k_is)
    (case a13 => k_is)
    (case l13 => k_is)
    (case c13 => k_is)
    (case k13 => k_is)
    (case a14 => k_is)
    (case l14 => k_is)
    (case c14 => k_is)
    (case k14 => k_is)
    (case a15 => k_is)
    (case l15 => k_is)
    (case c15 => k_is)
    (case k15 => k_is)
    (case a16 => k_is)
    (case l16 => k_is)
    (case c16 => k_is)
    (case k16 => k_is)
    (case a17 => k_is)
    (case l17 => k_is)
    (case c17 => k_is)
    (case k17 => k_is)
    (case a18 => k_is)
    (case l18 => k_is)
    (case c18 => k_is)
    (case k18 => k_is)
    (case a19 => k_is)
    (case l19 => k_is)
    (case c19 => k_is)
    (case k19 => k_is)
    (case a20 => k_is)
    (case l20 => k_is)
    (case c20 => k_is)
    (case k20 => k_is)
    (case a21 => k_is)
    (case l21 => k_is)
    (case c21 => k_is)
    (case k21 => k_is)
    (case a22 => k_is)
    (case l22 => k_is)
    (case c22 => k_is)
    (case k22 => k_is)
    (case a23 => k_is)
    (case l23 => k_is)
    (case c23 => k_is)
    (case k23 => k_is)
    (case a24 => k_is)
    (case l24 => k_is)
    (case c24 => k_is)
    (case k24 => k_is)
    (case a25 => k_is)
    (case l25 => k_is)
    (case c25 => k_is)
    (case k25 => k_is)
    (case a26 => k_is)
    (case l26 => k_is)
    (case c26 => k_is)
    (case k26 => k_is)
    (case a27 => k_is)
    (case l27 => k_is)
    (case c27 => k_is)
    (case k27 => k_is)
    (case a28 => k_is)
    (case l28 => k_is)
    (case c28 => k_is)
    (case k28 => k_is)
    (case a29 => k_is)
    (case l29 => k_is)
    (case c29 => k_is)
    (case k29 => k_is)
    (case a30 => k_is)
    (case l30 => k_is)
    (case c30 => k_is)
    (case k30 => k_is)
    (case a31 => k_is)
    (case l31 => k_is)
    (case c31 => k_is)
    (case k31 => k_is)
    (case a32 => k_is)
    (case l32 => k_is)
    (case c32 => k_is)
    (case k32 => k_is)
    (case z_len => k_is)
    (case z_isinstance => k_is)
    (case z_all => k_is)
    (case z_str => k_is)
    (case z_int => k_is)
    (case z_tuple => k_is)
    (case z_range => k_is)
    (case z_ValueError => k_is)
    (case aX_NoText => k_is)
    (case aX_HadError => k_is)
    (case aX_NoChange => k_is)
    (case aX_NoPlace => k_is)
    (case aX_NoProgram => k_is)
    (case aX_NoValue => k_is)
    (case g_LETTERS => k_is)
    (case g_FIGURES => k_is)
    (case g_MOST_FIGURES => k_is)
    (case g_MOST_LETTERS => k_is)
    (case g_MOST_NUMBERS => k_is)
    (case g_NO_NUMBERS => k_is)
    (case g_LANGUAGE_WORDS => k_is)
    (case l_LANGUAGE_WORDS => k_is)
    (case ex_NoText => k_exc)
    (case ex_HadError => k_exc)
    (case clx_NoText => k_is)
    (case tyx_NoText => k_is)
    (case me_NoText => k_is)
    (case gax_NoText => k_is)
    (case gnx_NoText => k_is)
    (case gcx_NoText => k_is)
    (case obx_NoText => k_is)
    (case bex_NoText => k_is)
    (case sb_NoText_HadError => k_is)
    (case clx_NoChange => k_is)
    (case tyx_NoChange => k_is)
    (case sb_NoText_NoChange => k_is)
    (case clx_NoPlace => k_is)
    (case tyx_NoPlace => k_is)
    (case sb_NoText_NoPlace => k_is)
    (case clx_NoProgram => k_is)
    (case tyx_NoProgram => k_is)
    (case sb_NoText_NoProgram => k_is)
    (case clx_NoValue => k_is)
    (case tyx_NoValue => k_is)
    (case sb_NoText_NoValue => k_is)
    (case sb_NoText_ValueError => k_is)
