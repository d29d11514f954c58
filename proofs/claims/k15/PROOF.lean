import PyProof.Rows.All
import Wide.All
import OpenK.AllK
import Wide.FinOn
import Lean
import PyProof.EqAt
import PyProof.EqKinds
import PyProof.TupleCall
import PyProof.NeKinds
import PyProof.EnumFor
import PyProof.EnumMake
import PyProof.NsDelKeeps
import OpenK.KOwn
import KE.KIsBytes
import PyProof.CompFree
import PyProof.StrWalks
import PyProof.ConsumeWalk
import PyProof.StrBlockI
import PySem.Challenge.RW_kbestwood_k15_a_row_of_words
set_option Elab.async false
set_option linter.all false
set_option maxRecDepth 100000
set_option maxHeartbeats 4000000
/-! THE HAND LAYER, for ints, bools, texts, own classes, LISTS and tuples (index, slices, in, append, pop ..), calls, loops. Paste it whole ahead of your own text; what your proof does not reach may be deleted. -/
namespace L2
open PySem PySem.Spec PyProof.Rows

/-- a key: an int or a str -/
abbrev Key := Sum Int Str
def keyIs : Key → Value → Bool
  | .inl k, v => Value.isInt k v
  | .inr x, v => Value.isStrOf x v
def keyH (w : World) : Key → Int
  | .inl k => hashInt k
  | .inr x => hashStr w x
theorem keyIs_shape : ∀ {k : Key} {v : Value}, keyIs k v = true → (∃ i t, k = Sum.inl i ∧ v = Value.int i t) ∨ (∃ x t, k = Sum.inr x ∧ v = Value.str x t)
  | .inl i, v, h => by
    obtain ⟨t, e⟩ := Value.isInt_shape (k := i) (v := v) h
    exact .inl ⟨i, t, rfl, e⟩
  | .inr x, v, h => by
    obtain ⟨t, e⟩ := Value.isStrOf_shape (x := x) (v := v) h
    exact .inr ⟨x, t, rfl, e⟩
theorem key_ll (a b : Int) : decide ((Sum.inl a : Key) = Sum.inl b) = (a == b) := by
  by_cases e : a = b
  · subst e; simp
  · have h : ¬ (Sum.inl a : Key) = Sum.inl b := fun q => e (Sum.inl.inj q)
    rw [decide_eq_false h]
    exact (beq_eq_false_iff_ne.mpr e).symm
theorem key_rr (a b : Str) : decide ((Sum.inr a : Key) = Sum.inr b) = decide (a = b) := by
  by_cases e : a = b
  · subst e; simp
  · have h : ¬ (Sum.inr a : Key) = Sum.inr b := fun q => e (Sum.inr.inj q)
    rw [decide_eq_false h, decide_eq_false e]
theorem key_lr (a : Int) (b : Str) : decide ((Sum.inl a : Key) = Sum.inr b) = false := decide_eq_false (fun q => nomatch q)
theorem key_rl (a : Str) (b : Int) : decide ((Sum.inr a : Key) = Sum.inl b) = false := decide_eq_false (fun q => nomatch q)

def mixKind (prog : Program) (w : World) : PySem.KeyKind prog w Key where
  is := keyIs
  hash := keyH w
  inj := fun v a b ha hb => by
    rcases keyIs_shape ha with ⟨i, t, rfl, rfl⟩ | ⟨x, t, rfl, rfl⟩
    · rcases keyIs_shape hb with ⟨j, u, rfl, e⟩ | ⟨y, u, rfl, e⟩
      · injection e with e1 _; rw [e1]
      · exact nomatch e
    · rcases keyIs_shape hb with ⟨j, u, rfl, e⟩ | ⟨y, u, rfl, e⟩
      · exact nomatch e
      · injection e with e1 _; rw [e1]
  byValue := fun k v h => by
    rcases keyIs_shape h with ⟨i, t, rfl, rfl⟩ | ⟨x, t, rfl, rfl⟩ <;> rfl
  pyHash := fun hv h => by
    rcases keyIs_shape hv with ⟨i, t, rfl, rfl⟩ | ⟨x, t, rfl, rfl⟩
    · exact wpAny_pyHash_int h
    · exact wpAny_pyHash_str h
  eqBool := fun hu hv h => by
    rcases keyIs_shape hu with ⟨i, t, rfl, rfl⟩ | ⟨x, t, rfl, rfl⟩
    · rcases keyIs_shape hv with ⟨j, u, rfl, rfl⟩ | ⟨y, u, rfl, rfl⟩
      · rw [key_ll] at h; exact wpAny_eqBool_int h
      · rw [key_lr] at h; exact SeqAt.EqAt.int_str i t y u _ _ _ _ h
    · rcases keyIs_shape hv with ⟨j, u, rfl, rfl⟩ | ⟨y, u, rfl, rfl⟩
      · rw [key_rl] at h; exact SeqAt.EqAt.str_int x t j u _ _ _ _ h
      · rw [key_rr] at h; exact wpAny_eqBool_str h
  «strs» := fun k x t v h => by
    rcases keyIs_shape h with ⟨i, u, rfl, e⟩ | ⟨y, u, rfl, e⟩
    · exact nomatch e
    · injection e with e1 _
      subst e1
      cases v <;> rfl

end L2

namespace L2
open PySem PySem.Spec PyProof.Rows

/-- a value, without the heap -/
inductive V where
  | non | bl (b : Bool) | int (i : Int) | str (x : Str) | byt (b : Array UInt8) | flt (b : UInt64) | ref (a : Addr) | ty (n : String)
  deriving DecidableEq

def RelV : V → Value → Prop
  | .non, u => u = Value.none
  | .bl b, u => u = Value.bool b
  | .int i, u => ∃ t, u = Value.int i t
  | .str x, u => ∃ t, u = Value.str x t
  | .byt b, u => ∃ t, u = Value.bytes b t
  | .flt b, u => ∃ t, u = Value.float b t
  | .ref a, u => u = Value.ref a
  | .ty n, u => u = Value.type n

abbrev Vals : List V → List Value → Prop := Paired RelV
theorem Vals.length {xs : List V} {us : List Value} (r : Vals xs us) : xs.length = us.length := Paired.length r
theorem Vals.get : ∀ {xs : List V} {us : List Value} {i : Nat} {x : V}, Vals xs us → xs[i]? = some x → ∃ u, us[i]? = some u ∧ RelV x u
  | _, _, _, _, .nil, e => by simp at e
  | _, _, 0, _, .cons r _, e => by simp at e; subst e; exact ⟨_, rfl, r⟩
  | _, _, i + 1, x, .cons _ t, e => by
    obtain ⟨u, h1, h2⟩ := Vals.get (i := i) (x := x) t (by simpa using e)
    exact ⟨u, by simpa using h1, h2⟩
theorem Vals.set {x : V} {u : Value} (r : RelV x u) : ∀ {xs : List V} {us : List Value} (i : Nat), Vals xs us → Vals (xs.set i x) (us.set i u)
  | _, _, _, .nil => .nil
  | _, _, 0, .cons _ t => .cons r t
  | _, _, i + 1, .cons q t => .cons q (Vals.set r i t)
theorem Vals.append : ∀ {xs ys : List V} {us ws : List Value}, Vals xs us → Vals ys ws → Vals (xs ++ ys) (us ++ ws)
  | _, _, _, _, .nil, s => s
  | _, _, _, _, .cons r t, s => .cons r (Vals.append t s)
theorem Vals.take : ∀ {xs : List V} {us : List Value} (n : Nat), Vals xs us → Vals (xs.take n) (us.take n)
  | _, _, 0, _ => .nil
  | _, _, _ + 1, .nil => .nil
  | _, _, n + 1, .cons r t => .cons r (Vals.take n t)
theorem Vals.drop : ∀ {xs : List V} {us : List Value} (n : Nat), Vals xs us → Vals (xs.drop n) (us.drop n)
  | _, _, 0, r => r
  | _, _, _ + 1, .nil => .nil
  | _, _, n + 1, .cons _ t => Vals.drop n t
theorem Vals.none_of : ∀ {xs : List V} {us : List Value} {i : Nat}, Vals xs us → xs[i]? = none → us[i]? = none := fun {xs us i} r e => by
  have h1 := r.length
  have h2 : xs.length ≤ i := List.getElem?_eq_none_iff.mp e
  exact List.getElem?_eq_none_iff.mpr (by omega)

def RelO : Option V → Option Value → Prop
  | some v, some u => RelV v u
  | none, none => True
  | _, _ => False
def KV {κ : Type} : List (κ × V) → List (κ × Value) → Prop := Paired fun (p : κ × V) (q : κ × Value) => p.1 = q.1 ∧ RelV p.2 q.2

/-- a key of a dict (00_mix): an int or a text -/
def kV : Key → V
  | .inl i => .int i
  | .inr x => .str x

/-- what stands at a tracked address -/
inductive HO where
  /-- a list -/
  | lst (xs : List V)
  /-- a tuple (never changes) -/
  | tup (xs : List V)
  /-- a dict whose keys are ints and texts; one whose keys are tuples of ints and texts (the empty one is both) -/
  | dK (kvs : List (Key × V)) | dT (kvs : List (List Key × V))
  /-- a set of ints: its members, its size -/
  | set (S : Int → Bool) (n : Nat)
  /-- an instance of the class at C, its dict at dx, its attributes -/
  | ins (C dx : Addr) (fs : List (Str × V))
  /-- the dict of the instance at x -/
  | own (x : Addr)
  /-- the dict of an exception -/
  | xd (fs : List (Str × V))
  /-- a bound method, f of x -/
  | met (f x : Addr)
  /-- a range object lo, lo + 1, .. below hi -/
  | rng (lo hi : Int)
  /-- a thing that is known to the object (the script; a dict while a loop walks it): read, never written while it is so -/
  | frz (o : Obj) (u : HO)
  /-- a code object's table -/
  | tbl (ps : Array Value)
  /-- any other thing, by what is true of its one object (a def of one's own: SetO a S n := HO.ext fun h => ..) -/
  | ext (φ : Heap → Prop)

abbrev Hp := Addr → Option HO
def upd (H : Hp) (a : Addr) (o : HO) : Hp := fun b => if b = a then some o else H b
theorem upd_same {H : Hp} {a : Addr} {o : HO} : upd H a o a = some o := by unfold upd; rw [if_pos rfl]
theorem upd_ne {H : Hp} {a b : Addr} {o : HO} (h : b ≠ a) : upd H a o b = H b := by unfold upd; rw [if_neg h]
/-- two objects of different content stand apart -/
theorem ne_of {H : Hp} {a b : Addr} {o u : HO} (h : H a = some o) (h' : H b = some u) (d : o ≠ u) : a ≠ b := by
  intro e; subst e; rw [h] at h'; exact d (Option.some.inj h')
theorem ne_of_none {H : Hp} {a b : Addr} {o : HO} (h : H a = some o) (h' : H b = none) : a ≠ b := by
  intro e; subst e; rw [h] at h'; cases h'

section
variable (P : Program) (w : World)
def ObjOk (H : Hp) (h : Heap) (a : Addr) : HO → Prop
  | .lst xs => xs.length ≤ sizeLine ∧ ∃ (its : List Value) (n : Nat), Vals xs its ∧ h.get? a = some { cls := .type "list", data := .seq its.toArray n }
  | .tup xs => xs.length ≤ sizeLine ∧ ∃ its : List Value, Vals xs its ∧ IsTup h a its.toArray
  | .dK kvs => kvs.length ≤ sizeLine ∧ (a == sysModules) = false ∧ ∃ vs, KV kvs vs ∧ h.DictOf (mixKind P w) a vs
  | .dT kvs => kvs.length ≤ sizeLine ∧ (a == sysModules) = false ∧ ∃ xs : List (List Key × Addr × Value),
      Paired (fun (p : List Key × V) (q : List Key × Addr × Value) => p.1 = q.1 ∧ H q.2.1 = some (.tup (p.1.map kV)) ∧ RelV p.2 q.2.2) kvs xs ∧
      ∃ o es ep, h.get? a = some o ∧ o.ExactDict ∧ o.data = .dict es ep ∧ es.toList = xs.map (entryOfKey (tupleKind (mixKind P w))) ∧ (xs.map (·.1)).Nodup
  | .set S n => h.SetOf (intKind P w) a S n
  | .ins C dx fs => H dx = some (.own a) ∧ fs.length ≤ 1000 ∧ dx ≠ a ∧ h.get? a = some (PySem.W.instObj C dx) ∧
      ∃ mA, h.Ns1 dx mA ∧ (∀ f, RelO (fs.lookup f) (mA f)) ∧ PySem.Within mA (fs.map (·.1))
  | .own _ => ∃ o, h.get? a = some o
  | .xd fs => ∃ mA, h.Ns1 a mA ∧ ∀ f, RelO (fs.lookup f) (mA f)
  | .rng lo hi => ∃ t u v, h.get? a = some { cls := .type "range", data := .fields #[.int lo t, .int hi u, .int 1 v] }
  | .frz o u => h.get? a = some o ∧ ObjOk H h a u
  | .tbl ps => h.get? a = some { cls := .none, data := .fields ps }
  | .met f x => h.get? a = some (PySem.W.methodObj (.ref f) (.ref x))
  | .ext φ => φ h ∧ (∃ o, h.get? a = some o) ∧ ∀ h1 h2 : Heap, φ h1 → (∀ o, h1.get? a = some o → h2.get? a = some o) → φ h2
/-- the abstract heap is held -/
def HOk (H : Hp) (h : Heap) : Prop := ∀ a o, H a = some o → ObjOk P w H h a o
end

section
variable {P : Program} {w : World} {H H' : Hp} {h h' : Heap} {a : Addr} {o : HO}
theorem ObjOk.lt (x : ObjOk P w H h a o) : a < h.objs.size := by
  cases o with
  | lst xs => obtain ⟨_, _, _, _, e⟩ := x; exact Heap.lt_size e
  | tup xs => obtain ⟨_, _, _, p⟩ := x; exact p.lt
  | dK kvs => obtain ⟨_, _, _, _, o, _, _, e, _⟩ := x; exact Heap.lt_size e
  | dT kvs => obtain ⟨_, _, _, _, o, _, _, e, _⟩ := x; exact Heap.lt_size e
  | set S n => obtain ⟨o, _, _, _, e, _⟩ := x; exact Heap.lt_size e
  | ins C dx fs => obtain ⟨_, _, _, e, _⟩ := x; exact Heap.lt_size e
  | own y => obtain ⟨_, e⟩ := x; exact Heap.lt_size e
  | xd fs => obtain ⟨_, ⟨_, _, _, e, _⟩, _⟩ := x; exact Heap.lt_size e
  | rng lo hi => obtain ⟨_, _, _, e⟩ := x; exact Heap.lt_size e
  | frz ob u => obtain ⟨e, _⟩ := x; exact Heap.lt_size e
  | tbl ps => exact Heap.lt_size (show h.get? a = some _ from x)
  | met f y => exact Heap.lt_size (show h.get? a = some _ from x)
  | ext φ => obtain ⟨_, ⟨_, e⟩, _⟩ := x; exact Heap.lt_size e
theorem Paired.mapP {α β : Type} {F G : α → β → Prop} : ∀ {l₁ : List α} {l₂ : List β}, Paired F l₁ l₂ → (∀ a b, F a b → G a b) → Paired G l₁ l₂
  | _, _, .nil, _ => .nil
  | _, _, .cons r t, f => .cons (f _ _ r) (Paired.mapP t f)
/-- what an object's description leans on: its own object, its own dict, the tuples -/
theorem ObjOk.stay (x : ObjOk P w H h a o) (k : ∀ b u, (b = a ∨ H b = some (.own a)) → h.get? b = some u → h'.get? b = some u)
    (ho : ∀ b, H b = some (.own a) → H' b = some (.own a)) (ht : ∀ b xs, H b = some (.tup xs) → H' b = some (.tup xs)) : ObjOk P w H' h' a o := by
  induction o with
  | lst xs => obtain ⟨z, its, n, r, e⟩ := x; exact ⟨z, its, n, r, k _ _ (.inl rfl) e⟩
  | tup xs => obtain ⟨z, its, r, ob, e, c⟩ := x; exact ⟨z, its, r, ob, k _ _ (.inl rfl) e, c⟩
  | dK kvs => obtain ⟨z, y, vs, r, ob, es, ep, e, c⟩ := x; exact ⟨z, y, vs, r, ob, es, ep, k _ _ (.inl rfl) e, c⟩
  | dT kvs =>
    obtain ⟨z, y, xs, r, ob, es, ep, e, c⟩ := x
    exact ⟨z, y, xs, Paired.mapP r fun p q z => ⟨z.1, ht _ _ z.2.1, z.2.2⟩, ob, es, ep, k _ _ (.inl rfl) e, c⟩
  | set S n => obtain ⟨ob, es, ep, t, e, c⟩ := x; exact ⟨ob, es, ep, t, k _ _ (.inl rfl) e, c⟩
  | ins C dx fs =>
    obtain ⟨d, z, ne, e, mA, ⟨od, es, ep, e2, c⟩, r⟩ := x
    exact ⟨ho _ d, z, ne, k _ _ (.inl rfl) e, mA, ⟨od, es, ep, k _ _ (.inr d) e2, c⟩, r⟩
  | own y => obtain ⟨ob, e⟩ := x; exact ⟨ob, k _ _ (.inl rfl) e⟩
  | xd fs => obtain ⟨mA, ⟨od, es, ep, e, c⟩, r⟩ := x; exact ⟨mA, ⟨od, es, ep, k _ _ (.inl rfl) e, c⟩, r⟩
  | rng lo hi => obtain ⟨t, u, v, e⟩ := x; exact ⟨t, u, v, k _ _ (.inl rfl) e⟩
  | frz ob u ih => obtain ⟨e, q⟩ := x; exact ⟨k _ _ (.inl rfl) e, ih q⟩
  | tbl ps =>
    have e : h.get? a = some { cls := .none, data := .fields ps } := x
    show h'.get? a = some { cls := .none, data := .fields ps }
    exact k a _ (.inl rfl) e
  | met f y =>
    have e : h.get? a = some (PySem.W.methodObj (.ref f) (.ref y)) := x
    show h'.get? a = some (PySem.W.methodObj (.ref f) (.ref y))
    exact k a _ (.inl rfl) e
  | ext φ => obtain ⟨p, ⟨o, e⟩, st⟩ := x; exact ⟨st _ _ p fun o q => k _ _ (.inl rfl) q, ⟨o, k _ _ (.inl rfl) e⟩, st⟩
theorem HOk.lt (x : HOk P w H h) (e : H a = some o) : a < h.objs.size := (x a o e).lt
theorem HOk.fresh (x : HOk P w H h) (e : h.objs.size ≤ a) : H a = none := by
  cases q : H a with
  | none => rfl
  | some u => exact absurd (Nat.lt_of_lt_of_le (x.lt q) e) (Nat.lt_irrefl _)
/-- every object of the heap is kept -/
theorem HOk.kept (x : HOk P w H h) (k : ∀ b u, h.get? b = some u → h'.get? b = some u) : HOk P w H h' := fun a o e =>
  (x a o e).stay (fun b u _ q => k b u q) (fun _ q => q) fun _ _ q => q
/-- a new object is laid and tracked -/
theorem HOk.laid (x : HOk P w H h) (k : ∀ b u, h.get? b = some u → h'.get? b = some u) (hp : h.objs.size ≤ a) (new : ObjOk P w (upd H a o) h' a o) : HOk P w (upd H a o) h' := fun b u e => by
  have hn := x.fresh hp
  by_cases hb : b = a
  · subst hb; rw [upd_same] at e; cases e; exact new
  · rw [upd_ne hb] at e
    exact (x b u e).stay (fun c v _ q => k c v q) (fun c q => by rw [upd_ne (ne_of_none q hn)]; exact q) fun c xs q => by rw [upd_ne (ne_of_none q hn)]; exact q
end

/-- what may be read as u: it is u, or a known u -/
def Rd (H : Hp) (a : Addr) (u : HO) : Prop := H a = some u ∨ ∃ o, H a = some (.frz o u)
theorem Rd.of {H : Hp} {a : Addr} {u : HO} (h : H a = some u) : Rd H a u := .inl h
theorem Rd.ok {P : Program} {w : World} {H : Hp} {h : Heap} {a : Addr} {u : HO} (r : Rd H a u) (x : HOk P w H h) : ObjOk P w H h a u := by
  rcases r with r | ⟨o, r⟩
  · exact x a u r
  · obtain ⟨_, q⟩ := x a _ r
    exact q
/-- what may be written -/
def Mut : Option HO → Prop
  | some (.lst _) => True
  | some (.dK _) => True
  | some (.dT _) => True
  | some (.set _ _) => True
  | some (.ins _ _ _) => True
  | some (.ext _) => True
  | _ => False
section
variable {P : Program} {w : World} {H : Hp} {h h' : Heap} {x e : Addr} {o' : HO}
/-- the object at e is changed: x itself, or the dict of the instance x -/
theorem HOk.write (ok : HOk P w H h) (mu : Mut (H x)) (he : e = x ∨ H e = some (.own x)) (k : ∀ b u, b ≠ e → h.get? b = some u → h'.get? b = some u) (heo : ∃ u, h'.get? e = some u)
    (new : ObjOk P w (upd H x o') h' x o') : HOk P w (upd H x o') h' := fun b u q => by
  have nown : ∀ c y, H c = some (.own y) → c ≠ x := fun c y r z => by subst z; rw [r] at mu; exact mu
  have ntup : ∀ c xs, H c = some (.tup xs) → c ≠ x := fun c xs r z => by subst z; rw [r] at mu; exact mu
  by_cases hb : b = x
  · subst hb; rw [upd_same] at q; cases q; exact new
  · rw [upd_ne hb] at q
    by_cases hbe : b = e
    · have q' : H b = some (.own x) := by
        rcases he with z | z
        · exact absurd (hbe.trans z) hb
        · rw [hbe]; exact z
      rw [q] at q'; cases q'
      obtain ⟨v, hv⟩ := heo
      exact ⟨v, by rw [hbe]; exact hv⟩
    · refine (ok b u q).stay (fun c v hc r => k c v ?_ r) (fun c r => by rw [upd_ne (nown c b r)]; exact r) fun c xs r => by rw [upd_ne (ntup c xs r)]; exact r
      rcases hc with rfl | hc
      · exact hbe
      · rintro rfl
        rcases he with z | z
        · exact nown c b hc z
        · rw [hc] at z; cases z; exact hb rfl
end

/-! ### kept unless tracked; of the frames at fs (the callers') the slots may change (an exception that passes writes there); of the records at ex (iterators) nothing is said -/
structure Un (fs ex : List Addr) (H H' : Hp) (h h' : Heap) : Prop where
  keep : ∀ b o, h.get? b = some o → H b = none → b ∉ fs → b ∉ ex → h'.get? b = some o
  slot : ∀ b o, h.get? b = some o → H b = none → b ∈ fs → b ∉ ex → ∃ sl, h'.get? b = some { o with slots := sl }
  free : ∀ b o, h.get? b = some o → H b = none → b ∉ ex → H' b = none
  there : ∀ b o, h.get? b = some o → b ∉ ex → ∃ o', h'.get? b = some o'
  tups : ∀ b xs, H b = some (.tup xs) → H' b = some (.tup xs)
  frzs : ∀ b o u, H b = some (.frz o u) → H' b = some (.frz o u)
  tbls : ∀ b ps, H b = some (.tbl ps) → ∃ more, H' b = some (.tbl (ps ++ more))
section
variable {fs fs' ex ex' : List Addr} {H H1 H2 : Hp} {h h1 h2 h' : Heap} {a x e : Addr} {o : HO}
theorem Un.any (u : Un fs ex H H1 h h1) {b : Addr} {ob : Obj} (q : h.get? b = some ob) (n : H b = none) (hx : b ∉ ex) : ∃ sl, h1.get? b = some { ob with slots := sl } := by
  by_cases hb : b ∈ fs
  · exact u.slot b ob q n hb hx
  · exact ⟨ob.slots, u.keep b ob q n hb hx⟩
theorem Un.trans (a : Un fs ex H H1 h h1) (b : Un fs ex H1 H2 h1 h2) : Un fs ex H H2 h h2 where
  keep := fun c ob q n hc hx => b.keep c ob (a.keep c ob q n hc hx) (a.free c ob q n hx) hc hx
  slot := fun c ob q n hc hx => by
    obtain ⟨sl, e1⟩ := a.slot c ob q n hc hx
    obtain ⟨sl', e2⟩ := b.slot c _ e1 (a.free c ob q n hx) hc hx
    exact ⟨sl', e2⟩
  free := fun c ob q n hx => by
    obtain ⟨o', e1⟩ := a.there c ob q hx
    exact b.free c o' e1 (a.free c ob q n hx) hx
  there := fun c ob q hx => by
    obtain ⟨o', e1⟩ := a.there c ob q hx
    exact b.there c o' e1 hx
  tups := fun c xs q => b.tups c xs (a.tups c xs q)
  frzs := fun c ob xs q => b.frzs c ob xs (a.frzs c ob xs q)
  tbls := fun c ps q => by
    obtain ⟨m1, e1⟩ := a.tbls c ps q
    obtain ⟨m2, e2⟩ := b.tbls c _ e1
    exact ⟨m1 ++ m2, by rw [e2, Array.append_assoc]⟩
theorem Un.kept (k : ∀ b u, h.get? b = some u → h'.get? b = some u) : Un fs ex H H h h' :=
  ⟨fun b ob q _ _ _ => k b ob q, fun b ob q _ _ _ => ⟨ob.slots, k b ob q⟩, fun _ _ _ n _ => n, fun b ob q _ => ⟨ob, k b ob q⟩, fun _ _ q => q, fun _ _ _ q => q, fun _ ps q => ⟨#[], by rw [q]; simp⟩⟩
theorem Un.refl : Un fs ex H H h h := Un.kept fun _ _ q => q
theorem Un.laid (k : ∀ b u, h.get? b = some u → h'.get? b = some u) (hp : h.objs.size ≤ a) (hn : H a = none) : Un fs ex H (upd H a o) h h' where
  keep := fun b u q _ _ _ => k b u q
  slot := fun b u q _ _ _ => ⟨u.slots, k b u q⟩
  free := fun b u q n _ => by rw [upd_ne (Nat.ne_of_lt (Nat.lt_of_lt_of_le (Heap.lt_size q) hp))]; exact n
  there := fun b u q _ => ⟨u, k b u q⟩
  tups := fun b xs q => by rw [upd_ne (ne_of_none q hn)]; exact q
  frzs := fun b u xs q => by rw [upd_ne (ne_of_none q hn)]; exact q
  tbls := fun b ps q => ⟨#[], by rw [upd_ne (ne_of_none q hn), q]; simp⟩
theorem Un.write (mu : Mut (H x)) (he : e = x ∨ H e = some (.own x)) (k : ∀ b u, b ≠ e → h.get? b = some u → h'.get? b = some u) (heo : ∃ u, h'.get? e = some u) : Un fs ex H (upd H x o) h h' := by
  have hx : ∀ b, H b = none → b ≠ x := fun b n z => by subst z; rw [n] at mu; exact mu
  have hb : ∀ b, H b = none → b ≠ e := fun b n z => by
    subst z
    rcases he with r | r
    · exact hx b n r
    · rw [n] at r; cases r
  have hm : ∀ b u, H b = some u → ¬ Mut (some u) → b ≠ x := fun b u q nm z => by subst z; rw [q] at mu; exact nm mu
  refine ⟨fun b u q n _ _ => k b u (hb b n) q, fun b u q n _ _ => ⟨u.slots, k b u (hb b n) q⟩, fun b u q n _ => by rw [upd_ne (hx b n)]; exact n, fun b u q _ => ?_,
    fun b xs q => by rw [upd_ne (hm b _ q fun z => z)]; exact q, fun b u xs q => by rw [upd_ne (hm b _ q fun z => z)]; exact q, fun b ps q => ⟨#[], by rw [upd_ne (hm b _ q fun z => z), q]; simp⟩⟩
  by_cases hbe : b = e
  · subst hbe; exact heo
  · exact ⟨u, k b u hbe q⟩
theorem Un.mono (u : Un fs ex H H1 h h1) (hs : ∀ b ∈ fs, b ∈ fs') (hx : ∀ b ∈ ex, b ∈ ex') : Un fs' ex' H H1 h h1 :=
  ⟨fun b ob q n hb he => u.keep b ob q n (fun z => hb (hs b z)) fun z => he (hx b z), fun _ _ q n _ he => u.any q n fun z => he (hx _ z), fun b ob q n he => u.free b ob q n fun z => he (hx b z), fun b ob q he => u.there b ob q fun z => he (hx b z), u.tups, u.frzs, u.tbls⟩
end

/-! ### the heap without what is tracked -/
def trk (h : Heap) (H : Hp) : List Addr := (List.range h.objs.size).filter fun a => (H a).isSome
def hidT (h : Heap) (H : Hp) : Heap := PySem.W.hideAll h (trk h H)
theorem hidT_size (h : Heap) (H : Hp) : (hidT h H).objs.size = h.objs.size := PySem.W.hideAll_size _ _
theorem hidT_get {h : Heap} {H : Hp} {b : Addr} {o : Obj} (e : h.get? b = some o) (n : H b = none) : (hidT h H).get? b = some o :=
  PySem.W.hideAll_get _ e fun hm => by
    have q : (H b).isSome = true := (List.mem_filter.mp hm).2
    rw [n] at q; simp at q
theorem of_hidT {h : Heap} {H : Hp} {b : Addr} {o : Obj} (e : (hidT h H).get? b = some o) : h.get? b = some o ∧ H b = none := by
  have e' : h.get? b = some o := PySem.W.of_hideAll (trk h H) e
  refine ⟨e', ?_⟩
  cases q : H b with
  | none => rfl
  | some x =>
    have hm : b ∈ trk h H := List.mem_filter.mpr ⟨List.mem_range.mpr (Heap.lt_size e'), by simp [q]⟩
    have z : (hidT h H).get? b = none := PySem.W.hideAll_none (trk h H) hm
    rw [z] at e; cases e

/-! ### OpenK's ledger, filled with every new object but one -/
def allNews (g h : Heap) (L : Addr) : List (Addr × Obj) := (List.range h.objs.size).filterMap fun a => if a = L ∨ (g.get? a).isSome = true then none else (h.get? a).map fun o => (a, o)
def rest (g h : Heap) (L d : Addr) : List (Addr × Obj) := (allNews g h L).filter fun p => decide (p.1 ≠ d)
end L2

namespace L2
open PySem PySem.Spec PyProof.Rows

/-- the module's facts, over the base: the heap at the law's entry without what is tracked there -/
structure Mod (K : PySem.W.Frag) (mg : Str → Option Value) (base : Heap) : Prop where
  kin : K.In base
  glob : base.Ns mainGlobals mg
  blt : ∃ mb, base.Ns builtinsNs mb ∧ ∀ x : Str, x ≠ "__name__" → mb x = bootBuiltins x
  nolimit : base.NoLimit

/-- the context: a def's body (or a comprehension's block) running. base: fixed through the whole law; s₀, H₀: the entry; outer: the frames whose slots others may change (a def's callers); stack: all frames that run;
   ex: iterators that were made ahead of the entry and are walked here (a comprehension's); fn: the names whose cells were made at the entry (a def: all; a comprehension's block: its own); calm: not within an except suite; pn: pins that every state bears; xe: what is wanted of an exception that leaves the code -/
structure Cx where
  prog : Program
  w : World
  K : PySem.W.Frag
  mg : Str → Option Value
  base : Heap
  A : Around
  N : List Str
  s₀ : Shared
  H₀ : Hp
  env : Env
  outer : List Env
  stack : List Env
  ex : List Addr
  fn : Str → Bool
  calm : Bool
  pn : List (Addr × Obj)
  xe : Value → Shared → Prop
/-- the callers' frames -/
def frs (l : List Env) : List Addr := l.filterMap (·.frame)
abbrev Cx.fs (X : Cx) : List Addr := frs X.outer

def Vis (sc : Scope) (x : Str) : Prop := sc.names.lookup x = some .local ∨ sc.names.lookup x = some .cell ∨ sc.names.lookup x = some .free
def Loc (sc : Scope) (x : Str) : Prop := sc.names.lookup x = some .local ∨ sc.names.lookup x = some .cell
def Look (env : Env) (h : Heap) (m : Str → Option Value) (x : Str) (u : Value) : Prop :=
  (env.kindOf x = some .local ∧ m x = some u) ∨ ((env.kindOf x = some .cell ∨ env.kindOf x = some .free) ∧ ∃ c, env.cells.lookup x = some c ∧ h.IsCell c (some u))

structure Cx.Ok (X : Cx) : Prop where
  mod : Mod X.K X.mg X.base
  kind : X.env.scope.kind = .function
  glob : X.env.globals = mainGlobals
  blt : X.env.builtins = builtinsNs
  above : X.s₀.heap.objs.size ≤ X.env.locals
  inj : ∀ x y c, X.env.cells.lookup x = some c → X.env.cells.lookup y = some c → x = y
  has : ∀ x, (X.env.kindOf x = some .cell ∨ X.env.kindOf x = some .free) → ∃ c, X.env.cells.lookup x = some c
  cab : ∀ x c, X.fn x = true → X.env.cells.lookup x = some c → X.s₀.heap.objs.size ≤ c
  hd : X.calm = true → X.A.handled = none
  frames : X.A.frames = some X.stack
  stk : X.stack = X.outer ∨ (X.stack = X.env :: X.outer ∧ X.env.frame = some X.env.locals)
  exf : ∀ b ∈ X.ex, b ≠ X.env.locals ∧ ∀ x c, X.env.cells.lookup x = some c → c ≠ b
  bs : ∀ b o, X.base.get? b = some o → X.s₀.heap.get? b = some o ∧ X.H₀ b = none
  bsz : X.base.objs.size ≤ X.s₀.heap.objs.size
  noex : ∀ b o, X.base.get? b = some o → b ∉ X.ex
  exfs : ∀ b ∈ X.ex, b ∉ X.fs
  funs : X.s₀.heap.FunFrames X.base X.outer
  frf : ∀ b ∈ X.fs, X.H₀ b = none

structure Inv (X : Cx) (pins : List (Addr × Obj)) (σ : List (Option V)) (H : Hp) (s : Shared) : Prop where
  ok : X.Ok
  os : s.os = X.s₀.os
  bare : AllBare s.gens
  base : Un X.fs X.ex X.H₀ H X.s₀.heap s.heap
  loc : ∃ m, s.heap.Ns X.env.locals m ∧ ∀ (i : Nat) (x : Str) (v : V), X.N[i]? = some x → σ[i]? = some (some v) → Vis X.env.scope x → ∃ u, RelV v u ∧ Look X.env s.heap m x u
  cell : ∀ x c, X.env.cells.lookup x = some c → ∃ v, s.heap.IsCell c v
  free : H X.env.locals = none
  freeC : ∀ x c, X.env.cells.lookup x = some c → H c = none
  pin : ∀ p ∈ X.pn ++ pins, s.heap.get? p.1 = some p.2 ∧ H p.1 = none ∧ p.1 ≠ X.env.locals ∧ p.1 ∉ X.fs ∧ ∀ v, p.2.data ≠ .cell v
  hok : HOk X.prog X.w H s.heap
  len : σ.length = X.N.length

section
variable {X : Cx} {pins : List (Addr × Obj)} {σ : List (Option V)} {H H' : Hp} {s : Shared} {h' : Heap}

theorem Cx.Ok.nofr (ok : X.Ok) {b : Addr} {o : Obj} (e : X.base.get? b = some o) : b ∉ X.fs := fun hb => by
  have := (ok.funs.mem hb).1
  rw [e] at this; cases this
theorem Inv.bs (I : Inv X pins σ H s) : ∀ b o, X.base.get? b = some o → s.heap.get? b = some o ∧ H b = none := fun b o e =>
  ⟨I.base.keep b o (I.ok.bs b o e).1 (I.ok.bs b o e).2 (I.ok.nofr e) (I.ok.noex b o e), I.base.free b o (I.ok.bs b o e).1 (I.ok.bs b o e).2 (I.ok.noex b o e)⟩
theorem Inv.bk (I : Inv X pins σ H s) : ∀ b o, X.base.get? b = some o → s.heap.get? b = some o := fun b o e => (I.bs b o e).1
theorem Inv.mod (I : Inv X pins σ H s) : Mod X.K X.mg X.base := I.ok.mod
theorem Inv.kIn (I : Inv X pins σ H s) : X.K.In s.heap := I.ok.mod.kin.keeps I.bk
theorem Inv.nolimit (I : Inv X pins σ H s) : s.heap.NoLimit := I.ok.mod.nolimit.keeps I.bk
/-- the frame over the base: for OpenK's rules (K.In X.base is I.mod.kin) -/
theorem Inv.fr (I : Inv X pins σ H s) : ∃ m, Fr X.base X.env.locals s.heap m :=
  let ⟨m, hn, _⟩ := I.loc
  ⟨m, hn, I.bk, Nat.le_trans I.ok.bsz I.ok.above⟩
theorem Inv.lt (I : Inv X pins σ H s) : X.env.locals < s.heap.objs.size := let ⟨_, hn, _⟩ := I.loc; hn.lt
theorem Inv.sz (I : Inv X pins σ H s) : X.s₀.heap.objs.size ≤ s.heap.objs.size := Nat.le_trans I.ok.above (Nat.le_of_lt I.lt)
theorem Inv.nofs (I : Inv X pins σ H s) {a : Addr} (h : s.heap.objs.size ≤ a) : a ∉ X.fs := fun hb => by
  obtain ⟨_, o, ho, _⟩ := I.ok.funs.mem hb
  exact absurd (Nat.lt_of_lt_of_le (Heap.lt_size ho) (Nat.le_trans I.sz h)) (Nat.lt_irrefl _)
theorem Inv.cne (I : Inv X pins σ H s) : ∀ x c, X.env.cells.lookup x = some c → c ≠ X.env.locals := fun x c e z => by
  obtain ⟨v, o, ho, hd⟩ := I.cell x c e
  obtain ⟨m, ⟨o', es, ep, ho', hd', _⟩, _⟩ := I.loc
  rw [z, ho'] at ho; cases ho; rw [hd'] at hd; cases hd
theorem Inv.funs (I : Inv X pins σ H s) : s.heap.FunFrames X.base X.outer := by
  have all : ∀ (l : List Env), (∀ b ∈ frs l, b ∈ X.fs) → X.s₀.heap.FunFrames X.base l → s.heap.FunFrames X.base l := by
    intro l
    induction l with
    | nil => intro _ _; trivial
    | cons env r ih =>
      intro hs hl
      obtain ⟨hk, ⟨L, o, hf, hn, ho, hd⟩, hr⟩ := hl
      have hL : L ∈ X.fs := hs L (by unfold frs; rw [List.filterMap_cons, hf]; exact List.mem_cons_self)
      obtain ⟨sl, e⟩ := I.base.slot L o ho (I.ok.frf L hL) hL fun z => I.ok.exfs L z hL
      exact ⟨hk, ⟨L, _, hf, hn, e, hd⟩, ih (fun b hb => hs b (by unfold frs; rw [List.filterMap_cons, hf]; exact List.mem_cons_of_mem _ hb)) hr⟩
  exact all X.outer (fun _ hb => hb) I.ok.funs

/-- the frames that run, for a call -/
theorem Inv.stack (I : Inv X pins σ H s) : s.heap.FunFrames X.base X.stack := by
  rcases I.ok.stk with e | ⟨e, hf⟩
  · rw [e]; exact I.funs
  · rw [e]
    obtain ⟨m, hn, _⟩ := I.loc
    refine .cons (by rw [I.ok.kind]; decide) hf hn ?_ I.funs
    exact Heap.get?_none_of_le (Nat.le_trans I.ok.bsz I.ok.above)
theorem Inv.stkSub (I : Inv X pins σ H s) : ∀ b ∈ frs X.stack, b ∈ X.env.locals :: X.fs := fun b hb => by
  rcases I.ok.stk with e | ⟨e, hf⟩
  · rw [e] at hb; exact List.mem_cons_of_mem _ hb
  · rw [e] at hb
    unfold frs at hb
    rw [List.filterMap_cons, hf] at hb
    exact hb
theorem Inv.stkFree (I : Inv X pins σ H s) : ∀ b ∈ frs X.stack, H b = none := fun b hb => by
  rcases List.mem_cons.mp (I.stkSub b hb) with e | hb
  · rw [e]; exact I.free
  · obtain ⟨_, o, ho, _⟩ := I.ok.funs.mem hb
    exact I.base.free b o ho (I.ok.frf b hb) fun z => I.ok.exfs b z hb

/-- THE STEP: the untracked objects but the frame and the records at ch are kept (the callers' frames up to slots), the frame's map is kept, the new abstract heap is held -/
theorem Inv.step {g' : Array GenState} {t' : Nat} {d' : Drawn} {ch : List Addr} (I : Inv X pins σ H s)
    (hch : ∀ b ∈ ch, (b ∈ X.ex ∨ X.s₀.heap.objs.size ≤ b) ∧ b ≠ X.env.locals ∧ (∀ x c, X.env.cells.lookup x = some c → c ≠ b) ∧ ∀ p ∈ X.pn ++ pins, p.1 ≠ b)
    (keep : ∀ b o, b ≠ X.env.locals → b ∉ X.fs → b ∉ ch → s.heap.get? b = some o → H b = none → h'.get? b = some o)
    (slot : ∀ b o, b ≠ X.env.locals → b ∈ X.fs → b ∉ ch → s.heap.get? b = some o → H b = none → ∃ sl, h'.get? b = some { o with slots := sl }) (free : ∀ b o, b ∉ ch → s.heap.get? b = some o → H b = none → H' b = none)
    (there : ∀ b o, b ∉ ch → s.heap.get? b = some o → ∃ o', h'.get? b = some o')
    (tups : ∀ b xs, H b = some (.tup xs) → H' b = some (.tup xs)) (frzs : ∀ b o u, H b = some (.frz o u) → H' b = some (.frz o u)) (tbls : ∀ b ps, H b = some (.tbl ps) → ∃ more, H' b = some (.tbl (ps ++ more)))
    (ns : ∀ m, s.heap.Ns X.env.locals m → h'.Ns X.env.locals m) (hok : HOk X.prog X.w H' h') (hg : AllBare g') :
    Inv X pins σ H' { s with heap := h', gens := g', drawn := d', toks := t' } := by
  have neL : ∀ b o, X.s₀.heap.get? b = some o → b ≠ X.env.locals := fun b o e => Nat.ne_of_lt (Nat.lt_of_lt_of_le (Heap.lt_size e) I.ok.above)
  have neC : ∀ b o, X.s₀.heap.get? b = some o → b ∉ X.ex → b ∉ ch := fun b o e hx hb => by
    rcases (hch b hb).1 with z | z
    · exact hx z
    · exact absurd (Nat.lt_of_lt_of_le (Heap.lt_size e) z) (Nat.lt_irrefl _)
  have cellK : ∀ x c, X.env.cells.lookup x = some c → ∀ v, s.heap.IsCell c v → h'.IsCell c v := fun x c e v ⟨o, ho, hd⟩ => by
    have nch : c ∉ ch := fun z => (hch c z).2.2.1 x c e rfl
    by_cases hc : c ∈ X.fs
    · obtain ⟨sl, q⟩ := slot c o (I.cne x c e) hc nch ho (I.freeC x c e)
      exact ⟨_, q, hd⟩
    · exact ⟨o, keep c o (I.cne x c e) hc nch ho (I.freeC x c e), hd⟩
  refine ⟨I.ok, I.os, hg, ⟨fun b o e n hb hx => ?_, fun b o e n hb hx => ?_, fun b o e n hx => ?_, fun b o e hx => ?_, fun b xs e => tups b xs (I.base.tups b xs e), fun b o xs e => frzs b o xs (I.base.frzs b o xs e), fun b ps e => ?_⟩, ?_, fun x c e => ?_, ?_, fun x c e => ?_, fun p hp => ?_, hok, I.len⟩
  · exact keep b o (neL b o e) hb (neC b o e hx) (I.base.keep b o e n hb hx) (I.base.free b o e n hx)
  · obtain ⟨sl, e1⟩ := I.base.slot b o e n hb hx
    obtain ⟨sl', e2⟩ := slot b _ (neL b o e) hb (neC b o e hx) e1 (I.base.free b o e n hx)
    exact ⟨sl', e2⟩
  · obtain ⟨o', e1⟩ := I.base.there b o e hx
    exact free b o' (neC b o e hx) e1 (I.base.free b o e n hx)
  · obtain ⟨o', e1⟩ := I.base.there b o e hx
    exact there b o' (neC b o e hx) e1
  · obtain ⟨m1, e1⟩ := I.base.tbls b ps e
    obtain ⟨m2, e2⟩ := tbls b _ e1
    exact ⟨m1 ++ m2, by rw [e2, Array.append_assoc]⟩
  · obtain ⟨m, hn, hl⟩ := I.loc
    refine ⟨m, ns m hn, fun i x v e1 e2 e3 => ?_⟩
    obtain ⟨u, r, l⟩ := hl i x v e1 e2 e3
    refine ⟨u, r, ?_⟩
    rcases l with l | ⟨k, c, e, z⟩
    · exact .inl l
    · exact .inr ⟨k, c, e, cellK x c e _ z⟩
  · obtain ⟨v, z⟩ := I.cell x c e
    exact ⟨v, cellK x c e v z⟩
  · obtain ⟨m, ⟨o, _, _, ho, _⟩, _⟩ := I.loc
    exact free _ o (fun z => (hch _ z).2.1 rfl) ho I.free
  · obtain ⟨v, o, ho, hd⟩ := I.cell x c e
    exact free c o (fun z => (hch c z).2.2.1 x c e rfl) ho (I.freeC x c e)
  · obtain ⟨e, n, ne, nf, d⟩ := I.pin p hp
    have nch : p.1 ∉ ch := fun z => (hch p.1 z).2.2.2 p hp rfl
    exact ⟨keep p.1 p.2 ne nf nch e n, free p.1 p.2 nch e n, ne, nf, d⟩
/-- .. where the frame's own object is kept too -/
theorem Inv.un {t' : Nat} (I : Inv X pins σ H s) (u : Un X.fs [] H H' s.heap h') (hok : HOk X.prog X.w H' h') : Inv X pins σ H' { s with heap := h', toks := t' } := by
  obtain ⟨m, ⟨o, es, ep, ho, r⟩, _⟩ := id I.loc
  obtain ⟨sl, hL⟩ := u.any ho I.free (by simp)
  exact I.step (g' := s.gens) (d' := s.drawn) (ch := []) (fun _ z => nomatch z) (fun b o _ hb _ e n => u.keep b o e n hb (by simp)) (fun b o _ hb _ e n => u.slot b o e n hb (by simp)) (fun b o _ e n => u.free b o e n (by simp)) (fun b o _ e => u.there b o e (by simp)) u.tups u.frzs u.tbls (fun m' hm => by
    obtain ⟨o', es', ep', ho', r'⟩ := hm
    rw [ho] at ho'; cases ho'
    exact ⟨_, es', ep', hL, r'⟩) hok I.bare
/-- behind a call (or a comprehension's block): the slots of this frame may have changed too, the records at ch may have turned -/
theorem Inv.call {g' : Array GenState} {t' : Nat} {d' : Drawn} {ch : List Addr} (I : Inv X pins σ H s) (u : Un (frs X.stack) ch H H' s.heap h') (hok : HOk X.prog X.w H' h') (hg : AllBare g')
    (hch : ∀ b ∈ ch, (b ∈ X.ex ∨ X.s₀.heap.objs.size ≤ b) ∧ b ≠ X.env.locals ∧ (∀ x c, X.env.cells.lookup x = some c → c ≠ b) ∧ ∀ p ∈ X.pn ++ pins, p.1 ≠ b) :
    Inv X pins σ H' { s with heap := h', gens := g', drawn := d', toks := t' } := by
  obtain ⟨m, ⟨o, es, ep, ho, r⟩, _⟩ := id I.loc
  obtain ⟨sl, hL⟩ := u.any ho I.free fun z => (hch _ z).2.1 rfl
  exact I.step (ch := ch) hch (fun b o hL hb hc e n => u.keep b o e n (fun z => (List.mem_cons.mp (I.stkSub b z)).elim hL hb) hc) (fun b o _ _ hc e n => u.any e n hc) (fun b o hc e n => u.free b o e n hc) (fun b o hc e => u.there b o e hc) u.tups u.frzs u.tbls (fun m' hm => by
    obtain ⟨o', es', ep', ho', r'⟩ := hm
    rw [ho] at ho'; cases ho'
    exact ⟨_, es', ep', hL, r'⟩) hok hg
/-- an untracked record of ours (an iterator) has turned -/
theorem Inv.turned {t' : Nat} {it : Addr} (I : Inv X pins σ H s) (k : ∀ b o, b ≠ it → s.heap.get? b = some o → h'.get? b = some o) (hn : H it = none) (hL : it ≠ X.env.locals)
    (h1 : it ∈ X.ex ∨ X.s₀.heap.objs.size ≤ it) (h2 : ∀ x c, X.env.cells.lookup x = some c → c ≠ it) (h3 : ∀ p ∈ X.pn ++ pins, p.1 ≠ it) : Inv X pins σ H { s with heap := h', toks := t' } := by
  have nit : ∀ b u, H b = some u → b ≠ it := fun b u e z => by rw [z, hn] at e; cases e
  refine I.step (g' := s.gens) (d' := s.drawn) (ch := [it]) (fun b hb => ?_) (fun b o _ _ hc e _ => k b o (fun z => hc (by simp [z])) e) (fun b o _ _ hc e _ => ⟨o.slots, k b o (fun z => hc (by simp [z])) e⟩) (fun _ _ _ _ n => n)
    (fun b o hc e => ⟨o, k b o (fun z => hc (by simp [z])) e⟩) (fun _ _ e => e) (fun _ _ _ e => e) (fun b ps e => ⟨#[], by rw [e]; simp⟩) (fun m hm => ?_) (fun b u e => ?_) I.bare
  · have e : b = it := by simpa using hb
    subst e
    exact ⟨h1, hL, h2, h3⟩
  · obtain ⟨o, es, ep, ho, r⟩ := hm
    exact ⟨o, es, ep, k _ o (Ne.symm hL) ho, r⟩
  · refine (I.hok b u e).stay (fun c v hc q => k c v ?_ q) (fun _ q => q) fun _ _ q => q
    rcases hc with z | z
    · rw [z]; exact nit b u e
    · exact nit c _ z
theorem Inv.tok (I : Inv X pins σ H s) (t : Nat) : Inv X pins σ H { s with toks := t } := I.un (h' := s.heap) (t' := t) Un.refl I.hok
/-- all objects kept -/
theorem Inv.kept {t' : Nat} (I : Inv X pins σ H s) (k : ∀ b u, s.heap.get? b = some u → h'.get? b = some u) : Inv X pins σ H { s with heap := h', toks := t' } := I.un (Un.kept k) (I.hok.kept k)
/-- a new object laid and tracked -/
theorem Inv.laid {a : Addr} {o : HO} {t' : Nat} (I : Inv X pins σ H s) (k : ∀ b u, s.heap.get? b = some u → h'.get? b = some u) (hp : s.heap.objs.size ≤ a) (new : ObjOk X.prog X.w (upd H a o) h' a o) :
    Inv X pins σ (upd H a o) { s with heap := h', toks := t' } := I.un (Un.laid k hp (I.hok.fresh hp)) (I.hok.laid k hp new)
/-- an object written -/
theorem Inv.write {x e : Addr} {o : HO} {t' : Nat} (I : Inv X pins σ H s) (mu : Mut (H x)) (he : e = x ∨ H e = some (.own x)) (k : ∀ b u, b ≠ e → s.heap.get? b = some u → h'.get? b = some u) (heo : ∃ u, h'.get? e = some u)
    (new : ObjOk X.prog X.w (upd H x o) h' x o) : Inv X pins σ (upd H x o) { s with heap := h', toks := t' } := I.un (Un.write mu he k heo) (I.hok.write mu he k heo new)
theorem Inv.pins_of {pins' : List (Addr × Obj)} (I : Inv X pins σ H s) (h : ∀ p ∈ pins', s.heap.get? p.1 = some p.2 ∧ H p.1 = none ∧ p.1 ≠ X.env.locals ∧ p.1 ∉ X.fs ∧ ∀ v, p.2.data ≠ .cell v) : Inv X pins' σ H s :=
  ⟨I.ok, I.os, I.bare, I.base, I.loc, I.cell, I.free, I.freeC, fun p hp => (List.mem_append.mp hp).elim (fun z => I.pin p (List.mem_append_left _ z)) (h p), I.hok, I.len⟩

theorem nodup_ix {N : List Str} (hN : N.Nodup) {i j : Nat} {x : Str} (a : N[i]? = some x) (b : N[j]? = some x) : i = j := by
  obtain ⟨h1, e1⟩ := List.getElem?_eq_some_iff.mp a
  obtain ⟨h2, e2⟩ := List.getElem?_eq_some_iff.mp b
  exact (List.getElem_inj hN).mp (e1.trans e2.symm)

/-- a name is stored; what changed -/
theorem store_ok2 {M : Model} {A : Around} {E : Value → Shared → Prop} {i : Nat} {x : Str} {v : V} {u : Value} {Q : Unit → Shared → Prop} (I : Inv X pins σ H s) (hN : X.N.Nodup) (hi : X.N[i]? = some x) (hx : Loc X.env.scope x) (r : RelV v u)
    (h : ∀ s', Inv X pins (σ.set i (some v)) H s' → (∃ a, Heap.SameBut a s.heap s'.heap ∧ (a = X.env.locals ∨ X.env.cells.lookup x = some a)) → Q () s') (hf : X.fn x = true ∨ X.env.scope.names.lookup x = some .local := by first | exact .inl rfl | exact .inr rfl | assumption) : wpAny M A (storeName X.env x u) Q E s := by
  obtain ⟨m, hn, hl⟩ := id I.loc
  have hcls : (X.env.scope.kind == .class || (X.env.scope.kind == .module && X.env.locals != X.env.globals)) = false := by rw [I.ok.kind]; rfl
  have hiσ : i < σ.length := by rw [I.len]; exact (List.getElem?_eq_some_iff.mp hi).1
  have cne := I.cne
  have tracked : ∀ {a : Addr} {h' : Heap}, (∃ o, s.heap.get? a = some o ∧ H a = none) → Heap.SameBut a s.heap h' → HOk X.prog X.w H h' := fun {a h'} ha hs b ob e => by
    obtain ⟨_, _, hfree⟩ := ha
    refine (I.hok b ob e).stay (fun c w' hc q => (hs.2 c ?_).trans q) (fun _ q => q) fun _ _ q => q
    rintro rfl
    rcases hc with rfl | hc
    · rw [hfree] at e; cases e
    · rw [hfree] at hc; cases hc
  rcases hx with hk | hk
  · refine wpAny_storeName_local hk hn (fun h' hn' hs => ?_) hcls
    obtain ⟨oL, _, _, hoL, _⟩ := id hn
    refine h _ ⟨I.ok, I.os, I.bare, ⟨fun b o e n hb hx => ?_, fun b o e n hb hx => ?_, I.base.free, fun b o e hx => ?_, I.base.tups, I.base.frzs, I.base.tbls⟩, ⟨_, hn', fun j y v' e1 e2 e3 => ?_⟩, fun y c e => ?_, I.free, I.freeC, fun p hp => ?_, tracked ⟨oL, hoL, I.free⟩ hs, by simpa using I.len⟩ ⟨_, hs, .inl rfl⟩
    · exact (hs.2 b (Nat.ne_of_lt (Nat.lt_of_lt_of_le (Heap.lt_size e) I.ok.above))).trans (I.base.keep b o e n hb hx)
    · obtain ⟨sl, e1⟩ := I.base.slot b o e n hb hx
      exact ⟨sl, (hs.2 b (Nat.ne_of_lt (Nat.lt_of_lt_of_le (Heap.lt_size e) I.ok.above))).trans e1⟩
    · obtain ⟨o', e1⟩ := I.base.there b o e hx
      exact ⟨o', (hs.2 b (Nat.ne_of_lt (Nat.lt_of_lt_of_le (Heap.lt_size e) I.ok.above))).trans e1⟩
    · by_cases hj : j = i
      · subst hj
        rw [hi] at e1; cases e1
        rw [List.getElem?_set_self hiσ] at e2
        cases e2
        exact ⟨u, r, .inl ⟨hk, by simp⟩⟩
      · rw [List.getElem?_set_ne (Ne.symm hj)] at e2
        obtain ⟨u', r', q⟩ := hl j y v' e1 e2 e3
        refine ⟨u', r', ?_⟩
        rcases q with ⟨k, e⟩ | ⟨k, c, e, z⟩
        · refine .inl ⟨k, ?_⟩
          have : y ≠ x := fun e => hj (nodup_ix hN e1 (e ▸ hi))
          simp [this, e]
        · exact .inr ⟨k, c, e, z.sameBut hs (cne y c e)⟩
    · obtain ⟨w', z⟩ := I.cell y c e
      exact ⟨w', z.sameBut hs (cne y c e)⟩
    · obtain ⟨e, n, ne, nf, d⟩ := I.pin p hp
      exact ⟨(hs.2 p.1 ne).trans e, n, ne, nf, d⟩
  · have hfn : X.fn x = true := by
      rcases hf with z | z
      · exact z
      · rw [z] at hk; cases hk
    obtain ⟨c, hc⟩ := I.ok.has x (.inl hk)
    obtain ⟨w', z⟩ := I.cell x c hc
    refine wpAny_storeName_cell I.ok.kind hk hc z (fun h' hc' hs => ?_)
    obtain ⟨oc, hoc, hocd⟩ := id z
    refine h { s with heap := h' } ⟨I.ok, I.os, I.bare, ⟨fun b o e n hb hx => ?_, fun b o e n hb hx => ?_, I.base.free, fun b o e hx => ?_, I.base.tups, I.base.frzs, I.base.tbls⟩, ⟨m, hn.sameBut hs (Ne.symm (cne x c hc)), fun j y v' e1 e2 e3 => ?_⟩, fun y c' e => ?_, I.free, I.freeC, fun p hp => ?_, tracked ⟨oc, hoc, I.freeC x c hc⟩ hs, by simpa using I.len⟩ ⟨c, hs, .inr hc⟩
    · exact (hs.2 b (Nat.ne_of_lt (Nat.lt_of_lt_of_le (Heap.lt_size e) (I.ok.cab x c hfn hc)))).trans (I.base.keep b o e n hb hx)
    · obtain ⟨sl, e1⟩ := I.base.slot b o e n hb hx
      exact ⟨sl, (hs.2 b (Nat.ne_of_lt (Nat.lt_of_lt_of_le (Heap.lt_size e) (I.ok.cab x c hfn hc)))).trans e1⟩
    · obtain ⟨o', e1⟩ := I.base.there b o e hx
      exact ⟨o', (hs.2 b (Nat.ne_of_lt (Nat.lt_of_lt_of_le (Heap.lt_size e) (I.ok.cab x c hfn hc)))).trans e1⟩
    · by_cases hj : j = i
      · subst hj
        rw [hi] at e1; cases e1
        rw [List.getElem?_set_self hiσ] at e2
        cases e2
        exact ⟨u, r, .inr ⟨.inl hk, c, hc, hc'⟩⟩
      · rw [List.getElem?_set_ne (Ne.symm hj)] at e2
        obtain ⟨u', r', q⟩ := hl j y v' e1 e2 e3
        refine ⟨u', r', ?_⟩
        rcases q with q | ⟨k, c', e, z'⟩
        · exact .inl q
        · refine .inr ⟨k, c', e, z'.sameBut hs ?_⟩
          rintro rfl
          exact hj (nodup_ix hN e1 (I.ok.inj _ _ _ e hc ▸ hi))
    · by_cases hcc : c' = c
      · subst hcc; exact ⟨_, hc'⟩
      · obtain ⟨w2, z2⟩ := I.cell y c' e
        exact ⟨w2, z2.sameBut hs hcc⟩
    · obtain ⟨e, n, ne, nf, d⟩ := I.pin p hp
      refine ⟨(hs.2 p.1 ?_).trans e, n, ne, nf, d⟩
      intro q
      rw [q, hoc] at e
      have q' : oc = p.2 := Option.some.inj e
      exact d w' (by rw [← q']; exact hocd)
theorem store_ok {M : Model} {A : Around} {E : Value → Shared → Prop} {i : Nat} {x : Str} {v : V} {u : Value} {Q : Unit → Shared → Prop} (I : Inv X pins σ H s) (hN : X.N.Nodup) (hi : X.N[i]? = some x) (hx : Loc X.env.scope x) (r : RelV v u)
    (h : ∀ s', Inv X pins (σ.set i (some v)) H s' → Q () s') (hf : X.fn x = true ∨ X.env.scope.names.lookup x = some .local := by first | exact .inl rfl | exact .inr rfl | assumption) : wpAny M A (storeName X.env x u) Q E s :=
  store_ok2 I hN hi hx r (fun s' I' _ => h s' I') hf
/-- behind a call or a block, the state as it is -/
theorem Inv.call' {s' : Shared} {ch : List Addr} (I : Inv X pins σ H s) (ho : s'.os = s.os) (u : Un (frs X.stack) ch H H' s.heap s'.heap) (hok : HOk X.prog X.w H' s'.heap) (hg : AllBare s'.gens)
    (hch : ∀ b ∈ ch, (b ∈ X.ex ∨ X.s₀.heap.objs.size ≤ b) ∧ b ≠ X.env.locals ∧ (∀ x c, X.env.cells.lookup x = some c → c ≠ b) ∧ ∀ p ∈ X.pn ++ pins, p.1 ≠ b) : Inv X pins σ H' s' := by
  obtain ⟨h', g', d', t', o'⟩ := s'
  have e : o' = s.os := ho
  subst e
  exact I.call (g' := g') (t' := t') (d' := d') u hok hg hch
end

/-! ### the judgements -/
/-- an exception: its class, its own dict's address (where it has one), the abstract heap behind it -/
abbrev XK := Value → Option Addr → Hp → Prop
abbrev St := List (Option V)
abbrev VK := V → Hp → Prop
/-- an expression's reading; a test's; an argument list's -/
abbrev TE := St → Hp → VK → Prop
abbrev TT := St → Hp → (Bool → Hp → Prop) → Prop
abbrev TA := St → Hp → (List V → Hp → Prop) → Prop
/-- what is wanted behind a statement -/
structure Ends where
  nx : St → Hp → Prop
  rt : VK
  bk : St → Hp → Prop := fun _ _ => False
  ct : St → Hp → Prop := fun _ _ => False
abbrev TS := Ends → St → Hp → Prop

def EP (X : Cx) (pins : List (Addr × Obj)) (σ : St) (Q : VK) (u : Value) (s' : Shared) : Prop := ∃ v H', Inv X pins σ H' s' ∧ RelV v u ∧ Q v H'
def TP (X : Cx) (pins : List (Addr × Obj)) (σ : St) (Q : Bool → Hp → Prop) (b : Bool) (s' : Shared) : Prop := ∃ H', Inv X pins σ H' s' ∧ Q b H'
def AP (X : Cx) (pins : List (Addr × Obj)) (σ : St) (Q : List V → Hp → Prop) (us : List Value) (s' : Shared) : Prop := ∃ vs H', Inv X pins σ H' s' ∧ Vals vs us ∧ Q vs H'
def SP (X : Cx) (pins : List (Addr × Obj)) (D : Ends) (f : Flow) (s' : Shared) : Prop :=
  match f with
  | .next => ∃ σ' H', Inv X pins σ' H' s' ∧ D.nx σ' H'
  | .brk => ∃ σ' H', Inv X pins σ' H' s' ∧ D.bk σ' H'
  | .cont => ∃ σ' H', Inv X pins σ' H' s' ∧ D.ct σ' H'
  | .ret u => ∃ v σ' H', Inv X pins σ' H' s' ∧ RelV v u ∧ D.rt v H'

def PE (X : Cx) (e : Expr) (t : TE) : Prop :=
  ∀ (pins : List (Addr × Obj)) (s : Shared) (σ : St) (H : Hp) (Q : VK), Inv X pins σ H s → t σ H Q → wpAny (model X.prog X.w) X.A (eval e X.env) (EP X pins σ Q) X.xe s
def PT (X : Cx) (e : Expr) (t : TT) : Prop :=
  ∀ (pins : List (Addr × Obj)) (s : Shared) (σ : St) (H : Hp) (Q : Bool → Hp → Prop), Inv X pins σ H s → t σ H Q → wpAny (model X.prog X.w) X.A (isTrue e X.env (eval e X.env)) (TP X pins σ Q) X.xe s
/-- a test whatever its 'whole' is (and, or) -/
def PW (X : Cx) (e : Expr) (t : TT) : Prop :=
  ∀ (whole : Sem Value) (pins : List (Addr × Obj)) (s : Shared) (σ : St) (H : Hp) (Q : Bool → Hp → Prop), Inv X pins σ H s → t σ H Q → wpAny (model X.prog X.w) X.A (isTrue e X.env whole) (TP X pins σ Q) X.xe s
theorem PW.pt {X : Cx} {e : Expr} {t : TT} (h : PW X e t) : PT X e t := h _
/-- an argument list (no star), from the left -/
def PA (X : Cx) (es : List Expr) (t : TA) : Prop :=
  ∀ (pos : Pos) (pins : List (Addr × Obj)) (s : Shared) (σ : St) (H : Hp) (Q : List V → Hp → Prop), Inv X pins σ H s → t σ H Q → wpAny (model X.prog X.w) X.A (spliced (backTo pos (starEach es X.env))) (AP X pins σ Q) X.xe s
def PS (X : Cx) (st : Stmt) (t : TS) : Prop :=
  ∀ (pins : List (Addr × Obj)) (s : Shared) (σ : St) (H : Hp) (D : Ends), Inv X pins σ H s → t D σ H → wpAny (model X.prog X.w) X.A (exec st X.env) (SP X pins D) X.xe s
def PSs (X : Cx) (st : List Stmt) (t : TS) : Prop :=
  ∀ (pins : List (Addr × Obj)) (s : Shared) (σ : St) (H : Hp) (D : Ends), Inv X pins σ H s → t D σ H → wpAny (model X.prog X.w) X.A (execs st X.env) (SP X pins D) X.xe s
/-- weaken the end -/
theorem thn {α : Type} {t : Sem α} {Q Q' : α → Shared → Prop} {M : Model} {A : Around} {E : Value → Shared → Prop} {s : Shared} (h : wpAny M A t Q E s) (hQ : ∀ a s, Q a s → Q' a s) : wpAny M A t Q' E s := wpAny_mono h hQ fun _ _ x => x
end L2

namespace L2
open PySem PySem.Spec PyProof.Rows
section
variable {X : Cx}

/-! ### names and constants -/
def tVar (i : Nat) : TE := fun σ H Q => ∃ v, σ[i]? = some (some v) ∧ Q v H
def tC (v : V) : TE := fun _ H Q => Q v H
theorem pe_var {i : Nat} {x : Str} {pos : Pos} (hN : X.N[i]? = some x) (hv : Vis X.env.scope x) (hd : (x == ("__debug__" : Str)) = false := by decide) (hcd : (x == ("__classdict__" : Str)) = false := by decide) : PE X (.Name x pos) (tVar i) := by
  intro pins s σ H Q I h
  obtain ⟨v, e, h⟩ := h
  obtain ⟨m, hn, hl⟩ := I.loc
  obtain ⟨u, r, l⟩ := hl i x v hN e hv
  have fin : EP X pins σ Q u s := ⟨v, H, I, r, h⟩
  rcases l with ⟨hk, hm⟩ | ⟨hk, c, hc, hcell⟩
  · exact wpAny_Name (wpAny_loadName_local I.ok.kind hk hn hm fin) hd
  · rcases hk with hk | hk
    · exact wpAny_Name (wpAny_loadName_cell I.ok.kind hk hc hcell fin) hd
    · exact wpAny_Name (wpAny_loadName_free I.ok.kind hk hc hcell fin hcd) hd
theorem pe_int {i j pos} : PE X (.Constant (.int i) j pos) (tC (.int i)) := fun _ _ _ H _ I h => wpAny_Constant_int ⟨.int i, H, I.tok _, ⟨_, rfl⟩, h⟩
theorem pe_bl {b j pos} : PE X (.Constant (.bool b) j pos) (tC (.bl b)) := fun _ _ _ H _ I h => Constant_bool ⟨.bl b, H, I, rfl, h⟩
theorem pe_non {j pos} : PE X (.Constant .none j pos) (tC .non) := fun _ _ _ H _ I h => Constant_none ⟨.non, H, I, rfl, h⟩
theorem pe_str {x j pos} : PE X (.Constant (.str x) j pos) (tC (.str x)) := fun _ _ _ H _ I h => Calls.Constant_str ⟨.str x, H, I.tok _, ⟨_, rfl⟩, h⟩

/-- a global name of the def -/
def Gl (X : Cx) (x : Str) : Prop := X.env.kindOf x = some .globalImplicit
theorem ld_glob {E : Value → Shared → Prop} {pins : List (Addr × Obj)} {s : Shared} {σ : St} {H : Hp} {x : Str} {u : Value} {pos : Pos} {Q : Value → Shared → Prop} (I : Inv X pins σ H s) (hg : Gl X x) (hm : X.mg x = some u) (h : Q u s)
    (hd : (x == ("__debug__" : Str)) = false := by decide) : wpAny (model X.prog X.w) X.A (eval (.Name x pos) X.env) Q E s :=
  Calls.Name_function_global I.ok.kind hg (Calls.loadGlobal_global (by rw [I.ok.glob]; exact I.mod.glob.keeps I.bk) hm h) hd
theorem ld_blt {E : Value → Shared → Prop} {pins : List (Addr × Obj)} {s : Shared} {σ : St} {H : Hp} {x : Str} {u : Value} {pos : Pos} {Q : Value → Shared → Prop} (I : Inv X pins σ H s) (hg : Gl X x) (hm : X.mg x = none) (hv : bootBuiltins x = some u) (h : Q u s)
    (hn : x ≠ "__name__" := by decide) (hd : (x == ("__debug__" : Str)) = false := by decide) : wpAny (model X.prog X.w) X.A (eval (.Name x pos) X.env) Q E s := by
  obtain ⟨mb, h1, h2⟩ := I.mod.blt
  exact Calls.Name_function_global I.ok.kind hg (Calls.loadGlobal_builtin (by rw [I.ok.glob]; exact I.mod.glob.keeps I.bk) hm (by rw [I.ok.blt]; exact h1.keeps I.bk) ((h2 x hn).trans hv) h) hd
/-- a module's constant, a class, a function, as a value -/
theorem pe_glob {x : Str} {v : V} {u : Value} {pos : Pos} (hg : Gl X x) (hm : X.mg x = some u) (r : RelV v u) (hd : (x == ("__debug__" : Str)) = false := by decide) : PE X (.Name x pos) (tC v) :=
  fun _ _ _ H _ I h => ld_glob I hg hm ⟨v, H, I, r, h⟩ hd
theorem pe_bltn {x : Str} {v : V} {u : Value} {pos : Pos} (hg : Gl X x) (hm : X.mg x = none) (hv : bootBuiltins x = some u) (r : RelV v u) (hn : x ≠ "__name__" := by decide) (hd : (x == ("__debug__" : Str)) = false := by decide) : PE X (.Name x pos) (tC v) :=
  fun _ _ _ H _ I h => ld_blt I hg hm hv ⟨v, H, I, r, h⟩ hn hd

/-! ### arithmetic -/
/-- two ints -/
def t2I (ta tb : TE) (k : Int → Int → Hp → Prop) : St → Hp → Prop := fun σ H => ta σ H fun x H1 => tb σ H1 fun y H2 => ∃ i j, x = .int i ∧ y = .int j ∧ k i j H2
def tAdd (ta tb : TE) : TE := fun σ H Q => t2I ta tb (fun i j H2 => Q (.int (i + j)) H2) σ H
def tSub (ta tb : TE) : TE := fun σ H Q => t2I ta tb (fun i j H2 => Q (.int (i - j)) H2) σ H
/-- the left factor below 2^64 -/
def tMul (ta tb : TE) : TE := fun σ H Q => t2I ta tb (fun i j H2 => (-(2 ^ 64) < i ∧ i < 2 ^ 64) ∧ Q (.int (i * j)) H2) σ H
variable {a b : Expr} {ta tb : TE} {pos : Pos}
/-! ### comparisons -/
def PC (X : Cx) (op : CmpOp) (a b : Expr) (t : TE) : Prop :=
  ∀ (pins : List (Addr × Obj)) (s : Shared) (σ : St) (H : Hp) (Q : VK), Inv X pins σ H s → t σ H Q →
    wpAny (model X.prog X.w) X.A (eval a X.env) (fun v s₁ => wpAny (model X.prog X.w) X.A (eval b X.env) (fun u s₂ => wpAny (model X.prog X.w) X.A (compareOp op v u) (EP X pins σ Q) X.xe s₂) X.xe s₁) X.xe s
def tCmp (p : Int → Int → Bool) (ta tb : TE) : TE := fun σ H Q => t2I ta tb (fun i j H2 => Q (.bl (p i j)) H2) σ H
abbrev tLt : TE → TE → TE := tCmp fun i j => decide (i < j)
abbrev tLe : TE → TE → TE := tCmp fun i j => decide (i ≤ j)
abbrev tGt : TE → TE → TE := tCmp fun i j => decide (j < i)
abbrev tGe : TE → TE → TE := tCmp fun i j => decide (j ≤ i)
abbrev tEqI : TE → TE → TE := tCmp fun i j => decide (i = j)
abbrev tNeI : TE → TE → TE := tCmp fun i j => !decide (i = j)
/-- is None -/
def tIsN (ta : TE) : TE := fun σ H Q => ta σ H fun x H1 => Q (.bl (decide (x = .non))) H1
def tNotN (ta : TE) : TE := fun σ H Q => ta σ H fun x H1 => Q (.bl (!decide (x = .non))) H1
/-- a comparison as a value, as a test -/
def tB (t : TE) : TT := fun σ H Q => t σ H fun x H1 => ∃ c, x = .bl c ∧ Q c H1
/-- an expression whose value is a bool, as a test -/
theorem pt_val {e : Expr} {t : TE} (h : PE X e t) (he : ∀ whole, isTrue e X.env whole = (do let v ← whole; standAt e.pos; holding [v] (truthy v)) := by intro _; rfl) : PT X e (tB t) := by
  intro pins s σ H Q I hw
  refine isTrue_plain (thn (h pins s σ H _ I hw) fun v s1 ⟨x, H1, I1, r1, q1⟩ => ?_) (he _)
  obtain ⟨d, rfl, q⟩ := q1
  cases r1
  exact wpAny_truthy_bool ⟨H1, I1, q⟩

/-! ### and, or, not -/
variable {tA tB' : TT} {rest : List Expr}
def tAnd (t u : TT) : TT := fun σ H Q => t σ H fun c H1 => if c = true then u σ H1 Q else Q false H1
def tOr (t u : TT) : TT := fun σ H Q => t σ H fun c H1 => if c = true then Q true H1 else u σ H1 Q
def tNot (t : TT) : TT := fun σ H Q => t σ H fun c H1 => Q (!c) H1
theorem pw_and1 (ha : PT X a tA) : PW X (.BoolOp .And [a] pos) tA := by
  intro wh pins s σ H Q I h
  refine isTrue_and (thn (ha pins s σ H Q I h) fun c s1 e => ?_)
  cases c with
  | true => exact isTrue_and_nil e
  | false => exact e
theorem pw_or1 (ha : PT X a tA) : PW X (.BoolOp .Or [a] pos) tA := by
  intro wh pins s σ H Q I h
  refine isTrue_or (thn (ha pins s σ H Q I h) fun c s1 e => ?_)
  cases c with
  | false => exact isTrue_or_nil e
  | true => exact e
theorem pw_and (ha : PT X a tA) (hb : PW X (.BoolOp .And (b :: rest) pos) tB') : PW X (.BoolOp .And (a :: b :: rest) pos) (tAnd tA tB') := by
  intro wh pins s σ H Q I h
  refine isTrue_and (thn (ha pins s σ H _ I h) fun c s1 ⟨H1, I1, q1⟩ => ?_)
  cases c with
  | true => exact hb wh pins s1 σ H1 Q I1 q1
  | false => exact ⟨H1, I1, q1⟩
theorem pw_or (ha : PT X a tA) (hb : PW X (.BoolOp .Or (b :: rest) pos) tB') : PW X (.BoolOp .Or (a :: b :: rest) pos) (tOr tA tB') := by
  intro wh pins s σ H Q I h
  refine isTrue_or (thn (ha pins s σ H _ I h) fun c s1 ⟨H1, I1, q1⟩ => ?_)
  cases c with
  | true => exact ⟨H1, I1, q1⟩
  | false => exact hb wh pins s1 σ H1 Q I1 q1
theorem pt_not (ha : PT X a tA) : PT X (.UnaryOp .Not a pos) (tNot tA) := by
  intro pins s σ H Q I h
  exact isTrue_not (ha pins s σ H (fun c H1 => Q (!c) H1) I h)
/-- .. as values (bools) -/
def tAndV (ta tb : TE) : TE := fun σ H Q => ta σ H fun x H1 => ∃ c, x = .bl c ∧ if c = true then tb σ H1 Q else Q (.bl false) H1
def tOrV (ta tb : TE) : TE := fun σ H Q => ta σ H fun x H1 => ∃ c, x = .bl c ∧ if c = true then Q (.bl true) H1 else tb σ H1 Q
def tNotV (ta : TE) : TE := fun σ H Q => ta σ H fun x H1 => ∃ c, x = .bl c ∧ Q (.bl (!c)) H1
theorem pe_one {op} {t : TE} (h : PE X a t) : PE X (.BoolOp op [a] pos) t := fun pins s σ H Q I hw => BoolOp_one (h pins s σ H Q I hw)
theorem pe_and (ha : PE X a ta) (hb : PE X (.BoolOp .And (b :: rest) pos) tb) : PE X (.BoolOp .And (a :: b :: rest) pos) (tAndV ta tb) := by
  intro pins s σ H Q I h
  refine BoolOp_and (thn (ha pins s σ H _ I h) fun v s1 ⟨x, H1, I1, r1, q1⟩ => ?_)
  obtain ⟨c, rfl, q1⟩ := q1
  cases r1
  refine wpAny_truthy_bool ?_
  cases c with
  | true => exact hb pins s1 σ H1 Q I1 q1
  | false => exact ⟨.bl false, H1, I1, rfl, q1⟩
theorem pe_or (ha : PE X a ta) (hb : PE X (.BoolOp .Or (b :: rest) pos) tb) : PE X (.BoolOp .Or (a :: b :: rest) pos) (tOrV ta tb) := by
  intro pins s σ H Q I h
  refine BoolOp_or (thn (ha pins s σ H _ I h) fun v s1 ⟨x, H1, I1, r1, q1⟩ => ?_)
  obtain ⟨c, rfl, q1⟩ := q1
  cases r1
  refine wpAny_truthy_bool ?_
  cases c with
  | false => exact hb pins s1 σ H1 Q I1 q1
  | true => exact ⟨.bl true, H1, I1, rfl, q1⟩
theorem pe_not (ha : PE X a ta) : PE X (.UnaryOp .Not a pos) (tNotV ta) := by
  intro pins s σ H Q I h
  refine UnaryOp_ (thn (ha pins s σ H _ I h) fun v s1 ⟨x, H1, I1, r1, q1⟩ => ?_)
  obtain ⟨c, rfl, q1⟩ := q1
  cases r1
  exact not_of (wpAny_truthy_bool ⟨.bl (!c), H1, I1, rfl, q1⟩)
/-- a if t else b -/
def tIf (t : TT) (ta tb : TE) : TE := fun σ H Q => t σ H fun c H1 => if c = true then ta σ H1 Q else tb σ H1 Q
end
end L2

namespace L2
open PySem PySem.Spec PyProof.Rows

/-! ### a list, a tuple that is read: tracked, frozen, or an object of the module -/
def SqL (K : PySem.W.Frag) (H : Hp) (a : Addr) (xs : List V) : Prop :=
  Rd H a (.lst xs) ∨
    ∃ (o : Obj) (its : Array Value) (n : Nat), K.lookup a = some o ∧ o.cls = .type "list" ∧ o.dict = none ∧ o.data = .seq its n ∧ its.size ≤ sizeLine ∧ Vals xs its.toList
def SqT (K : PySem.W.Frag) (H : Hp) (a : Addr) (xs : List V) : Prop :=
  Rd H a (.tup xs) ∨
    ∃ (o : Obj) (its : Array Value) (n : Nat), K.lookup a = some o ∧ o.cls = .type "tuple" ∧ o.data = .seq its n ∧ its.size ≤ sizeLine ∧ Vals xs its.toList
def absV : Value → Option V
  | .none => some .non
  | .bool b => some (.bl b)
  | .int i _ => some (.int i)
  | .str x _ => some (.str x)
  | .bytes b _ => some (.byt b)
  | .float b _ => some (.flt b)
  | .ref a => some (.ref a)
  | .type n => some (.ty n)
  | _ => none
theorem RelV.abs {x : V} {u : Value} (r : RelV x u) : absV u = some x := by
  cases x with
  | non => cases r; rfl
  | bl _ => cases r; rfl
  | int _ => obtain ⟨t, rfl⟩ := r; rfl
  | str _ => obtain ⟨t, rfl⟩ := r; rfl
  | byt _ => obtain ⟨t, rfl⟩ := r; rfl
  | flt _ => obtain ⟨t, rfl⟩ := r; rfl
  | ref _ => cases r; rfl
  | ty _ => cases r; rfl
theorem RelV.inj {x y : V} {u : Value} (r : RelV x u) (q : RelV y u) : x = y := Option.some.inj (r.abs.symm.trans q.abs)
theorem Vals.inj : ∀ {xs ys : List V} {us : List Value}, Vals xs us → Vals ys us → xs = ys
  | _, _, _, .nil, .nil => rfl
  | _, _, _, .cons r t, .cons r' t' => by rw [r.inj r', Vals.inj t t']
section
variable {X : Cx} {pins : List (Addr × Obj)} {σ : St} {H : Hp} {s : Shared} {a : Addr} {xs ys : List V}
theorem SqL.of {K : PySem.W.Frag} (h : H a = some (.lst xs)) : SqL K H a xs := .inl (.inl h)
theorem SqT.of {K : PySem.W.Frag} (h : H a = some (.tup xs)) : SqT K H a xs := .inl (.inl h)
theorem Inv.list (I : Inv X pins σ H s) (h : SqL X.K H a xs) : ∃ its : List Value, Vals xs its ∧ PlainL s.heap a its.toArray ∧ xs.length ≤ sizeLine := by
  rcases h with h | ⟨o, its, n, hk, hc, hd, hs, hz, r⟩
  · obtain ⟨z, its, n, r, e⟩ := h.ok I.hok
    exact ⟨its, r, ⟨_, n, e, rfl, rfl, rfl⟩, z⟩
  · refine ⟨its.toList, r, ⟨o, n, I.kIn a o hk, hc, hd, by simpa using hs⟩, ?_⟩
    have e := r.length
    simp only [Array.length_toList] at e
    omega
theorem Inv.tuple (I : Inv X pins σ H s) (h : SqT X.K H a xs) : ∃ its : List Value, Vals xs its ∧ IsTup s.heap a its.toArray ∧ xs.length ≤ sizeLine := by
  rcases h with h | ⟨o, its, n, hk, hc, hs, hz, r⟩
  · obtain ⟨z, its, r, p⟩ := h.ok I.hok
    exact ⟨its, r, p, z⟩
  · refine ⟨its.toList, r, ⟨o, I.kIn a o hk, hc, n, by simpa using hs⟩, ?_⟩
    have e := r.length
    simp only [Array.length_toList] at e
    omega
theorem Inv.list_inj (I : Inv X pins σ H s) (h : SqL X.K H a xs) (h' : SqL X.K H a ys) : xs = ys := by
  obtain ⟨its, r, ⟨o, n, e, _, _, d⟩, _⟩ := I.list h
  obtain ⟨its', r', ⟨o', n', e', _, _, d'⟩, _⟩ := I.list h'
  rw [e] at e'; cases e'
  rw [d] at d'
  injection d' with d1 _
  have : its = its' := by simpa using congrArg Array.toList d1
  subst this
  exact r.inj r'
theorem Inv.tuple_inj (I : Inv X pins σ H s) (h : SqT X.K H a xs) (h' : SqT X.K H a ys) : xs = ys := by
  obtain ⟨its, r, ⟨o, e, _, n, d⟩, _⟩ := I.tuple h
  obtain ⟨its', r', ⟨o', e', _, n', d'⟩, _⟩ := I.tuple h'
  rw [e] at e'; cases e'
  rw [d] at d'
  injection d' with d1 _
  have : its = its' := by simpa using congrArg Array.toList d1
  subst this
  exact r.inj r'
end

/-! ### another wish about exceptions -/
abbrev Cx.wish (X : Cx) (E : Value → Shared → Prop) : Cx := { X with xe := E }
/-- no exception leaves -/
abbrev Cx.nox (X : Cx) : Cx := X.wish fun _ _ => False
theorem Cx.Ok.wish {X : Cx} (ok : X.Ok) (E : Value → Shared → Prop) : (X.wish E).Ok :=
  ⟨ok.mod, ok.kind, ok.glob, ok.blt, ok.above, ok.inj, ok.has, ok.cab, ok.hd, ok.frames, ok.stk, ok.exf, ok.bs, ok.bsz, ok.noex, ok.exfs, ok.funs, ok.frf⟩
theorem Cx.Ok.unwish {X : Cx} {E : Value → Shared → Prop} (ok : (X.wish E).Ok) : X.Ok :=
  ⟨ok.mod, ok.kind, ok.glob, ok.blt, ok.above, ok.inj, ok.has, ok.cab, ok.hd, ok.frames, ok.stk, ok.exf, ok.bs, ok.bsz, ok.noex, ok.exfs, ok.funs, ok.frf⟩
section
variable {X : Cx} {pins : List (Addr × Obj)} {σ : St} {H : Hp} {s : Shared} {E : Value → Shared → Prop}
theorem Inv.wish (I : Inv X pins σ H s) (E : Value → Shared → Prop) : Inv (X.wish E) pins σ H s := ⟨I.ok.wish E, I.os, I.bare, I.base, I.loc, I.cell, I.free, I.freeC, I.pin, I.hok, I.len⟩
theorem Inv.unwish (I : Inv (X.wish E) pins σ H s) : Inv X pins σ H s := ⟨I.ok.unwish, I.os, I.bare, I.base, I.loc, I.cell, I.free, I.freeC, I.pin, I.hok, I.len⟩
theorem SP.unwish {D : Ends} {f : Flow} {s' : Shared} (h : SP (X.wish E) pins D f s') : SP X pins D f s' := by
  cases f with
  | next => obtain ⟨σ', H', I, q⟩ := h; exact ⟨σ', H', I.unwish, q⟩
  | brk => obtain ⟨σ', H', I, q⟩ := h; exact ⟨σ', H', I.unwish, q⟩
  | cont => obtain ⟨σ', H', I, q⟩ := h; exact ⟨σ', H', I.unwish, q⟩
  | ret u => obtain ⟨v, σ', H', I, r, q⟩ := h; exact ⟨v, σ', H', I.unwish, r, q⟩
theorem PE.nox {e : Expr} {t : TE} (h : PE X.nox e t) : PE X e t := fun pins s σ H Q I hw =>
  wpAny_mono (h pins s σ H Q (I.wish _) hw) (fun _ _ ⟨v, H', I', r, q⟩ => ⟨v, H', I'.unwish, r, q⟩) fun _ _ z => False.elim z
theorem PT.nox {e : Expr} {t : TT} (h : PT X.nox e t) : PT X e t := fun pins s σ H Q I hw =>
  wpAny_mono (h pins s σ H Q (I.wish _) hw) (fun _ _ ⟨H', I', q⟩ => ⟨H', I'.unwish, q⟩) fun _ _ z => False.elim z
theorem PSs.nox {st : List Stmt} {t : TS} (h : PSs X.nox st t) : PSs X st t := fun pins s σ H D I hw =>
  wpAny_mono (h pins s σ H D (I.wish _) hw) (fun _ _ q => q.unwish) fun _ _ z => False.elim z
end

/-! ### blocks and small statements -/
section
variable {X : Cx} {st : Stmt} {rest : List Stmt} {t u : TS} {e : Expr} {te : TE} {pos : Pos}
def tNext : TS := fun D σ H => D.nx σ H
def tSeq (t u : TS) : TS := fun D σ H => t { D with nx := u D } σ H
theorem pss_nil : PSs X [] tNext := fun _ _ σ H _ I h => wpAny_execs_nil ⟨σ, H, I, h⟩
theorem pss_cons (h1 : PS X st t) (h2 : PSs X rest u) : PSs X (st :: rest) (tSeq t u) := by
  intro pins s σ H D I h
  refine wpAny_execs_cons (thn (h1 pins s σ H { D with nx := u D } I h) fun f s1 q => ?_)
  cases f with
  | next =>
    obtain ⟨σ', H', I', q⟩ := q
    exact h2 pins s1 σ' H' D I' q
  | ret v => exact q
  | brk => exact q
  | cont => exact q
theorem pss_one (h1 : PS X st t) : PSs X [st] t := by
  intro pins s σ H D I h
  refine wpAny_execs_cons (thn (h1 pins s σ H D I h) fun f s1 q => ?_)
  cases f with
  | next => exact wpAny_execs_nil q
  | ret v => exact q
  | brk => exact q
  | cont => exact q
def tBreak : TS := fun D σ H => D.bk σ H
def tCont : TS := fun D σ H => D.ct σ H
/-- an expression whose value is dropped -/
def tDrop (te : TE) : TS := fun D σ H => te σ H fun _ H1 => D.nx σ H1
def tRet (te : TE) : TS := fun D σ H => te σ H D.rt
theorem ps_ret (he : PE X e te) : PS X (.Return (some e) pos) (tRet te) := by
  intro pins s σ H D I h
  exact wpAny_Return_some (thn (he pins s σ H _ I h) fun v s1 ⟨x, H1, I1, r1, q1⟩ => ⟨x, σ, H1, I1, r1, q1⟩)
def tRetN : TS := fun D _ H => D.rt .non H
def tIfS (c : TT) (t u : TS) : TS := fun D σ H => c σ H fun b H1 => if b = true then t D σ H1 else u D σ H1
theorem ps_if {c : Expr} {a b : List Stmt} {tc : TT} (hc : PT X c tc) (ha : PSs X a t) (hb : PSs X b u) : PS X (.If c a b pos) (tIfS tc t u) := by
  intro pins s σ H D I h
  refine wpAny_If (thn (hc pins s σ H _ I h) fun d s1 ⟨H1, I1, q1⟩ => ?_)
  cases d with
  | true => exact ha pins s1 σ H1 D I1 q1
  | false => exact hb pins s1 σ H1 D I1 q1
/-- code that the proof never comes to -/
def tNever : TS := fun _ _ _ => False
end

/-! ### targets -/
abbrev TG := V → St → Hp → (St → Hp → Prop) → Prop
abbrev TGs := List V → St → Hp → (St → Hp → Prop) → Prop
def PG (X : Cx) (target : Expr) (t : TG) : Prop :=
  ∀ (pins : List (Addr × Obj)) (s : Shared) (σ : St) (H : Hp) (v : V) (u : Value) (Q : St → Hp → Prop), Inv X pins σ H s → RelV v u → t v σ H Q →
    wpAny (model X.prog X.w) X.A (assign target X.env u) (fun _ s' => ∃ σ' H', Inv X pins σ' H' s' ∧ Q σ' H') X.xe s
/-- several targets, one after another -/
def PGs (X : Cx) (ts : List Expr) (t : TGs) : Prop :=
  ∀ (pins : List (Addr × Obj)) (s : Shared) (σ : St) (H : Hp) (vs : List V) (us : List Value) (Q : St → Hp → Prop), Inv X pins σ H s → Vals vs us → t vs σ H Q →
    wpAny (model X.prog X.w) X.A (assignInOrder ((assignEach ts X.env).map (·.2)) us) (fun _ s' => ∃ σ' H', Inv X pins σ' H' s' ∧ Q σ' H') X.xe s
/-- o[i] = v, by values -/
abbrev TSet := V → V → V → Hp → (Hp → Prop) → Prop
def PSet (X : Cx) (t : TSet) : Prop :=
  ∀ (pins : List (Addr × Obj)) (s : Shared) (σ : St) (H : Hp) (o i v : V) (ov iv u : Value) (Q : Hp → Prop), Inv X pins σ H s → RelV o ov → RelV i iv → RelV v u → t o i v H Q →
    wpAny (model X.prog X.w) X.A (setItem ov iv u) (fun _ s' => ∃ H', Inv X pins σ H' s' ∧ Q H') X.xe s
/-- a op= b, by values -/
abbrev TIp := V → V → Hp → VK → Prop
def PIp (X : Cx) (op : Operator) (t : TIp) : Prop :=
  ∀ (pins : List (Addr × Obj)) (s : Shared) (σ : St) (H : Hp) (x y : V) (v u : Value) (Q : VK), Inv X pins σ H s → RelV x v → RelV y u → t x y H Q →
    wpAny (model X.prog X.w) X.A (inplaceOp op v u) (EP X pins σ Q) X.xe s
section
variable {X : Cx} {pos : Pos}
def gName (i : Nat) : TG := fun v σ H Q => Q (σ.set i (some v)) H
theorem pg_name {i : Nat} {x : Str} (hN : X.N.Nodup) (hi : X.N[i]? = some x) (hx : Loc X.env.scope x) (hf : X.fn x = true ∨ X.env.scope.names.lookup x = some .local := by first | exact .inl rfl | exact .inr rfl | assumption) : PG X (.Name x pos) (gName i) := by
  intro pins s σ H v u Q I r h
  exact wpAny_assign_Name (store_ok I hN hi hx r (fun s' I' => ⟨_, H, I', h⟩) hf)
def gNil : TGs := fun vs σ H Q => vs = [] ∧ Q σ H
def gCons (t : TG) (u : TGs) : TGs := fun vs σ H Q => ∃ v r, vs = v :: r ∧ t v σ H fun σ' H' => u r σ' H' Q
theorem pgs_nil : PGs X [] gNil := by
  intro pins s σ H vs us Q I r h
  obtain ⟨e, h⟩ := h
  subst e
  cases r
  exact assignInOrder_nil ⟨σ, H, I, h⟩
theorem pgs_cons {e : Expr} {es : List Expr} {t : TG} {u : TGs} (h1 : PG X e t) (h2 : PGs X es u)
    (hs : (assignEach (e :: es) X.env).map (·.2) = assign e X.env :: (assignEach es X.env).map (·.2) := by rfl) : PGs X (e :: es) (gCons t u) := by
  intro pins s σ H vs us Q I r h
  obtain ⟨v, vr, e1, h⟩ := h
  subst e1
  cases r with
  | cons r rr =>
    rw [hs]
    refine assignInOrder_cons (thn (h1 pins s σ H _ _ _ I r h) fun _ s1 ⟨σ1, H1, I1, q1⟩ => ?_)
    exact h2 pins s1 σ1 H1 _ _ Q I1 rr q1
/-- (a, b, ..) = a tuple of that length -/
def gTup (K : PySem.W.Frag) (n : Nat) (t : TGs) : TG := fun v σ H Q => ∃ a xs, v = .ref a ∧ SqT K H a xs ∧ xs.length = n ∧ t xs σ H Q
theorem pg_tup {es : List Expr} {k : Nat} {t : TGs} {n : Nat} (hc : X.calm = true) (h : PGs X es t)
    (hn : (assignEach es X.env).length = n := by rfl) (hst : (assignEach es X.env).findIdx? (·.1) = none := by rfl) : PG X (.Tuple es k pos) (gTup X.K n t) := by
  intro pins s σ H v u Q I r hw
  obtain ⟨a, xs, e1, hq, hl, hw⟩ := hw
  subst e1
  cases r
  obtain ⟨its, rv, ht, hz⟩ := I.tuple hq
  refine assign_Tuple_tuple (I.ok.hd hc) ht (by simp [hn, ← hl, rv.length]) hst fun h' hx => ?_
  have I1 : Inv X pins σ H { s with heap := h' } := I.kept (t' := s.toks) fun b o e => hx b o (Nat.ne_of_lt (Heap.lt_size e)) e
  exact h pins _ σ H xs _ Q I1 (by simpa using rv) hw
/-- o[i] = .. -/
def gSub (to ti : TE) (t : TSet) : TG := fun v σ H Q => to σ H fun o H1 => ti σ H1 fun i H2 => t o i v H2 fun H3 => Q σ H3
theorem pg_sub {o i : Expr} {to ti : TE} {t : TSet} (ho : PE X o to) (hi : PE X i ti) (hs : PSet X t)
    (ha : ∀ v, assign (.Subscript o i pos) X.env v = (do
      let ov ← holding [v] (eval o X.env)
      let iv ← holding [v, ov] (eval i X.env)
      standAt pos
      holding [v, ov, iv] (setItem ov iv v)
      release [v, ov, iv] []) := by intro _; rfl) : PG X (.Subscript o i pos) (gSub to ti t) := by
  intro pins s σ H v u Q I r h
  rw [ha]
  refine wpAny_bind (wpAny_holding (thn (ho pins s σ H _ I h) fun ov s1 ⟨x, H1, I1, r1, q1⟩ => ?_))
  refine wpAny_bind (wpAny_holding (thn (hi pins s1 σ H1 _ I1 q1) fun iv s2 ⟨y, H2, I2, r2, q2⟩ => ?_))
  refine wpAny_bind (wpAny_standAt (wpAny_bind (wpAny_holding (thn (hs pins s2 σ H2 x y v ov iv u _ I2 r1 r2 r q2) fun _ s3 ⟨H3, I3, q3⟩ => ?_))))
  exact wpAny_release ⟨σ, H3, I3, q3⟩
/-- target = value -/
def tAsg (te : TE) (g : TG) : TS := fun D σ H => te σ H fun x H1 => g x σ H1 D.nx
theorem ps_asg {tg e : Expr} {te : TE} {g : TG} (he : PE X e te) (hg : PG X tg g) (hs : swapsWithSole [tg] e pos.line X.env = pure false := by rfl) (hw : swappedStores [tg] e X.env = pure none := by rfl)
    (h1 : (assignEach [tg] X.env).map (·.2) = [assign tg X.env] := by rfl) : PS X (.Assign [tg] e pos) (tAsg te g) := by
  intro pins s σ H D I h
  refine wpAny_Assign_stores (thn (he pins s σ H _ I h) fun v s1 ⟨x, H1, I1, r1, q1⟩ => ?_) hs hw
  rw [h1]
  exact thn (hg pins s1 σ H1 x v _ I1 r1 q1) fun _ s2 q => q
/-- name = value -/
theorem ps_set {i : Nat} {x : Str} {e : Expr} {te : TE} {pos' : Pos} (hN : X.N.Nodup) (hi : X.N[i]? = some x) (hx : Loc X.env.scope x) (he : PE X e te) (hs : swapsWith e (some (.Name x pos')) pos.line X.env = pure false := by rfl) (hf : X.fn x = true ∨ X.env.scope.names.lookup x = some .local := by first | exact .inl rfl | exact .inr rfl | assumption) :
    PS X (.Assign [.Name x pos'] e pos) (tAsg te (gName i)) := by
  intro pins s σ H D I h
  refine wpAny_Assign_Name (thn (he pins s σ H _ I h) fun v s1 ⟨y, H1, I1, r1, q1⟩ => ?_) hs
  exact store_ok I1 hN hi hx r1 (fun s2 I2 => ⟨_, H1, I2, q1⟩) hf
/-- a, b = x, y with plain local names: stored from the right; the pair itself is not tracked (the opening rows as in PyProof/Rows/TupAssign.lean:23) -/
def tPar (i j : Nat) (ta : TA) : TS := fun D σ H => ta σ H fun vs H1 => ∃ v w, vs = [v, w] ∧ D.nx ((σ.set i (some v)).set j (some w)) H1
/-- name op= e -/
def tAug (i : Nat) (te : TE) (ti : TIp) : TS := fun D σ H => ∃ x, σ[i]? = some (some x) ∧ te σ H fun y H1 => ti x y H1 fun z H2 => D.nx (σ.set i (some z)) H2
/-- o[i] op= e -/
def tAugS (to ti te : TE) (tget : V → V → Hp → VK → Prop) (tip : TIp) (tset : TSet) : TS := fun D σ H => to σ H fun o H1 => ti σ H1 fun i H2 => tget o i H2 fun x H3 => te σ H3 fun y H4 => tip x y H4 fun z H5 => tset o i z H5 fun H6 => D.nx σ H6
/-- o[i], by values -/
def PGet (X : Cx) (t : V → V → Hp → VK → Prop) : Prop :=
  ∀ (pins : List (Addr × Obj)) (s : Shared) (σ : St) (H : Hp) (o i : V) (ov iv : Value) (Q : VK), Inv X pins σ H s → RelV o ov → RelV i iv → t o i H Q →
    wpAny (model X.prog X.w) X.A (getItem ov iv) (EP X pins σ Q) X.xe s
/-- ints -/
def ipI (f : Int → Int → Int) : TIp := fun x y H Q => ∃ i j, x = .int i ∧ y = .int j ∧ Q (.int (f i j)) H
end

/-! ### while -/
section
variable {X : Cx} {pos : Pos}
/-- the invariant W with its measure -/
def tWhile (c : TT) (tb : TS) : TS := fun D σ H => ∃ W : Nat → St → Hp → Prop, (∃ m, W m σ H) ∧ ∀ m σ H, W m σ H →
  c σ H fun b H1 => if b = true then ∃ N : St → Hp → Prop, (∀ σ' H', N σ' H' → ∃ m', m' < m ∧ W m' σ' H') ∧ tb { D with nx := N, ct := N, bk := D.nx } σ H1 else D.nx σ H1
end

/-! ### what a loop or a comprehension walks -/
/-- at turn i: it yields x (the heap may grow), or it stops -/
structure It where
  go : Nat → Hp → Prop
  yld : Nat → Hp → V → Hp → Prop
  stop : Nat → Hp → Prop
/-- the iterator's own objects may turn: they are not the frame's, not pinned, younger than the entry (or a comprehension's own) -/
def FpOk (X : Cx) (pins : List (Addr × Obj)) (H : Hp) (b : Addr) : Prop :=
  H b = none ∧ b ≠ X.env.locals ∧ b ∉ X.fs ∧ (b ∈ X.ex ∨ X.s₀.heap.objs.size ≤ b) ∧ (∀ x c, X.env.cells.lookup x = some c → c ≠ b) ∧ ∀ p ∈ X.pn ++ pins, p.1 ≠ b
theorem Inv.fpOk {X : Cx} {pins : List (Addr × Obj)} {σ : St} {H H' : Hp} {s : Shared} {b : Addr} (I : Inv X pins σ H s) (hb : s.heap.objs.size ≤ b) (hn : H' b = none) : FpOk X pins H' b := by
  refine ⟨hn, Nat.ne_of_gt (Nat.lt_of_lt_of_le I.lt hb), I.nofs hb, .inr (Nat.le_trans I.sz hb), fun x c e z => ?_, fun p hp z => ?_⟩
  · obtain ⟨v, q⟩ := I.cell x c e
    exact absurd (Nat.lt_of_lt_of_le q.lt (by rw [z]; exact hb)) (Nat.lt_irrefl _)
  · exact absurd (Nat.lt_of_lt_of_le (Heap.lt_size (I.pin p hp).1) (by rw [z]; exact hb)) (Nat.lt_irrefl _)
structure Turn (P : Program) (w : World) (K : PySem.W.Frag) (tg : Expr) (J : It) (fp : List Addr) (it : Addr) (tn : Nat → Heap → Prop) : Prop where
  mem : it ∈ fp
  obj : ∀ i h, tn i h → ∀ b ∈ fp, ∃ o, h.get? b = some o ∧ ∀ v, o.data ≠ .cell v
  keep : ∀ i h h', tn i h → (∀ b ∈ fp, ∀ o, h.get? b = some o → h'.get? b = some o) → tn i h'
  item : ∀ (X : Cx), X.prog = P → X.w = w → X.K = K → X.calm = true → ∀ (i : Nat) (pins : List (Addr × Obj)) (s : Shared) (σ : St) (H : Hp) (E : Value → Shared → Prop), Inv X pins σ H s → (∀ b ∈ fp, FpOk X pins H b) → tn i s.heap → J.go i H →
    wpAny (model P w) X.A (pyNext (.ref it)) (fun r s1 => ∃ u, r = some u ∧
      wpAny (model P w) X.A (letOwnedTupleGo tg (.ref it) u) (fun _ s2 => ∃ x H', Inv X pins σ H' s2 ∧ RelV x u ∧ J.yld i H x H' ∧ tn (i + 1) s2.heap ∧ ∀ b ∈ fp, H' b = none) E s1) E s
  done : ∀ (X : Cx), X.prog = P → X.w = w → X.K = K → X.calm = true → ∀ (i : Nat) (pins : List (Addr × Obj)) (s : Shared) (σ : St) (H : Hp) (E : Value → Shared → Prop), Inv X pins σ H s → (∀ b ∈ fp, FpOk X pins H b) → tn i s.heap → J.stop i H →
    wpAny (model P w) X.A (pyNext (.ref it)) (fun r s1 => r = none ∧ Inv X pins σ H s1) E s
  self : ∀ (A : Around) (i : Nat) (s : Shared) (Q : Value → Shared → Prop) (E : Value → Shared → Prop), tn i s.heap → Q (.ref it) s → wpAny (model P w) A (pyIter (.ref it)) Q E s
abbrev TI := St → Hp → (It → Hp → Prop) → Prop
/-- an iterator has come -/
def PIE (X : Cx) (pins : List (Addr × Obj)) (σ : St) (tg : Expr) (R : It → Hp → Prop) (itv : Value) (s2 : Shared) : Prop :=
  ∃ (it : Addr) (fp : List Addr) (tn : Nat → Heap → Prop) (J : It) (H' : Hp), itv = .ref it ∧ Inv X pins σ H' s2 ∧ Turn X.prog X.w X.K tg J fp it tn ∧ tn 0 s2.heap ∧ (∀ b ∈ fp, FpOk X pins H' b) ∧ R J H'
def PI (X : Cx) (tg iter : Expr) (wi : TI) : Prop :=
  ∀ (pins : List (Addr × Obj)) (s : Shared) (σ : St) (H : Hp) (R : It → Hp → Prop), Inv X pins σ H s → wi σ H R →
    wpAny (model X.prog X.w) X.A (eval iter X.env) (fun v s1 => wpAny (model X.prog X.w) X.A (pyIter v) (PIE X pins σ tg R) X.xe s1) X.xe s

/-- the step ahead of the store is nothing for an iterator that keeps no tuple -/
theorem go_of {M : Model} {A : Around} {E : Value → Shared → Prop} {s : Shared} {tg : Expr} {it : Addr} {u : Value} {o : Obj} {n : String} {vs : Array Value} {Q : Unit → Shared → Prop} (ho : s.heap.get? it = some o) (hc : o.cls = .type n) (hd : o.data = .fields vs)
    (hn : ["enumerate", "zip", "dict_itemiterator", "dict_reverseitemiterator", "odict_iterator", "itertools.zip_longest", "itertools.pairwise"].contains n = false) (hQ : Q () s) : wpAny M A (letOwnedTupleGo tg (.ref it) u) Q E s := by
  unfold letOwnedTupleGo
  cases tg <;> first
    | exact wpAny_pure hQ
    | (cases u <;> first
        | exact wpAny_pure hQ
        | (refine wpAny_bind (wpAny_load ho ?_)
           rw [hc, hd]
           show wpAny M A (if (["enumerate", "zip", "dict_itemiterator", "dict_reverseitemiterator", "odict_iterator", "itertools.zip_longest", "itertools.pairwise"].contains n && vs[0]? == some (rawInt _)) = true then _ else _) Q E s
           rw [if_neg (by intro h; rw [hn, Bool.false_and] at h; cases h)]
           exact wpAny_pure hQ))

/-- the list at a, as it stands at each turn (a loop may append to it) -/
def Itl (K : PySem.W.Frag) (a : Addr) : It :=
  ⟨fun i H => ∃ xs x, SqL K H a xs ∧ xs[i]? = some x, fun i H x H' => H' = H ∧ ∀ xs, SqL K H a xs → xs[i]? = some x, fun i H => ∃ xs, SqL K H a xs ∧ xs.length ≤ i⟩
def Itt (K : PySem.W.Frag) (a : Addr) : It :=
  ⟨fun i H => ∃ xs x, SqT K H a xs ∧ xs[i]? = some x, fun i H x H' => H' = H ∧ ∀ xs, SqT K H a xs → xs[i]? = some x, fun i H => ∃ xs, SqT K H a xs ∧ xs.length ≤ i⟩
/-- lo, lo + 1, .. (n of them) -/
def Itr (lo : Int) (n : Nat) : It := ⟨fun i _ => i < n, fun i H x H' => H' = H ∧ x = .int (lo + i), fun i _ => n ≤ i⟩
theorem turn_list {P : Program} {w : World} {K : PySem.W.Frag} {tg : Expr} (a it : Addr) : Turn P w K tg (Itl K a) [it] it (fun i h => h.IsListIter it a i) where
  mem := by simp
  obj := fun i h st b hb => by
    have e : b = it := by simpa using hb
    subst e
    obtain ⟨o, e, c, d⟩ := st
    exact ⟨o, e, fun v z => by rw [d] at z; cases z⟩
  keep := fun i h h' st k => st.at fun o e => k it (by simp) o e
  item := by
    intro X hP hw hK hc i pins s σ H E I hf st hg
    subst hP hw hK
    obtain ⟨xs, x, hq, hx⟩ := hg
    obtain ⟨its, rv, p, hz⟩ := I.list hq
    obtain ⟨u, hu, ru⟩ := rv.get hx
    obtain ⟨f0, f1, f2, f3, f4, f5⟩ := hf it (by simp)
    refine wpAny_pyNext_list_item st p.isList (x := u) (by simpa using hu) fun h' st' sb => ?_
    have I1 : Inv X pins σ H { s with heap := h' } := I.turned (t' := s.toks) (fun b o hb e => (sb.2 b hb).trans e) f0 f1 f3 f4 f5
    obtain ⟨o, e, c, d⟩ := id st'
    exact ⟨u, rfl, go_of (s := { s with heap := h' }) e c d (by decide) ⟨x, H, I1, ru, ⟨rfl, fun ys hy => by rw [I.list_inj hy hq]; exact hx⟩, st', fun b hb => (hf b hb).1⟩⟩
  done := by
    intro X hP hw hK hc i pins s σ H E I hf st hg
    subst hP hw hK
    obtain ⟨xs, hq, hx⟩ := hg
    obtain ⟨its, rv, p, hz⟩ := I.list hq
    obtain ⟨f0, f1, f2, f3, f4, f5⟩ := hf it (by simp)
    have hl := rv.length
    exact wpAny_pyNext_list_end (I.ok.hd hc) st p.isList (by simp; omega) fun h' eb => ⟨rfl, I.turned (t' := s.toks) (fun b o hb e => eb b o hb e) f0 f1 f3 f4 f5⟩
  self := fun _ _ _ _ _ st h => wpAny_pyIter_listiter st h
theorem turn_range {P : Program} {w : World} {K : PySem.W.Frag} {tg : Expr} (it : Addr) (lo : Int) (n : Nat) : Turn P w K tg (Itr lo n) [it] it (fun i h => IsRangeIter h it (lo + (i : Nat) * 1) ((n : Int) - (i : Nat)) 1) where
  mem := by simp
  obj := fun i h st b hb => by
    have e : b = it := by simpa using hb
    subst e
    exact ⟨_, st, fun v z => by
      have z' : Data.fields _ = Data.cell v := z
      cases z'⟩
  keep := fun i h h' st k => k it (by simp) _ st
  item := by
    intro X hP hw hK hc i pins s σ H E I hf st hg
    subst hP hw hK
    obtain ⟨f0, f1, f2, f3, f4, f5⟩ := hf it (by simp)
    have W := Walks.range (prog := X.prog) (w := X.w) (I.ok.hd hc) it lo 1 n
    refine W.item i s _ _ hg st fun v h' tk hv st' kk => ?_
    obtain ⟨t, rfl⟩ := hv
    have I1 : Inv X pins σ H { s with heap := h', toks := tk } := I.turned (fun b o hb e => kk b o (by simpa using hb) e) f0 f1 f3 f4 f5
    refine ⟨_, rfl, go_of (s := { s with heap := h', toks := tk }) (n := "range_iterator") st' rfl rfl (by decide) ⟨.int (lo + i), H, I1, ⟨t, ?_⟩, ⟨rfl, rfl⟩, st', fun b hb => (hf b hb).1⟩⟩
    rw [Int.mul_one]
  done := by
    intro X hP hw hK hc i pins s σ H E I hf st hg
    subst hP hw hK
    obtain ⟨f0, f1, f2, f3, f4, f5⟩ := hf it (by simp)
    exact wpAny_pyNext_range_end (I.ok.hd hc) st (by have : n ≤ i := hg; omega) fun h' eb => ⟨rfl, I.turned (t' := s.toks) (fun b o hb e => eb b o hb e) f0 f1 f3 f4 f5⟩
  self := fun _ _ _ _ _ st h => wpAny_pyIter_rangeiter st h
end L2

namespace L2
open PySem PySem.Spec PyProof.Rows
section
variable {X : Cx} {tg : Expr}
def iList (K : PySem.W.Frag) (tl : TE) : TI := fun σ H R => tl σ H fun x H1 => ∃ a, x = .ref a ∧ (∃ xs, SqL K H1 a xs) ∧ R (Itl K a) H1
def iTup (K : PySem.W.Frag) (tl : TE) : TI := fun σ H R => tl σ H fun x H1 => ∃ a, x = .ref a ∧ (∃ xs, SqT K H1 a xs) ∧ R (Itt K a) H1
theorem pi_list {l : Expr} {tl : TE} (hl : PE X l tl) : PI X tg l (iList X.K tl) := by
  intro pins s σ H R I h
  refine thn (hl pins s σ H _ I h) fun v s1 ⟨x, H1, I1, r1, q1⟩ => ?_
  obtain ⟨a, e, ⟨xs, hq⟩, q⟩ := q1
  subst e
  cases r1
  obtain ⟨its, rv, p, hz⟩ := I1.list hq
  refine wpAny_pyIter_list p.isList ?_
  refine ⟨s1.heap.objs.size, [s1.heap.objs.size], _, _, H1, rfl, I1.kept (t' := s1.toks) fun b o e => Heap.get?_push_of_some _ e, turn_list a _, ⟨_, Heap.get?_push_size _ rfl, rfl, rfl⟩, fun b hb => ?_, q⟩
  have e : b = s1.heap.objs.size := by simpa using hb
  subst e
  exact I1.fpOk (Nat.le_refl _) (I1.hok.fresh (Nat.le_refl _))
/-- a range object just made, walked -/
theorem range_it {pins : List (Addr × Obj)} {σ : St} {H : Hp} {s : Shared} {R : It → Hp → Prop} {E : Value → Shared → Prop} {lo hi : Int} {t u v : Tok} {tk : Nat} (I : Inv X pins σ H s) (h1 : -(2 ^ 62) ≤ lo) (h2 : lo < 2 ^ 62) (h3 : -(2 ^ 62) ≤ hi) (h4 : hi < 2 ^ 62)
    (q : R (Itr lo (hi - lo).toNat) H) : wpAny (model X.prog X.w) X.A (pyIter (.ref s.heap.objs.size)) (PIE X pins σ tg R) E { s with heap := s.heap.push { cls := .type "range", data := .fields #[.int lo t, .int hi u, .int 1 v] }, toks := tk } := by
  refine wpAny_pyIter_range (IsRange.new ..) (small_one h1 h2 h3 h4) ?_
  have I1 : Inv X pins σ H { s with heap := s.heap.push { cls := .type "range", data := .fields #[.int lo t, .int hi u, .int 1 v] }, toks := tk } := I.kept fun b o e => Heap.get?_push_of_some _ e
  refine ⟨(s.heap.push { cls := .type "range", data := .fields #[.int lo t, .int hi u, .int 1 v] }).objs.size, [(s.heap.push { cls := .type "range", data := .fields #[.int lo t, .int hi u, .int 1 v] }).objs.size], _, _, H, rfl,
    I1.kept (t' := tk) fun b o e => Heap.get?_push_of_some _ e, turn_range _ lo (hi - lo).toNat, ?_, fun b hb => ?_, q⟩
  · have e1 : lo + ((0 : Nat) : Int) * 1 = lo := by simp
    have e2 : (((hi - lo).toNat : Nat) : Int) - ((0 : Nat) : Int) = Builtin.Range.rangeSize lo hi 1 := by rw [rangeSize_one]; split <;> omega
    show IsRangeIter _ _ (lo + ((0 : Nat) : Int) * 1) ((((hi - lo).toNat : Nat) : Int) - ((0 : Nat) : Int)) 1
    rw [e1, e2]
    exact Heap.get?_push_size _ rfl
  · have e : b = (s.heap.push { cls := .type "range", data := .fields #[.int lo t, .int hi u, .int 1 v] }).objs.size := by simpa using hb
    subst e
    exact I1.fpOk (Nat.le_refl _) (I1.hok.fresh (Nat.le_refl _))
def iRng1 (ta : TA) : TI := fun σ H R => ta σ H fun vs H1 => ∃ j : Int, vs = [.int j] ∧ -(2 ^ 62) ≤ j ∧ j < 2 ^ 62 ∧ R (Itr 0 j.toNat) H1
def iRng2 (ta : TA) : TI := fun σ H R => ta σ H fun vs H1 => ∃ i j : Int, vs = [.int i, .int j] ∧ (-(2 ^ 62) ≤ i ∧ i < 2 ^ 62 ∧ -(2 ^ 62) ≤ j ∧ j < 2 ^ 62) ∧ R (Itr i (j - i).toNat) H1
theorem pi_range1 {a : Expr} {ta : TA} {p pos : Pos} (hg : Gl X "range") (hm : X.mg "range" = none) (ha : PA X [a] ta) (hs : starEach [a] X.env = [(false, eval a X.env)] := by rfl) : PI X tg (.Call (.Name "range" p) [a] [] pos) (iRng1 ta) := by
  intro pins s σ H R I h
  refine Call_ (ld_blt I hg hm boot_range (PyProof.Rows.callWith_type1 (thn (ha pos pins s σ H _ I h) fun us s1 ⟨vs, H1, I1, r1, q1⟩ => ?_) hs rfl))
  obtain ⟨j, e, q1, q2, q⟩ := q1
  subst e
  cases r1 with
  | cons r rr =>
    cases rr
    obtain ⟨t, rfl⟩ := r
    exact call_range_1 (range_it I1 (by omega) (by omega) q1 q2 (by simpa using q))
/-! ### for -/
/-- W: the invariant by the turn and a measure; N: what the body is to reach -/
def tFor (wi : TI) (g : TG) (tb : TS) : TS := fun D σ H => wi σ H fun J H1 => ∃ W : Nat → Nat → St → Hp → Prop, (∃ m, W 0 m σ H1) ∧ ∀ i m σ H, W i m σ H →
  (J.stop i H ∧ D.nx σ H) ∨ (J.go i H ∧ ∃ N : St → Hp → Prop, (∀ σ' H', N σ' H' → ∃ m', m' < m ∧ W (i + 1) m' σ' H') ∧ ∀ x H', J.yld i H x H' → g x σ H' fun σ2 H2 => tb { D with nx := N, ct := N, bk := D.nx } σ2 H2)
/-- the records at fp as they stand -/
def pinsAt (fp : List Addr) (h : Heap) : List (Addr × Obj) := fp.filterMap fun b => (h.get? b).map fun o => (b, o)
theorem mem_pinsAt {fp : List Addr} {h : Heap} {b : Addr} {o : Obj} (hb : b ∈ fp) (e : h.get? b = some o) : (b, o) ∈ pinsAt fp h := List.mem_filterMap.mpr ⟨b, hb, by rw [e]; rfl⟩
theorem of_pinsAt {fp : List Addr} {h : Heap} {p : Addr × Obj} (hp : p ∈ pinsAt fp h) : p.1 ∈ fp ∧ h.get? p.1 = some p.2 := by
  obtain ⟨b, hb, e⟩ := List.mem_filterMap.mp hp
  cases q : h.get? b with
  | none => rw [q] at e; cases e
  | some o =>
    rw [q] at e
    have e' : (b, o) = p := Option.some.inj e
    subst e'
    exact ⟨hb, q⟩
theorem Inv.pinned {pins : List (Addr × Obj)} {σ : St} {H : Hp} {s : Shared} {fp : List Addr} (I : Inv X pins σ H s) (hf : ∀ b ∈ fp, FpOk X pins H b) (ho : ∀ b ∈ fp, ∃ o, s.heap.get? b = some o ∧ ∀ v, o.data ≠ .cell v) : Inv X (pins ++ pinsAt fp s.heap) σ H s :=
  I.pins_of fun p hp => (List.mem_append.mp hp).elim (fun z => I.pin p (List.mem_append_right _ z)) fun z => by
    obtain ⟨hb, e⟩ := of_pinsAt z
    obtain ⟨f0, f1, f2, _⟩ := hf p.1 hb
    obtain ⟨o, e', d⟩ := ho p.1 hb
    rw [e] at e'; cases e'
    exact ⟨e, f0, f1, f2, d⟩
theorem Inv.unpinned {pins pl : List (Addr × Obj)} {σ : St} {H : Hp} {s : Shared} (I : Inv X (pins ++ pl) σ H s) : Inv X pins σ H s := I.pins_of fun p hp => I.pin p (List.mem_append_right _ (List.mem_append_left _ hp))
end

/-! ### the forms one uses -/
end L2

namespace L2
open PySem PySem.Spec PyProof.Rows

abbrev R2 := V → V → Hp → VK → Prop
/-- a two-place operation on values: f is binaryOp op, inplaceOp op or compareOp op -/
def OpR (X : Cx) (f : Value → Value → Sem Value) (r : R2) : Prop :=
  ∀ (pins : List (Addr × Obj)) (s : Shared) (σ : St) (H : Hp) (x y : V) (v u : Value) (Q : VK), Inv X pins σ H s → RelV x v → RelV y u → r x y H Q →
    wpAny (model X.prog X.w) X.A (f v u) (EP X pins σ Q) X.xe s
/-- a one-place operation -/
def UnR (X : Cx) (f : Value → Sem Value) (r : V → Hp → VK → Prop) : Prop :=
  ∀ (pins : List (Addr × Obj)) (s : Shared) (σ : St) (H : Hp) (x : V) (v : Value) (Q : VK), Inv X pins σ H s → RelV x v → r x H Q →
    wpAny (model X.prog X.w) X.A (f v) (EP X pins σ Q) X.xe s
/-- a call of a value that is known (a builtin, a type) with values -/
def CallR (X : Cx) (f : Value) (r : List V → Hp → VK → Prop) : Prop :=
  ∀ (pins : List (Addr × Obj)) (s : Shared) (σ : St) (H : Hp) (xs : List V) (us : List Value) (Q : VK), Inv X pins σ H s → Vals xs us → r xs H Q →
    wpAny (model X.prog X.w) X.A (call f us) (EP X pins σ Q) X.xe s
/-- a value's truth -/
def TruR (X : Cx) (r : V → Hp → (Bool → Hp → Prop) → Prop) : Prop :=
  ∀ (pins : List (Addr × Obj)) (s : Shared) (σ : St) (H : Hp) (x : V) (v : Value) (Q : Bool → Hp → Prop), Inv X pins σ H s → RelV x v → r x H Q →
    wpAny (model X.prog X.w) X.A (truthy v) (TP X pins σ Q) X.xe s

def tOp (r : R2) (ta tb : TE) : TE := fun σ H Q => ta σ H fun x H1 => tb σ H1 fun y H2 => r x y H2 Q
def tUn (r : V → Hp → VK → Prop) (ta : TE) : TE := fun σ H Q => ta σ H fun x H1 => r x H1 Q
/-- ints in, under C, and a value out -/
def rI (C : Int → Int → Prop) (g : Int → Int → V) : R2 := fun x y H Q => ∃ i j, x = .int i ∧ y = .int j ∧ C i j ∧ Q (g i j) H
def rI0 (g : Int → Int → V) : R2 := fun x y H Q => ∃ i j, x = .int i ∧ y = .int j ∧ Q (g i j) H
def rU (g : Int → V) : V → Hp → VK → Prop := fun x H Q => ∃ i, x = .int i ∧ Q (g i) H

section
variable {X : Cx} {a b c : Expr} {ta tb tc : TE} {pos : Pos}

theorem binT (ha : PE X a ta) (hb : PE X b tb) {pins : List (Addr × Obj)} {s : Shared} {σ : St} {H : Hp} {R : V → V → Hp → Prop} (I : Inv X pins σ H s)
    (h : ta σ H fun x H1 => tb σ H1 fun y H2 => R x y H2) {Q : Value → Shared → Prop} {f : Value → Value → Sem Value}
    (hf : ∀ v u s2 x y H2, Inv X pins σ H2 s2 → RelV x v → RelV y u → R x y H2 → wpAny (model X.prog X.w) X.A (f v u) Q X.xe s2) :
    wpAny (model X.prog X.w) X.A (eval a X.env) (fun v s₁ => wpAny (model X.prog X.w) X.A (eval b X.env) (fun u s₂ => wpAny (model X.prog X.w) X.A (f v u) Q X.xe s₂) X.xe s₁) X.xe s := by
  refine thn (ha pins s σ H _ I h) fun v s1 ⟨x, H1, I1, r1, q1⟩ => ?_
  refine thn (hb pins s1 σ H1 _ I1 q1) fun u s2 ⟨y, H2, I2, r2, q2⟩ => ?_
  exact hf v u s2 x y H2 I2 r1 r2 q2

theorem pe_op {op : Operator} {r : R2} (ho : OpR X (binaryOp op) r) (ha : PE X a ta) (hb : PE X b tb) : PE X (.BinOp a op b pos) (tOp r ta tb) := by
  intro pins s σ H Q I h
  exact wpAny_BinOp (binT ha hb I h fun v u s2 x y H2 I2 rx ry q => ho pins s2 σ H2 x y v u Q I2 rx ry q)
/-! ### ints -/
theorem opI {f : Value → Value → Sem Value} {C : Int → Int → Prop} {g : Int → Int → Int}
    (rule : ∀ (i j : Int) (t u : Tok) (s : Shared) (Q : Value → Shared → Prop) (E : Value → Shared → Prop), C i j → Q (.int (g i j) s.toks) { s with toks := s.toks + 1 } → wpAny (model X.prog X.w) X.A (f (.int i t) (.int j u)) Q E s) :
    OpR X f (rI C fun i j => .int (g i j)) := by
  intro pins s σ H x y v u Q I rx ry h
  obtain ⟨i, j, rfl, rfl, hc, q⟩ := h
  obtain ⟨t, rfl⟩ := rx
  obtain ⟨t', rfl⟩ := ry
  exact rule i j t t' s _ _ hc ⟨.int (g i j), H, I.tok _, ⟨_, rfl⟩, q⟩
theorem opI0 {f : Value → Value → Sem Value} {g : Int → Int → Int}
    (rule : ∀ (i j : Int) (t u : Tok) (s : Shared) (Q : Value → Shared → Prop) (E : Value → Shared → Prop), Q (.int (g i j) s.toks) { s with toks := s.toks + 1 } → wpAny (model X.prog X.w) X.A (f (.int i t) (.int j u)) Q E s) :
    OpR X f (rI0 fun i j => .int (g i j)) := by
  intro pins s σ H x y v u Q I rx ry h
  obtain ⟨i, j, rfl, rfl, q⟩ := h
  obtain ⟨t, rfl⟩ := rx
  obtain ⟨t', rfl⟩ := ry
  exact rule i j t t' s _ _ ⟨.int (g i j), H, I.tok _, ⟨_, rfl⟩, q⟩
theorem opB0 {f : Value → Value → Sem Value} {g : Int → Int → Bool}
    (rule : ∀ (i j : Int) (t u : Tok) (s : Shared) (Q : Value → Shared → Prop) (E : Value → Shared → Prop), Q (.bool (g i j)) s → wpAny (model X.prog X.w) X.A (f (.int i t) (.int j u)) Q E s) :
    OpR X f (rI0 fun i j => .bl (g i j)) := by
  intro pins s σ H x y v u Q I rx ry h
  obtain ⟨i, j, rfl, rfl, q⟩ := h
  obtain ⟨t, rfl⟩ := rx
  obtain ⟨t', rfl⟩ := ry
  exact rule i j t t' s _ _ ⟨.bl (g i j), H, I, rfl, q⟩

def CDiv (i j : Int) : Prop := 0 < j ∧ j < 1073741824
def CDivN (i j : Int) : Prop := j ≠ 0 ∧ j.natAbs < 1073741824
def CPow (i j : Int) : Prop := 0 ≤ j ∧ j ≤ 1000000 ∧ i.natAbs < 2 ^ 64
def CMul (i j : Int) : Prop := (-(2 ^ 64) < i ∧ i < 2 ^ 64) ∨ (-(2 ^ 64) < j ∧ j < 2 ^ 64)
theorem CMul.ok {i j : Int} (h : CMul i j) : IntMulOk i j := by
  rcases h with ⟨h1, h2⟩ | ⟨h1, h2⟩
  · exact .of_left (intBits_le_64 h1 h2)
  · exact .of_right (intBits_le_64 h1 h2)
theorem op_add : OpR X (binaryOp .Add) (rI0 fun i j => .int (i + j)) := opI0 fun _ _ _ _ _ _ _ q => add_int q
/-- // by a positive divisor -/
theorem op_fdiv : OpR X (binaryOp .FloorDiv) (rI CDiv fun i j => .int (i / j)) := opI fun i j _ _ _ _ _ hc q => by
  have h1 : (0 : Int) < j := hc.1
  have h2 : j < 1073741824 := hc.2
  exact floordiv_int (by omega) (by rw [Int.fdiv_eq_ediv_of_nonneg i (by omega)]; exact q) (.inl (PyProof.noPylong_small (by omega)))
/-- % by a positive divisor of any size -/
theorem op_mod : OpR X (binaryOp .Mod) (rI (fun _ j => 0 < j) fun i j => .int (i % j)) := opI fun i j _ _ _ _ _ hc q => by
  have h1 : (0 : Int) < j := hc
  exact mod_int' (by omega) (by rw [Int.fmod_eq_emod_of_nonneg i (by omega)]; exact q)
/-! ### bools among ints: n += (a < b) -/
end

/-! ### comparisons -/
/-- the scalars that == tells apart as data does -/
def scal : V → V → Bool
  | .non, .non => true | .non, .int _ => true | .int _, .non => true | .non, .bl _ => true | .bl _, .non => true | .non, .str _ => true | .str _, .non => true
  | .int _, .int _ => true | .bl _, .bl _ => true | .str _, .str _ => true | .byt _, .byt _ => true
  | .int _, .str _ => true | .str _, .int _ => true | .bl _, .str _ => true | .str _, .bl _ => true
  | _, _ => false
def rEq : R2 := fun x y H Q => scal x y = true ∧ Q (.bl (decide (x = y))) H
def rNe : R2 := fun x y H Q => scal x y = true ∧ Q (.bl (!decide (x = y))) H

theorem dec_int {i j : Int} : decide (V.int i = V.int j) = (i == j) := by
  rw [Bool.eq_iff_iff]
  simp
theorem dec_bl {i j : Bool} : decide (V.bl i = V.bl j) = (i == j) := by
  rw [Bool.eq_iff_iff]
  simp
theorem dec_str {i j : Str} : decide (V.str i = V.str j) = (i == j) := by
  rw [Bool.eq_iff_iff]
  simp
theorem dec_byt {i j : Array UInt8} : decide (V.byt i = V.byt j) = (i.toList == j.toList) := by
  rw [Bool.eq_iff_iff]
  cases i
  cases j
  simp

section
variable {X : Cx} {a b c : Expr} {ta tb tc : TE} {pos : Pos}
theorem fin_bl {pins : List (Addr × Obj)} {σ : St} {H : Hp} {s : Shared} {Q : VK} {k k' : Bool} (I : Inv X pins σ H s) (q : Q (.bl k) H) (e : k = k') : EP X pins σ Q (.bool k') s := by
  subst e
  exact ⟨.bl k, H, I, rfl, q⟩
theorem op_eq : OpR X (compareOp .Eq) rEq := by
  intro pins s σ H x y v u Q I rx ry h
  obtain ⟨hs, q⟩ := h
  cases x with
  | non =>
    cases rx
    cases y with
    | non => cases ry; exact PySem.EqNone.eq_none_none (fin_bl I q (by simp))
    | bl j => cases ry; exact PySem.EqNone.eq_none_bool (fin_bl I q (by simp))
    | int j => obtain ⟨t', rfl⟩ := ry; exact PySem.EqNone.eq_none_int (fin_bl I q (by simp))
    | str j => obtain ⟨t', rfl⟩ := ry; exact PySem.EqNone.eq_none_str (fin_bl I q (by simp))
    | _ => exact absurd (show false = true from hs) Bool.false_ne_true
  | bl i =>
    cases rx
    cases y with
    | non => cases ry; exact PySem.EqNone.eq_bool_none (fin_bl I q (by simp))
    | bl j => cases ry; exact eq_bool (fin_bl I q dec_bl)
    | str j => obtain ⟨t', rfl⟩ := ry; exact PySem.EqMixed.eq_bool_str (fin_bl I q (by simp))
    | _ => exact absurd (show false = true from hs) Bool.false_ne_true
  | int i =>
    obtain ⟨t, rfl⟩ := rx
    cases y with
    | non => cases ry; exact PySem.EqNone.eq_int_none (fin_bl I q (by simp))
    | int j => obtain ⟨t', rfl⟩ := ry; exact eq_int (fin_bl I q dec_int)
    | str j => obtain ⟨t', rfl⟩ := ry; exact PySem.EqMixed.eq_int_str (fin_bl I q (by simp))
    | _ => exact absurd (show false = true from hs) Bool.false_ne_true
  | str i =>
    obtain ⟨t, rfl⟩ := rx
    cases y with
    | non => cases ry; exact PySem.EqNone.eq_str_none (fin_bl I q (by simp))
    | bl j => cases ry; exact PySem.EqMixed.eq_str_bool (fin_bl I q (by simp))
    | int j => obtain ⟨t', rfl⟩ := ry; exact PySem.EqMixed.eq_str_int (fin_bl I q (by simp))
    | str j => obtain ⟨t', rfl⟩ := ry; exact eq_str (fin_bl I q dec_str)
    | _ => exact absurd (show false = true from hs) Bool.false_ne_true
  | byt i =>
    obtain ⟨t, rfl⟩ := rx
    cases y with
    | byt j => obtain ⟨t', rfl⟩ := ry; exact PySem.W.eq_bytes (fin_bl I q dec_byt)
    | _ => exact absurd (show false = true from hs) Bool.false_ne_true
  | _ => cases y <;> exact absurd (show false = true from hs) Bool.false_ne_true
theorem op_ne : OpR X (compareOp .NotEq) rNe := by
  intro pins s σ H x y v u Q I rx ry h
  obtain ⟨hs, q⟩ := h
  cases x with
  | non =>
    cases rx
    cases y with
    | non => cases ry; exact PySem.EqNone.ne_none_none (fin_bl I q (by simp))
    | bl j => cases ry; exact PySem.EqNone.ne_none_bool (fin_bl I q (by simp))
    | int j => obtain ⟨t', rfl⟩ := ry; exact PySem.EqNone.ne_none_int (fin_bl I q (by simp))
    | str j => obtain ⟨t', rfl⟩ := ry; exact PySem.EqNone.ne_none_str (fin_bl I q (by simp))
    | _ => exact absurd (show false = true from hs) Bool.false_ne_true
  | bl i =>
    cases rx
    cases y with
    | non => cases ry; exact PySem.EqNone.ne_bool_none (fin_bl I q (by simp))
    | bl j => cases ry; exact ne_bool (fin_bl I q (congrArg not dec_bl))
    | str j => obtain ⟨t', rfl⟩ := ry; exact PySem.EqMixed.ne_bool_str (fin_bl I q (by simp))
    | _ => exact absurd (show false = true from hs) Bool.false_ne_true
  | int i =>
    obtain ⟨t, rfl⟩ := rx
    cases y with
    | non => cases ry; exact PySem.EqNone.ne_int_none (fin_bl I q (by simp))
    | int j => obtain ⟨t', rfl⟩ := ry; exact ne_int (fin_bl I q (congrArg not dec_int))
    | str j => obtain ⟨t', rfl⟩ := ry; exact PySem.EqMixed.ne_int_str (fin_bl I q (by simp))
    | _ => exact absurd (show false = true from hs) Bool.false_ne_true
  | str i =>
    obtain ⟨t, rfl⟩ := rx
    cases y with
    | non => cases ry; exact PySem.EqNone.ne_str_none (fin_bl I q (by simp))
    | bl j => cases ry; exact PySem.EqMixed.ne_str_bool (fin_bl I q (by simp))
    | int j => obtain ⟨t', rfl⟩ := ry; exact PySem.EqMixed.ne_str_int (fin_bl I q (by simp))
    | str j => obtain ⟨t', rfl⟩ := ry; exact ne_str (fin_bl I q (congrArg not dec_str))
    | _ => exact absurd (show false = true from hs) Bool.false_ne_true
  | byt i =>
    obtain ⟨t, rfl⟩ := rx
    cases y with
    | byt j => obtain ⟨t', rfl⟩ := ry; exact PySem.W.ne_bytes (fin_bl I q (congrArg not dec_byt))
    | _ => exact absurd (show false = true from hs) Bool.false_ne_true
  | _ => cases y <;> exact absurd (show false = true from hs) Bool.false_ne_true

theorem op_lt : OpR X (compareOp .Lt) (rI0 fun i j => .bl (decide (i < j))) := opB0 fun _ _ _ _ _ _ _ q => lt_int q
theorem op_le : OpR X (compareOp .LtE) (rI0 fun i j => .bl (decide (i ≤ j))) := opB0 fun _ _ _ _ _ _ _ q => le_int q
theorem op_gt : OpR X (compareOp .Gt) (rI0 fun i j => .bl (decide (j < i))) := opB0 fun _ _ _ _ _ _ _ q => gt_int q
/-- the one string within the other -/
theorem op_in_str : OpR X (compareOp .In) (fun x y H Q => ∃ i j, x = .str i ∧ y = .str j ∧ Q (.bl (!(Builtin.Str.occurrences j i 0 j.length 1).isEmpty)) H) := by
  intro pins s σ H x y v u Q I rx ry h
  obtain ⟨i, j, rfl, rfl, q⟩ := h
  obtain ⟨t, rfl⟩ := rx
  obtain ⟨t', rfl⟩ := ry
  exact in_str (fin_bl I q rfl)

theorem op_notin_str : OpR X (compareOp .NotIn) (fun x y H Q => ∃ i j, x = .str i ∧ y = .str j ∧ Q (.bl (!(!(Builtin.Str.occurrences j i 0 j.length 1).isEmpty))) H) := by
  intro pins s σ H x y v u Q I rx ry h
  obtain ⟨i, j, rfl, rfl, q⟩ := h
  obtain ⟨t, rfl⟩ := rx
  obtain ⟨t', rfl⟩ := ry
  exact notIn_str (fin_bl I q rfl)
/-- is, is not of two objects that are tracked lists or instances -/
def isObj : HO → Bool
  | .lst _ => true
  | .ins _ _ _ => true
  | _ => false
/-- two rules for one operation: by cases -/
theorem OpR.or {f : Value → Value → Sem Value} {r r' : R2} (h : OpR X f r) (h' : OpR X f r') : OpR X f (fun x y H Q => r x y H Q ∨ r' x y H Q) := by
  intro pins s σ H x y v u Q I rx ry q
  rcases q with q | q
  · exact h pins s σ H x y v u Q I rx ry q
  · exact h' pins s σ H x y v u Q I rx ry q

theorem nomark (b : Expr) {op : CmpOp} (h : op ≠ .In := by decide) (h2 : op ≠ .NotIn := by decide) : behindInMarks op b = false := by
  have e1 : (op == CmpOp.In) = false := by cases op <;> first | rfl | exact absurd rfl h
  have e2 : (op == CmpOp.NotIn) = false := by cases op <;> first | rfl | exact absurd rfl h2
  cases b <;> simp [behindInMarks, e1, e2]
/-- a comparison as a value; hm: nomark b, or (for in, not in) by with_unfolding_all rfl -/
theorem pe_cmpR {op : CmpOp} {r : R2} (ho : OpR X (compareOp op) r) (ha : PE X a ta) (hb : PE X b tb) (hm : behindInMarks op b = false) : PE X (.Compare a [op] [b] pos) (tOp r ta tb) := by
  intro pins s σ H Q I h
  exact wpAny_Compare1 (binT ha hb I h fun v u s2 x y H2 I2 rx ry q => ho pins s2 σ H2 x y v u Q I2 rx ry q) hm
/-- a reading of a value as a test -/
def tTest (t : TE) : TT := fun σ H Q => t σ H fun x H' => ∃ k, x = .bl k ∧ Q k H'
theorem pt_cmpR {op : CmpOp} {r : R2} (ho : OpR X (compareOp op) r) (ha : PE X a ta) (hb : PE X b tb) (hm : behindInMarks op b = false) : PT X (.Compare a [op] [b] pos) (tTest (tOp r ta tb)) := by
  intro pins s σ H Q I h
  refine wpAny_isTrue_Compare1 (thn (ha pins s σ H _ I h) fun v s1 ⟨x, H1, I1, r1, q1⟩ => thn (hb pins s1 σ H1 _ I1 q1) fun u s2 ⟨y, H2, I2, r2, q2⟩ =>
    thn (ho pins s2 σ H2 x y v u _ I2 r1 r2 q2) fun c s3 ⟨z, H3, I3, r3, k, e, q3⟩ => ?_) hm
  subst e
  cases r3
  exact wpAny_truthy_bool ⟨H3, I3, q3⟩
/-- a op1 b op2 c -/
def tChain (r r' : R2) (ta tb tc : TE) : TE := fun σ H Q => ta σ H fun x H1 => tb σ H1 fun y H2 => r x y H2 fun z H3 => ∃ k, z = .bl k ∧
  (if k = true then tc σ H3 fun w' H4 => r' y w' H4 Q else Q (.bl false) H3)
theorem pt_chain {op op' : CmpOp} {r r' : R2} (ho : OpR X (compareOp op) r) (ho' : OpR X (compareOp op') r') (ha : PE X a ta) (hb : PE X b tb) (hc : PE X c tc)
    (hm : lastMarks [op, op'] [b, c] = false := by with_unfolding_all rfl) : PT X (.Compare a [op, op'] [b, c] pos) (tTest (tChain r r' ta tb tc)) := by
  intro pins s σ H Q I h
  refine isTrue_chain (thn (ha pins s σ H _ I h) fun v s1 ⟨x, H1, I1, r1, q1⟩ => test_link (thn (hb pins s1 σ H1 _ I1 q1) fun u s2 ⟨y, H2, I2, r2, q2⟩ =>
    thn (ho pins s2 σ H2 x y v u _ I2 r1 r2 q2) fun d s3 ⟨z, H3, I3, r3, k, e, q3⟩ => ?_)) hm
  subst e
  cases r3
  refine wpAny_truthy_bool ?_
  cases k with
  | false =>
    obtain ⟨k', e', q'⟩ := q3
    cases e'
    exact ite_ff ⟨H3, I3, q'⟩
  | true =>
    refine ite_tt (test_last (thn (hc pins s3 σ H3 _ I3 q3) fun w' s4 ⟨z', H4, I4, r4, q4⟩ => thn (ho' pins s4 σ H4 y z' u w' _ I4 r2 r4 q4) fun d' s5 ⟨z2, H5, I5, r5, k2, e2, q5⟩ => ?_))
    subst e2
    cases r5
    exact wpAny_truthy_bool ⟨H5, I5, q5⟩

/-! ### truth -/
/-- a value's truth by the abstract heap -/
def TruV (K : PySem.W.Frag) (x : V) (H : Hp) (k : Bool) : Prop :=
  match x with
  | .non => k = false
  | .bl b => k = b
  | .int i => k = (i != 0)
  | .str y => y.length ≤ sizeLine ∧ k = ((y.length : Int) != 0)
  | .byt y => y.size ≤ sizeLine ∧ k = ((y.size : Int) != 0)
  | .ref p => (∃ xs, SqL K H p xs ∧ k = !xs.isEmpty) ∨ (∃ xs, SqT K H p xs ∧ k = !xs.isEmpty) ∨ ∃ kvs, H p = some (.dK kvs) ∧ k = !kvs.isEmpty
  | _ => False
theorem line63 : (sizeLine : Nat) < 2 ^ 63 := by rw [sizeLine_eq]; decide
/-! ### strs and bytes -/
theorem op_add_str : OpR X (binaryOp .Add) (fun x y H Q => ∃ i j, x = .str i ∧ y = .str j ∧ i.length + j.length ≤ sizeLine ∧ Q (.str (i ++ j)) H) := by
  intro pins s σ H x y v u Q I rx ry h
  obtain ⟨i, j, rfl, rfl, hz, q⟩ := h
  obtain ⟨t, rfl⟩ := rx
  obtain ⟨t', rfl⟩ := ry
  exact add_str (fun t' tk => ⟨.str (i ++ j), H, I.tok _, ⟨_, rfl⟩, q⟩) hz
def PlainIxT (b : Expr) : Prop := ∀ o i, subscripted b false o i = operate [o, i] (getItem o i)
/-! ### scalar builtins, by CallR -/
theorem vals1 {x : V} {us : List Value} (r : Vals [x] us) : ∃ u, us = [u] ∧ RelV x u := by
  cases r with
  | cons r1 r2 => cases r2; exact ⟨_, rfl, r1⟩
theorem vals2 {x y : V} {us : List Value} (r : Vals [x, y] us) : ∃ u w', us = [u, w'] ∧ RelV x u ∧ RelV y w' := by
  cases r with
  | cons r1 r2 =>
    cases r2 with
    | cons r3 r4 => cases r4; exact ⟨_, _, rfl, r1, r3⟩
theorem call_int1 : CallR X (.type "int") (fun xs H Q => (∃ i, xs = [.int i] ∧ Q (.int i) H) ∨ ∃ k, xs = [.bl k] ∧ Q (.int (if k then 1 else 0)) H) := by
  intro pins s σ H xs us Q I r h
  rcases h with ⟨i, rfl, q⟩ | ⟨k, rfl, q⟩
  · obtain ⟨u, rfl, t, rfl⟩ := vals1 r
    exact call_int_int ⟨.int i, H, I, ⟨_, rfl⟩, q⟩
  · obtain ⟨u, rfl, r1⟩ := vals1 r
    cases r1
    exact call_int_bool ⟨.int (if k then 1 else 0), H, I.tok _, ⟨_, rfl⟩, q⟩
/-- len of a str, a bytes, a list, a tuple -/
def LenV (K : PySem.W.Frag) (x : V) (H : Hp) (n : Nat) : Prop :=
  match x with
  | .str y => y.length ≤ sizeLine ∧ n = y.length
  | .byt y => y.size ≤ sizeLine ∧ n = y.size
  | .ref p => (∃ xs, SqL K H p xs ∧ n = xs.length) ∨ ∃ xs, SqT K H p xs ∧ n = xs.length
  | _ => False
end
end L2

namespace L2
open PySem PySem.Spec PyProof.Rows

/-! ### an instance, its attributes a map -/
structure ObjM (h : Heap) (x dx C : Addr) (mA : Str → Option Value) : Prop where
  obj : h.get? x = some (PySem.W.instObj C dx)
  ns : h.Ns1 dx mA
  ne : dx ≠ x

theorem lookIn_ns {h : Heap} {dx : Addr} {mA : Str → Option Value} (n : h.Ns1 dx mA) : ∃ od, h.get? dx = some od ∧ ∀ name, PySem.W.lookIn name od = some (mA name) := by
  obtain ⟨o, es, ep, ho, hd, hk, _, hm⟩ := n
  refine ⟨o, ho, fun name => ?_⟩
  have e := hm name
  unfold nsFind findBy at e
  rw [← Array.find?_toList] at e
  unfold PySem.W.lookIn
  rw [hd]
  dsimp only
  split
  · rename_i y q
    rw [q] at e
    exact congrArg some e
  · rename_i q
    rw [q] at e
    have a : es.toList.any (·.refKey) = false := by
      rw [List.any_eq_false]
      intro y hy
      obtain ⟨z, t, hkey⟩ := hk y (Array.mem_toList_iff.mp hy)
      simp [DictEntry.refKey, hkey]
    have a' : ¬ es.toList.any (·.refKey) = true := by rw [a]; exact Bool.false_ne_true
    rw [if_neg a']
    exact congrArg some e

theorem ObjM.look {h : Heap} {x dx C : Addr} {mA : Str → Option Value} (I : ObjM h x dx C mA) : ∃ od, PySem.W.InstAt h x (PySem.W.instObj C dx) C (some od) ∧ ∀ name, PySem.W.lookIn name od = some (mA name) :=
  let ⟨od, ho, hl⟩ := lookIn_ns I.ns
  ⟨od, ⟨I.obj, rfl, rfl, ho⟩, hl⟩

section
variable {prog : Program} {w : World} {A : Around} {E : Value → Shared → Prop} {s : Shared} {K : PySem.W.Frag} {x dx C f : Addr} {mA : Str → Option Value} {name : Str} {v : Value}

theorem get_map {expr : Bool} {Q : Value → Shared → Prop} (X : K.In s.heap) (I : ObjM s.heap x dx C mA) (hg : PySem.W.plainGet K C name = true) (hh : PySem.W.hasDictIn K C = true)
    (ha : PySem.W.findIn K (.ref C) name = some none) (hv : mA name = some v) (hv' : PySem.W.handedIn v = true) (h : Q v { s with toks := s.toks + 1 }) :
    wpAny (model prog w) A (getAttr (.ref x) name expr) Q E s := by
  obtain ⟨od, J, hl⟩ := I.look
  exact PySem.W.get_value X J (PySem.W.plainGet_of hg).1 (PySem.W.findObj_own hh ha rfl (by rw [hl, hv])) hv' h

theorem get_meth {pl : Sem Bool} {Q : Value × List Value → Shared → Prop} (X : K.In s.heap) (I : ObjM s.heap x dx C mA) (hg : PySem.W.plainGet K C name = true)
    (hf : PySem.W.findIn K (.ref C) name = some (some (.ref f))) (ht : PySem.W.isFn K (.ref f) = true) (hv : mA name = none) (h : Q (.ref f, [.ref x]) s) :
    wpAny (model prog w) A (getMethod (.ref x) name pl) Q E s := by
  obtain ⟨od, J, hl⟩ := I.look
  exact PySem.W.method_fn X J (PySem.W.plainGet_of hg).1 (PySem.W.plainGet_of hg).2 hf (beq_iff_eq.mp ht) (by show (PySem.W.lookIn name od).map (·.isSome) = some false; rw [hl, hv]; rfl) h

theorem set_map {ns : List Str} {Q : Unit → Shared → Prop} (X : K.In s.heap) (I : ObjM s.heap x dx C mA)
    (hs : PySem.W.findIn K (.ref C) "__setattr__" = some (some (.builtin "object.__setattr__"))) (hp : PySem.W.plainOver K C = true) (ht : PySem.W.takerIn K C name = some none) (hh : PySem.W.hasDictIn K C = true)
    (hw : PySem.Within mA ns) (hsz : ns.length ≤ sizeLine)
    (h : ∀ h', ObjM h' x dx C (fun y => if y = name then some v else mA y) → Heap.SameBut dx s.heap h' → Q () { s with heap := h', toks := s.toks + 2 }) :
    wpAny (model prog w) A (setAttr (.ref x) name v) Q E s := by
  obtain ⟨od, J, hl⟩ := I.look
  refine PySem.W.set_plain X J hs (PySem.W.osa_open (s := { s with toks := s.toks + 1 }) (r := none) X J hp ht fun b => ?_)
  obtain ⟨cd, hc, hd'⟩ := PySem.W.any_some hh
  have hx : s.heap.get? x = some ⟨.ref C, some dx, .plain, #[]⟩ := I.obj
  refine wpAny_bind (wpAny_pure (wpAny_bind (wpAny_bind (wpAny_loadPart hx (wpAny_bind (PySem.W.Looks.here (s := { s with toks := s.toks + 1 }) (PySem.W.looks_clsIn X hc) ?_))))))
  rw [hd']
  refine wpAny_pure (a := some dx) (wpAny_bind (wpAny_pure (wpAny_bind ?_)))
  refine wpAny_nsSet1 (s := { s with toks := s.toks + 1 }) I.ns fun h' hn2 hs2 => ?_
  obtain ⟨oD, esD, epD, hoD, hdD, hcD⟩ := hn2.count (PySem.Within.cons name v hw)
  refine wpAny_bind (wpAny_lookBehind hoD (by rw [hdD]; exact pastItsLine_dict (Nat.le_trans hcD (by rw [List.length_cons]; omega))) ?_)
  exact wpAny_pure (h _ ⟨(hs2.2 _ (Ne.symm I.ne)).trans I.obj, hn2, I.ne⟩ hs2)

/-- C(..): the dict at the heap's end, the instance behind it; then its __init__ -/
theorem make_map {R : Result → Shared → Prop} {vs : List Value} {kw : List (Str × Value)} (X : K.In s.heap) (hm : PySem.W.makesIn K C = true)
    (hi : PySem.W.findIn K (.ref C) "__init__" = some (some (.ref f))) (hf : PySem.W.typeIn K (.ref f) = some (.type "function"))
    (h : codeAny (model prog w) (A.under (.builtin "type.__call__" ⟨.ref C :: vs, kw⟩)) (.call (.ref f) ⟨.ref (s.heap.objs.size + 1) :: vs, kw⟩) (PySem.W.InitBack (s.heap.objs.size + 1) R)
      { s with heap := (s.heap.push PySem.W.emptyDict).push (PySem.W.instObj C s.heap.objs.size) }) :
    codeAny (model prog w) A (.call (.ref C) ⟨vs, kw⟩) R s := by
  obtain ⟨hh, g, d, t, os⟩ := s
  exact PySem.W.make_core (PySem.W.makes_of X hm) (PySem.W.looks_findIn X hi) (fun self => PySem.W.bind_fn X self hf) (.inl rfl) h
/-- C() where there is no __init__ but object's -/
theorem make_map0 {R : Result → Shared → Prop} (X : K.In s.heap) (hm : PySem.W.makesIn K C = true)
    (hi : PySem.W.findIn K (.ref C) "__init__" = some (some (.builtin "object.__init__")))
    (hb : ∀ self, PySem.W.Looks (model prog w) s.heap (bindSpecial (.builtin "object.__init__") self) (.builtin "object.__init__", [self]))
    (h : codeAny (model prog w) (A.under (.builtin "type.__call__" ⟨[.ref C], []⟩)) (.call (.builtin "object.__init__") ⟨[.ref (s.heap.objs.size + 1)], []⟩) (PySem.W.InitBack (s.heap.objs.size + 1) R)
      { s with heap := (s.heap.push PySem.W.emptyDict).push (PySem.W.instObj C s.heap.objs.size) }) :
    codeAny (model prog w) A (.call (.ref C) ⟨[], []⟩) R s := by
  obtain ⟨hh, g, d, t, os⟩ := s
  exact PySem.W.make_core (PySem.W.makes_of X hm) (PySem.W.looks_findIn X hi) hb (.inr ⟨rfl, rfl⟩) h
end

/-! ### the attributes as a list of pairs -/
def putF (f : Str) (v : V) : List (Str × V) → List (Str × V)
  | [] => [(f, v)]
  | (g, x) :: r => if g = f then (g, v) :: r else (g, x) :: putF f v r
theorem lookup_putF (f g : Str) (v : V) : ∀ fs : List (Str × V), (putF f v fs).lookup g = if g = f then some v else fs.lookup g
  | [] => by
    show List.lookup g [(f, v)] = _
    by_cases h : g = f
    · have hb : (g == f) = true := beq_iff_eq.mpr h
      simp only [List.lookup, hb, if_pos h]
    · have hb : (g == f) = false := beq_eq_false_iff_ne.mpr h
      simp only [List.lookup, hb, if_neg h]
  | (k, x) :: r => by
    have ih := lookup_putF f g v r
    rw [show putF f v ((k, x) :: r) = (if k = f then (k, v) :: r else (k, x) :: putF f v r) from rfl]
    by_cases hk : k = f
    · rw [if_pos hk]
      by_cases h : g = k
      · have hb : (g == k) = true := beq_iff_eq.mpr h
        simp only [List.lookup, hb, if_pos (h.trans hk)]
      · have hb : (g == k) = false := beq_eq_false_iff_ne.mpr h
        simp only [List.lookup, hb, if_neg (fun e : g = f => h (e.trans hk.symm))]
    · rw [if_neg hk]
      by_cases h : g = k
      · have hb : (g == k) = true := beq_iff_eq.mpr h
        simp only [List.lookup, hb, if_neg (fun e : g = f => hk (h.symm.trans e))]
      · have hb : (g == k) = false := beq_eq_false_iff_ne.mpr h
        simp only [List.lookup, hb]
        exact ih
theorem keys_putF (f : Str) (v : V) : ∀ fs : List (Str × V), f ∈ (putF f v fs).map (·.1) ∧ ∀ g, g ∈ fs.map (·.1) → g ∈ (putF f v fs).map (·.1)
  | [] => ⟨by simp [putF], fun g h => by simp at h⟩
  | (k, x) :: r => by
    obtain ⟨i1, i2⟩ := keys_putF f v r
    rw [show putF f v ((k, x) :: r) = (if k = f then (k, v) :: r else (k, x) :: putF f v r) from rfl]
    by_cases hk : k = f
    · rw [if_pos hk]
      subst hk
      exact ⟨by simp, fun g h => by simpa using h⟩
    · rw [if_neg hk]
      refine ⟨?_, fun g h => ?_⟩
      · rw [List.map_cons]
        exact List.mem_cons_of_mem _ i1
      · rw [List.map_cons] at h ⊢
        rcases List.mem_cons.mp h with e | e
        · exact List.mem_cons.mpr (.inl e)
        · exact List.mem_cons_of_mem _ (i2 g e)
theorem length_putF (f : Str) (v : V) : ∀ fs : List (Str × V), (putF f v fs).length ≤ fs.length + 1
  | [] => by simp [putF]
  | (k, x) :: r => by
    have ih := length_putF f v r
    rw [show putF f v ((k, x) :: r) = (if k = f then (k, v) :: r else (k, x) :: putF f v r) from rfl]
    by_cases hk : k = f
    · rw [if_pos hk, List.length_cons, List.length_cons]; omega
    · rw [if_neg hk, List.length_cons, List.length_cons]; omega

theorem RelO.some_of {v : V} {o : Option Value} (r : RelO (some v) o) : ∃ u, o = some u ∧ RelV v u := by
  cases o with
  | none => exact (show False from r).elim
  | some u => exact ⟨u, rfl, r⟩
theorem RelO.none_of {o : Option Value} (r : RelO none o) : o = none := by
  cases o with
  | none => rfl
  | some u => exact (show False from r).elim
theorem handed_of {v : V} {u : Value} (r : RelV v u) : PySem.W.handedIn u = true := by
  cases v with
  | non => cases (show u = Value.none from r); rfl
  | bl b => cases (show u = Value.bool b from r); rfl
  | int i => obtain ⟨t, e⟩ := (show ∃ t, u = Value.int i t from r); cases e; rfl
  | str x => obtain ⟨t, e⟩ := (show ∃ t, u = Value.str x t from r); cases e; rfl
  | byt b => obtain ⟨t, e⟩ := (show ∃ t, u = Value.bytes b t from r); cases e; rfl
  | flt b => obtain ⟨t, e⟩ := (show ∃ t, u = Value.float b t from r); cases e; rfl
  | ref a => cases (show u = Value.ref a from r); rfl
  | ty n => cases (show u = Value.type n from r); rfl

section
variable {P : Program} {w : World} {H H' : Hp} {h h' : Heap} {a C dx : Addr} {fs fs' : List (Str × V)}
theorem ins_get (hok : HOk P w H h) (e : H a = some (.ins C dx fs)) : ∃ mA, ObjM h a dx C mA ∧ (∀ f, RelO (fs.lookup f) (mA f)) ∧ PySem.Within mA (fs.map (·.1)) ∧ fs.length ≤ 1000 ∧ H dx = some (.own a) := by
  obtain ⟨d, z, ne, ob, mA, n, r, q⟩ := (show ObjOk P w H h a (.ins C dx fs) from hok a _ e)
  exact ⟨mA, ⟨ob, n, ne⟩, r, q, z, d⟩
end

/-! ### what of the text a class must have -/
structure Cls (K : PySem.W.Frag) (C : Addr) : Prop where
  pg : PySem.W.plainGet K C Str.empty = true
  hd : PySem.W.hasDictIn K C = true
  po : PySem.W.plainOver K C = true
  sa : PySem.W.findIn K (.ref C) "__setattr__" = some (some (.builtin "object.__setattr__"))
theorem Cls.get {K : PySem.W.Frag} {C : Addr} (c : Cls K C) (f : Str) : PySem.W.plainGet K C f = true := c.pg
/-- no class of it has the name -/
def NoAttr (K : PySem.W.Frag) (C : Addr) (f : Str) : Prop := PySem.W.findIn K (.ref C) f = some none
theorem NoAttr.taker {K : PySem.W.Frag} {C : Addr} {f : Str} (n : NoAttr K C f) : PySem.W.takerIn K C f = some none := by
  unfold PySem.W.takerIn
  rw [show PySem.W.findIn K (.ref C) f = some none from n]
  rfl
/-- a constant of the class -/
structure Con (K : PySem.W.Frag) (C : Addr) (f : Str) (v : V) (u : Value) : Prop where
  at_ : PySem.W.findIn K (.ref C) f = some (some u)
  rel : RelV v u
  get : PySem.W.specialIn K u "__get__" = some none
  cp : PySem.W.copiedNames.contains f = false
/-- a method: a plain def of the class or of one above it -/
structure Meth (K : PySem.W.Frag) (C : Addr) (m : Str) (f : Addr) : Prop where
  at_ : PySem.W.findIn K (.ref C) m = some (some (.ref f))
  fn : PySem.W.isFn K (.ref f) = true
  kp : PySem.W.keepIn K (.ref f) = true

section
variable {X : Cx} {pins : List (Addr × Obj)} {σ : St} {H : Hp} {s : Shared} {a C dx : Addr} {fs : List (Str × V)} {f : Str} {v : V} {A : Around} {E : Value → Shared → Prop}

theorem getattr_ok {b : Bool} {Q : Value → Shared → Prop} (I : Inv X pins σ H s) (e : H a = some (.ins C dx fs)) (c : Cls X.K C) (n : NoAttr X.K C f) (l : fs.lookup f = some v)
    (h : ∀ u s', Inv X pins σ H s' → RelV v u → Q u s') : wpAny (model X.prog X.w) A (getAttr (.ref a) f b) Q E s := by
  obtain ⟨mA, O, r, _, _, _⟩ := ins_get I.hok e
  obtain ⟨u, hu, ru⟩ := RelO.some_of (v := v) (o := mA f) (by rw [← l]; exact r f)
  exact get_map I.kIn O (c.get f) c.hd n hu (handed_of ru) (h u _ (I.tok _) ru)

theorem getmeth_ok {m : Str} {g : Addr} {pl : Sem Bool} {Q : Value × List Value → Shared → Prop} (I : Inv X pins σ H s) (e : H a = some (.ins C dx fs)) (c : Cls X.K C) (k : Meth X.K C m g) (l : fs.lookup m = none)
    (h : Q (.ref g, [.ref a]) s) : wpAny (model X.prog X.w) A (getMethod (.ref a) m pl) Q E s := by
  obtain ⟨mA, O, r, _, _, _⟩ := ins_get I.hok e
  have hn : mA m = none := RelO.none_of (by rw [← l]; exact r m)
  exact get_meth I.kIn O (c.get m) k.at_ k.fn hn h

theorem setattr_ok {y : V} {u : Value} {Q : Unit → Shared → Prop} (I : Inv X pins σ H s) (e : H a = some (.ins C dx fs)) (c : Cls X.K C) (n : NoAttr X.K C f) (hl : fs.length < 1000) (ry : RelV y u)
    (h : ∀ s', Inv X pins σ (upd H a (.ins C dx (putF f y fs))) s' → Q () s') : wpAny (model X.prog X.w) A (setAttr (.ref a) f u) Q E s := by
  obtain ⟨mA, O, r, wi, _, ho⟩ := ins_get I.hok e
  have hz : (fs.map (·.1)).length ≤ sizeLine := by rw [List.length_map, sizeLine_eq]; omega
  refine set_map I.kIn O c.sa c.po n.taker c.hd wi hz fun h' O' sb => h _ ?_
  have hd : ∃ o, h'.get? dx = some o := let ⟨o, _, _, e', _⟩ := O'.ns; ⟨o, e'⟩
  refine I.write (x := a) (e := dx) (by rw [e]; exact True.intro) (.inr ho) (fun b q hb z => (sb.2 b hb).trans z) hd ?_
  refine ⟨by rw [upd_ne O.ne]; exact ho, ?_, O.ne, O'.obj, _, O'.ns, fun g => ?_, fun g hg => ?_⟩
  · have := length_putF f y fs; omega
  · show RelO ((putF f y fs).lookup g) (if g = f then some u else mA g)
    rw [lookup_putF]
    by_cases q : g = f
    · rw [if_pos q, if_pos q]; exact ry
    · rw [if_neg q, if_neg q]; exact r g
  · by_cases q : g = f
    · rw [q]; exact (keys_putF f y fs).1
    · refine (keys_putF f y fs).2 g (wi g fun z => hg ?_)
      show (if g = f then some u else mA g) = none
      rw [if_neg q]; exact z

/-- a new instance, tracked, without attributes -/
theorem Inv.made (I : Inv X pins σ H s) : Inv X pins σ (upd (upd H s.heap.objs.size (.own (s.heap.objs.size + 1))) (s.heap.objs.size + 1) (.ins C s.heap.objs.size []))
    { s with heap := (s.heap.push PySem.W.emptyDict).push (PySem.W.instObj C s.heap.objs.size) } := by
  have e1 : (s.heap.push PySem.W.emptyDict).get? s.heap.objs.size = some PySem.W.emptyDict := Heap.get?_push_size s.heap rfl
  have e2 : ((s.heap.push PySem.W.emptyDict).push (PySem.W.instObj C s.heap.objs.size)).get? (s.heap.objs.size + 1) = some (PySem.W.instObj C s.heap.objs.size) := by
    have := Heap.get?_push_size (s.heap.push PySem.W.emptyDict) (o := PySem.W.instObj C s.heap.objs.size) rfl
    rwa [Heap.size_push] at this
  have e3 : (s.heap.push PySem.W.emptyDict).Ns s.heap.objs.size (fun _ => none) := ⟨PySem.W.emptyDict, #[], _, e1, rfl, (fun e he => absurd he (by simp)), fun _ => rfl⟩
  have I1 := I.laid (a := s.heap.objs.size) (o := .own (s.heap.objs.size + 1)) (h' := s.heap.push PySem.W.emptyDict) (t' := s.toks) (fun b u q => Heap.get?_push_of_some _ q) (Nat.le_refl _) ⟨_, e1⟩
  refine I1.laid (a := s.heap.objs.size + 1) (o := .ins C s.heap.objs.size []) (t' := s.toks) (fun b u q => Heap.get?_push_of_some _ q) (Nat.le_of_eq (Heap.size_push _ _)) ?_
  have ne : s.heap.objs.size ≠ s.heap.objs.size + 1 := Nat.ne_of_lt (Nat.lt_succ_self _)
  refine ⟨by rw [upd_ne ne, upd_same], Nat.zero_le _, ne, e2, fun _ => none, (Heap.Ns1.of_empty e3).at fun o q => Heap.get?_push_of_some _ q, fun _ => True.intro, fun y hy => absurd rfl hy⟩

/-- e.f where nothing but the object is asked: through attributeBase (super) and the last hold -/
theorem attr_of {prog : Program} {w : World} {env : Env} {e : Expr} {f : Str} {pos : Pos} {s : Shared} {Q : Value → Shared → Prop} (hb : attributeBase e f env (eval e env) = eval e env)
    (h : wpAny (model prog w) A (eval e env) (fun o s₁ => wpAny (model prog w) A (getAttr o f true) Q E s₁) E s) : wpAny (model prog w) A (eval (.Attribute e f pos) env) Q E s :=
  Attribute_any_ h (by rw [arm_eval_Attribute, hb])
end

/-! ### readings and rules -/
/-- e.f, an attribute of the instance -/
def tFld (K : PySem.W.Frag) (ta : TE) (f : Str) : TE := fun σ H Q => ta σ H fun x H1 => ∃ a C dx fs v, x = .ref a ∧ H1 a = some (.ins C dx fs) ∧ Cls K C ∧ NoAttr K C f ∧ fs.lookup f = some v ∧ Q v H1
/-- e.f, a constant of the class -/
def tCon (K : PySem.W.Frag) (ta : TE) (f : Str) : TE := fun σ H Q => ta σ H fun x H1 => ∃ a C dx fs v u, x = .ref a ∧ H1 a = some (.ins C dx fs) ∧ Cls K C ∧ Con K C f v u ∧ fs.lookup f = none ∧ Q v H1
/-- e.f = value -/
def sFld (K : PySem.W.Frag) (ta tv : TE) (f : Str) : TS := fun D σ H => tv σ H fun y H1 => ta σ H1 fun x H2 => ∃ a C dx fs, x = .ref a ∧ H2 a = some (.ins C dx fs) ∧ Cls K C ∧ NoAttr K C f ∧ fs.length < 1000 ∧
  D.nx σ (upd H2 a (.ins C dx (putF f y fs)))
/-- an augmented operator on two values -/
def InOp (X : Cx) (op : Operator) (rd : V → V → Hp → VK → Prop) : Prop :=
  ∀ (pins : List (Addr × Obj)) (s : Shared) (σ : St) (H : Hp) (x y : V) (u v : Value) (Q : VK), Inv X pins σ H s → RelV x u → RelV y v → rd x y H Q → wpAny (model X.prog X.w) X.A (inplaceOp op u v) (EP X pins σ Q) X.xe s
/-- e.f op= value -/
def sFldAug (K : PySem.W.Frag) (ta tv : TE) (rd : V → V → Hp → VK → Prop) (f : Str) : TS := fun D σ H => ta σ H fun x H1 => ∃ a C dx fs v, x = .ref a ∧ H1 a = some (.ins C dx fs) ∧ Cls K C ∧ NoAttr K C f ∧ fs.lookup f = some v ∧
  tv σ H1 fun y H2 => rd v y H2 fun z H3 => ∃ dx' fs', H3 a = some (.ins C dx' fs') ∧ fs'.length < 1000 ∧ D.nx σ (upd H3 a (.ins C dx' (putF f z fs')))

section
variable {X : Cx} {o e value : Expr} {f : Str} {pos pos' tpos : Pos} {ta tv : TE}
theorem pe_fld (he : PE X e ta) (hb : attributeBase e f X.env (eval e X.env) = eval e X.env) : PE X (.Attribute e f pos) (tFld X.K ta f) := by
  intro pins s σ H Q I h
  refine attr_of hb (thn (he pins s σ H _ I h) fun u s1 ⟨x, H1, I1, rx, a, C, dx, fs, v, ex, ea, c, n, l, q⟩ => ?_)
  subst ex
  obtain rfl : u = Value.ref a := rx
  exact getattr_ok I1 ea c n l fun u' s2 I2 ru => ⟨v, H1, I2, ru, q⟩
theorem ps_fld (ha : PE X o ta) (hv : PE X value tv) (hs : swapsWith value (some (.Attribute o f pos')) pos.line X.env = pure false) : PS X (.Assign [.Attribute o f pos'] value pos) (sFld X.K ta tv f) := by
  intro pins s σ H D I h
  refine plainObj_wpAny_Assign_Attribute (thn (hv pins s σ H _ I h) fun u s1 ⟨y, H1, I1, ry, q⟩ => thn (ha pins s1 σ H1 _ I1 q) fun ov s2 ⟨x, H2, I2, rx, a, C, dx, fs, ex, ea, c, n, l, q2⟩ => ?_) hs
  subst ex
  obtain rfl : ov = Value.ref a := rx
  exact setattr_ok I2 ea c n l ry fun s3 I3 => ⟨σ, _, I3, q2⟩
def rAdd : V → V → Hp → VK → Prop := fun x y H Q => ∃ i j, x = .int i ∧ y = .int j ∧ Q (.int (i + j)) H
def rSub : V → V → Hp → VK → Prop := fun x y H Q => ∃ i j, x = .int i ∧ y = .int j ∧ Q (.int (i - j)) H
end

/-! ### isinstance -/
section
variable {X : Cx} {pins : List (Addr × Obj)} {σ : St} {H : Hp} {s : Shared} {A : Around} {E : Value → Shared → Prop} {Q : Value → Shared → Prop} {c : Value} {b : Bool}
/-- the type of a value, as the fragment's deciders take it; for an instance its class -/
inductive TyOf (K : PySem.W.Frag) (H : Hp) : V → Value → Prop where
  | non : TyOf K H .non (.type "NoneType")
  | bl (x : Bool) : TyOf K H (.bl x) (.type "bool")
  | int (i : Int) : TyOf K H (.int i) (.type "int")
  | str (x : Str) : TyOf K H (.str x) (.type "str")
  | flt (x : UInt64) : TyOf K H (.flt x) (.type "float")
  | lst {a : Addr} {xs : List V} (e : H a = some (.lst xs)) : TyOf K H (.ref a) (.type "list")
  | frz {a : Addr} {o : Obj} {xs : List V} (e : H a = some (.frz o (.lst xs))) : TyOf K H (.ref a) (.type "list")
  | tup {a : Addr} {xs : List V} (e : H a = some (.tup xs)) : TyOf K H (.ref a) (.type "tuple")
  | dK {a : Addr} {kvs : List (Key × V)} (e : H a = some (.dK kvs)) : TyOf K H (.ref a) (.type "dict")
  | dT {a : Addr} {kvs : List (List Key × V)} (e : H a = some (.dT kvs)) : TyOf K H (.ref a) (.type "dict")
  | ins {a C dx : Addr} {fs : List (Str × V)} (e : H a = some (.ins C dx fs)) (cl : Cls K C) (ha : PySem.W.findIn K (.ref C) "__class__" = some (some (.builtin "object.__class__")))
      (hn : PySem.W.specialIn K (.builtin "object.__class__") "__get__" = some (some (.builtin "getset_descriptor.__get__"))) (htk : PySem.W.takesIn K (.builtin "object.__class__") = some true)
      (hm : PySem.W.mroIn K C (.type "object") = some true) : TyOf K H (.ref a) (.ref C)
/-- isinstance(x, c) for one class c, a built-in or an own one: kitOne's answer -/
theorem isinst_ok {x : V} {u t : Value} (I : Inv X pins σ H s) (rx : RelV x u) (ty : TyOf X.K H x t) (e : PySem.W.kitOne X.K t c = some b) (h : ∀ tk, Q (.bool b) { s with toks := tk }) :
    wpAny (model X.prog X.w) A (call (.builtin "isinstance") [u, c]) Q E s := by
  cases ty with
  | non => cases (show u = Value.none from rx); exact PySem.W.kia_one PySem.W.kitx_none I.kIn True.intro e (fun z => nomatch z) h
  | bl y => cases (show u = Value.bool y from rx); exact PySem.W.kia_one PySem.W.kitx_bool I.kIn True.intro e (fun z => nomatch z) h
  | int i => obtain ⟨t, q⟩ := (show ∃ t, u = Value.int i t from rx); cases q; exact PySem.W.kia_one PySem.W.kitx_int I.kIn True.intro e (fun z => nomatch z) h
  | str y => obtain ⟨t, q⟩ := (show ∃ t, u = Value.str y t from rx); cases q; exact PySem.W.kia_one PySem.W.kitx_str I.kIn True.intro e (fun z => nomatch z) h
  | flt y => obtain ⟨t, q⟩ := (show ∃ t, u = Value.float y t from rx); cases q; exact PySem.W.kia_one PySem.W.kitx_float I.kIn True.intro e (fun z => nomatch z) h
  | @lst a xs ea =>
    cases (show u = Value.ref a from rx)
    obtain ⟨_, _, n, _, h1⟩ := (show ObjOk X.prog X.w H s.heap a (.lst xs) from I.hok a _ ea)
    exact PySem.W.kia_one PySem.W.kitx_list I.kIn ⟨_, h1, rfl⟩ e (fun z => nomatch z) h
  | @frz a ob xs ea =>
    cases (show u = Value.ref a from rx)
    obtain ⟨_, _, _, n, _, h1⟩ := (show ObjOk X.prog X.w H s.heap a (.frz ob (.lst xs)) from I.hok a _ ea)
    exact PySem.W.kia_one PySem.W.kitx_list I.kIn ⟨_, h1, rfl⟩ e (fun z => nomatch z) h
  | @tup a xs ea =>
    cases (show u = Value.ref a from rx)
    obtain ⟨_, _, _, p⟩ := (show ObjOk X.prog X.w H s.heap a (.tup xs) from I.hok a _ ea)
    obtain ⟨o, h1, h2, _⟩ := p
    exact PySem.W.kia_one PySem.W.kitx_tuple I.kIn ⟨o, h1, h2⟩ e (fun z => nomatch z) h
  | @dK a kvs ea =>
    cases (show u = Value.ref a from rx)
    obtain ⟨_, _, vs, _, p⟩ := (show ObjOk X.prog X.w H s.heap a (.dK kvs) from I.hok a _ ea)
    obtain ⟨o, es, ep, h1, h2, _⟩ := p
    exact PySem.W.kia_one PySem.W.kitx_dict I.kIn ⟨o, h1, h2.1⟩ e (fun z => nomatch z) h
  | @dT a kvs ea =>
    cases (show u = Value.ref a from rx)
    obtain ⟨_, _, xs, _, o, es, ep, h1, h2, _⟩ := (show ObjOk X.prog X.w H s.heap a (.dT kvs) from I.hok a _ ea)
    exact PySem.W.kia_one PySem.W.kitx_dict I.kIn ⟨o, h1, h2.1⟩ e (fun z => nomatch z) h
  | @ins a C dx fs ea cl ha hn htk hm =>
    cases (show u = Value.ref a from rx)
    obtain ⟨mA, O, _⟩ := ins_get I.hok ea
    obtain ⟨od, J, _⟩ := O.look
    exact PySem.W.kia_one (PySem.W.kitx_own (cl.get _) cl.hd ha hn htk hm) I.kIn J e (fun z => nomatch z) h
end
end L2

namespace L2
open PySem PySem.Spec PyProof.Rows

/-! ### room -/
structure Room (k : Nat) (A : Around) : Prop where
  hd : A.handled = none
  dp : A.depth + 3 * k + 5 < recursionLimit
  un : A.units + 16 * k + 200 < cLine
theorem Room.mono {j k : Nat} {A : Around} (r : Room k A) (h : j ≤ k) : Room j A := ⟨r.hd, by have := r.dp; omega, by have := r.un; omega⟩
theorem Room.deeper {k : Nat} {A : Around} (r : Room (k + 1) A) (env : Env) : Room k (A.deeper env) :=
  ⟨r.hd, by have := r.dp; show A.depth + 1 + 3 * k + 5 < _; omega, by have := r.un; show A.units + 3 + 16 * k + 200 < _; omega⟩
theorem Room.in1 {k : Nat} {A : Around} (r : Room (k + 1) A) : Room k A.in1 :=
  ⟨r.hd, by have := r.dp; show A.depth + 3 * k + 5 < _; omega, by have := r.un; show A.units + 1 + 16 * k + 200 < _; omega⟩
theorem make_depth {A : Around} {C : Addr} {us : List Value} {kw : List (Str × Value)} : (A.under (.builtin "type.__call__" ⟨.ref C :: us, kw⟩)).depth = A.depth + 1 := by
  first | rfl | simp [Around.under, Code.weight, Code.isCreation, Code.isGuard, Code.isCaller, Code.frames, Code.isFrame, guardIds]
theorem make_units {A : Around} {C : Addr} {us : List Value} {kw : List (Str × Value)} : (A.under (.builtin "type.__call__" ⟨.ref C :: us, kw⟩)).units = A.units + 1 := by
  first | rfl | simp [Around.under, Code.cUnits, Code.frames, Code.isFrame]
theorem Room.make {k : Nat} {A : Around} (r : Room (k + 1) A) (C : Addr) (us : List Value) (kw : List (Str × Value)) : Room k (A.under (.builtin "type.__call__" ⟨.ref C :: us, kw⟩)) :=
  ⟨r.hd, by have := r.dp; rw [make_depth]; omega, by have := r.un; rw [make_units]; omega⟩
theorem Room.depth {k : Nat} {A : Around} (r : Room k A) : A.depth < recursionLimit := by have := r.dp; omega
theorem Room.units {k : Nat} {A : Around} (r : Room k A) : A.units + 64 < cLine := by have := r.un; omega
theorem Room.units0 {k : Nat} {A : Around} (r : Room k A) : A.units < cLine := by have := r.un; omega

/-! ### argument lists and displays -/
def tNil : TA := fun _ H Q => Q [] H
def tCons (ta : TE) (tr : TA) : TA := fun σ H Q => ta σ H fun x H1 => tr σ H1 fun xs H2 => Q (x :: xs) H2
section
variable {X : Cx} {e : Expr} {es : List Expr} {te : TE} {t : TA} {pos : Pos}
theorem pa_nil : PA X [] tNil := fun _ _ _ _ H Q I h => Calls.spliced_nil ⟨[], H, I, .nil, h⟩
theorem pa_cons (ha : PE X e te) (hr : PA X es t) (hs : starEach (e :: es) X.env = (false, eval e X.env) :: starEach es X.env := by rfl) : PA X (e :: es) (tCons te t) := by
  intro pos pins s σ H Q I h
  rw [hs]
  show wpAny _ _ (spliced ((false, eval e X.env) :: backTo pos (starEach es X.env))) _ _ s
  refine Calls.spliced_cons (thn (ha pins s σ H _ I h) fun u s1 ⟨x, H1, I1, r1, q1⟩ => ?_)
  exact thn (hr pos pins s1 σ H1 _ I1 q1) fun us s2 ⟨xs, H2, I2, r2, q2⟩ => ⟨x :: xs, H2, I2, .cons r1 r2, q2⟩

/-- a tuple, a list of written items -/
def tTup (t : TA) : TE := fun σ H Q => t σ H fun xs H1 => xs.length ≤ sizeLine ∧ ∀ p, H1 p = none → Q (.ref p) (upd H1 p (.tup xs))
def tLst (t : TA) : TE := fun σ H Q => t σ H fun xs H1 => xs.length ≤ sizeLine ∧ ∀ p, H1 p = none → Q (.ref p) (upd H1 p (.lst xs))
theorem pe_tup {x1} (h : PA X es t) : PE X (.Tuple es x1 pos) (tTup t) := by
  intro pins s σ H Q I hq
  refine wpAny_Tuple_spliced (thn (h pos pins s σ H _ I hq) fun us s1 ⟨xs, H1, I1, r, z, q⟩ => ⟨by rw [← r.length]; exact z, ?_⟩)
  have hf : H1 s1.heap.objs.size = none := I1.hok.fresh (Nat.le_refl _)
  refine ⟨.ref s1.heap.objs.size, upd H1 s1.heap.objs.size (.tup xs), I1.laid (t' := s1.toks) (fun b u e => Heap.get?_push_of_some _ e) (Nat.le_refl _) ?_, rfl, q _ hf⟩
  exact ⟨z, us, r, ⟨_, Heap.get?_push_size _ rfl, rfl, _, rfl⟩⟩
theorem pe_lst (h : PA X es t) : PE X (.List es pos) (tLst t) := by
  intro pins s σ H Q I hq
  refine wpAny_List_spliced (thn (h pos pins s σ H _ I hq) fun us s1 ⟨xs, H1, I1, r, z, q⟩ => ⟨by rw [← r.length]; exact z, ?_⟩)
  have hf : H1 s1.heap.objs.size = none := I1.hok.fresh (Nat.le_refl _)
  refine ⟨.ref s1.heap.objs.size, upd H1 s1.heap.objs.size (.lst xs), I1.laid (t' := s1.toks) (fun b u e => Heap.get?_push_of_some _ e) (Nat.le_refl _) ?_, rfl, q _ hf⟩
  exact ⟨z, us, 0, r, Heap.get?_push_size _ rfl⟩
end

/-! ### what a def promises -/
/-- a def's promise: the bound arguments in the parameters' order, the heap, the wanted end, the wanted exception -/
abbrev Sp := List V → Hp → VK → XK → Prop
/-- how an exception lies behind a call (file 08 gives it): the callers' frames, abstract heap and state ahead of the call, the wish, the exception, the state -/
abbrev CXT := List Env → Hp → Shared → XK → Value → Shared → Prop

/-- the state at a call -/
structure Env0 (P : Program) (w : World) (K : PySem.W.Frag) (mg : Str → Option Value) (base : Heap) (A : Around) (outer : List Env) (s : Shared) (H : Hp) : Prop where
  frames : A.frames = some outer
  mod : Mod K mg base
  bs : ∀ b o, base.get? b = some o → s.heap.get? b = some o ∧ H b = none
  bsz : base.objs.size ≤ s.heap.objs.size
  funs : s.heap.FunFrames base outer
  frf : ∀ b ∈ frs outer, H b = none
  hok : HOk P w H s.heap
  bare : AllBare s.gens
/-- a call's end -/
def CE (outer : List Env) (P : Program) (w : World) (H : Hp) (s : Shared) (Q : VK) (u : Value) (s' : Shared) : Prop :=
  ∃ v H', s'.os = s.os ∧ AllBare s'.gens ∧ Un (frs outer) [] H H' s.heap s'.heap ∧ HOk P w H' s'.heap ∧ RelV v u ∧ Q v H'
def CR (CX : CXT) (outer : List Env) (P : Program) (w : World) (H : Hp) (s : Shared) (Q : VK) (E : XK) (r : Result) (s' : Shared) : Prop :=
  match r with
  | .ok (.ret u) => CE outer P w H s Q u s'
  | .ok _ => False
  | .error e => CX outer H s E e s'
structure FnOk (P : Program) (w : World) (K : PySem.W.Frag) (mg : Str → Option Value) (base : Heap) (CX : CXT) (k : Nat) (f : Addr) (fd : FuncData) (ps : List Str) (sp : Sp) : Prop where
  len : ∀ vs H Q E, sp vs H Q E → vs.length = ps.length
  run : ∀ (A : Around) (outer : List Env) (s : Shared) (H : Hp) (args : Args) (us : List Value) (vs : List V) (Q : VK) (E : XK), Room k A → Env0 P w K mg base A outer s H → BindsTo s fd args (ps.zip us) → Vals vs us → sp vs H Q E →
    codeAny (model P w) A (.call (.ref f) args) (CR CX outer P w H s Q E) s
theorem FnOk.mono {P : Program} {w : World} {K : PySem.W.Frag} {mg : Str → Option Value} {base : Heap} {CX : CXT} {j k : Nat} {f : Addr} {fd : FuncData} {ps : List Str} {sp : Sp} (F : FnOk P w K mg base CX j f fd ps sp) (h : j ≤ k) :
    FnOk P w K mg base CX k f fd ps sp := ⟨F.len, fun A outer s H args us vs Q E hr => F.run A outer s H args us vs Q E (hr.mono h)⟩
theorem Env0.make {P : Program} {w : World} {K : PySem.W.Frag} {mg : Str → Option Value} {base : Heap} {A : Around} {outer : List Env} {s : Shared} {H : Hp} (e : Env0 P w K mg base A outer s H) (C : Addr) (us : List Value) (kw : List (Str × Value)) :
    Env0 P w K mg base (A.under (.builtin "type.__call__" ⟨.ref C :: us, kw⟩)) outer s H := ⟨by first | exact e.frames | (simpa [Around.under, Code.envs, Code.isFrame, pushEnvs] using e.frames), e.mod, e.bs, e.bsz, e.funs, e.frf, e.hok, e.bare⟩
theorem Env0.in1 {P : Program} {w : World} {K : PySem.W.Frag} {mg : Str → Option Value} {base : Heap} {A : Around} {outer : List Env} {s : Shared} {H : Hp} (e : Env0 P w K mg base A outer s H) :
    Env0 P w K mg base A.in1 outer s H := ⟨e.frames, e.mod, e.bs, e.bsz, e.funs, e.frf, e.hok, e.bare⟩

section
variable {X : Cx} {pins : List (Addr × Obj)} {σ : St} {H : Hp} {s s' : Shared}
/-- from a body: what a callee wants -/
theorem Inv.env0 (I : Inv X pins σ H s) : Env0 X.prog X.w X.K X.mg X.base X.A X.stack s H :=
  ⟨I.ok.frames, I.ok.mod, I.bs, Nat.le_trans I.ok.bsz I.sz, I.stack, I.stkFree, I.hok, I.bare⟩
/-- behind a call -/
theorem Inv.after {Q : VK} {u : Value} (I : Inv X pins σ H s) (h : CE X.stack X.prog X.w H s Q u s') : EP X pins σ Q u s' := by
  obtain ⟨v, H', os, bare, un, hok, r, q⟩ := h
  obtain ⟨hh, g, d, t, os'⟩ := s'
  obtain rfl : os' = s.os := os
  exact ⟨v, H', I.call (h' := hh) (g' := g) (d' := d) (t' := t) (ch := []) un hok bare (fun b z => absurd z (by simp)), r, q⟩
end

/-! ### calls -/
/-- f(..): the written arguments, then the defaults dvs; E: what is wanted of an exception -/
def tCall (sp : Sp) (dvs : List V) (E : XK) (t : TA) : TE := fun σ H Q => t σ H fun vs H1 => sp (vs ++ dvs) H1 Q E
/-- o.m(..) of an instance of the class at C -/
def tMeth (C : Addr) (m : Str) (sp : Sp) (dvs : List V) (E : XK) (ta : TE) (t : TA) : TE := fun σ H Q => ta σ H fun x H1 => ∃ a dx fs, x = .ref a ∧ H1 a = some (.ins C dx fs) ∧ fs.lookup m = none ∧
  t σ H1 fun vs H2 => sp (x :: (vs ++ dvs)) H2 Q E
/-- C(..): a new instance and its dict, then __init__ -/
def tMake (C : Addr) (sp : Sp) (dvs : List V) (E : XK) (t : TA) : TE := fun σ H Q => t σ H fun vs H1 => ∀ x dx, H1 x = none → H1 dx = none → dx ≠ x →
  sp (.ref x :: (vs ++ dvs)) (upd (upd H1 dx (.own x)) x (.ins C dx [])) (fun v H2 => v = .non ∧ Q (.ref x) H2) E

/-- how the parameters are bound: us the positional arguments, kw the keywords' values by name, ds the defaults that fill up -/
def Binds (K : PySem.W.Frag) (fd : FuncData) (ps : List Str) (ds : List Value) : Prop :=
  ∀ (s : Shared) (us : List Value), K.In s.heap → (us ++ ds).length = ps.length → BindsTo s fd ⟨us, []⟩ (ps.zip (us ++ ds))
/-- every parameter is given -/
theorem Binds.all {K : PySem.W.Frag} {fd : FuncData} {ps : List Str} (h : ∀ us : List Value, us.length = ps.length → bindArgs fd ⟨us, []⟩ = pure (ps.zip us)) : Binds K fd ps [] := fun s us _ hl => by
  rw [List.append_nil] at hl ⊢
  exact .of_eq (h us hl)

/-- an exception of a callee reaches what this body wants of exceptions -/
def Passes (CX : CXT) (X : Cx) (E : XK) : Prop := ∀ (pins : List (Addr × Obj)) (σ : St) (H : Hp) (s : Shared) (e : Value) (s' : Shared), Inv X pins σ H s → CX X.stack H s E e s' → X.xe e s'

section
variable {X : Cx} {CX : CXT} {k : Nat} {f C : Addr} {fd : FuncData} {ps : List Str} {sp : Sp} {dvs : List V} {ds : List Value} {E : XK} {x m : Str} {p pos apos : Pos} {e o : Expr} {es : List Expr} {ta : TE} {t : TA}

/-- the callee runs -/
theorem run_fn {pins : List (Addr × Obj)} {σ : St} {H : Hp} {s : Shared} {Q : VK} {us : List Value} {vs : List V} (F : FnOk X.prog X.w X.K X.mg X.base CX k f fd ps sp) (hr : Room k X.A) (hb : Binds X.K fd ps ds) (hd : Vals dvs ds) (hx : Passes CX X E)
    (I : Inv X pins σ H s) (r : Vals vs us) (h : sp (vs ++ dvs) H Q E) : wpAny (model X.prog X.w) X.A (call (.ref f) us) (EP X pins σ Q) X.xe s := by
  have r2 : Vals (vs ++ dvs) (us ++ ds) := r.append hd
  have hl : (us ++ ds).length = ps.length := by rw [← r2.length]; exact F.len _ _ _ _ h
  refine wpAny_call (codeAny_mono (F.run X.A X.stack s H ⟨us, []⟩ (us ++ ds) (vs ++ dvs) Q E hr I.env0 (hb s us I.kIn hl) r2 h) fun r s' hq => ?_)
  cases r with
  | error e => exact hx pins σ H s e s' I hq
  | ok fl =>
    cases fl with
    | ret u => exact I.after hq
    | next => exact False.elim hq
    | brk => exact False.elim hq
    | cont => exact False.elim hq

theorem pe_call (F : FnOk X.prog X.w X.K X.mg X.base CX k f fd ps sp) (hr : Room k X.A) (hg : Gl X x) (hm : X.mg x = some (.ref f)) (hk : PySem.W.keepIn X.K (.ref f) = true) (hb : Binds X.K fd ps ds) (hd : Vals dvs ds) (hx : Passes CX X E)
    (ha : PA X (e :: es) t) (hdb : (x == ("__debug__" : Str)) = false := by decide) (he : starEach (e :: es) X.env = (false, eval e X.env) :: starEach es X.env := by rfl) (hpl : (backTo pos (starEach es X.env)).any (·.1) = false := by rfl) :
    PE X (.Call (.Name x p) (e :: es) [] pos) (tCall sp dvs E t) := by
  intro pins s σ H Q I h
  refine wpAny_Call_Name_kw (ld_glob I hg hm ?_ hdb)
  refine PySem.W.callWith_K (h₀ := X.base) I.ok.mod.kin hk (thn (ha pos pins s σ H _ I h) fun us s1 ⟨vs, H1, I1, r, q⟩ => ⟨I1.kIn, ?_⟩) he hpl
  exact run_fn F hr hb hd hx I1 r q
/-- what a class must have to be made -/
structure Mk (K : PySem.W.Frag) (C f : Addr) : Prop where
  makes : PySem.W.makesIn K C = true
  init : PySem.W.findIn K (.ref C) "__init__" = some (some (.ref f))
  fn : PySem.W.isFn K (.ref f) = true
  kp : PySem.W.keepIn K (.ref C) = true

end

/-! ### keywords -/
/-- the values of the keywords, from the left -/
def PK (X : Cx) (kws : List Keyword) (t : TA) : Prop :=
  ∀ (pos : Pos) (pins : List (Addr × Obj)) (s : Shared) (σ : St) (H : Hp) (Q : List V → Hp → Prop), Inv X pins σ H s → t σ H Q → wpAny (model X.prog X.w) X.A (evalAll ((backToKw pos (keywordEach kws X.env)).map (·.2))) (AP X pins σ Q) X.xe s
section
variable {X : Cx} {CX : CXT} {k : Nat} {f C : Addr} {fd : FuncData} {ps ks : List Str} {sp : Sp} {E : XK} {x m : Str} {p pos apos kpos : Pos} {e o : Expr} {es : List Expr} {kws : List Keyword} {te ta : TE} {t tk : TA} {nm : Option Str}
/-- how a call with keywords binds: g puts the positional values us and the keywords' values ws (names ks) in the parameters' order, defaults among them -/
structure KBinds (K : PySem.W.Frag) (fd : FuncData) (ps ks : List Str) (g : List Value → List Value → List Value) (gV : List V → List V → List V) : Prop where
  to : ∀ (s : Shared) (us ws : List Value), K.In s.heap → (g us ws).length = ps.length → BindsTo s fd ⟨us, ks.zip ws⟩ (ps.zip (g us ws))
  rel : ∀ {vs : List V} {us : List Value} {zs : List V} {ws : List Value}, Vals vs us → Vals zs ws → Vals (gV vs zs) (g us ws)
def tCallK (sp : Sp) (gV : List V → List V → List V) (E : XK) (t tk : TA) : TE := fun σ H Q => t σ H fun vs H1 => tk σ H1 fun zs H2 => sp (gV vs zs) H2 Q E
variable {g : List Value → List Value → List Value} {gV : List V → List V → List V}
end

/-! ### a def's body keeps its promise -/
/-- names: the parameters first -/
structure FnScope (N P : List Str) (sc : Scope) : Prop where
  kind : sc.kind = .function
  co : sc.isCoroutine = false
  gen : sc.isGenerator = false
  nd : N.Nodup
  pre : N.take P.length = P
  par : ∀ x ∈ P, sc.names.lookup x = some .local ∨ sc.names.lookup x = some .cell
  nofree : ∀ y ∈ sc.names, y.2 ≠ .free

theorem bindL_out {kindOf : Str → Option NameKind} {x : Str} : ∀ {binds : List (Str × Value)} {m : Str → Option Value}, (∀ v, (x, v) ∉ binds) → bindL kindOf binds m x = m x
  | [], _, _ => rfl
  | (n, v) :: r, m, h => by
    unfold bindL
    rw [bindL_out fun w hw => h w (List.mem_cons_of_mem _ hw)]
    split
    · have : x ≠ n := by rintro rfl; exact h v List.mem_cons_self
      simp [this]
    · rfl
theorem bindC_out {kindOf : Str → Option NameKind} {x : Str} : ∀ {binds : List (Str × Value)} {m : Str → Option Value}, (∀ v, (x, v) ∉ binds) → bindC kindOf binds m x = m x
  | [], _, _ => rfl
  | (n, v) :: r, m, h => by
    unfold bindC
    rw [bindC_out fun w hw => h w (List.mem_cons_of_mem _ hw)]
    split
    · rfl
    · have : x ≠ n := by rintro rfl; exact h v List.mem_cons_self
      simp [this]
theorem bindL_get {kindOf : Str → Option NameKind} {x : Str} {v : Value} : ∀ {P : List Str} {vs : List Value} {i : Nat} {m : Str → Option Value}, P.Nodup → P[i]? = some x → vs[i]? = some v → kindOf x = some .local →
    bindL kindOf (P.zip vs) m x = some v
  | [], _, _, _, _, h, _, _ => by simp at h
  | _ :: _, [], _, _, _, _, h, _ => by simp at h
  | p :: P, w :: vs, 0, m, nd, h1, h2, hk => by
    simp at h1 h2; subst h1; subst h2
    show bindL kindOf ((p, w) :: P.zip vs) m p = _
    unfold bindL
    rw [bindL_out fun v hv => (List.nodup_cons.mp nd).1 (List.of_mem_zip hv).1, if_pos hk]
    simp
  | p :: P, w :: vs, i + 1, m, nd, h1, h2, hk => by
    show bindL kindOf ((p, w) :: P.zip vs) m x = _
    unfold bindL
    exact bindL_get (i := i) (List.nodup_cons.mp nd).2 (by simpa using h1) (by simpa using h2) hk
theorem bindC_get {kindOf : Str → Option NameKind} {x : Str} {v : Value} : ∀ {P : List Str} {vs : List Value} {i : Nat} {m : Str → Option Value}, P.Nodup → P[i]? = some x → vs[i]? = some v → kindOf x ≠ some .local →
    bindC kindOf (P.zip vs) m x = some v
  | [], _, _, _, _, h, _, _ => by simp at h
  | _ :: _, [], _, _, _, _, h, _ => by simp at h
  | p :: P, w :: vs, 0, m, nd, h1, h2, hk => by
    simp at h1 h2; subst h1; subst h2
    show bindC kindOf ((p, w) :: P.zip vs) m p = _
    unfold bindC
    rw [bindC_out fun v hv => (List.nodup_cons.mp nd).1 (List.of_mem_zip hv).1, if_neg hk]
    simp
  | p :: P, w :: vs, i + 1, m, nd, h1, h2, hk => by
    show bindC kindOf ((p, w) :: P.zip vs) m x = _
    unfold bindC
    exact bindC_get (i := i) (List.nodup_cons.mp nd).2 (by simpa using h1) (by simpa using h2) hk

/-- the names' values at the entry -/
def start (N : List Str) (vs : List V) : St := vs.map some ++ List.replicate (N.length - vs.length) none

/-- the context of a def's body, at its entry; an exception leaves the frame, then lies as CX says -/
def cxOf (CX : CXT) (P : Program) (w : World) (K : PySem.W.Frag) (mg : Str → Option Value) (base : Heap) (N : List Str) (qual : Str) (scope : Scope) (f : Addr) (cd : Value) (A : Around) (outer : List Env) (s : Shared) (H : Hp) (E : XK) : Cx where
  prog := P
  w := w
  K := K
  mg := mg
  base := base
  A := A.deeper (envOfC qual scope s.heap.objs.size f cd)
  N := N
  s₀ := s
  H₀ := H
  env := envOfC qual scope s.heap.objs.size f cd
  outer := outer
  stack := envOfC qual scope s.heap.objs.size f cd :: outer
  ex := []
  calm := true
  fn := fun _ => true
  pn := []
  xe := fun e s' => wpAny (model P w) (A.deeper (envOfC qual scope s.heap.objs.size f cd)) (leaving (envOfC qual scope s.heap.objs.size f cd) e) (fun _ s'' => CX outer H s E e s'') (fun e' s'' => CX outer H s E e' s'') s'

theorem cell_has {sc : Scope} {n : Nat} {x : Str} (h : sc.names.lookup x = some .cell) : ∃ c, (cellsFrom n sc.names []).lookup x = some c := by
  have q := PySem.W.cellsFrom_some sc.names n [] (.inl h)
  exact Option.isSome_iff_exists.mp q

theorem inv_start {CX : CXT} {P : Program} {w : World} {K : PySem.W.Frag} {mg : Str → Option Value} {base : Heap} {N ps : List Str} {qual : Str} {scope : Scope} {f : Addr} {cd : Value} {A : Around} {outer : List Env} {s s1 : Shared} {H : Hp} {E : XK} {us : List Value} {vs : List V}
    (S : FnScope N ps scope) (hd : A.handled = none) (e0 : Env0 P w K mg base A outer s H) (hl : vs.length = ps.length) (r : Vals vs us)
    (x : InCallC s s.heap.objs.size (bindL (envOfC qual scope s.heap.objs.size f cd).kindOf (ps.zip us) fun _ => none) (cellsFrom (s.heap.objs.size + 1) scope.names []) (bindC (envOfC qual scope s.heap.objs.size f cd).kindOf (ps.zip us) fun _ => none) s1) :
    Inv (cxOf CX P w K mg base N qual scope f cd A outer s H E) [] (start N vs) H s1 := by
  have hpl : ps.length ≤ N.length := by have := congrArg List.length S.pre; rw [List.length_take] at this; omega
  obtain ⟨h1, tk, rfl, hk⟩ := x.done
  have noA : ∀ b : Addr, b ∉ (cxOf CX P w K mg base N qual scope f cd A outer s H E).ex := fun b z => absurd (show b ∈ ([] : List Addr) from z) (by simp)
  refine ⟨⟨e0.mod, S.kind, rfl, rfl, Nat.le_refl _, fun y z c h1 h2 => ?_, fun y hy => ?_, fun y c _ h => ?_, fun _ => hd, Around.frames_deeper e0.frames, .inr ⟨rfl, rfl⟩, fun b z => absurd z (noA b), e0.bs, e0.bsz, fun b _ _ => noA b, fun b z => absurd z (noA b), e0.funs, e0.frf⟩,
    rfl, e0.bare, Un.kept hk, ⟨_, x.toInCall.ns, fun i y v h1 h2 h3 => ?_⟩, fun y c h => ⟨_, x.cell y c h⟩, e0.hok.fresh (Nat.le_refl _), fun y c h => ?_, fun p hp => absurd (show p ∈ ([] : List (Addr × Obj)) from hp) (by simp), e0.hok.kept hk, ?_⟩
  · exact name_of_addr x.apart (PySem.mem_of_lookup h1) (PySem.mem_of_lookup h2)
  · have hy : scope.names.lookup y = some .cell ∨ scope.names.lookup y = some .free := hy
    rcases hy with hy | hy
    · exact cell_has hy
    · exact absurd rfl (S.nofree _ (PySem.mem_of_lookup hy))
  · exact Nat.le_of_lt (x.above y c (PySem.mem_of_lookup h))
  · have hi : i < vs.length := by
      unfold start at h2
      by_cases hi : i < vs.length
      · exact hi
      · rw [List.getElem?_append_right (by simpa using hi)] at h2
        rw [List.getElem?_replicate] at h2
        split at h2 <;> cases h2
    have ha : vs[i]? = some v := by
      unfold start at h2
      rw [List.getElem?_append_left (by simpa using hi), List.getElem?_map] at h2
      cases e : vs[i]? with
      | none => rw [e] at h2; cases h2
      | some a => rw [e] at h2; cases h2; rfl
    obtain ⟨u, hu, rv⟩ := r.get ha
    have hp : ps[i]? = some y := by
      rw [← S.pre, List.getElem?_take_of_lt (by omega)]; exact h1
    have ndP : ps.Nodup := by rw [← S.pre]; exact S.nd.sublist (List.take_sublist _ _)
    refine ⟨u, rv, ?_⟩
    rcases S.par y (List.mem_of_getElem? hp) with k | k
    · exact .inl ⟨k, bindL_get ndP hp hu k⟩
    · obtain ⟨c, e⟩ := cell_has (n := s.heap.objs.size + 1) k
      refine .inr ⟨.inl k, c, e, ?_⟩
      have q := x.cell y c e
      rw [bindC_get ndP hp hu (by show scope.names.lookup y ≠ _; rw [k]; decide)] at q
      exact q
  · exact e0.hok.fresh (Nat.le_of_lt (x.above y c (PySem.mem_of_lookup h)))
  · unfold start
    show _ = N.length
    rw [List.length_append, List.length_map, List.length_replicate]
    omega

/-- THE RULE: a def (or a method) of the text, by its body. The body's reading t is chosen for each entry; it is run at the parameters' values -/
theorem fn_of {CX : CXT} {P : Program} {w : World} {K : PySem.W.Frag} {mg : Str → Option Value} {base : Heap} {k : Nat} {f : Addr} {name qual : Str} {params : Arguments} {body : List Stmt} {scope : Scope} {dV kV doc pm cdv ct oc : Value} {an od : Option Addr}
    {osl : Array (Option Value)} {N ps : List Str} {sp : Sp} (lk : K.lookup f = some ⟨oc, od, .func (PySem.W.fnOf name qual params body scope dV kV doc pm an cdv ct), osl⟩) (hcd : PySem.W.codeIn K cdv qual = true) (S : FnScope N ps scope)
    (len : ∀ vs H Q E, sp vs H Q E → vs.length = ps.length)
    (hbody : ∀ (A : Around) (outer : List Env) (s : Shared) (H : Hp) (vs : List V) (Q : VK) (E : XK), Room k (A.deeper (envOfC qual scope s.heap.objs.size f cdv)) → sp vs H Q E →
      ∃ t, PSs (cxOf CX P w K mg base N qual scope f cdv A outer s H E) body t ∧ t { nx := fun _ H' => Q .non H', rt := Q } (start N vs) H) :
    FnOk P w K mg base CX (k + 1) f (PySem.W.fnOf name qual params body scope dV kV doc pm an cdv ct) ps sp := by
  refine ⟨len, fun A outer s H args us vs Q E hr e0 hb r hsp => ?_⟩
  have hl := len _ _ _ _ hsp
  have KX : K.In s.heap := e0.mod.kin.keeps fun b o e => (e0.bs b o e).1
  have lim : s.heap.NoLimit := e0.mod.nolimit.keeps fun b o e => (e0.bs b o e).1
  have hkind : ∀ y ∈ ps.zip us, scope.names.lookup y.1 = some .local ∨ (scope.names.lookup y.1 = some .cell ∧ ((cellsFrom (s.heap.objs.size + 1) scope.names []).lookup y.1).isSome = true) := fun ⟨n, v⟩ hy => by
    rcases S.par n (List.of_mem_zip hy).1 with q | q
    · exact .inl q
    · exact .inr ⟨q, PySem.W.cellsFrom_some _ _ _ (.inl q)⟩
  refine codeAny_call_function hr.depth (KX _ _ lk) rfl S.co S.gen rfl (PySem.W.codeRec_of KX hcd) (hb _ _ _ _ ?_)
  refine wpAny_newFunctionEnv_cells S.kind hkind fun env he s1 x => ?_
  subst he
  refine ⟨lim.keeps x.toInCall.keep, codeAny_func ?_⟩
  obtain ⟨t, ht, hq⟩ := hbody A outer s H vs Q E (hr.deeper _) hsp
  have I : Inv (cxOf CX P w K mg base N qual scope f cdv A outer s H E) [] (start N vs) H s1 := inv_start S hr.hd e0 hl r x
  refine wpAny_mono (ht [] s1 (start N vs) H _ I hq) (fun fl s' hs => ?_) fun e s' hs => hs
  have fin : ∀ {σ' : St} {H' : Hp} {v : V} {u : Value}, Inv (cxOf CX P w K mg base N qual scope f cdv A outer s H E) [] σ' H' s' → RelV v u → Q v H' → CE outer P w H s Q u s' :=
    fun {σ' H' v u} J rv q => ⟨v, H', J.os, J.bare, J.base, J.hok, rv, q⟩
  cases fl with
  | ret u =>
    obtain ⟨v, σ', H', J, rv, q⟩ := hs
    exact fin J rv q
  | next =>
    obtain ⟨σ', H', J, q⟩ := hs
    exact fin (v := V.non) (u := Value.none) J rfl q
  | brk =>
    obtain ⟨_, _, _, q⟩ := hs
    exact False.elim q
  | cont =>
    obtain ⟨_, _, _, q⟩ := hs
    exact False.elim q
end L2

namespace L2
open PySem PySem.Spec PyProof.Rows
section
variable {X : Cx} {x : Str} {p pos : Pos} {e : Expr} {es : List Expr} {t : TA} {id T : String} {r : List V → Hp → VK → Prop}

def tCB (r : List V → Hp → VK → Prop) (t : TA) : TE := fun σ H Q => t σ H fun vs H1 => r vs H1 Q
/-- f(e, ..), f a built-in function -/
theorem pe_callB (hc : CallR X (.builtin id) r) (hg : Gl X x) (hm : X.mg x = none) (hv : bootBuiltins x = some (.builtin id)) (ha : PA X (e :: es) t) (hn : x ≠ "__name__" := by decide) (hdb : (x == ("__debug__" : Str)) = false := by decide)
    (he : starEach (e :: es) X.env = (false, eval e X.env) :: starEach es X.env := by rfl) (hpl : (backTo pos (starEach es X.env)).any (·.1) = false := by rfl) : PE X (.Call (.Name x p) (e :: es) [] pos) (tCB r t) := by
  intro pins s σ H Q I h
  refine wpAny_Call_Name_kw (ld_blt I hg hm hv ?_ hn hdb)
  exact PyProof.Rows.callWith_builtin1 (thn (ha pos pins s σ H _ I h) fun us s1 ⟨vs, H1, I1, r1, q1⟩ => hc pins s1 σ H1 vs us Q I1 r1 q1) he hpl
/-- T(e, ..), T a built-in type -/
theorem pe_callTy (hc : CallR X (.type T) r) (hg : Gl X x) (hm : X.mg x = none) (hv : bootBuiltins x = some (.type T)) (ha : PA X (e :: es) t) (hn : x ≠ "__name__" := by decide) (hdb : (x == ("__debug__" : Str)) = false := by decide)
    (he : starEach (e :: es) X.env = (false, eval e X.env) :: starEach es X.env := by rfl) (hpl : (backTo pos (starEach es X.env)).any (·.1) = false := by rfl) : PE X (.Call (.Name x p) (e :: es) [] pos) (tCB r t) := by
  intro pins s σ H Q I h
  refine wpAny_Call_Name_kw (ld_blt I hg hm hv ?_ hn hdb)
  exact PyProof.Rows.callWith_type1 (thn (ha pos pins s σ H _ I h) fun us s1 ⟨vs, H1, I1, r1, q1⟩ => hc pins s1 σ H1 vs us Q I1 r1 q1) he hpl
end
end L2

namespace HT
open PySem PyProof.Rows

/-- t < u of tuples of ints -/
def lexLt : List Int → List Int → Bool
  | [], [] => false
  | [], _ :: _ => true
  | _ :: _, [] => false
  | x :: xs, y :: ys => if x = y then lexLt xs ys else decide (x < y)
section
open PySem.SeqAt
open PySem.AutoSeq1 (wpAny_loadPart')
open PySem.MeetsSeq PySem.MeetsSeq2 PySem.MeetsSeq3

end

section
variable {prog : Program} {w : World} {A : Around} {E : Value → Shared → Prop} {s : Shared}

/-! ### t[a:b], not the whole -/
/-- a slice's bound as a place among n (d where it is left out) -/
def sIx (n d : Nat) : Option Int → Nat
  | none => d
  | some v => if v < 0 then (v + (n : Int)).toNat else min v.toNat n
end
end HT

namespace L2
open PySem PySem.Spec PyProof.Rows

/-! ### the parts of a slice -/
abbrev TO := St → Hp → (Option Int → Hp → Prop) → Prop
/-- a slice's part (left out, or an int) -/
def PO (X : Cx) (e : Option Expr) (t : TO) : Prop :=
  ∀ (pins : List (Addr × Obj)) (s : Shared) (σ : St) (H : Hp) (Q : Option Int → Hp → Prop), Inv X pins σ H s → t σ H Q →
    wpAny (model X.prog X.w) X.A (evalPart e X.env) (fun u s' => ∃ o H', Inv X pins σ H' s' ∧ IsPart u o ∧ Q o H') X.xe s
def tNoPart : TO := fun _ H Q => Q none H
def tPart (t : TE) : TO := fun σ H Q => t σ H fun x H1 => ∃ i, x = .int i ∧ Q (some i) H1

section
variable {X : Cx} {e : Expr} {te : TE} {lo hi : Option Expr} {tl th : TO} {pos p2 : Pos}

theorem po_none : PO X none tNoPart := by
  intro pins s σ H Q I h
  rw [evalPart_none]
  exact wpAny_pure ⟨none, H, I, .none, h⟩
theorem po_some (h : PE X e te) : PO X (some e) (tPart te) := by
  intro pins s σ H Q I hw
  rw [evalPart_some]
  refine thn (h pins s σ H _ I hw) fun u s1 ⟨x, H1, I1, r1, q1⟩ => ?_
  obtain ⟨i, rfl, q⟩ := q1
  obtain ⟨t, rfl⟩ := r1
  exact ⟨some i, H1, I1, .int i t, q⟩

/-- what a slice of a value is, by values: the slice object stands at sl -/
def SlR (X : Cx) (r : V → Option Int → Option Int → Hp → VK → Prop) : Prop :=
  ∀ (pins : List (Addr × Obj)) (s : Shared) (σ : St) (H : Hp) (x : V) (v vl vu : Value) (lo hi : Option Int) (sl : Addr) (Q : VK), Inv X pins σ H s → RelV x v → s.heap.IsSliceOf sl vl vu .none → IsPart vl lo → IsPart vu hi → r x lo hi H Q →
    ∃ T id, typeLookup (.type T) "__getitem__" = pure (some (.builtin id)) ∧ s.TypeIs v T ∧ wpAny (model X.prog X.w) X.A (getItem v (.ref sl)) (EP X pins σ Q) X.xe s
theorem SlR.or {r r' : V → Option Int → Option Int → Hp → VK → Prop} (h : SlR X r) (h' : SlR X r') : SlR X (fun x lo hi H Q => r x lo hi H Q ∨ r' x lo hi H Q) := by
  intro pins s σ H x v vl vu lo hi sl Q I rx hs pl pu q
  rcases q with q | q
  · exact h pins s σ H x v vl vu lo hi sl Q I rx hs pl pu q
  · exact h' pins s σ H x v vl vu lo hi sl Q I rx hs pl pu q
def tSl (r : V → Option Int → Option Int → Hp → VK → Prop) (te : TE) (tl th : TO) : TE := fun σ H Q => te σ H fun x H1 => tl σ H1 fun l H2 => th σ H2 fun u H3 => r x l u H3 Q
/-- a[lo:hi], any a -/
theorem pe_slice {r : V → Option Int → Option Int → Hp → VK → Prop} (hr : SlR X r) (he : PE X e te) (hl : PO X lo tl) (hu : PO X hi th) : PE X (.Subscript e (.Slice lo hi none p2) pos) (tSl r te tl th) := by
  intro pins s σ H Q I h
  refine Subscript_ (thn (he pins s σ H _ I h) fun v s1 ⟨x, H1, I1, r1, q1⟩ => ?_)
  refine wpAny_Slice (thn (hl pins s1 σ H1 _ I1 q1) fun vl s2 ⟨l, H2, I2, pl, q2⟩ => thn (hu pins s2 σ H2 _ I2 q2) fun vu s3 ⟨u, H3, I3, pu, q3⟩ => ?_)
  rw [evalPart_none]
  refine wpAny_pure ?_
  have I4 : Inv X pins σ H3 { s3 with heap := s3.heap.push { cls := .type "slice", data := .fields #[vl, vu, .none] } } := I3.kept (t' := s3.toks) fun b ob q => Heap.get?_push_of_some _ q
  obtain ⟨T, id, hT, ht, hg⟩ := hr pins { s3 with heap := s3.heap.push { cls := .type "slice", data := .fields #[vl, vu, .none] } } σ H3 x v vl vu l u s3.heap.objs.size Q I4 r1 (Heap.IsSliceOf.new ..) pl pu q3
  show wpAny (model X.prog X.w) X.A (subscriptTail e (.Slice lo hi none p2) v (.ref s3.heap.objs.size)) (EP X pins σ Q) X.xe { s3 with heap := s3.heap.push { cls := .type "slice", data := .fields #[vl, vu, .none] } }
  exact tail_any (ops := [.ref s3.heap.objs.size, v]) ht hT hg (by with_unfolding_all rfl)

/-- the items of xs[lo:hi] -/
def cutV (xs : List V) (lo hi : Option Int) : List V := (xs.drop (HT.sIx xs.length 0 lo)).take (HT.sIx xs.length xs.length hi - HT.sIx xs.length 0 lo)
theorem cutV_length (xs : List V) (lo hi : Option Int) : (cutV xs lo hi).length ≤ xs.length := by
  unfold cutV
  rw [List.length_take, List.length_drop]
  omega
/-- t[lo:hi], not the whole of it (the whole would be t itself) -/
def rSlT (K : PySem.W.Frag) : V → Option Int → Option Int → Hp → VK → Prop := fun x lo hi H Q => ∃ a xs, x = .ref a ∧ SqT K H a xs ∧
  ¬ (HT.sIx xs.length 0 lo = 0 ∧ HT.sIx xs.length xs.length hi = xs.length) ∧ ∀ p, H p = none → Q (.ref p) (upd H p (.tup (cutV xs lo hi)))
/-! ### t < u, t + u -/
def rLtT (K : PySem.W.Frag) : R2 := fun x y H Q => ∃ a b ns ms, x = .ref a ∧ y = .ref b ∧ SqT K H a (ns.map V.int) ∧ SqT K H b (ms.map V.int) ∧ Q (.bl (HT.lexLt ns ms)) H
/-- t + u, t not empty: u empty gives t itself -/
def rCatT (K : PySem.W.Frag) : R2 := fun x y H Q => ∃ a b xs ys, x = .ref a ∧ y = .ref b ∧ SqT K H a xs ∧ SqT K H b ys ∧ xs ≠ [] ∧ xs.length + ys.length ≤ sizeLine ∧
  (ys = [] → Q (.ref a) H) ∧ (ys ≠ [] → ∀ p, H p = none → Q (.ref p) (upd H p (.tup (xs ++ ys))))
end
end L2

namespace L2
open PySem PySem.Spec PyProof.Rows

/-! ### places -/
/-- the place that an index of any sign means -/
def ixN (n : Nat) (i : Int) : Option Nat := if 0 ≤ i then (if i < n then some i.toNat else none) else if -(n : Int) ≤ i then some (i + n).toNat else none
def atI {α : Type} (xs : List α) (i : Int) : Option α := (ixN xs.length i).bind fun j => xs[j]?
theorem ixN_seq {n : Nat} {i : Int} {j : Nat} (h : ixN n i = some j) : seqIndex? i n = some j ∧ j < n ∧ -(n : Int) ≤ i ∧ i < n := by
  unfold ixN at h
  by_cases h0 : 0 ≤ i
  · rw [if_pos h0] at h
    by_cases h1 : i < n
    · rw [if_pos h1] at h
      have e : i.toNat = j := Option.some.inj h
      exact ⟨by rw [seqIndex_of h0 h1, e], by omega, by omega, h1⟩
    · rw [if_neg h1] at h; cases h
  · rw [if_neg h0] at h
    by_cases h1 : -(n : Int) ≤ i
    · rw [if_pos h1] at h
      have e : (i + n).toNat = j := Option.some.inj h
      exact ⟨by rw [seqIndex_neg (by omega) h1, e], by omega, h1, by omega⟩
    · rw [if_neg h1] at h; cases h
theorem atI_get {α : Type} {xs : List α} {i : Int} {v : α} (h : atI xs i = some v) : ∃ j, seqIndex? i xs.length = some j ∧ xs[j]? = some v ∧ j < xs.length ∧ -(xs.length : Int) ≤ i ∧ i < xs.length := by
  unfold atI at h
  cases e : ixN xs.length i with
  | none => rw [e] at h; cases h
  | some j =>
    rw [e] at h
    obtain ⟨h1, h2, h3, h4⟩ := ixN_seq e
    exact ⟨j, h1, h, h2, h3, h4⟩
theorem atI_nat {α : Type} {xs : List α} {j : Nat} {v : α} (h : xs[j]? = some v) : atI xs (j : Int) = some v := by
  have hj : j < xs.length := (List.getElem?_eq_some_iff.mp h).1
  have e : ixN xs.length (j : Int) = some j := by
    unfold ixN
    rw [if_pos (by omega), if_pos (by omega)]; simp
  unfold atI; rw [e]; exact h
/-! ### what may be subscripted -/
/-- what stands as an index of a plain subscript -/
def PlainIx (b : Expr) : Prop := ∀ o i, subscripted b false o i = operate [o, i] (getItem o i)
/-- a subscript by values -/
def IxR (X : Cx) (r : R2) : Prop :=
  ∀ (value slice : Expr) (pins : List (Addr × Obj)) (s : Shared) (σ : St) (H : Hp) (x y : V) (v u : Value) (Q : VK), Inv X pins σ H s → RelV x v → RelV y u → r x y H Q →
    subscripted slice false v u = operate [v, u] (getItem v u) → wpAny (model X.prog X.w) X.A (subscriptTail value slice v u) (EP X pins σ Q) X.xe s
/-- a call of a builtin's method by values: the receiver, the arguments -/
def MtR (X : Cx) (id : String) (r : V → List V → Hp → VK → Prop) : Prop :=
  ∀ (pins : List (Addr × Obj)) (s : Shared) (σ : St) (H : Hp) (x : V) (xs : List V) (v : Value) (us : List Value) (Q : VK), Inv X pins σ H s → RelV x v → Vals xs us → r x xs H Q →
    wpAny (model X.prog X.w) X.A (call (.builtin id) (v :: us)) (EP X pins σ Q) X.xe s
section
variable {X : Cx} {a b : Expr} {ta tb : TE} {pos : Pos}
theorem IxR.or {r r' : R2} (h : IxR X r) (h' : IxR X r') : IxR X (fun x y H Q => r x y H Q ∨ r' x y H Q) := by
  intro value slice pins s σ H x y v u Q I rx ry q hs
  rcases q with q | q
  · exact h value slice pins s σ H x y v u Q I rx ry q hs
  · exact h' value slice pins s σ H x y v u Q I rx ry q hs
theorem MtR.or {id : String} {r r' : V → List V → Hp → VK → Prop} (h : MtR X id r) (h' : MtR X id r') : MtR X id (fun x xs H Q => r x xs H Q ∨ r' x xs H Q) := by
  intro pins s σ H x xs v us Q I rx rs q
  rcases q with q | q
  · exact h pins s σ H x xs v us Q I rx rs q
  · exact h' pins s σ H x xs v us Q I rx rs q
/-- a[b] -/
theorem pe_ix {r : R2} (hr : IxR X r) (ha : PE X a ta) (hb : PE X b tb) (hs : PlainIx b) : PE X (.Subscript a b pos) (tOp r ta tb) := by
  intro pins s σ H Q I h
  exact Subscript_ (binT ha hb I h fun v u s2 x y H2 I2 rx ry q => hr a b pins s2 σ H2 x y v u Q I2 rx ry q (hs _ _))

def rIxL (K : PySem.W.Frag) : R2 := fun x y H Q => ∃ p xs i v, x = .ref p ∧ y = .int i ∧ SqL K H p xs ∧ atI xs i = some v ∧ Q v H
def rIxT (K : PySem.W.Frag) : R2 := fun x y H Q => ∃ p xs i v, x = .ref p ∧ y = .int i ∧ SqT K H p xs ∧ atI xs i = some v ∧ Q v H
def rIxS : R2 := fun x y H Q => ∃ z i c, x = .str z ∧ y = .int i ∧ z.length ≤ sizeLine ∧ atI z.cps.toList i = some c ∧ Q (.str ⟨#[c]⟩) H
theorem ix_list : IxR X (rIxL X.K) := by
  intro value slice pins s σ H x y v u Q I rx ry h hs
  obtain ⟨p, xs, i, z, rfl, rfl, hq, he, q⟩ := h
  cases rx
  obtain ⟨t, rfl⟩ := ry
  obtain ⟨its, r, pl, hz⟩ := I.list hq
  obtain ⟨j, h1, h2, h3, h4, h5⟩ := atI_get he
  obtain ⟨w, ew, rw'⟩ := r.get h2
  have hl := r.length
  have hn := line63
  have fin : EP X pins σ Q w s := ⟨z, H, I, rw', q⟩
  by_cases h0 : 0 ≤ i
  · have hj : i.toNat = j := by
      rw [seqIndex_of h0 h5] at h1
      exact Option.some.inj h1
    exact item_listR pl.isList h0 (by omega) (by rw [hj]; simpa using ew) fin hs
  · have hj : (i + (its.toArray.size : Int)).toNat = j := by
      rw [seqIndex_neg (by omega) h4] at h1
      rw [List.size_toArray, ← hl]
      exact Option.some.inj h1
    exact subscriptTail_builtinR (x := w) pl.isList.typeIs slot_list_getitem.lookup
      (wpAny_getItem_list_neg (Q := fun r s' => r = w ∧ EP X pins σ Q r s') pl.isList (by omega) (by rw [List.size_toArray] <;> omega) (by omega) (by rw [hj]; simpa using ew) ⟨rfl, fin⟩) hs
theorem ix_str : IxR X rIxS := by
  intro value slice pins s σ H x y v u Q I rx ry h hs
  obtain ⟨z, i, c, rfl, rfl, hz, he, q⟩ := h
  obtain ⟨t, rfl⟩ := rx
  obtain ⟨t', rfl⟩ := ry
  obtain ⟨j, h1, h2, h3, h4, h5⟩ := atI_get he
  have hl : z.cps.toList.length = z.length := by simp [Str.length]
  rw [hl] at h1 h4 h5
  have hn := line63
  exact tail_any (typeIs_str s z t) slot_str_getitem.lookup (getItem_str (c := c) (by
    have e1 : decide (i < -(2 ^ 63 : Int)) = false := decide_eq_false (by omega)
    have e2 : decide (i ≥ 2 ^ 63) = false := decide_eq_false (by omega)
    rw [e1, e2, Bool.or_false]) (by rw [h1]; simpa using h2) ⟨.str ⟨#[c]⟩, H, I.tok _, ⟨_, rfl⟩, q⟩) hs
/-- list, tuple or str -/
def rIx (K : PySem.W.Frag) : R2 := fun x y H Q => rIxL K x y H Q ∨ rIxT K x y H Q ∨ rIxS x y H Q
/-! ### xs[i] = v, any sign -/
/-- the list's object behind a store -/
theorem mapSeq_set (its : List Value) (n j : Nat) (u : Value) : Obj.mapSeq (·.setIfInBounds j u) { cls := .type "list", data := .seq its.toArray n } = { cls := .type "list", data := .seq (its.set j u).toArray n } := by
  simp [Obj.mapSeq]
theorem Inv.lst {pins : List (Addr × Obj)} {σ : St} {H : Hp} {s : Shared} {p : Addr} {xs : List V} (I : Inv X pins σ H s) (h : H p = some (.lst xs)) :
    ∃ (its : List Value) (n : Nat), Vals xs its ∧ s.heap.get? p = some { cls := .type "list", data := .seq its.toArray n } ∧ xs.length ≤ sizeLine := by
  obtain ⟨z, its, n, r, e⟩ := I.hok p _ h
  exact ⟨its, n, r, e, z⟩
/-- the list at p is written by an update of its object -/
theorem Inv.lstUpd {pins : List (Addr × Obj)} {σ : St} {H : Hp} {s : Shared} {p : Addr} {xs ys : List V} {its its' : List Value} {n n' : Nat} {f : Obj → Obj} (I : Inv X pins σ H s) (h : H p = some (.lst xs))
    (ho : s.heap.get? p = some { cls := .type "list", data := .seq its.toArray n }) (hf : f { cls := .type "list", data := .seq its.toArray n } = { cls := .type "list", data := .seq its'.toArray n' }) (r : Vals ys its') (hz : ys.length ≤ sizeLine) (t : Nat) :
    Inv X pins σ (upd H p (.lst ys)) { s with heap := s.heap.update p f, toks := t } := by
  have e : (s.heap.update p f).get? p = some { cls := .type "list", data := .seq its'.toArray n' } := by
    rw [Heap.get?_update_self f ho (by rw [hf] <;> rfl), hf]
  refine I.write (x := p) (e := p) (by rw [h]; trivial) (.inl rfl) (fun b u hb q => (Heap.get?_update_other _ _ (Ne.symm hb)).trans q) ⟨_, e⟩ ?_
  exact ⟨hz, its', n', r, e⟩
def rSetL : V → V → V → Hp → (Hp → Prop) → Prop := fun o i v H Q => ∃ p xs k j, o = .ref p ∧ i = .int k ∧ H p = some (.lst xs) ∧ ixN xs.length k = some j ∧ Q (upd H p (.lst (xs.set j v)))
theorem set_list : PSet X rSetL := by
  intro pins s σ H o i v ov iv u Q I ro ri rv h
  obtain ⟨p, xs, k, j, rfl, rfl, hp, hj, q⟩ := h
  cases ro
  obtain ⟨t, rfl⟩ := ri
  obtain ⟨its, n, r, ho, hz⟩ := I.lst hp
  obtain ⟨h1, h2, h3, h4⟩ := ixN_seq hj
  have hl := r.length
  have hn := line63
  have I' : Inv X pins σ (upd H p (.lst (xs.set j v))) { s with heap := s.heap.update p (Obj.mapSeq (·.setIfInBounds j u)) } :=
    I.lstUpd hp ho (mapSeq_set its n j u) (r.set rv j) (by rw [List.length_set]; exact hz) s.toks
  by_cases h0 : 0 ≤ k
  · have hk : k.toNat = j := by
      rw [seqIndex_of h0 h4] at h1
      exact Option.some.inj h1
    exact PySem.W.ki_setAt ho h0 (by omega) (by rw [List.size_toArray, ← hl]; exact h4) (by rw [hk]; exact ⟨_, I', q⟩)
  · have hk : (k + (its.toArray.size : Int)).toNat = j := by
      rw [seqIndex_neg (by omega) h3] at h1
      rw [List.size_toArray, ← hl]
      exact Option.some.inj h1
    exact PySem.W.ki_setBack ho (by omega) (by rw [List.size_toArray, ← hl]; exact h3) (by omega) (by rw [hk]; exact ⟨_, I', q⟩)

/-! ### slices -/
theorem slice_bounds (lo hi : Option Int) (n : Nat) : (sliceBounds lo hi none n).1 = ((HT.sIx n 0 lo : Nat) : Int) ∧ (sliceBounds lo hi none n).2.1 = ((HT.sIx n n hi : Nat) : Int) ∧ (sliceBounds lo hi none n).2.2 = 1 := by
  refine ⟨?_, ?_, rfl⟩
  · cases lo with
    | none => simp [sliceBounds, HT.sIx]
    | some i =>
      simp only [sliceBounds, HT.sIx, Option.getD_none, show (1 : Int) > 0 by decide, if_true]
      by_cases h : i < 0
      · simp only [h, if_true] <;> omega
      · simp only [h, if_false] <;> omega
  · cases hi with
    | none => simp [sliceBounds, HT.sIx]
    | some i =>
      simp only [sliceBounds, HT.sIx, Option.getD_none, show (1 : Int) > 0 by decide, if_true]
      by_cases h : i < 0
      · simp only [h, if_true] <;> omega
      · simp only [h, if_false] <;> omega
theorem slicePick_cut (its : List Value) (lo hi : Option Int) : slicePick its.toArray lo hi none = ((its.drop (HT.sIx its.length 0 lo)).take (HT.sIx its.length its.length hi - HT.sIx its.length 0 lo)).toArray := by
  obtain ⟨h1, h2, h3⟩ := slice_bounds lo hi its.toArray.size
  unfold slicePick
  rw [h1, h2, h3]
  simp only [sliceRange_one, pick_run, List.size_toArray] <;> rfl
/-- xs[lo:hi] of a list: a new list -/
def rSlL (K : PySem.W.Frag) : V → Option Int → Option Int → Hp → VK → Prop := fun x lo hi H Q => ∃ a xs, x = .ref a ∧ SqL K H a xs ∧ ∀ p, H p = none → Q (.ref p) (upd H p (.lst (cutV xs lo hi)))
theorem sl_list : SlR X (rSlL X.K) := by
  intro pins s σ H x v vl vu lo hi sl Q I rx hs pl pu h
  obtain ⟨a, xs, rfl, hx, q⟩ := h
  cases rx
  obtain ⟨its, r, ht, hz⟩ := I.list hx
  have hlen := r.length
  refine ⟨"list", _, slot_list_getitem.lookup, ht.isList.typeIs, ?_⟩
  refine wpAny_getItem_list_slice ht.isList hs pl pu .none (by simp) ?_ (by rw [List.size_toArray] <;> omega)
  rw [slicePick_cut, ← hlen]
  refine ⟨.ref s.heap.objs.size, _, I.laid (t' := s.toks) (o := .lst (cutV xs lo hi)) (fun b ob q => Heap.get?_push_of_some _ q) (Nat.le_refl _) ?_, rfl, q _ (I.hok.fresh (Nat.le_refl _))⟩
  exact ⟨Nat.le_trans (cutV_length xs lo hi) hz, _, 0, (r.drop (HT.sIx xs.length 0 lo)).take (HT.sIx xs.length xs.length hi - HT.sIx xs.length 0 lo), Heap.get?_push_size _ rfl⟩

/-! ### in, not in: flat items -/
def flatV : V → Bool
  | .non => true
  | .bl _ => true
  | .int _ => true
  | .str _ => true
  | _ => false
/-- == of flat values -/
def eqV : V → V → Bool
  | .non, .non => true
  | .bl a, .bl b => a == b
  | .bl a, .int b => (if a then 1 else 0) == b
  | .int a, .bl b => a == (if b then 1 else 0)
  | .int a, .int b => a == b
  | .str a, .str b => a == b
  | _, _ => false
theorem eqAt_V {A : Around} {s : Shared} {y x : V} {u v : Value} (ry : RelV y u) (rx : RelV x v) (fy : flatV y = true) (fx : flatV x = true) : SeqAt.EqAt A s u v (eqV y x) := by
  cases y with
  | non =>
    cases ry
    cases x with
    | non => cases rx; exact SeqAt.EqAt.same _
    | bl b => cases rx; exact SeqAt.EqAt.none_bool b
    | int b => obtain ⟨t, rfl⟩ := rx; exact SeqAt.EqAt.none_int b t
    | str b => obtain ⟨t, rfl⟩ := rx; exact SeqAt.EqAt.none_str b t
    | _ => exact absurd (show false = true from fx) Bool.false_ne_true
  | bl a =>
    cases ry
    cases x with
    | non => cases rx; exact SeqAt.EqAt.bool_none a
    | bl b => cases rx; exact SeqAt.EqAt.bool_bool a b
    | int b => obtain ⟨t, rfl⟩ := rx; exact SeqAt.EqAt.bool_int a b t
    | str b => obtain ⟨t, rfl⟩ := rx; exact SeqAt.EqAt.bool_str a b t
    | _ => exact absurd (show false = true from fx) Bool.false_ne_true
  | int a =>
    obtain ⟨t', rfl⟩ := ry
    cases x with
    | non => cases rx; exact SeqAt.EqAt.int_none a t'
    | bl b => cases rx; exact SeqAt.EqAt.int_bool a t' b
    | int b => obtain ⟨t, rfl⟩ := rx; exact SeqAt.EqAt.int_int a t' b t
    | str b => obtain ⟨t, rfl⟩ := rx; exact SeqAt.EqAt.int_str a t' b t
    | _ => exact absurd (show false = true from fx) Bool.false_ne_true
  | str a =>
    obtain ⟨t', rfl⟩ := ry
    cases x with
    | non => cases rx; exact SeqAt.EqAt.str_none a t'
    | bl b => cases rx; exact SeqAt.EqAt.str_bool a t' b
    | int b => obtain ⟨t, rfl⟩ := rx; exact SeqAt.EqAt.str_int a t' b t
    | str b => obtain ⟨t, rfl⟩ := rx; exact SeqAt.EqAt.str_str a t' b t
    | _ => exact absurd (show false = true from fx) Bool.false_ne_true
  | _ => exact absurd (show false = true from fy) Bool.false_ne_true
/-- the items' answers, read off the values (a value's own answer does not lean on its token) -/
def eqU (x : V) (u : Value) : Bool := match u with
  | .none => eqV .non x
  | .bool b => eqV (.bl b) x
  | .int i _ => eqV (.int i) x
  | .str z _ => eqV (.str z) x
  | _ => false
theorem eqU_of {x y : V} {u : Value} (r : RelV y u) (f : flatV y = true) : eqU x u = eqV y x := by
  cases y with
  | non => cases r; rfl
  | bl b => cases r; rfl
  | int i => obtain ⟨t, rfl⟩ := r; rfl
  | str z => obtain ⟨t, rfl⟩ := r; rfl
  | _ => exact absurd (show false = true from f) Bool.false_ne_true
theorem any_eqU {x : V} : ∀ {xs : List V} {us : List Value}, Vals xs us → xs.all flatV = true → us.any (eqU x) = xs.any fun y => eqV y x
  | _, _, .nil, _ => rfl
  | y :: xs, u :: us, .cons r t, f => by
    rw [List.all_cons, Bool.and_eq_true] at f
    rw [List.any_cons, List.any_cons, eqU_of r f.1, any_eqU t f.2]
theorem mem_eqAt {A : Around} {s : Shared} {x : V} {v : Value} (rx : RelV x v) (fx : flatV x = true) : ∀ {xs : List V} {us : List Value}, Vals xs us → xs.all flatV = true → ∀ u ∈ us, SeqAt.EqAt A s u v (eqU x u)
  | _, _, .nil, _ => fun u hu => by cases hu
  | y :: xs, u :: us, .cons r t, f => fun u' hu => by
    rw [List.all_cons, Bool.and_eq_true] at f
    rcases List.mem_cons.mp hu with rfl | hu
    · rw [eqU_of r f.1]; exact eqAt_V r rx f.1 fx
    · exact mem_eqAt rx fx t f.2 u' hu
def inV (x : V) (xs : List V) : Bool := xs.any fun y => eqV y x
/-- x in a list or tuple of flat items -/
def rIn (K : PySem.W.Frag) (neg : Bool) : R2 := fun x y H Q => ∃ p xs, y = .ref p ∧ (SqL K H p xs ∨ SqT K H p xs) ∧ flatV x = true ∧ xs.all flatV = true ∧ Q (.bl (if neg then !inV x xs else inV x xs)) H
theorem op_notIn_seq : OpR X (compareOp .NotIn) (rIn X.K true) := by
  intro pins s σ H x y v u Q I rx ry h
  obtain ⟨p, xs, rfl, hq, fx, fs, q⟩ := h
  cases ry
  rcases hq with hq | hq
  · obtain ⟨its, r, pl, hz⟩ := I.list hq
    refine SeqAt.notIn_listAt (eqU x) pl.isList (fun w hw => mem_eqAt rx fx r fs w (by simpa using hw)) ⟨.bl _, H, I, rfl, ?_⟩
    rw [show its.toArray.any (eqU x) = its.any (eqU x) by simp, any_eqU r fs]
    exact q
  · obtain ⟨its, r, pl, hz⟩ := I.tuple hq
    refine SeqAt.notIn_tupleAt (eqU x) pl (fun w hw => mem_eqAt rx fx r fs w (by simpa using hw)) ⟨.bl _, H, I, rfl, ?_⟩
    rw [show its.toArray.any (eqU x) = its.any (eqU x) by simp, any_eqU r fs]
    exact q
/-! ### len, list(x), tuple(x) of any list or tuple that is read -/
theorem call_len_seq : CallR X (.builtin "len") (fun xs H Q => ∃ p ys, xs = [.ref p] ∧ (SqL X.K H p ys ∨ SqT X.K H p ys) ∧ Q (.int ys.length) H) := by
  intro pins s σ H xs us Q I r h
  obtain ⟨p, ys, rfl, hq, q⟩ := h
  obtain ⟨u, rfl, rx⟩ := vals1 r
  cases rx
  have hn := line63
  rcases hq with hq | hq
  · obtain ⟨its, r', pl, hz⟩ := I.list hq
    have hlen := r'.length
    exact Calls.call_len_list pl.isList (by simp only [List.size_toArray] <;> omega) ⟨.int ys.length, H, I.tok _, ⟨s.toks + 1, by rw [List.size_toArray, hlen]⟩, q⟩
  · obtain ⟨its, r', pl, hz⟩ := I.tuple hq
    have hlen := r'.length
    exact len_tuple pl (by simp only [List.size_toArray] <;> omega) ⟨.int ys.length, H, I.tok _, ⟨s.toks + 1, by rw [List.size_toArray, hlen]⟩, q⟩
theorem call_len_str : CallR X (.builtin "len") (fun xs H Q => ∃ z, xs = [.str z] ∧ z.length ≤ sizeLine ∧ Q (.int z.length) H) := by
  intro pins s σ H xs us Q I r h
  obtain ⟨z, rfl, hz, q⟩ := h
  obtain ⟨u, rfl, t, rfl⟩ := vals1 r
  have hn := line63
  exact len_str (by omega) ⟨.int z.length, H, I.tok _, ⟨_, rfl⟩, q⟩
theorem CallR.or {f : Value} {r r' : List V → Hp → VK → Prop} (h : CallR X f r) (h' : CallR X f r') : CallR X f (fun xs H Q => r xs H Q ∨ r' xs H Q) := by
  intro pins s σ H xs us Q I rs q
  rcases q with q | q
  · exact h pins s σ H xs us Q I rs q
  · exact h' pins s σ H xs us Q I rs q
theorem call_list_of : CallR X (.type "list") (fun xs H Q => ∃ p ys, xs = [.ref p] ∧ (SqL X.K H p ys ∨ SqT X.K H p ys) ∧ ∀ l, H l = none → Q (.ref l) (upd H l (.lst ys))) := by
  intro pins s σ H xs us Q I r h
  obtain ⟨p, ys, rfl, hq, q⟩ := h
  obtain ⟨u, rfl, rx⟩ := vals1 r
  cases rx
  have fin : ∀ (its : List Value), Vals ys its → ys.length ≤ sizeLine → ∀ (h' : Heap) (c' : Nat), (∀ b o', s.heap.get? b = some o' → h'.get? b = some o') →
      h'.get? s.heap.objs.size = some { cls := .type "list", dict := none, data := .seq its.toArray c', slots := #[] } → EP X pins σ Q (.ref s.heap.objs.size) { s with heap := h' } := fun its r' hz h' c' kp e =>
    ⟨.ref s.heap.objs.size, _, I.laid (t' := s.toks) kp (Nat.le_refl _) (show ObjOk X.prog X.w _ h' _ (.lst ys) from ⟨hz, its, c', r', e⟩), rfl, q _ (I.hok.fresh (Nat.le_refl _))⟩
  rcases hq with hq | hq
  · obtain ⟨its, r', pl, hz⟩ := I.list hq
    have hlen := r'.length
    obtain ⟨o, ho, hc, n, hd⟩ := pl.isList
    exact call_list_seq p (.inl rfl) ho hc hd (fun h' c' kp e => fin its r' hz h' c' kp e) (by simp only [List.size_toArray] <;> omega)
  · obtain ⟨its, r', pl, hz⟩ := I.tuple hq
    have hlen := r'.length
    obtain ⟨o, ho, hc, n, hd⟩ := pl
    exact call_list_seq p (.inr rfl) ho hc hd (fun h' c' kp e => fin its r' hz h' c' kp e) (by simp only [List.size_toArray] <;> omega)
theorem call_tuple_of : CallR X (.type "tuple") (fun xs H Q => ∃ p ys, xs = [.ref p] ∧ ((SqL X.K H p ys ∧ ∀ l, H l = none → Q (.ref l) (upd H l (.tup ys))) ∨ (SqT X.K H p ys ∧ Q (.ref p) H))) := by
  intro pins s σ H xs us Q I r h
  obtain ⟨p, ys, rfl, h⟩ := h
  obtain ⟨u, rfl, rx⟩ := vals1 r
  cases rx
  rcases h with ⟨hq, q⟩ | ⟨hq, q⟩
  · obtain ⟨its, r', pl, hz⟩ := I.list hq
    have hlen := r'.length
    refine call_tuple_list pl.isList (fun h' kp => ?_) (by simp only [List.size_toArray] <;> omega)
    have I1 : Inv X pins σ H { s with heap := h' } := I.kept (t' := s.toks) kp
    have I2 : Inv X pins σ (upd H h'.objs.size (.tup ys)) { s with heap := h'.push { cls := .type "tuple", data := .seq its.toArray } } :=
      I1.laid (t' := s.toks) (fun b o e => Heap.get?_push_of_some _ e) (Nat.le_refl _) (show ObjOk X.prog X.w _ _ _ (.tup ys) from ⟨hz, its, r', IsTup.new _ _⟩)
    exact ⟨.ref h'.objs.size, _, I2, rfl, q _ (I1.hok.fresh (Nat.le_refl _))⟩
  · obtain ⟨its, r', pl, hz⟩ := I.tuple hq
    exact call_tuple_same pl ⟨.ref p, H, I, rfl, q⟩

/-! ### the call of a builtin's method: o.m(..) -/
/-- the value is of that builtin type -/
def tyV (K : PySem.W.Frag) (T : String) (x : V) (H : Hp) : Prop := match x with
  | .str _ => T = "str"
  | .int _ => T = "int"
  | .ref p => (T = "list" ∧ ∃ xs, SqL K H p xs) ∨ (T = "tuple" ∧ ∃ o, K.lookup p = some o ∧ o.cls = .type "tuple" ∧ o.dict = none) ∨
      (T = "dict" ∧ ((∃ kvs, H p = some (.dK kvs)) ∨ ∃ kvs, H p = some (.dT kvs))) ∨ (T = "set" ∧ ∃ S n, H p = some (.set S n))
  | _ => False
theorem tyV_is {pins : List (Addr × Obj)} {σ : St} {H : Hp} {s : Shared} {T : String} {x : V} {v : Value} (I : Inv X pins σ H s) (r : RelV x v) (ty : tyV X.K T x H) :
    s.TypeIs v T ∧ ∀ a, v = .ref a → ∃ ob, s.heap.get? a = some ob ∧ ob.dict = none := by
  cases x with
  | str z =>
    obtain ⟨t, rfl⟩ := r
    cases (show T = "str" from ty)
    exact ⟨typeIs_str s z t, fun _ e => nomatch e⟩
  | int i =>
    obtain ⟨t, rfl⟩ := r
    cases (show T = "int" from ty)
    exact ⟨typeIs_int s i t, fun _ e => nomatch e⟩
  | ref p =>
    cases r
    rcases ty with ⟨rfl, xs, hq⟩ | ⟨rfl, o, hk, hc, hd⟩ | ⟨rfl, hk⟩ | ⟨rfl, S, n, hk⟩
    · obtain ⟨its, _, pl, _⟩ := I.list hq
      refine ⟨pl.isList.typeIs, fun a e => ?_⟩
      cases e
      obtain ⟨o, n, e, c, hd, _⟩ := pl
      exact ⟨o, e, hd⟩
    · refine ⟨⟨o, I.kIn p o hk, hc⟩, fun a e => ?_⟩
      cases e
      exact ⟨o, I.kIn _ o hk, hd⟩
    · have z : ∃ o, s.heap.get? p = some o ∧ o.ExactDict := by
        rcases hk with ⟨kvs, hk⟩ | ⟨kvs, hk⟩
        · obtain ⟨_, _, _, _, o, _, _, e, ex, _⟩ := I.hok p _ hk
          exact ⟨o, e, ex⟩
        · obtain ⟨_, _, _, _, o, _, _, e, ex, _⟩ := I.hok p _ hk
          exact ⟨o, e, ex⟩
      obtain ⟨o, e, ex⟩ := z
      refine ⟨⟨o, e, ex.1⟩, fun a e2 => ?_⟩
      cases e2
      exact ⟨o, e, ex.2.1⟩
    · obtain ⟨o, _, _, _, e, ex, _⟩ := I.hok p _ hk
      refine ⟨⟨o, e, ex.1⟩, fun a e2 => ?_⟩
      cases e2
      exact ⟨o, e, ex.2.1⟩
  | _ => exact False.elim ty
def tBM0 (K : PySem.W.Frag) (T : String) (r : V → List V → Hp → VK → Prop) (to : TE) : TE := fun σ H Q => to σ H fun x H1 => tyV K T x H1 ∧ r x [] H1 Q
def tBM (K : PySem.W.Frag) (T : String) (r : V → List V → Hp → VK → Prop) (to : TE) (t : TA) : TE := fun σ H Q => to σ H fun x H1 => tyV K T x H1 ∧ t σ H1 fun xs H2 => r x xs H2 Q
variable {o e : Expr} {es : List Expr} {to : TE} {t : TA} {name : Str} {apos cpos : Pos} {T id : String} {r : V → List V → Hp → VK → Prop}
theorem pe_bm (pa : PlainAttrs T) (slot : Slot T name id) (hty : typeOf (.builtin id) = pure (.type "method_descriptor")) (hm : MtR X id r) (ho : PE X o to) (ha : PA X (e :: es) t)
    (hbase : attributeBase o name X.env (eval o X.env) = eval o X.env := by rfl)
    (hfew : ((backTo cpos (starEach (e :: es) X.env)).all (fun x => !x.1) && (backToKw cpos (keywordEach [] X.env)).all (fun x => x.1.isSome)
      && decide ((e :: es).length + ([] : List Keyword).length + (if ([] : List Keyword).isEmpty then 0 else 1) < 30)) = true := by rfl)
    (hline : (apos.endLine == cpos.line) = true := by rfl) (hs : starEach (e :: es) X.env = (false, eval e X.env) :: starEach es X.env := by rfl) (hplain : (backTo cpos (starEach es X.env)).any (·.1) = false := by rfl) :
    PE X (.Call (.Attribute o name apos) (e :: es) [] cpos) (tBM X.K T r to t) := by
  intro pins s σ H Q I h
  refine wpAny_Call_method_late hbase hfew hline rfl (thn (ho pins s σ H _ I h) fun v s1 ⟨x, H1, I1, r1, ty, q1⟩ => ?_)
  obtain ⟨h1, h2⟩ := tyV_is I1 r1 ty
  refine ⟨T, id, pa, slot, hty, h1, h2, ?_⟩
  have hA := ha cpos pins s1 σ H1 _ I1 q1
  rw [hs] at hA ⊢
  refine Calls.callWith_builtin (by show (false || (backTo cpos (starEach es X.env)).any (·.1)) = false; rw [hplain] <;> rfl) (Calls.evalArgs_plain ?_)
  exact thn hA fun us s2 ⟨vs, H2, I2, r2, q2⟩ => hm pins s2 σ H2 x vs v us Q I2 r1 r2 q2
/- xs.append(e), list.index on a module's tuple .. are MtR facts of 06m -/
end
end L2

namespace L2
open PySem PySem.Spec PyProof.Rows

def MtM (X : Cx) (id : String) (r : V → List V → Hp → VK → Prop) : Prop :=
  ∀ (pins : List (Addr × Obj)) (s : Shared) (σ : St) (H : Hp) (x : V) (xs : List V) (v : Value) (us : List Value) (Q : VK), Inv X pins σ H s → RelV x v → Vals xs us → r x xs H Q →
    wpAny (model X.prog X.w) X.A (call (.builtin id) (v :: us)) (EP X pins σ Q) X.xe s

/-! ### lists of values -/
theorem Vals.one : ∀ {x : V} {us : List Value}, Vals [x] us → ∃ u, us = [u] ∧ RelV x u
  | _, _, .cons r .nil => ⟨_, rfl, r⟩
theorem Vals.two : ∀ {x y : V} {us : List Value}, Vals [x, y] us → ∃ u v, us = [u, v] ∧ RelV x u ∧ RelV y v
  | _, _, _, .cons r (.cons q .nil) => ⟨_, _, rfl, r, q⟩
theorem Vals.zero : ∀ {us : List Value}, Vals [] us → us = []
  | _, .nil => rfl
theorem Vals.dropLast {xs : List V} {us : List Value} (h : Vals xs us) : Vals xs.dropLast us.dropLast := by
  induction h with
  | nil => exact .nil
  | cons r t ih =>
    cases t with
    | nil => exact .nil
    | cons q t' => exact .cons r ih
theorem Vals.eraseIdx : ∀ {xs : List V} {us : List Value} (i : Nat), Vals xs us → Vals (xs.eraseIdx i) (us.eraseIdx i)
  | _, _, _, .nil => .nil
  | _, _, 0, .cons _ t => t
  | _, _, i + 1, .cons r t => .cons r (Vals.eraseIdx i t)
theorem Vals.reverse {xs : List V} {us : List Value} (h : Vals xs us) : Vals xs.reverse us.reverse := by
  induction h with
  | nil => exact .nil
  | cons r t ih => rw [List.reverse_cons, List.reverse_cons]; exact Vals.append ih (.cons r .nil)
section
variable {X : Cx} {pins : List (Addr × Obj)} {σ : St} {H : Hp} {s : Shared} {l b : Addr} {xs ys zs : List V}

/-! ### the two steps: a tracked list is rewritten, a new list is laid -/
theorem Inv.lset {its its' : List Value} {n : Nat} {f : Array Value → Array Value} {t' : Nat} (I : Inv X pins σ H s) (hH : H l = some (.lst xs))
    (e : s.heap.get? l = some { cls := .type "list", data := .seq its.toArray n }) (hf : f its.toArray = its'.toArray) (hv : Vals ys its') (hz : ys.length ≤ sizeLine) :
    Inv X pins σ (upd H l (.lst ys)) { s with heap := s.heap.update l (Obj.mapSeq f), toks := t' } := by
  have q := PySem.IsL.update e f
  rw [hf] at q
  refine I.write (x := l) (e := l) (by rw [hH]; exact trivial) (.inl rfl) (fun b' u hb hu => (Heap.get?_update_other s.heap (Obj.mapSeq f) (Ne.symm hb)).trans hu) ⟨_, q⟩ ?_
  exact ⟨hz, its', _, hv, q⟩
theorem Inv.fresh (I : Inv X pins σ H s) : H s.heap.objs.size = none := I.hok.fresh (Nat.le_refl _)
theorem Inv.lstM (I : Inv X pins σ H s) (hH : H l = some (.lst xs)) : xs.length ≤ sizeLine ∧ ∃ (its : List Value) (n : Nat), Vals xs its ∧ xs.length = its.length ∧ s.heap.get? l = some { cls := .type "list", data := .seq its.toArray n } := by
  obtain ⟨z, its, n, r, e⟩ := I.hok l _ hH
  exact ⟨z, its, n, r, r.length, e⟩

theorem notLongL {n : Nat} (h : n ≤ sizeLine) : Builtin.List.listTooLong n = false := by
  unfold Builtin.List.listTooLong
  exact decide_eq_false (by omega)
end

section
variable {X : Cx}

/-! ### methods -/
def rAppend : V → List V → Hp → VK → Prop := fun x vs H Q => ∃ l xs y, x = .ref l ∧ vs = [y] ∧ H l = some (.lst xs) ∧ xs.length < sizeLine ∧ Q .non (upd H l (.lst (xs ++ [y])))
theorem mt_append : MtM X "list.append" rAppend := by
  intro pins s σ H x vs v us Q I rx rv h
  obtain ⟨l, xs, y, rfl, rfl, hH, hz, q⟩ := h
  cases rx
  obtain ⟨u, rfl, ru⟩ := rv.one
  obtain ⟨z, its, n, r, hl, e⟩ := I.lstM hH
  refine call_meets F.slot_list_append ⟨_, e, rfl⟩ F.entry_list_append (F.args_list_append_2 _ _) (PySem.list_append l its.toArray n u (by rw [List.size_toArray]; omega)) ⟨e, ?_⟩
  refine ⟨.non, _, I.lset (its' := its ++ [u]) hH e (by simp) (r.append (.cons ru .nil)) ?_, rfl, q⟩
  rw [List.length_append, List.length_singleton]
  omega

def rExtend : V → List V → Hp → VK → Prop := fun x vs H Q => ∃ l b xs zs, x = .ref l ∧ vs = [.ref b] ∧ H l = some (.lst xs) ∧ H b = some (.lst zs) ∧ xs.length + zs.length ≤ sizeLine ∧ Q .non (upd H l (.lst (xs ++ zs)))
def rPop : V → List V → Hp → VK → Prop := fun x vs H Q => ∃ l xs y, x = .ref l ∧ vs = [] ∧ H l = some (.lst xs) ∧ xs[xs.length - 1]? = some y ∧ Q y (upd H l (.lst xs.dropLast))
def rPopAt : V → List V → Hp → VK → Prop := fun x vs H Q => ∃ l xs i k y, x = .ref l ∧ vs = [.int i] ∧ H l = some (.lst xs) ∧ -(2 ^ 63) ≤ i ∧ i < 2 ^ 63 ∧ seqIndex? i xs.length = some k ∧ xs[k]? = some y ∧ Q y (upd H l (.lst (xs.eraseIdx k)))
def rReverse : V → List V → Hp → VK → Prop := fun x vs H Q => ∃ l xs, x = .ref l ∧ vs = [] ∧ H l = some (.lst xs) ∧ Q .non (upd H l (.lst xs.reverse))
def rClear : V → List V → Hp → VK → Prop := fun x vs H Q => ∃ l xs, x = .ref l ∧ vs = [] ∧ H l = some (.lst xs) ∧ Q .non (upd H l (.lst []))
/-! ### list + list, list += list, list * int -/
def rCat : R2 := fun x y H Q => ∃ l b xs zs, x = .ref l ∧ y = .ref b ∧ H l = some (.lst xs) ∧ H b = some (.lst zs) ∧ xs.length + zs.length ≤ sizeLine ∧ ∀ p, H p = none → Q (.ref p) (upd H p (.lst (xs ++ zs)))
/-- a list times an int (a negative one is nothing) -/
def rRep : R2 := fun x y H Q => ∃ l k xs, x = .ref l ∧ y = .int k ∧ H l = some (.lst xs) ∧ -(2 ^ 63) ≤ k ∧ k < 2 ^ 63 ∧ xs.length * k.toNat ≤ sizeLine ∧
  ∀ p, H p = none → Q (.ref p) (upd H p (.lst (List.replicate k.toNat xs).flatten))
/-! ### del xs[i] -/
end

/-! ### xs[a:b] = ys -/
section
variable {prog : Program} {w : World} {A : Around} {E : Value → Shared → Prop} {s : Shared}
theorem bounds_run {a c n : Nat} (hac : a ≤ c) (hc : c ≤ n) : sliceBounds (some (a : Int)) (some (c : Int)) none n = ((a : Int), (c : Int), 1) := by
  simp only [sliceBounds, Option.getD_none]
  have h1 : ¬ ((a : Int) < 0) := by omega
  have h2 : ¬ ((c : Int) < 0) := by omega
  simp only [h1, h2, if_false, show (1 : Int) > 0 by decide, if_true]
  congr 1
  · omega
  · congr 1; omega
set_option maxRecDepth 100000 in
/-- list.__setitem__ with a slice of step one and another list -/
theorem setItem_slice {l b sl : Addr} {items new : Array Value} {n n2 : Nat} {vl vu : Value} {a c : Nat} {Q : Unit → Shared → Prop}
    (e : s.heap.get? l = some { cls := .type "list", data := .seq items n }) (e2 : s.heap.get? b = some { cls := .type "list", data := .seq new n2 }) (hne : l ≠ b)
    (hs : s.heap.IsSliceOf sl vl vu .none) (pl : IsPart vl (some (a : Int))) (pu : IsPart vu (some (c : Int))) (hac : a ≤ c) (hc : c ≤ items.size)
    (hsz : items.size + new.size ≤ sizeLine) (h : Q () { s with heap := s.heap.update l (Obj.mapSeq fun xs => xs.extract 0 a ++ new ++ xs.extract c xs.size) }) :
    wpAny (model prog w) A (setItem (.ref l) (.ref sl) (.ref b)) Q E s := by
  have hl : s.heap.IsList l items := PySem.IsL.isList e
  have hb : s.heap.IsList b new := PySem.IsL.isList e2
  obtain ⟨os, hos, hcs, hds⟩ := id hs
  have hTs : s.TypeIs (.ref sl) "slice" := ⟨os, hos, hcs⟩
  have hstep : ¬ ((rawPart none == rawInt 0) = true) := Bool.false_ne_true
  have hsame : Builtin.List.listSameRef (.ref l) (.ref b) = false := by
    unfold Builtin.List.listSameRef
    exact beq_eq_false_iff_ne.mpr hne
  have hmax : (max (a : Int) (c : Int)).toNat = c := by omega
  have hz' : ((fun xs : Array Value => xs.extract 0 a ++ new ++ xs.extract c xs.size) items).size ≤ sizeLine + 1 := by
    simp only [Array.size_append, Array.size_extract]
    omega
  unfold setItem
  try with_reducible refine wpAny_holding ?_
  first | refine wpAny_bind (wpAny_pure ?_) | skip
  refine wpAny_bind (wpAny_sequenceKey hl.typeIs (by decide) ?_)
  refine wpAny_bind (wpAny_callSpecial?_slot (name := Str.ofString "__setitem__") hl.typeIs slot_list_setitem
    (wpAny_call_entry slot_list_setitem hl.typeIs entry_list_setitem ?_ (args_list_setitem _ _ _)))
  show wpAny _ _ (Builtin.List.listSubscript? (.ref sl) >>= _) _ _ s
  refine wpAny_bind ?_
  unfold Builtin.List.listSubscript?
  refine wpAny_bind (wpAny_specialOf hTs slice_no_index ?_)
  simp only [Option.isNone_none, if_true]
  refine wpAny_pure ?_
  show wpAny _ _ (typeOf (.ref sl) >>= _) _ _ s
  refine wpAny_bind (wpAny_typeOf hTs ?_)
  first
    | rw [if_neg (by decide)]
    | refine PySem.W.KFB.if_not (by decide) ?_
  rw [listSliceParts_eq]
  refine wpAny_bind (wpAny_bind (wpAny_field hos hds (x := .none) rfl (wpAny_bind (wpAny_listPart .none ?_))))
  rw [if_neg hstep]
  refine wpAny_bind (wpAny_field hos hds (x := vl) rfl (wpAny_bind (wpAny_listPart pl ?_)))
  refine wpAny_bind (wpAny_field hos hds (x := vu) rfl (wpAny_bind (wpAny_listPart pu (wpAny_pure ?_))))
  first
    | simp only [hsame, Bool.false_eq_true, if_false]
    | refine PySem.W.KFB.if_not hsame ?_
    | (dsimp only
       rw [if_neg (by rw [hsame]; exact Bool.false_ne_true)])
  refine wpAny_bind (m := Builtin.List.listAllItems (.ref b) "must assign iterable to extended slice") ?_
  unfold Builtin.List.listAllItems
  refine wpAny_bind (wpAny_typeOf hb.typeIs ?_)
  first
    | refine PySem.W.KFB.if_so (by decide) ?_
    | rw [if_pos (by decide)]
    | simp only [beq_self_eq_true, Bool.true_or, if_true]
  unfold Builtin.List.listItems
  refine wpAny_bind (wpAny_seqItems e2 rfl (wpAny_pure ?_))
  refine wpAny_bind (wpAny_bind (wpAny_seqItems e rfl (wpAny_pure ?_)))
  refine wpAny_bind (wpAny_of_eq ((sliceIndices_raw (some (a : Int)) (some (c : Int)) none items.size (by simp)).trans (congrArg (pure : Int × Int × Int → Sem (Int × Int × Int)) (bounds_run hac hc))) ?_)
  show wpAny _ _ (if ((1 : Int) == 1) = true then _ else _) _ _ s
  rw [if_pos (by decide)]
  refine wpAny_bind (wpAny_rule ?_)
  first
    | simp only [notLongL hsz, Bool.false_eq_true, if_false]
    | refine PySem.W.KFB.if_not (notLongL hsz) ?_
  first | refine wpAny_bind (wpAny_pure ?_) | skip
  show wpAny _ _ (updateSeq l (fun xs => xs.extract 0 ((a : Int)).toNat ++ new ++ xs.extract (max (a : Int) (c : Int)).toNat xs.size) >>= _) _ _ s
  rw [hmax, Int.toNat_natCast]
  refine wpAny_bind (wpAny_updateSeq (hz := Nat.le_trans (Nat.le_add_right _ _) hsz) (_hz' := hz') e rfl ?_)
  refine wpAny_bind (wpAny_letGo ?_)
  first
    | exact wpAny_bind (wpAny_pure (wpAny_pure ⟨.none, rfl, wpAny_pure h⟩))
    | exact wpAny_pure ⟨.none, rfl, wpAny_pure h⟩
end

section
variable {X : Cx}
end
end L2

namespace Att
open PySem PySem.W PySem.Calls PyProof.Rows

/-! ### the script -/
theorem ints_of_wellAll {P : Params} {h : Heap} : ∀ (ns : List Int) (vs : List Value), WellAll P h vs (ns.map WData.int) → IntsAre vs ns := by
  intro ns
  induction ns with
  | nil =>
    intro vs w
    rw [List.map_nil] at w
    cases w
    exact .nil
  | cons n ns ih =>
    intro vs w
    rw [List.map_cons] at w
    cases w with
    | cons a b =>
      cases a
      exact .cons _ _ (ih _ b)

theorem script_of {l : OpenLaw} {n : Nat} (hn : l.most = some n) {P : Params} {h : Heap} {args : List WData} {vals : List Value}
    (hpre : l.row.toRowW.claim.pre args = true) (hwl : WellAll P h vals args) :
    ∃ a vs ns, vals = [Value.ref a] ∧ args = [WData.list (ns.map WData.int)] ∧ h.get? a = some { cls := .type "list", data := .seq vs.toArray } ∧ IntsAre vs ns ∧ ns.length ≤ n := by
  have hsh : WShape.hasAll [] args [.list .int] = true := (pre_splitW hpre).1
  have hc : l.pre.holds [] { args := args } = true := (pre_splitW hpre).2
  obtain ⟨d, r, rfl, h1, h2⟩ := hasAllW_cons hsh
  obtain rfl := hasAllW_nil h2
  obtain ⟨xs, rfl, h3⟩ := hasW_list h1
  obtain ⟨ns, rfl⟩ := items_int h3
  have hlen : ns.length ≤ n := by
    unfold OpenLaw.pre at hc
    have h4 : (WTm.not (.lt (.lit (.int (n : Int))) (.len (.arg 0)))).holds [] { args := [.list (ns.map .int)] } = true := by
      have h4 := (holds_andW hc).1
      rw [hn] at h4
      exact h4
    have h5 := condW_of h4 (w_not (w_lt w_lit (w_len_list (w_arg rfl))))
    rw [List.length_map] at h5
    refine Nat.le_of_not_lt fun q => ?_
    have q' : (n : Int) < ((ns.length : Nat) : Int) := by omega
    first
      | (rw [decide_eq_true q'] at h5; exact absurd h5 (by decide))
      | (simp at h5; omega)
  cases hwl with
  | cons w1 w2 =>
    cases w2
    cases w1 with
    | list ho hall => exact ⟨_, _, ns, rfl, rfl, ho, ints_of_wellAll ns _ hall, hlen⟩

theorem post_true (l : OpenLaw) (args : List WData) : l.row.toRowW.claim.post args (.bool true) args = true :=
  postW_of (r := l.row.toRowW) (X := (true == true))
    (show WShape.has [] (.bool true) .bool = true by first | rfl | decide | simp [WShape.has, WShape.arms, WShape.armsAll])
    (show (WTm.eq .res (.lit (.bool true))).value [] { args := args, res := some (.bool true), after := args } = some (.bool (true == true)) from w_eq_bool (w_res rfl) w_lit) rfl

/-! ### the attachment: holds_open's last premise (the goal 'hc' behind k_head) from a wpAny of the law's body -/
/-- the same from a codeAny of the CALL (for a layer whose function contracts speak of calls) -/
theorem attach_call {l : OpenLaw} {n : Nat} {q : Program} {loose : List Str} {XP : (Str → Option Value) → Heap → Prop} {YP : World → Heap → Prop} {d : DefRec}
    (hn : l.most = some n) (hdf : d.params.defaults = [])
    (call : ∀ (w : World) (s₀ s₁ : Shared) (mg mb : Str → Option Value) (fa : Addr) (o : Obj) (pm cd doc : Value) (a : Addr) (vs : List Value) (ns : List Int),
      Ground q loose [] XP w s₀ mg mb s₁.heap → YP w s₁.heap →
      s₁.heap.get? fa = some o → o.data = .func (docDef d.name d.params d.body d.scope pm cd doc) → s₁.heap.CodeRec cd d.name → mg d.name = some (.ref fa) →
      s₁.heap.get? a = some { cls := .type "list", data := .seq vs.toArray } → IntsAre vs ns → ns.length ≤ n → s₁.gens = #[] →
      codeAny (model l.prog w) callerA (.call (.ref fa) ⟨[.ref a], []⟩) (fun r s' => r = .ok (.ret (.bool true)) ∧ OldK s₁.heap s'.heap ∧ s'.os = s₁.os ∧ AllBare s'.gens) s₁) :
    WalkO q loose XP YP l.row.toRowW d [] (fun f vs => PySem.call f vs) := by
  intro w s₀ s₁ mg mb G Y fa o pm cd doc dV kV ho hd hcd hD hmg hg args vals as hpre hlay hrd hwl hlo
  obtain rfl : dV = .none := Dflts.none hD hdf
  obtain rfl : kV = .none := Dflts.noKw hD
  obtain ⟨a, vs, ns, rfl, rfl, hobj, hints, hlen⟩ := script_of hn hpre hwl
  refine enter_call (codeAny_mono (call w s₀ s₁ mg mb fa o pm cd doc a vs ns G Y ho (fd_plain hd) hcd hmg hobj hints hlen hg) fun r s' hq => ?_)
  obtain ⟨rfl, h2, h3, h4⟩ := hq
  exact ⟨.inl ⟨.bool true, .bool true, [], rfl, fun _ => rfl, .bool true, post_true l _, fun _ => ⟨List.Pairwise.nil, fun _ hm => (nomatch hm)⟩⟩, h2, h3, h4⟩

/-! ### rules over ANY heap (no ledger) from facts about the written part K: the library's own take a ledger (News) for what they write -/
section
variable {prog : Program} {w : World} {A : Around} {E : Value → Shared → Prop} {s : Shared} {K : Frag}

/-! the whole heap as the ledger: makes every rule that writes through a ledger a rule over any heap -/
def noObjs (h : Heap) : Heap := { h with objs := #[] }
def ledger (h : Heap) (L d : Addr) : List (Addr × Obj) := (List.range h.objs.size).filterMap fun a => if a = L ∨ a = d then none else (h.get? a).map fun o => (a, o)
end
end Att

namespace L2
open PySem PySem.Spec PyProof.Rows

theorem vals_ints : ∀ {vs : List Value} {ns : List Int}, IntsAre vs ns → Vals (ns.map V.int) vs
  | _, _, .nil => .nil
  | _, _, .cons n t h => .cons ⟨t, rfl⟩ (vals_ints h)

/-- nothing is tracked but the script, known to the object (or it is an object of the module) -/
def Only (H : Hp) : Prop := ∀ b, H b = none ∨ ∃ o xs, H b = some (.frz o (.lst xs))

/-- THE HEAD: the law's promise, at the heap behind the top. F, the promise of the law's def, may use that base is part of the heap (so K.In base, base.Ns mainGlobals mg stand in Mod) -/
theorem law_call {P : Program} {w : World} {K : PySem.W.Frag} {mg mb : Str → Option Value} {CX : CXT} {k : Nat} {fa a : Addr} {fd : FuncData} {x : Str} {sp : Sp} {s₁ : Shared} {vs : List Value} {ns : List Int}
    (KX : K.In s₁.heap) (hns : s₁.heap.Ns mainGlobals mg) (hb : s₁.heap.Ns builtinsNs mb) (hbb : ∀ x : Str, x ≠ "__name__" → mb x = bootBuiltins x) (hlim : s₁.heap.NoLimit) (hg : s₁.gens = #[])
    (ha : s₁.heap.get? a = some { cls := .type "list", data := .seq vs.toArray }) (hi : IntsAre vs ns) (hl : ns.length ≤ sizeLine) (hr : Room k callerA)
    (F : ∀ base : Heap, K.In base → base.Ns mainGlobals mg → FnOk P w K mg base CX k fa fd [x] sp) (hbind : ∀ (s : Shared) (u : Value), BindsTo s fd ⟨[u], []⟩ [(x, u)])
    (hsp : ∀ H : Hp, Only H → SqL K H a (ns.map V.int) → sp [.ref a] H (fun v _ => v = .bl true) fun _ _ _ => False)
    (hCX : ∀ H e s', CX [] H s₁ (fun _ _ _ => False) e s' → False) :
    codeAny (model P w) callerA (.call (.ref fa) ⟨[.ref a], []⟩) (fun r s' => r = .ok (.ret (.bool true)) ∧ OldK s₁.heap s'.heap ∧ s'.os = s₁.os ∧ AllBare s'.gens) s₁ := by
  have rv := vals_ints hi
  have lenV := hi.length
  -- from an abstract heap in which nothing but the script may be tracked
  have core : ∀ H : Hp, Only H → SqL K H a (ns.map V.int) → HOk P w H s₁.heap → (∀ b, H b ≠ none → b = a) → (H a ≠ none → K.lookup a = none) →
      codeAny (model P w) callerA (.call (.ref fa) ⟨[.ref a], []⟩) (fun r s' => r = .ok (.ret (.bool true)) ∧ OldK s₁.heap s'.heap ∧ s'.os = s₁.os ∧ AllBare s'.gens) s₁ := by
    intro H hO hS hok hA hK
    have base_of : ∀ {b : Addr} {o : Obj}, s₁.heap.get? b = some o → H b = none → (hidT s₁.heap H).get? b = some o := fun e n => hidT_get e n
    have noA : ∀ {b : Addr} {o : Obj} {es : Array DictEntry} {ep : Nat}, s₁.heap.get? b = some o → o.data = .dict es ep → H b = none := fun {b o es ep} e d => by
      cases q : H b with
      | none => rfl
      | some u =>
        have e' : b = a := hA b (by rw [q]; simp)
        subst e'
        rw [ha] at e; cases e
        have d' : Data.seq vs.toArray _ = Data.dict es ep := d
        cases d'
    have nsK : ∀ {b : Addr} {m : Str → Option Value}, s₁.heap.Ns b m → (hidT s₁.heap H).Ns b m := fun {b m} ⟨o, es, ep, e, d, r⟩ => ⟨o, es, ep, base_of e (noA e d), d, r⟩
    have hKb : K.In (hidT s₁.heap H) := fun b o e => base_of (KX b o e) (by
      cases q : H b with
      | none => rfl
      | some u =>
        have e' : b = a := hA b (by rw [q]; simp)
        subst e'
        rw [hK (by rw [q]; simp)] at e; cases e)
    have hM : Mod K mg (hidT s₁.heap H) := ⟨hKb, nsK hns, ⟨mb, nsK hb, hbb⟩, let ⟨mc, h1, h2⟩ := hlim; ⟨mc, nsK h1, h2⟩⟩
    have e0 : Env0 P w K mg (hidT s₁.heap H) callerA [] s₁ H := ⟨rfl, hM, fun b o e => of_hidT e, Nat.le_of_eq (hidT_size _ _), trivial, fun b hb => absurd (show b ∈ ([] : List Addr) from hb) (by simp), hok, .of_eq hg⟩
    refine codeAny_mono ((F _ hKb (nsK hns)).run callerA [] s₁ H ⟨[.ref a], []⟩ [.ref a] [.ref a] _ _ hr e0 (hbind s₁ (.ref a)) (.cons rfl .nil) (hsp H hO hS)) fun r s' h => ?_
    cases r with
    | error e => exact (hCX H e s' h).elim
    | ok fl =>
      cases fl with
      | next => exact False.elim h
      | brk => exact False.elim h
      | cont => exact False.elim h
      | ret u =>
        obtain ⟨v, H', os, bare, un, hok', r', q⟩ := h
        have q' : v = .bl true := q
        subst q'
        obtain rfl : u = Value.bool true := r'
        refine ⟨rfl, OldK.of_keep fun b o e => ?_, os, bare⟩
        cases q : H b with
        | none => exact un.keep b o e q (by intro z; exact absurd (show b ∈ ([] : List Addr) from z) (by simp)) (by simp)
        | some u =>
          rcases hO b with z | ⟨ob, xs, z⟩
          · rw [q] at z; cases z
          · have z2 := un.frzs b ob _ z
            obtain ⟨e1, _⟩ := hok b _ z
            obtain ⟨e2, _⟩ := hok' b _ z2
            rw [e] at e1; cases e1
            exact e2
  cases hk : K.lookup a with
  | some o =>
    -- the script is one of the module's own objects
    have e := KX a o hk
    rw [ha] at e
    cases e
    refine core (fun _ => none) (fun _ => .inl rfl) (.inr ⟨_, vs.toArray, _, hk, rfl, rfl, rfl, by rw [List.size_toArray, lenV]; exact hl, by simpa using rv⟩) (fun b u z => by have z' : (none : Option HO) = some u := z; cases z') (fun b z => absurd rfl z) fun z => absurd rfl z
  | none =>
    refine core (fun b => if b = a then some (.frz { cls := .type "list", data := .seq vs.toArray } (.lst (ns.map V.int))) else none) (fun b => ?_) (.inl (.inr ⟨{ cls := .type "list", data := .seq vs.toArray }, if_pos rfl⟩)) (fun b u z => ?_) (fun b z => ?_) fun _ => hk
    · by_cases hb : b = a
      · exact .inr ⟨_, _, if_pos hb⟩
      · exact .inl (if_neg hb)
    · by_cases hb : b = a
      · have z' := (if_pos hb).symm.trans z
        cases z'
        subst hb
        exact ⟨ha, by rw [List.length_map]; exact hl, vs, _, rv, ha⟩
      · have z' := (if_neg hb).symm.trans z
        cases z'
    · by_cases hb : b = a
      · exact hb
      · exact absurd (if_neg hb) z
end L2

namespace L2
open PySem PySem.Spec PyProof.Rows

abbrev KOf {K : PySem.W.Frag} {h : Heap} (_ : K.In h) : PySem.W.Frag := K

/-- the goal that k_head leaves (case hc), from the law's promise. F gives the function object fd (K's own) once, then the promise over every base -/
theorem walk_of {l : PySem.W.OpenLaw} {n k : Nat} {q : Program} {loose : List Str} {XP : (Str → Option Value) → Heap → Prop} {YP : World → Heap → Prop} {d : DefRec} {K : Params → PySem.W.Frag} {CX : World → CXT} {sp : World → Sp} {x : Str}
    (hn : l.most = some n) (hn2 : n ≤ sizeLine) (hdf : d.params.defaults = []) (hr : Room k callerA)
    (hY : ∀ (w : World) (h : Heap), YP w h → (K w.params).In h)
    (F : ∀ (w : World) (mg : Str → Option Value) (fa : Addr) (h : Heap), (K w.params).In h → h.Ns mainGlobals mg → mg d.name = some (.ref fa) →
      ∃ fd : FuncData, (∀ (s : Shared) (u : Value), BindsTo s fd ⟨[u], []⟩ [(x, u)]) ∧
        ∀ base : Heap, (K w.params).In base → base.Ns mainGlobals mg → FnOk l.prog w (K w.params) mg base (CX w) k fa fd [x] (sp w))
    (hsp : ∀ (w : World) (H : Hp) (a : Addr) (ns : List Int), ns.length ≤ n → Only H → SqL (K w.params) H a (ns.map V.int) → sp w [.ref a] H (fun v _ => v = .bl true) fun _ _ _ => False)
    (hCX : ∀ (w : World) (H : Hp) (s : Shared) (e : Value) (s' : Shared), CX w [] H s (fun _ _ _ => False) e s' → False) :
    PySem.W.WalkO q loose XP YP l.row.toRowW d [] (fun f vs => PySem.call f vs) := by
  refine Att.attach_call hn hdf fun w s₀ s₁ mg mb fa o pm cd doc a vs ns G Y ho hd hcd hmg hobj hints hlen hg => ?_
  have KX := hY w _ Y
  obtain ⟨fd, hb, hF⟩ := F w mg fa _ KX G.T.g hmg
  exact law_call KX G.T.g G.T.b G.T.builtins G.T.nolimit hg hobj hints (Nat.le_trans hlen hn2) hr hF hb (fun H hO hS => hsp w H a ns hlen hO hS) fun H e s' => hCX w H s₁ e s'
end L2

/- THE LAST THEOREM (shape; LID, My.* are yours):
   My.Adr: a structure of the addresses that your layer names (classes, functions); My.Txt K t: a structure (Prop) of the equations over K;
   My.txt_mk : {K} {implicit addresses ..} (e1 : nsIn K mainGlobals "law" = some (some (.ref f))) (e2 : K.lookup f = some ⟨oc, od, .func (fnOf "law" "law" params body scope dV kV doc pm an cdv ct), sl⟩) (e3 : codeIn K cdv "law" = true) .. : ∃ t, My.Txt K t

set_option maxRecDepth 100000 in
set_option maxHeartbeats 0 in
theorem PySem.Challenge.cw_LID_holds : PySem.Challenge.rw_LID.Holds := by
  w_on; o_law; k_head; (case hw => w_witness2)
  k_fill
  refine L2.walk_of (l := PySem.Challenge.rw_LID) (n := 63) (k := 40) (x := "script") (CX := fun w => ..) (sp := fun _ => My.sp_law) rfl (by decide) rfl ⟨rfl, by decide, by decide⟩ (fun w h Y => PySem.W.kIn_of Y) ?F ?S ?C
  case F =>
    intro w mg fa h KX G hmg
    have T : ∃ t, My.Txt (L2.KOf KX) t := by
      dsimp only [L2.KOf]                          -- K must stand as «<heap const> w.params» for k_is
      refine' My.txt_mk ?e1 ?e2 ?e3 ..
      (case e1 => PySem.W.k_is)                    -- in the order: a name -> its address -> its object -> its parts
      (case e2 => PySem.W.k_is)
      ..
    obtain ⟨t, T⟩ := T
    have e0 := hmg.symm.trans (PySem.W.mg_of KX G T.law)
    cases e0                                       -- fa is the law's own address
    exact ⟨_, fun s u => .of_eq rfl, fun base kb nb => My.law_fn T kb nb⟩     -- if «.of_eq rfl» comes too early: refine' ⟨_, ?b, fun base kb nb => My.law_fn T kb nb⟩; exact fun s u => .of_eq rfl
  case S => exact fun w H a ns hl hO hS => ..
  case C => exact ..
(the tactic k_is has no namespace: write k_is) -/

/-! SHORT WORDS over the layer: a def of the text, its body, what a loop and a test want. -/
namespace L2
open PySem PySem.Spec PyProof.Rows

/-! ### the text by places -/
/-- the j-th statement of a class's body -/
def inClass (s : Stmt) (j : Nat) : Stmt := match s with
  | .ClassDef _ _ _ body _ _ _ _ _ _ _ => body.getD j (.Pass ⟨0, 0, 0, 0⟩)
  | _ => .Pass ⟨0, 0, 0, 0⟩
def defArgs (s : Stmt) : Arguments := match s with
  | .FunctionDef _ a _ _ _ _ _ _ _ _ => a
  | _ => { posonlyargs := [], args := [], vararg := none, kwonlyargs := [], kw_defaults := [], kwarg := none, defaults := [] }
def defBody (s : Stmt) : List Stmt := match s with
  | .FunctionDef _ _ b _ _ _ _ _ _ _ => b
  | _ => []
def defScope (s : Stmt) : Scope := match s with
  | .FunctionDef _ _ _ _ _ _ sc _ _ _ => sc
  | _ => { kind := .function, names := [], isGenerator := false, isCoroutine := false }

/-! ### no exception leaves a def -/
abbrev CX0 : CXT := fun _ _ _ _ _ _ => False
abbrev E0 : XK := fun _ _ _ => False
theorem pass0 {X : Cx} : Passes CX0 X E0 := fun _ _ _ _ _ _ _ h => h.elim

/-! ### a def (or method) of the text as it stands behind the top -/
structure Fun (K : PySem.W.Frag) (x qual : Str) (st : Stmt) (f : Addr) (fd : FuncData) : Prop where
  ex : ∃ (oc : Value) (od : Option Addr) (kV doc pm : Value) (an : Option Addr) (cdv ct : Value) (osl : Array (Option Value)),
    fd = PySem.W.fnOf x qual (defArgs st) (defBody st) (defScope st) .none kV doc pm an cdv ct ∧ K.lookup f = some ⟨oc, od, .func fd, osl⟩ ∧ PySem.W.codeIn K cdv qual = true
  kp : PySem.W.keepIn K (.ref f) = true
section
variable {P : Program} {w : World} {K : PySem.W.Frag} {mg : Str → Option Value} {base : Heap}
/-- THE RULE for a def: its body as a term of rules, and the reading of that term -/
theorem Fun.ok {x qual : Str} {st : Stmt} {f : Addr} {fd : FuncData} {N ps : List Str} {k : Nat} {sp : Sp} (F : Fun K x qual st f fd) (S : FnScope N ps (defScope st)) (len : ∀ vs H Q E, sp vs H Q E → vs.length = ps.length)
    (hbody : ∀ (cdv : Value) (A : Around) (outer : List Env) (s : Shared) (H : Hp) (vs : List V) (Q : VK) (E : XK), Room k (A.deeper (envOfC qual (defScope st) s.heap.objs.size f cdv)) → sp vs H Q E →
      ∃ t, PSs (cxOf CX0 P w K mg base N qual (defScope st) f cdv A outer s H E).nox (defBody st) t ∧ t { nx := fun _ H' => Q .non H', rt := Q } (start N vs) H) : FnOk P w K mg base CX0 (k + 1) f fd ps sp := by
  obtain ⟨oc, od, kV, doc, pm, an, cdv, ct, osl, rfl, lk, hcd⟩ := F.ex
  refine fn_of lk hcd S len fun A outer s H vs Q E hr hsp => ?_
  obtain ⟨t, h, q⟩ := hbody cdv A outer s H vs Q E hr hsp
  exact ⟨t, h.nox, q⟩
/-- how its arguments bind (no defaults): h is «fun _ _ _ _ _ _ us hl => match us, hl with | [_, _], _ => rfl», one _ a parameter -/
theorem Fun.binds {x qual : Str} {st : Stmt} {f : Addr} {fd : FuncData} {ps : List Str} (F : Fun K x qual st f fd)
    (h : ∀ (kV doc pm : Value) (an : Option Addr) (cdv ct : Value) (us : List Value), us.length = ps.length → bindArgs (PySem.W.fnOf x qual (defArgs st) (defBody st) (defScope st) .none kV doc pm an cdv ct) ⟨us, []⟩ = pure (ps.zip us)) : Binds K fd ps [] := by
  obtain ⟨oc, od, kV, doc, pm, an, cdv, ct, osl, rfl, lk, hcd⟩ := F.ex
  exact .all (h kV doc pm an cdv ct)
theorem fun_mk {x qual : Str} {st : Stmt} {f : Addr} {oc : Value} {od an : Option Addr} {osl : Array (Option Value)} {kV doc pm cdv ct : Value} (l : K.lookup f = some ⟨oc, od, .func (PySem.W.fnOf x qual (defArgs st) (defBody st) (defScope st) .none kV doc pm an cdv ct), osl⟩)
    (c : PySem.W.codeIn K cdv qual = true) (k : PySem.W.keepIn K (.ref f) = true) : Fun K x qual st f (PySem.W.fnOf x qual (defArgs st) (defBody st) (defScope st) .none kV doc pm an cdv ct) := ⟨⟨oc, od, kV, doc, pm, an, cdv, ct, osl, rfl, l, c⟩, k⟩
end
/-! ### expressions in short: the name that stands in the i-th slot -/
section
variable {X : Cx}
theorem pv (i : Nat) {x : Str} {pos : Pos} (hN : X.N[i]? = some x := by rfl) (hv : Vis X.env.scope x := by first | exact Or.inl rfl | exact Or.inr (Or.inl rfl) | exact Or.inr (Or.inr rfl)) (hd : (x == ("__debug__" : Str)) = false := by decide)
    (hcd : (x == ("__classdict__" : Str)) = false := by decide) : PE X (.Name x pos) (tVar i) := pe_var hN hv hd hcd
end

/-! ### tests -/
theorem iteF {A B : Prop} (h : B) : if false = true then A else B := by
  rw [if_neg Bool.false_ne_true]
  exact h
theorem iteT {A B : Prop} (h : A) : if true = true then A else B := by
  rw [if_pos rfl]
  exact h
theorem iteNS {c A B : Prop} [Decidable c] (hc : c) (h : B) : if (!decide c) = true then A else B := by
  rw [decide_eq_true hc]
  exact iteF h

/-! ### heaps -/
/-- all that was tracked is as it was -/
def Same (H H' : Hp) : Prop := ∀ b o, H b = some o → H' b = some o
theorem Same.refl (H : Hp) : Same H H := fun _ _ h => h
theorem Same.trans {H H1 H2 : Hp} (a : Same H H1) (b : Same H1 H2) : Same H H2 := fun c o h => b c o (a c o h)
theorem Same.free {H H' : Hp} (e : Same H H') {l : Addr} (h : H' l = Option.none) : H l = Option.none := by
  cases q : H l with
  | none => rfl
  | some o =>
    rw [e l o q] at h
    cases h
theorem Same.seq {K : PySem.W.Frag} {H H' : Hp} {a : Addr} {xs : List V} (e : Same H H') (h : SqL K H a xs) : SqL K H' a xs := by
  rcases h with (h | ⟨o, h⟩) | h
  · exact .inl (.inl (e _ _ h))
  · exact .inl (.inr ⟨o, e _ _ h⟩)
  · exact .inr h

end L2
namespace L2
open PySem PySem.Spec PyProof.Rows

/-! ### great numbers -/
/-- below 2^n in size -/
def Bd (n : Nat) (i : Int) : Prop := i.natAbs < 2 ^ n
theorem Bd.mono {n m : Nat} {i : Int} (h : Bd n i) (k : n ≤ m) : Bd m i := Nat.lt_of_lt_of_le h (Nat.pow_le_pow_right (by decide) k)
theorem Bd.bits {n : Nat} {i : Int} (h : Bd n i) : Builtin.Int.intBits i ≤ n := by
  unfold Builtin.Int.intBits
  split
  · exact Nat.zero_le _
  · rename_i h0
    have hn : i.natAbs ≠ 0 := by
      intro z
      apply h0
      have : i = 0 := by omega
      simp [this]
    have : i.natAbs.log2 < n := (Nat.log2_lt hn).mpr h
    omega
theorem Bd.log {n : Nat} {i : Int} (h : Bd n i) (k : n ≤ 9000) : i.natAbs.log2 < 9000 := by
  rcases Nat.eq_zero_or_pos i.natAbs with h0 | hp
  · rw [h0]; decide +kernel
  · exact (Nat.log2_lt (by omega)).mpr (Nat.lt_of_lt_of_le h (Nat.pow_le_pow_right (by decide) k))
theorem Bd.neg {n : Nat} {i : Int} (h : Bd n i) : Bd n (-i) := by
  unfold Bd at *
  rw [Int.natAbs_neg]
  exact h
theorem Bd.of {n : Nat} {i : Int} (a : -(2 ^ n) < i) (b : i < 2 ^ n) : Bd n i := by
  unfold Bd
  have e : ((2 ^ n : Nat) : Int) = 2 ^ n := by norm_cast
  omega
theorem Bd.le {n : Nat} {i j : Int} (h : Bd n i) (k : j.natAbs ≤ i.natAbs) : Bd n j := Nat.lt_of_le_of_lt k h
section
variable {X : Cx} {a b c : Expr} {ta tb tc : TE} {pos : Pos}
def CMulB (i j : Int) : Prop := Bd 100000 i ∧ Bd 100000 j
def CDivB (i j : Int) : Prop := j ≠ 0 ∧ Bd 9000 j
theorem op_fdivB : OpR X (binaryOp .FloorDiv) (rI CDivB fun i j => .int (i.fdiv j)) := opI fun _ _ _ _ _ _ _ hc q =>
  floordiv_int hc.1 q (.inl (PyProof.noPylong_of_log2 (hc.2.log (Nat.le_refl _))))
/-! ### a list that is read and a list: + -/
def rCatL (K : PySem.W.Frag) : R2 := fun x y H Q => ∃ l b xs zs, x = .ref l ∧ y = .ref b ∧ SqL K H l xs ∧ SqL K H b zs ∧ xs.length + zs.length ≤ sizeLine ∧ ∀ p, H p = none → Q (.ref p) (upd H p (.lst (xs ++ zs)))
/-! ### == and != of tuples of flat things -/
theorem eqV_tail {x : V} (h : flatV x = true) : eqV x x = true := by
  cases x <;> simp_all [eqV, flatV]
/-- two lists of flat things are alike -/
def eqVs : List V → List V → Bool
  | [], [] => true
  | x :: xs, y :: ys => eqV x y && eqVs xs ys
  | _, _ => false
/-- the answers place by place -/
def ansV (xs ys : List V) (j : Nat) : Bool := match xs[j]?, ys[j]? with
  | some x, some y => eqV x y
  | _, _ => false
def rEqT (K : PySem.W.Frag) : R2 := fun x y H Q => ∃ l b xs ys, x = .ref l ∧ y = .ref b ∧ SqT K H l xs ∧ SqT K H b ys ∧ xs.all flatV = true ∧ ys.all flatV = true ∧ Q (.bl (eqVs xs ys)) H
def rNeT (K : PySem.W.Frag) : R2 := fun x y H Q => ∃ l b xs ys, x = .ref l ∧ y = .ref b ∧ SqT K H l xs ∧ SqT K H b ys ∧ xs.all flatV = true ∧ ys.all flatV = true ∧ Q (.bl (!eqVs xs ys)) H
/-! ### isinstance(x, c) -/
/-- c a class of Python's own, or one of the text's -/
def rIsi (K : PySem.W.Frag) : List V → Hp → VK → Prop := fun xs H Q => ∃ x c cv t b, xs = [x, c] ∧ (∀ u, RelV c u → u = cv) ∧ TyOf K H x t ∧ PySem.W.kitOne K t cv = some b ∧ Q (.bl b) H
theorem call_isi : CallR X (.builtin "isinstance") (rIsi X.K) := by
  intro pins s σ H xs us Q I r h
  obtain ⟨x, c, cv, t, b, rfl, hc, ty, e, q⟩ := h
  obtain ⟨u, w', rfl, r1, r2⟩ := vals2 r
  cases hc _ r2
  exact isinst_ok I r1 ty e fun tk => ⟨.bl b, H, I.tok tk, rfl, q⟩
end
/-! ### enumerate(xs) -/
def Ite (K : PySem.W.Frag) (a : Addr) : It :=
  ⟨fun i H => ∃ xs x, SqL K H a xs ∧ xs[i]? = some x,
   fun i H x H' => ∃ p y, x = .ref p ∧ H p = none ∧ H' = upd H p (.tup [.int i, y]) ∧ ∀ xs, SqL K H a xs → xs[i]? = some y,
   fun i H => ∃ xs, SqL K H a xs ∧ xs.length ≤ i⟩
theorem turn_enum {P : Program} {w : World} {K : PySem.W.Frag} {elts : List Expr} {x1} {tpos : Pos} (a e it : Addr) (hne : e ≠ it) :
    Turn P w K (.Tuple elts x1 tpos) (Ite K a) [e, it] e (fun i h => (∃ old, IsEnum h e it i old) ∧ h.IsListIter it a i) where
  mem := by simp
  obj := fun i h st b hb => by
    obtain ⟨⟨old, h1⟩, o, h2, c, d⟩ := st
    have e : b = e ∨ b = it := by simpa using hb
    rcases e with rfl | rfl
    · exact ⟨_, h1, fun v z => by
        have z' : Data.fields _ = Data.cell v := z
        cases z'⟩
    · exact ⟨o, h2, fun v z => by rw [d] at z; cases z⟩
  keep := fun i h h' st k => by
    obtain ⟨⟨old, h1⟩, h2⟩ := st
    exact ⟨⟨old, k e (by simp) _ h1⟩, h2.at fun o q => k it (by simp) o q⟩
  item := by
    intro X hP hw hK hc i pins s σ H E I hf st hg
    subst hP hw hK
    obtain ⟨⟨old, h1⟩, h2⟩ := st
    obtain ⟨xs, x, hq, hx⟩ := hg
    obtain ⟨its, rv, p, hz⟩ := I.list hq
    obtain ⟨u, hu, ru⟩ := rv.get hx
    obtain ⟨f0, f1, f2, f3, f4, f5⟩ := hf e (by simp)
    obtain ⟨g0, g1, g2, g3, g4, g5⟩ := hf it (by simp)
    refine wpAny_pyNext_enum_item h1 h2 p.isList (x := u) (by simpa using hu) hne fun h' a1 a2 a3 a4 a5 => ?_
    refine ⟨_, rfl, wpAny_letOwnedTupleGo_enum a1 fun h'' b1 b2 => ?_⟩
    have hpe : s.heap.objs.size ≠ e := Nat.ne_of_gt (Heap.lt_size h1)
    have hpi : s.heap.objs.size ≠ it := by
      obtain ⟨o, h2', _⟩ := h2
      exact Nat.ne_of_gt (Heap.lt_size h2')
    have hie : it ≠ e := Ne.symm hne
    have hp0 : H s.heap.objs.size = none := I.fresh
    have kp : ∀ b o, b ≠ e → b ≠ it → s.heap.get? b = some o → h''.get? b = some o := fun b o z1 z2 q => (b2.2 b z1).trans (a5 b o z1 z2 q)
    have tp : h''.get? s.heap.objs.size = some { cls := .type "tuple", data := .seq #[.int i s.toks, u] } := (b2.2 _ hpe).trans a3
    refine ⟨.ref s.heap.objs.size, upd H s.heap.objs.size (.tup [.int i, x]), ?_, rfl, ⟨_, x, rfl, hp0, rfl, fun ys hy => by rw [I.list_inj hy hq]; exact hx⟩, ⟨⟨u, b1⟩, a2.at fun o q => (b2.2 it hie).trans q⟩, fun b hb => ?_⟩
    · -- both records have turned, a tuple is laid
      have nt : ∀ b o, H b = some o → b ≠ e ∧ b ≠ it := fun b o q => ⟨ne_of_none q f0, ne_of_none q g0⟩
      have ok' : HOk X.prog X.w (upd H s.heap.objs.size (.tup [.int i, x])) h'' := fun b o q => by
        by_cases hb : b = s.heap.objs.size
        · subst hb
          rw [upd_same] at q
          cases q
          exact ⟨by show 2 ≤ sizeLine; decide, [.int i s.toks, u], .cons ⟨_, rfl⟩ (.cons ru .nil), _, tp, rfl, 0, rfl⟩
        · rw [upd_ne hb] at q
          refine (I.hok b o q).stay (fun c v hc q' => kp c v ?_ ?_ q') (fun c q' => by rw [upd_ne (ne_of_none q' hp0)]; exact q') fun c zs q' => by rw [upd_ne (ne_of_none q' hp0)]; exact q'
          · rcases hc with rfl | hc
            · exact (nt _ _ q).1
            · exact (nt _ _ hc).1
          · rcases hc with rfl | hc
            · exact (nt _ _ q).2
            · exact (nt _ _ hc).2
      have hL : X.env.locals ≠ s.heap.objs.size := by
        obtain ⟨m, ⟨o, _, _, ho, _⟩, _⟩ := id I.loc
        exact Nat.ne_of_lt (Heap.lt_size ho)
      have I3 : Inv X pins σ (upd H s.heap.objs.size (.tup [.int i, x])) { s with heap := h'', gens := s.gens, drawn := s.drawn, toks := s.toks + 1 } := by
       refine Inv.step (s := s) I (g' := s.gens) (d' := s.drawn) (ch := [e, it]) (fun b hb => ?_) (fun b o _ _ hc q _ => kp b o (fun z => hc (by simp [z])) (fun z => hc (by simp [z])) q)
        (fun b o _ _ hc q _ => ⟨o.slots, kp b o (fun z => hc (by simp [z])) (fun z => hc (by simp [z])) q⟩)
        (fun b o _ q n => by rw [upd_ne (Nat.ne_of_lt (Heap.lt_size q))]; exact n)
        (fun b o hc q => ⟨o, kp b o (fun z => hc (by simp [z])) (fun z => hc (by simp [z])) q⟩)
        (fun b zs q => by rw [upd_ne (ne_of_none q hp0)]; exact q) (fun b ob zs q => by rw [upd_ne (ne_of_none q hp0)]; exact q)
        (fun b ps q => ⟨#[], by rw [upd_ne (ne_of_none q hp0), q]; simp⟩) (fun m hm => ?_) ok' I.bare
       · have z : b = e ∨ b = it := by simpa using hb
         rcases z with rfl | rfl
         · exact ⟨f3, f1, f4, f5⟩
         · exact ⟨g3, g1, g4, g5⟩
       · obtain ⟨o, es, ep, ho, r⟩ := hm
         exact ⟨o, es, ep, kp _ o (Ne.symm f1) (Ne.symm g1) ho, r⟩
      exact I3
    · have z : b = e ∨ b = it := by simpa using hb
      rcases z with rfl | rfl
      · rw [upd_ne (Ne.symm hpe)]; exact f0
      · rw [upd_ne (Ne.symm hpi)]; exact g0
  done := by
    intro X hP hw hK hc i pins s σ H E I hf st hg
    subst hP hw hK
    obtain ⟨⟨old, h1⟩, h2⟩ := st
    obtain ⟨xs, hq, hx⟩ := hg
    obtain ⟨its, rv, p, hz⟩ := I.list hq
    obtain ⟨g0, g1, g2, g3, g4, g5⟩ := hf it (by simp)
    have hl := rv.length
    exact wpAny_pyNext_enum_end (I.ok.hd hc) h1 h2 p.isList (by simp; omega) fun h' eb => ⟨rfl, I.turned (t' := s.toks) (fun b o hb e => eb b o hb e) g0 g1 g3 g4 g5⟩
  self := fun _ _ _ _ _ st h => by
    obtain ⟨⟨old, h1⟩, h2⟩ := st
    exact wpAny_pyIter_enum h1 h
section
variable {X : Cx}
def iEnum (K : PySem.W.Frag) (ta : TA) : TI := fun σ H R => ta σ H fun vs H1 => ∃ a, vs = [.ref a] ∧ (∃ xs, SqL K H1 a xs) ∧ R (Ite K a) H1
theorem pi_enum {a : Expr} {ta : TA} {p pos : Pos} {elts : List Expr} {x1} {tpos : Pos} (hg : Gl X "enumerate") (hm : X.mg "enumerate" = none) (ha : PA X [a] ta) (hs : starEach [a] X.env = [(false, eval a X.env)] := by rfl) :
    PI X (.Tuple elts x1 tpos) (.Call (.Name "enumerate" p) [a] [] pos) (iEnum X.K ta) := by
  intro pins s σ H R I h
  refine Call_ (ld_blt I hg hm boot_enumerate (PyProof.Rows.callWith_type1 (thn (ha pos pins s σ H _ I h) fun us s1 ⟨vs, H1, I1, r1, q1⟩ => ?_) hs rfl))
  obtain ⟨l, e, ⟨xs, hq⟩, q⟩ := q1
  subst e
  obtain ⟨u, rfl, ru⟩ := vals1 r1
  cases ru
  obtain ⟨its, rv, p, hz⟩ := I1.list hq
  refine call_enumerate_list p.isList fun h' c1 c2 c3 c4 => ?_
  refine wpAny_pyIter_enum c1 ?_
  have I2 : Inv X pins σ H1 { s1 with heap := h' } := I1.kept (t' := s1.toks) c4
  refine ⟨_, [s1.heap.objs.size + 1, s1.heap.objs.size], _, _, H1, rfl, I2, turn_enum l _ _ (Nat.succ_ne_self _), ⟨⟨_, c1⟩, c2⟩, fun b hb => ?_, q⟩
  have z : b = s1.heap.objs.size + 1 ∨ b = s1.heap.objs.size := by simpa using hb
  rcases z with rfl | rfl
  · exact I1.fpOk (Nat.le_succ _) (I1.hok.fresh (Nat.le_succ _))
  · exact I1.fpOk (Nat.le_refl _) (I1.hok.fresh (Nat.le_refl _))
/-! ### a statement's ends meet -/
def tCut (t : TS) : TS := fun D σ H => ∃ M : St → Hp → Prop, t { D with nx := M } σ H ∧ ∀ σ' H', M σ' H' → D.nx σ' H'
theorem ps_cut {st : Stmt} {t : TS} (h : PS X st t) : PS X st (tCut t) := by
  intro pins s σ H D I ⟨M, h1, h2⟩
  refine thn (h pins s σ H _ I h1) fun f s' q => ?_
  cases f with
  | next => obtain ⟨σ', H', I', z⟩ := q; exact ⟨σ', H', I', h2 _ _ z⟩
  | brk => exact q
  | cont => exact q
  | ret u => exact q
/-- an expression's end is forgotten but for what is said of it -/
def tCutE (t : TE) : TE := fun σ H Q => ∃ M : VK, t σ H M ∧ ∀ v H', M v H' → Q v H'
end
end L2
namespace L2
open PySem PySem.Spec PyProof.Rows
section
variable {X : Cx}
def CMulX (i j : Int) : Prop := CMul i j ∨ CMulB i j
theorem op_mulX : OpR X (binaryOp .Mult) (rI CMulX fun i j => .int (i * j)) := opI fun _ _ _ _ _ _ _ hc q => by
  rcases hc with hc | hc
  · exact mul_int q hc.ok
  · exact mul_int q (IntMulOk.of_bits (Nat.le_trans hc.1.bits (by decide)) (Nat.le_trans hc.2.bits (by decide)))
theorem CMulX.l {i j : Int} (a : -(2 ^ 64) < i) (b : i < 2 ^ 64) : CMulX i j := .inl (.inl ⟨a, b⟩)
theorem CMulX.r {i j : Int} (a : -(2 ^ 64) < j) (b : j < 2 ^ 64) : CMulX i j := .inl (.inr ⟨a, b⟩)
theorem CMulX.b {n m : Nat} {i j : Int} (a : Bd n i) (b : Bd m j) (hn : n ≤ 100000 := by decide) (hm : m ≤ 100000 := by decide) : CMulX i j := .inr ⟨a.mono hn, b.mono hm⟩
end
/-- a tuple stands there, written out -/
theorem Same.upd {H : Hp} {p : Addr} {o : HO} (h : H p = none) : Same H (upd H p o) := fun b u e => by rw [upd_ne (ne_of_none e h)]; exact e
theorem Same.tup {K : PySem.W.Frag} {H H' : Hp} {a : Addr} {xs : List V} (e : Same H H') (h : H a = some (.tup xs)) : SqT K H' a xs := SqT.of (e _ _ h)
end L2
namespace L2
open PySem PySem.Spec PyProof.Rows
/-! ### C() of a class without an __init__ of its own -/
structure MkP (K : PySem.W.Frag) (C : Addr) : Prop where
  makes : PySem.W.makesIn K C = true
  init : PySem.W.findIn K (.ref C) "__init__" = some (some (.builtin "object.__init__"))
  kp : PySem.W.keepIn K (.ref C) = true
section
variable {X : Cx} {C : Addr} {x m : Str} {p pos apos : Pos} {e o : Expr} {es : List Expr} {ta : TE} {t : TA} {k : Nat}
def tMakeP (C : Addr) : TE := fun _ H Q => ∀ x dx, H x = none → H dx = none → dx ≠ x → Q (.ref x) (upd (upd H dx (.own x)) x (.ins C dx []))
theorem run_makeP {pins : List (Addr × Obj)} {σ : St} {H : Hp} {s : Shared} {Q : VK} (M : MkP X.K C) (I : Inv X pins σ H s)
    (h : ∀ x dx, H x = none → H dx = none → dx ≠ x → Q (.ref x) (upd (upd H dx (.own x)) x (.ins C dx []))) :
    wpAny (model X.prog X.w) X.A (call (.ref C) []) (EP X pins σ Q) X.xe s := by
  have I2 := Inv.made (C := C) I
  have hq := h (s.heap.objs.size + 1) s.heap.objs.size (I.hok.fresh (Nat.le_succ _)) (I.hok.fresh (Nat.le_refl _)) (Nat.ne_of_lt (Nat.lt_succ_self _))
  refine wpAny_call (make_map0 I.kIn M.makes M.init (fun self => PySem.W.Looks.of_pure (PySem.W.oi_bind self)) ?_)
  obtain ⟨hh, g, d, tk, os⟩ := s
  have Y := PySem.W.makes_of (M := model X.prog X.w) I.kIn M.makes
  have e2 : ((hh.push PySem.W.emptyDict).push (PySem.W.instObj C hh.objs.size)).get? (hh.objs.size + 1) = some (PySem.W.instObj C hh.objs.size) := by
    have := Heap.get?_push_size (hh.push PySem.W.emptyDict) (o := PySem.W.instObj C hh.objs.size) rfl
    rwa [Heap.size_push] at this
  have t1 : PySem.W.Looks (model X.prog X.w) ((hh.push PySem.W.emptyDict).push (PySem.W.instObj C hh.objs.size)) (typeOf (.ref (hh.objs.size + 1))) (.ref C) := (PySem.W.Looks.ld e2).andThen .now
  have t2 : PySem.W.Looks (model X.prog X.w) ((hh.push PySem.W.emptyDict).push (PySem.W.instObj C hh.objs.size)) (isInstance (.ref (hh.objs.size + 1)) (.type "object")) true := t1.andThen (Y.top.keeps fun b o e => Heap.get?_push_of_some _ (Heap.get?_push_of_some _ e))
  refine codeAny_call_builtin PySem.W.oi_plain PySem.W.entry_oi (@PySem.W.check_slot (model X.prog X.w) _ _ _ "object.__init__" "object" "__init__" (.ref (hh.objs.size + 1)) [] [] _ PySem.W.oi_kind PySem.W.oi_split t2 (PySem.W.oi_args (.ref (hh.objs.size + 1))) ?_)
  rw [PySem.W.oi_run]
  exact wpAny_pure (And.intro rfl ⟨V.ref (hh.objs.size + 1), _, I2, rfl, hq⟩)
theorem pe_makeP (M : MkP X.K C) (hg : Gl X x) (hm : X.mg x = some (.ref C)) (hdb : (x == ("__debug__" : Str)) = false := by decide) : PE X (.Call (.Name x p) [] [] pos) (tMakeP C) := by
  intro pins s σ H Q I h
  refine wpAny_Call_Name_kw (ld_glob I hg hm ?_ hdb)
  exact PySem.W.callWith_K0 I.kIn M.kp (run_makeP M I h)
/-! ### o.m(..) by the class that o has -/
structure MOk (P : Program) (w : World) (K : PySem.W.Frag) (mg : Str → Option Value) (base : Heap) (k : Nat) (C : Addr) (m : Str) (sp : Sp) : Prop where
  cl : Cls K C
  ok : ∃ f fd ps, Meth K C m f ∧ FnOk P w K mg base CX0 k f fd ps sp ∧ Binds K fd ps []
def tMethD (X : Cx) (k : Nat) (m : Str) (ta : TE) (t : TA) : TE := fun σ H Q => ta σ H fun x H1 => ∃ a C dx fs sp, x = .ref a ∧ H1 a = some (.ins C dx fs) ∧ MOk X.prog X.w X.K X.mg X.base k C m sp ∧ fs.lookup m = none ∧
  t σ H1 fun vs H2 => sp (x :: vs) H2 Q E0
theorem pe_methD0 {pl : Sem Bool} (hr : Room k X.A) (he : PE X o ta)
    (ht : eval (.Call (.Attribute o m apos) [] [] pos) X.env = (do
      let ov ← eval o X.env
      standAt apos.atName
      let (f, first) ← holding [ov] (getMethod ov m pl)
      callWith pos f first (backTo pos (starEach [] X.env)) (backToKw pos (keywordEach [] X.env))) := by rfl) :
    PE X (.Call (.Attribute o m apos) [] [] pos) (tMethD X k m ta tNil) := by
  intro pins s σ H Q I h
  refine PySem.W.methodCall_KW (pl := pl) (thn (he pins s σ H _ I h) fun u s1 ⟨x, H1, I1, rx, a, C, dx, fs, sp, ex, ea, mo, l, q⟩ => ?_) ht
  obtain ⟨c, f, fd, ps, hm, F, hb⟩ := mo
  subst ex
  obtain rfl : u = Value.ref a := rx
  refine getmeth_ok I1 ea c hm l ?_
  exact PySem.W.callWith_K0 (first := [.ref a]) I1.kIn hm.kp (run_fn (us := [.ref a]) (vs := [.ref a]) (dvs := []) F hr hb .nil pass0 I1 (.cons rfl .nil) q)
/-- what isinstance asks of an own class -/
structure InsTy (K : PySem.W.Frag) (C : Addr) : Prop where
  ha : PySem.W.findIn K (.ref C) "__class__" = some (some (.builtin "object.__class__"))
  hn : PySem.W.specialIn K (.builtin "object.__class__") "__get__" = some (some (.builtin "getset_descriptor.__get__"))
  htk : PySem.W.takesIn K (.builtin "object.__class__") = some true
  hm : PySem.W.mroIn K C (.type "object") = some true
theorem InsTy.ty {K : PySem.W.Frag} {C a dx : Addr} {H : Hp} {fs : List (Str × V)} (i : InsTy K C) (c : Cls K C) (e : H a = some (.ins C dx fs)) : TyOf K H (.ref a) (.ref C) := .ins e c i.ha i.hn i.htk i.hm
end
/-- isinstance of an own class, by what the text's classes say -/
theorem kit_ref {K : PySem.W.Frag} {C D : Addr} {b : Bool} (hd : PySem.W.hasDictIn K D = true) (ht : PySem.W.typeIn K (.ref D) = some (.type "type")) (hs : PySem.W.subIn K (.ref C) (.ref D) = some b)
    (hr : PySem.W.subIn K (.ref D) (.ref D) = some true) : PySem.W.kitOne K (.ref C) (.ref D) = some b := by
  obtain ⟨cd, hc, _⟩ := PySem.W.any_some hd
  unfold PySem.W.kitOne
  by_cases q : (Value.ref C == Value.ref D) = true
  · rw [if_pos q]
    have e : Value.ref C = Value.ref D := beq_iff_eq.mp q
    rw [e, hr] at hs
    exact hs
  · rw [if_neg q]
    unfold PySem.W.kitCls
    simp only
    rw [if_pos (by rw [hc, ht]; rfl)]
    exact hs
end L2
namespace L2
open PySem PySem.Spec PyProof.Rows
/-! ### exceptions of own classes -/
theorem ObjOk.get {P : Program} {w : World} {H : Hp} {h : Heap} {a : Addr} {o : HO} (x : ObjOk P w H h a o) : ∃ ob, h.get? a = some ob := by
  cases o with
  | lst xs => obtain ⟨_, _, _, _, e⟩ := x; exact ⟨_, e⟩
  | tup xs => obtain ⟨_, _, _, ob, e, _⟩ := x; exact ⟨_, e⟩
  | dK kvs => obtain ⟨_, _, _, _, o, _, _, e, _⟩ := x; exact ⟨_, e⟩
  | dT kvs => obtain ⟨_, _, _, _, o, _, _, e, _⟩ := x; exact ⟨_, e⟩
  | set S n => obtain ⟨o, _, _, _, e, _⟩ := x; exact ⟨_, e⟩
  | ins C dx fs => obtain ⟨_, _, _, e, _⟩ := x; exact ⟨_, e⟩
  | own y => obtain ⟨_, e⟩ := x; exact ⟨_, e⟩
  | xd fs => obtain ⟨_, ⟨_, _, _, e, _⟩, _⟩ := x; exact ⟨_, e⟩
  | rng lo hi => obtain ⟨_, _, _, e⟩ := x; exact ⟨_, e⟩
  | frz ob u => obtain ⟨e, _⟩ := x; exact ⟨_, e⟩
  | tbl ps => exact ⟨_, (show h.get? a = some _ from x)⟩
  | met f y => exact ⟨_, (show h.get? a = some _ from x)⟩
  | ext φ => obtain ⟨_, ⟨_, e⟩, _⟩ := x; exact ⟨_, e⟩
/-- B holds all that is tracked and all that stood at the beginning, but the frames -/
def Cov (fs : List Addr) (H' : Hp) (h0 h B : Heap) : Prop := ∀ b o, h.get? b = some o → b ∉ fs → (H' b ≠ none ∨ ∃ u, h0.get? b = some u) → B.get? b = some o
/-- from one station of a flying exception to the next -/
theorem un_move {fs : List Addr} {H0 H' : Hp} {h0 h h2 B : Heap} (u : Un fs [] H0 H' h0 h) (cv : Cov fs H' h0 h B) (st : B.StaysIn h2)
    (sl : ∀ b ∈ fs, ∀ o, h.get? b = some o → ∃ sl, h2.get? b = some { o with slots := sl }) : Un fs [] H0 H' h0 h2 where
  keep := fun b o e n hb hx => st b o (cv b o (u.keep b o e n hb hx) hb (.inr ⟨o, e⟩))
  slot := fun b o e n hb hx => by
    obtain ⟨s1, e1⟩ := u.slot b o e n hb hx
    obtain ⟨s2, e2⟩ := sl b hb _ e1
    exact ⟨s2, e2⟩
  free := u.free
  there := fun b o e hx => by
    obtain ⟨o1, e1⟩ := u.there b o e hx
    by_cases hb : b ∈ fs
    · obtain ⟨s2, e2⟩ := sl b hb _ e1
      exact ⟨_, e2⟩
    · exact ⟨o1, st b o1 (cv b o1 e1 hb (.inr ⟨o, e⟩))⟩
  tups := u.tups
  frzs := u.frzs
  tbls := u.tbls
theorem hok_move {P : Program} {w : World} {fs : List Addr} {H' : Hp} {h0 h h2 B : Heap} (ok : HOk P w H' h) (cv : Cov fs H' h0 h B) (st : B.StaysIn h2) (fr : ∀ b ∈ fs, H' b = none) : HOk P w H' h2 := fun a o e =>
  (ok a o e).stay (fun b v hb q => st b v (cv b v q (fun z => by
      rcases hb with rfl | hb
      · rw [fr _ z] at e; cases e
      · rw [fr _ z] at hb; cases hb) (.inl (by
      rcases hb with rfl | hb
      · rw [e]; exact fun z => nomatch z
      · rw [hb]; exact fun z => nomatch z)))) (fun _ q => q) fun _ _ q => q
theorem cov_move {P : Program} {w : World} {fs : List Addr} {H0 H' : Hp} {h0 h h2 B : Heap} (u : Un fs [] H0 H' h0 h) (ok : HOk P w H' h) (cv : Cov fs H' h0 h B) (st : B.StaysIn h2) : Cov fs H' h0 h2 B := fun b o e hb c => by
  have key : ∃ o1, h.get? b = some o1 := by
    rcases c with c | ⟨v, c⟩
    · cases q : H' b with
      | none => exact absurd q c
      | some x => exact (ok b x q).get
    · exact u.there b v c (by simp)
  obtain ⟨o1, e1⟩ := key
  have e2 := cv b o1 e1 hb c
  have e3 := st b o1 e2
  rw [e] at e3
  cases e3
  exact e2
/-- how an exception lies behind a call -/
def CXE (P : Program) (w : World) : CXT := fun outer H s E e s' => ∃ (ex t : Addr) (cls : Value) (H' : Hp) (B : Heap),
  e = .ref ex ∧ s'.os = s.os ∧ AllBare s'.gens ∧ Un (frs outer) [] H H' s.heap s'.heap ∧ HOk P w H' s'.heap ∧ Heap.FlyingW B outer ex cls (.ref t) s'.heap ∧ Cov (frs outer) H' s.heap s'.heap B ∧ s.heap.get? ex = none ∧ H' ex = none ∧ E cls none H'
theorem slots_of {B h h2 : Heap} {l : List Env} (ff : h.FunFrames B l) (up : h.UpToSlots h2) : ∀ b ∈ frs l, ∀ o, h.get? b = some o → ∃ sl, h2.get? b = some { o with slots := sl } := fun b hb o e => by
  obtain ⟨_, o', e', nf⟩ := ff.mem hb
  rw [e] at e'
  cases e'
  exact up b o e nf
section
variable {X : Cx} {pins : List (Addr × Obj)} {σ : St} {H : Hp} {s : Shared}
theorem none_there {fs ex : List Addr} {H0 H' : Hp} {h0 h : Heap} (u : Un fs ex H0 H' h0 h) {b : Addr} (hx : b ∉ ex) (e : h.get? b = none) : h0.get? b = none := by
  cases q : h0.get? b with
  | none => rfl
  | some o =>
    obtain ⟨o', e'⟩ := u.there b o q hx
    rw [e] at e'
    cases e'
theorem Inv.frf (I : Inv X pins σ H s) : ∀ b ∈ frs X.stack, H b = none := I.env0.frf
end
section
variable {P : Program} {w : World} {K : PySem.W.Frag} {mg : Str → Option Value} {base : Heap} {N : List Str} {qual : Str} {scope : Scope} {f : Addr} {cdv : Value} {A : Around} {outer : List Env} {s : Shared} {H : Hp} {E : XK}
  {pins : List (Addr × Obj)} {σ : St} {H1 : Hp} {s1 : Shared}
/-- an exception just made leaves the def -/
theorem xe_made {h2 : Heap} {ex C : Addr} {args : List Value} (I : Inv (cxOf (CXE P w) P w K mg base N qual scope f cdv A outer s H E) pins σ H1 s1)
    (hx : Heap.MadeExcOf s1.heap h2 ex (.ref C) args) (h : E (.ref C) none H1) : (cxOf (CXE P w) P w K mg base N qual scope f cdv A outer s H E).xe (.ref ex) { s1 with heap := h2 } := by
  have e0 := I.env0
  have stk : (cxOf (CXE P w) P w K mg base N qual scope f cdv A outer s H E).stack = envOfC qual scope s.heap.objs.size f cdv :: outer := rfl
  have hin : ∀ env ∈ (envOfC qual scope s.heap.objs.size f cdv :: outer), ∀ a, env.frame = some a → a ∈ frs (envOfC qual scope s.heap.objs.size f cdv :: outer) := fun env he a ha => List.mem_filterMap.mpr ⟨env, he, ha⟩
  have ff : s1.heap.FunFrames (PySem.W.hideAll s1.heap (frs (envOfC qual scope s.heap.objs.size f cdv :: outer))) (envOfC qual scope s.heap.objs.size f cdv :: outer) := PySem.W.funFrames_hide e0.funs hin
  have hkb : (PySem.W.hideAll s1.heap (frs (envOfC qual scope s.heap.objs.size f cdv :: outer))).StaysIn s1.heap := fun b o q => PySem.W.of_hideAll _ q
  show wpAny _ _ (leaving _ _) _ _ _
  refine wpAny_leaves_madeW (L := s.heap.objs.size) (s := { s1 with heap := h2 }) e0.frames rfl hkb ff hx fun h' t fl tup hBt up => ?_
  have ffo : s1.heap.FunFrames (PySem.W.hideAll s1.heap (frs (envOfC qual scope s.heap.objs.size f cdv :: outer))) outer := ff.2.2
  have u1 : Un (frs outer) [] H H1 s.heap s1.heap := I.base
  have hL : H1 s.heap.objs.size = none := I.free
  have cv : Cov (frs outer) H1 s.heap s1.heap (PySem.W.hideAll s1.heap (frs (envOfC qual scope s.heap.objs.size f cdv :: outer))) := fun b o e hb c => by
    refine PySem.W.hideAll_get _ e fun hm => ?_
    have hm' : b = s.heap.objs.size ∨ b ∈ frs outer := by
      have := hm
      unfold frs at this
      rw [List.filterMap_cons] at this
      exact List.mem_cons.mp this
    rcases hm' with rfl | hm'
    · rcases c with c | ⟨v, c⟩
      · exact c hL
      · exact absurd (Heap.lt_size c) (Nat.lt_irrefl _)
    · exact hb hm'
  have up2 : s1.heap.UpToSlots h' := (Heap.UpToSlots.of_keeps hx.keeps).trans up
  have sl := slots_of ffo up2
  have fr : ∀ b ∈ frs outer, H1 b = none := fun b hb => I.frf b (by
    show b ∈ frs (envOfC qual scope s.heap.objs.size f cdv :: outer)
    unfold frs
    rw [List.filterMap_cons]
    exact List.mem_cons_of_mem _ hb)
  have hexn : H1 ex = none := by
    cases q : H1 ex with
    | none => rfl
    | some x =>
      obtain ⟨ob, eo⟩ := (I.hok ex x q).get
      have := hx.new
      rw [eo] at this
      cases this
  exact ⟨ex, t, .ref C, H1, _, rfl, I.os, I.bare, un_move u1 cv fl.1 sl, hok_move I.hok cv fl.1 fr, fl, cov_move u1 I.hok cv fl.1, none_there u1 (by simp) hx.new, hexn, h⟩
/-- an exception of a callee leaves the def too -/
theorem xe_on {E' : XK} {e : Value} {s' : Shared} (I : Inv (cxOf (CXE P w) P w K mg base N qual scope f cdv A outer s H E) pins σ H1 s1)
    (h : CXE P w (cxOf (CXE P w) P w K mg base N qual scope f cdv A outer s H E).stack H1 s1 E' e s') (k : ∀ cls H', E' cls none H' → E cls none H') :
    (cxOf (CXE P w) P w K mg base N qual scope f cdv A outer s H E).xe e s' := by
  obtain ⟨ex, t, cls, H', B, rfl, ho, hg, u, ok, fl, cv, hn, hexn, hE⟩ := h
  have I' := I.call' (ch := []) ho u ok hg (fun _ z => nomatch z)
  have e0 := I'.env0
  have u1 : Un (frs outer) [] H H' s.heap s'.heap := I'.base
  have hL : H' s.heap.objs.size = none := I'.free
  show wpAny _ _ (leaving _ _) _ _ _
  refine wpAny_leaves_onW (L := s.heap.objs.size) e0.frames rfl fl fun h' fl' up => ?_
  have cv1 : Cov (frs outer) H' s.heap s'.heap B := fun b o e hb c => by
    have hb' : b ∉ frs (envOfC qual scope s.heap.objs.size f cdv :: outer) := fun hm => by
      have hm' : b = s.heap.objs.size ∨ b ∈ frs outer := by
        have := hm
        unfold frs at this
        rw [List.filterMap_cons] at this
        exact List.mem_cons.mp this
      rcases hm' with rfl | hm'
      · rcases c with c | ⟨v, c⟩
        · exact c hL
        · exact absurd (Heap.lt_size c) (Nat.lt_irrefl _)
      · exact hb hm'
    refine cv b o e hb' ?_
    rcases c with c | ⟨v, c⟩
    · exact .inl c
    · exact .inr (Un.there (show Un (frs outer) [] H H1 s.heap s1.heap from I.base) b v c (by simp))
  have ffo : s'.heap.FunFrames B outer := fl.2.2.1.2.2
  have sl := slots_of ffo up
  have fr : ∀ b ∈ frs outer, H' b = none := fun b hb => I'.frf b (by
    show b ∈ frs (envOfC qual scope s.heap.objs.size f cdv :: outer)
    unfold frs
    rw [List.filterMap_cons]
    exact List.mem_cons_of_mem _ hb)
  exact ⟨ex, t, cls, H', B, rfl, I'.os, I'.bare, un_move u1 cv1 fl'.1 sl, hok_move ok cv1 fl'.1 fr, fl', cov_move u1 ok cv1 fl'.1, none_there (show Un (frs outer) [] H H1 s.heap s1.heap from I.base) (by simp) hn, hexn, k _ _ hE⟩
end
/-! ### calls that may raise -/
/-- an exception that lies so reaches what the body wants -/
def PassesX (X : Cx) (XE : St → XK) : Prop := ∀ (pins : List (Addr × Obj)) (σ : St) (H : Hp) (s : Shared) (e : Value) (s' : Shared), Inv X pins σ H s → CXE X.prog X.w X.stack H s (XE σ) e s' → X.xe e s'
theorem passX_fn {P : Program} {w : World} {K : PySem.W.Frag} {mg : Str → Option Value} {base : Heap} {N : List Str} {qual : Str} {scope : Scope} {f : Addr} {cdv : Value} {A : Around} {outer : List Env} {s : Shared} {H : Hp} {E : XK} :
    PassesX (cxOf (CXE P w) P w K mg base N qual scope f cdv A outer s H E) (fun _ => E) := fun _ _ _ _ _ _ I h => xe_on I h fun _ _ z => z
def tCallX (sp : Sp) (XE : St → XK) (t : TA) : TE := fun σ H Q => t σ H fun vs H1 => sp vs H1 Q (XE σ)
section
variable {X : Cx} {k : Nat} {f C : Addr} {fd : FuncData} {ps : List Str} {sp : Sp} {XE : St → XK} {x m : Str} {p pos apos np cpos : Pos} {e o : Expr} {es : List Expr} {ta : TE} {t : TA}
theorem run_fnX {pins : List (Addr × Obj)} {σ : St} {H : Hp} {s : Shared} {Q : VK} {us : List Value} {vs : List V} (F : FnOk X.prog X.w X.K X.mg X.base (CXE X.prog X.w) k f fd ps sp) (hr : Room k X.A) (hb : Binds X.K fd ps []) (hx : PassesX X XE)
    (I : Inv X pins σ H s) (r : Vals vs us) (h : sp vs H Q (XE σ)) : wpAny (model X.prog X.w) X.A (call (.ref f) us) (EP X pins σ Q) X.xe s := by
  have hl : (us ++ []).length = ps.length := by rw [List.append_nil, ← r.length]; exact F.len _ _ _ _ h
  have hb' := hb s us I.kIn hl
  rw [List.append_nil] at hb'
  refine wpAny_call (codeAny_mono (F.run X.A X.stack s H ⟨us, []⟩ us vs Q (XE σ) hr I.env0 hb' r h) fun r s' hq => ?_)
  cases r with
  | error e => exact hx pins σ H s e s' I hq
  | ok fl =>
    cases fl with
    | ret u => exact I.after hq
    | next => exact False.elim hq
    | brk => exact False.elim hq
    | cont => exact False.elim hq
theorem pe_callX (F : FnOk X.prog X.w X.K X.mg X.base (CXE X.prog X.w) k f fd ps sp) (hr : Room k X.A) (hg : Gl X x) (hm : X.mg x = some (.ref f)) (hk : PySem.W.keepIn X.K (.ref f) = true) (hb : Binds X.K fd ps []) (hx : PassesX X XE)
    (ha : PA X (e :: es) t) (hdb : (x == ("__debug__" : Str)) = false := by decide) (he : starEach (e :: es) X.env = (false, eval e X.env) :: starEach es X.env := by rfl) (hpl : (backTo pos (starEach es X.env)).any (·.1) = false := by rfl) :
    PE X (.Call (.Name x p) (e :: es) [] pos) (tCallX sp XE t) := by
  intro pins s σ H Q I h
  refine wpAny_Call_Name_kw (ld_glob I hg hm ?_ hdb)
  refine PySem.W.callWith_K (h₀ := X.base) I.ok.mod.kin hk (thn (ha pos pins s σ H _ I h) fun us s1 ⟨vs, H1, I1, r, q⟩ => ⟨I1.kIn, ?_⟩) he hpl
  exact run_fnX F hr hb hx I1 r q
end
/-! ### raise C(..) in a def -/
/-- what of the text an exception class must have -/
structure XCls (K : PySem.W.Frag) (C : Addr) : Prop where
  ex : PySem.W.excIn K C [.type "ValueError", .type "Exception", .type "BaseException", .type "object"] "ValueError.__new__" = true
theorem XCls.obj {K : PySem.W.Frag} {C : Addr} (c : XCls K C) : ∃ nm q N bs bm hdct sn sub ab col dd k0 k1 k2 k3 k5, K.lookup C = some (excClassObj nm q C N bs bm hdct sn sub ab col dd k0 k1 k2 k3 k5 "ValueError.__new__") ∧
    PySem.W.tailIn K [.type "ValueError", .type "Exception", .type "BaseException", .type "object"] bm = true ∧ PySem.W.nsOkIn K N = true ∧ PySem.W.nsIn K N "__init__" = some none := by
  have q := c.ex
  unfold PySem.W.excIn at q
  split at q
  · rename_i dd cd sl ho
    split at q
    · rename_i C' bm k0 k1 k2 k3 n k5 hm hs
      simp only [Bool.and_eq_true, beq_iff_eq, Bool.not_eq_true'] at q
      obtain ⟨⟨⟨⟨⟨rfl, rfl⟩, hdel⟩, ht⟩, hok⟩, hni⟩ := q
      obtain ⟨nm, bs, mro, ns, qn, hd, sn, sub, ab, col, del⟩ := cd
      dsimp only at hm hdel hok hni
      subst hm hdel
      have hsl : sl = #[k0, k1, k2, k3, some (.builtin "ValueError.__new__"), k5] := by
        obtain ⟨l⟩ := sl
        simp only at hs
        rw [hs]
      subst hsl
      exact ⟨nm, qn, ns, bs, bm, hd, sn, sub, ab, col, dd, k0, k1, k2, k3, k5, ho, ht, hok, hni⟩
    · cases q
  · cases q
section
variable {P : Program} {w : World} {K : PySem.W.Frag} {mg : Str → Option Value} {base : Heap} {N : List Str} {qual : Str} {scope : Scope} {f C : Addr} {cdv : Value} {A : Around} {outer : List Env} {s : Shared} {H : Hp} {E : XK}
  {x : Str} {np cpos pos : Pos} {e₀ : Expr} {rest : List Expr} {t : TA}
def tRaise (C : Addr) (E : XK) (t : TA) : TS := fun _ σ H => t σ H fun vs H1 => vs.length ≤ sizeLine ∧ E (.ref C) none H1
theorem ps_raise (c : XCls K C) (hm : mg x = some (.ref C))
    (ha : PA (cxOf (CXE P w) P w K mg base N qual scope f cdv A outer s H E) (e₀ :: rest) t)
    (hg : Gl (cxOf (CXE P w) P w K mg base N qual scope f cdv A outer s H E) x := by rfl) (hdb : (x == ("__debug__" : Str)) = false := by decide)
    (he : starEach (e₀ :: rest) (cxOf (CXE P w) P w K mg base N qual scope f cdv A outer s H E).env = (false, eval e₀ (cxOf (CXE P w) P w K mg base N qual scope f cdv A outer s H E).env) :: starEach rest (cxOf (CXE P w) P w K mg base N qual scope f cdv A outer s H E).env := by rfl)
    (hpl : (backTo cpos (starEach rest (cxOf (CXE P w) P w K mg base N qual scope f cdv A outer s H E).env)).any (·.1) = false := by rfl) :
    PS (cxOf (CXE P w) P w K mg base N qual scope f cdv A outer s H E) (.Raise (some (.Call (.Name x np) (e₀ :: rest) [] cpos)) none pos) (tRaise C E t) := by
  intro pins s1 σ H1 D I h
  obtain ⟨nm, q, NN, bs, bm, hdct, sn, sub, ab, col, dd, k0, k1, k2, k3, k5, lk, ht, hok, hni⟩ := c.obj
  have hbase : bm.contains (.type "BaseException") = true := (PySem.W.tail_of_in I.kIn ht).hasType (by decide +kernel)
  have hkk : K.In s1.heap := I.kIn
  refine wpAny_Raise_call_subT (C := C) (nm := nm) (q := q) (N := NN) (bs := bs) (bm := bm) (hdct := hdct) (sn := sn) (sub := sub) (ab := ab) (col := col) (dd := dd) (k0 := k0) (k1 := k1) (k2 := k2) (k3 := k3) (k5 := k5) (mN := s1.heap.nsMap NN)
    F.excBase_ValueError hbase (I.ok.hd rfl) (by rw [he]; show (false || (backTo cpos (starEach rest _)).any (·.1)) = false; rw [hpl]; rfl) (PySem.W.nsMap_none_of_in hkk hok hni) ?_
  refine ld_glob I hg hm ?_ hdb
  refine ⟨rfl, ?_⟩
  have hargs := ha cpos pins s1 σ H1 _ I h
  rw [he] at hargs ⊢
  refine Calls.evalArgs_plain (thn hargs fun us s2 ⟨vs, H2, I2, r, hlen, q2⟩ => ?_)
  have k2' : K.In s2.heap := I2.kIn
  have keepN : s2.heap.Ns NN (s1.heap.nsMap NN) := by
    have n1 : s1.heap.Ns NN (s1.heap.nsMap NN) := .of_isNs (PySem.W.isNs_of_in hkk hok)
    obtain ⟨o, es, ep, e, r1⟩ := n1
    unfold PySem.W.nsOkIn at hok
    split at hok
    · rename_i c0 d0 es0 n0 sl0 ho
      have e1 := hkk _ _ ho
      rw [e] at e1
      cases e1
      exact ⟨_, es, ep, k2' _ _ ho, r1⟩
    · cases hok
  refine ⟨rfl, by show us.length ≤ sizeLine; rw [← r.length]; exact hlen, k2' _ _ lk, keepN, PySem.W.tail_of_in k2' ht, fun h' ex hx => ?_⟩
  exact xe_made I2 hx q2
end
end L2
namespace L2
open PySem PySem.Spec PyProof.Rows
/-! ### try: .. except C as n: .. -/
def tryXe (X : Cx) (XE : St → XK) : Value → Shared → Prop := fun e s' => ∃ pins σ H s, Inv X.nox pins σ H s ∧ CXE X.prog X.w X.stack H s (XE σ) e s'
/-- the body of a try -/
abbrev tryCx (X : Cx) (pins : List (Addr × Obj)) (XE : St → XK) : Cx := { X with pn := X.pn ++ pins, xe := tryXe { X with pn := X.pn ++ pins } XE }
theorem passX_try {X : Cx} {pins : List (Addr × Obj)} {XE : St → XK} : PassesX (tryCx X pins XE) XE := fun pins' σ H s e s' I h => ⟨pins', σ, H, s, Inv.wish (X := tryCx X pins XE) I _, h⟩
theorem Cx.Ok.pn {X : Cx} (ok : X.Ok) (p : List (Addr × Obj)) (E : Value → Shared → Prop) : Cx.Ok { X with pn := p, xe := E } :=
  ⟨ok.mod, ok.kind, ok.glob, ok.blt, ok.above, ok.inj, ok.has, ok.cab, ok.hd, ok.frames, ok.stk, ok.exf, ok.bs, ok.bsz, ok.noex, ok.exfs, ok.funs, ok.frf⟩
/-- the pins move into the context, and back -/
theorem Inv.intoPn {X : Cx} {pins : List (Addr × Obj)} {σ : St} {H : Hp} {s : Shared} (I : Inv X pins σ H s) (E : Value → Shared → Prop) : Inv { X with pn := X.pn ++ pins, xe := E } [] σ H s :=
  ⟨I.ok.pn _ _, I.os, I.bare, I.base, I.loc, I.cell, I.free, I.freeC, (by rw [List.append_nil]; exact I.pin), I.hok, I.len⟩
theorem Cx.Ok.unpn {X : Cx} {p : List (Addr × Obj)} {E : Value → Shared → Prop} (ok : Cx.Ok { X with pn := p, xe := E }) : X.Ok :=
  ⟨ok.mod, ok.kind, ok.glob, ok.blt, ok.above, ok.inj, ok.has, ok.cab, ok.hd, ok.frames, ok.stk, ok.exf, ok.bs, ok.bsz, ok.noex, ok.exfs, ok.funs, ok.frf⟩
theorem Inv.outPn {X : Cx} {pins pins' : List (Addr × Obj)} {σ : St} {H : Hp} {s : Shared} {E : Value → Shared → Prop} (I : Inv { X with pn := X.pn ++ pins, xe := E } pins' σ H s) : Inv X pins σ H s :=
  ⟨I.ok.unpn, I.os, I.bare, I.base, I.loc, I.cell, I.free, I.freeC, fun p hp => I.pin p (List.mem_append_left _ hp), I.hok, I.len⟩
/-- within an except suite -/
abbrev Cx.handling (X : Cx) (e : Value) : Cx := { X with A := X.A.mark (some e), calm := false, xe := fun _ _ => False }
theorem Inv.handle {X : Cx} {pins : List (Addr × Obj)} {σ : St} {H : Hp} {s : Shared} (I : Inv X pins σ H s) (e : Value) : Inv (X.handling e) pins σ H s :=
  ⟨⟨I.ok.mod, I.ok.kind, I.ok.glob, I.ok.blt, I.ok.above, I.ok.inj, I.ok.has, I.ok.cab, (fun z => nomatch z), I.ok.frames, I.ok.stk, I.ok.exf, I.ok.bs, I.ok.bsz, I.ok.noex, I.ok.exfs, I.ok.funs, I.ok.frf⟩,
   I.os, I.bare, I.base, I.loc, I.cell, I.free, I.freeC, I.pin, I.hok, I.len⟩
theorem Inv.unhandle {X : Cx} {pins : List (Addr × Obj)} {σ : St} {H : Hp} {s : Shared} {e : Value} (I : Inv (X.handling e) pins σ H s) (hd : X.calm = true → X.A.handled = none) (hf : X.A.frames = some X.stack) : Inv X pins σ H s :=
  ⟨⟨I.ok.mod, I.ok.kind, I.ok.glob, I.ok.blt, I.ok.above, I.ok.inj, I.ok.has, I.ok.cab, hd, hf, I.ok.stk, I.ok.exf, I.ok.bs, I.ok.bsz, I.ok.noex, I.ok.exfs, I.ok.funs, I.ok.frf⟩,
   I.os, I.bare, I.base, I.loc, I.cell, I.free, I.freeC, I.pin, I.hok, I.len⟩
/-- an exception of the class at C, kept -/
def ExcO (ex C : Addr) : HO := .ext fun h => ∃ o vs, h.get? ex = some o ∧ o.cls = .ref C ∧ o.data = .fields vs
section
variable {X : Cx} {pins : List (Addr × Obj)} {σ : St} {H : Hp} {s : Shared}
/-- the frame's own names are rewritten -/
theorem Inv.locals {h' : Heap} {m' : Str → Option Value} {σ' : St} {t' : Nat} (I : Inv X pins σ H s) (hs : Heap.SameBut X.env.locals s.heap h') (hn' : h'.Ns X.env.locals m')
    (hl : ∀ (i : Nat) (x : Str) (v : V), X.N[i]? = some x → σ'[i]? = some (some v) → Vis X.env.scope x → ∃ u, RelV v u ∧ Look X.env h' m' x u) (len : σ'.length = σ.length) : Inv X pins σ' H { s with heap := h', toks := t' } := by
  have cne := I.cne
  obtain ⟨m, ⟨oL, _, _, hoL, _⟩, _⟩ := id I.loc
  refine ⟨I.ok, I.os, I.bare, ⟨fun b o e n hb hx => ?_, fun b o e n hb hx => ?_, I.base.free, fun b o e hx => ?_, I.base.tups, I.base.frzs, I.base.tbls⟩, ⟨_, hn', hl⟩, fun y c e => ?_, I.free, I.freeC, fun p hp => ?_, fun b ob e => ?_, len.trans I.len⟩
  · exact (hs.2 b (Nat.ne_of_lt (Nat.lt_of_lt_of_le (Heap.lt_size e) I.ok.above))).trans (I.base.keep b o e n hb hx)
  · obtain ⟨sl, e1⟩ := I.base.slot b o e n hb hx
    exact ⟨sl, (hs.2 b (Nat.ne_of_lt (Nat.lt_of_lt_of_le (Heap.lt_size e) I.ok.above))).trans e1⟩
  · obtain ⟨o', e1⟩ := I.base.there b o e hx
    exact ⟨o', (hs.2 b (Nat.ne_of_lt (Nat.lt_of_lt_of_le (Heap.lt_size e) I.ok.above))).trans e1⟩
  · obtain ⟨w', z⟩ := I.cell y c e
    exact ⟨w', z.sameBut hs (cne y c e)⟩
  · obtain ⟨e, n, ne, nf, d⟩ := I.pin p hp
    exact ⟨(hs.2 p.1 ne).trans e, n, ne, nf, d⟩
  · refine (I.hok b ob e).stay (fun c w' hc q => (hs.2 c ?_).trans q) (fun _ q => q) fun _ _ q => q
    rintro rfl
    rcases hc with rfl | hc
    · rw [I.free] at e; cases e
    · rw [I.free] at hc; cases hc
/-- from one station to the next, in the def that catches -/
theorem Inv.move {H0 : Hp} {h0 h2 B : Heap} {st : List Env} (I : Inv X pins σ H s) (hst : X.stack = st) (cv : Cov (frs st) H h0 s.heap B) (stay : B.StaysIn h2) (up : s.heap.UpToSlots h2)
    (ff : s.heap.FunFrames B st) (hpin : ∀ p ∈ X.pn ++ pins, ∃ u, h0.get? p.1 = some u) (u0 : ∀ b o, X.s₀.heap.get? b = some o → ∃ u, h0.get? b = some u) (hex : X.ex = []) (hsub : ∀ b ∈ X.fs, b ∈ frs st) : Inv X pins σ H { s with heap := h2 } := by
  subst hst
  have fr := I.frf
  have sl := slots_of ff up
  have hpn : ∀ p ∈ X.pn ++ pins, p.1 ∉ frs X.stack := fun p hp z => by
    have := I.pin p hp
    exact (List.mem_cons.mp (I.stkSub p.1 z)).elim this.2.2.1 this.2.2.2.1
  refine ⟨I.ok, I.os, I.bare, ⟨fun b o e n hb hx => ?_, fun b o e n hb hx => ?_, I.base.free, fun b o e hx => ?_, I.base.tups, I.base.frzs, I.base.tbls⟩, ?_, fun y c e => ?_, I.free, I.freeC, fun p hp => ?_, hok_move I.hok cv stay fr, I.len⟩
  · have e1 := I.base.keep b o e n hb hx
    refine stay b o (cv b o e1 (fun z => ?_) (.inr (u0 b o e)))
    rcases List.mem_cons.mp (I.stkSub b z) with z | z
    · exact absurd z (Nat.ne_of_lt (Nat.lt_of_lt_of_le (Heap.lt_size e) I.ok.above))
    · exact hb z
  · obtain ⟨s1, e1⟩ := I.base.slot b o e n hb hx
    obtain ⟨s2, e2⟩ := sl b (hsub b hb) _ e1
    exact ⟨s2, e2⟩
  · obtain ⟨o1, e1⟩ := I.base.there b o e hx
    by_cases hb : b ∈ frs X.stack
    · obtain ⟨s2, e2⟩ := sl b hb _ e1
      exact ⟨_, e2⟩
    · exact ⟨o1, stay b o1 (cv b o1 e1 hb (.inr (u0 b o e)))⟩
  · obtain ⟨m, hn, hl⟩ := I.loc
    refine ⟨m, up.ns hn, fun i x v a1 a2 a3 => ?_⟩
    obtain ⟨u, r, q⟩ := hl i x v a1 a2 a3
    refine ⟨u, r, ?_⟩
    rcases q with q | ⟨k, c, e, z⟩
    · exact .inl q
    · refine .inr ⟨k, c, e, ?_⟩
      obtain ⟨oc, ho, hd⟩ := z
      obtain ⟨sl2, e2⟩ := up c oc ho fun vs q => by rw [hd] at q; cases q
      exact ⟨_, e2, hd⟩
  · obtain ⟨w', oc, ho, hd⟩ := I.cell y c e
    obtain ⟨sl2, e2⟩ := up c oc ho fun vs q => by rw [hd] at q; cases q
    exact ⟨w', _, e2, hd⟩
  · obtain ⟨e, n, ne, nf, d⟩ := I.pin p hp
    exact ⟨stay p.1 p.2 (cv p.1 p.2 e (hpn p hp) (.inr (hpin p hp))), n, ne, nf, d⟩
end
/-- does the exception's class stand under the clause's -/
theorem excMatches_own {M : Model} {A : Around} {E : Value → Shared → Prop} {s : Shared} {K : PySem.W.Frag} {ex C W : Addr} {oe : Obj} {b : Bool} {Q : Bool → Shared → Prop} (X : K.In s.heap) (he : s.heap.get? ex = some oe) (hc : oe.cls = .ref C)
    (hT : PySem.W.typeIn K (.ref W) = some (.type "type")) (hcl : (PySem.W.clsIn K W).isSome = true) (hB : PySem.W.subIn K (.ref W) (.type "BaseException") = some true) (hs : PySem.W.subIn K (.ref C) (.ref W) = some b) (h : Q b s) :
    wpAny M A (excMatches (.ref ex) (.ref W)) Q E s := by
  obtain ⟨hp, g, d, tk, os⟩ := s
  have L1 : PySem.W.Looks M hp (typeOf (.ref W)) (.type "type") := PySem.W.looks_typeIn X hT
  have L2 : PySem.W.Looks M hp (isInstance (.ref W) (.type "tuple")) false := L1.andThen (PySem.W.Looks.of_pure tc_notTuple)
  have L3 : PySem.W.Looks M hp (isType (.ref W)) true := by
    unfold PySem.W.clsIn at hcl
    split at hcl
    · rename_i c' d' cd' sl' ho
      intro A' Q' E' s' k q
      unfold isType loadHead
      exact wpAny_bind (wpAny_loadPart (k _ _ (X _ _ ho)) (wpAny_pure q))
    · cases hcl
  have L4 : PySem.W.Looks M hp (isSubtype (.ref W) (.type "BaseException")) true := PySem.W.looks_subIn X hB
  have L5 : PySem.W.Looks M hp (typeOf (.ref ex)) (.ref C) := by rw [← hc]; exact (PySem.W.Looks.ld he).andThen .now
  have L6 : PySem.W.Looks M hp (isSubtype (.ref C) (.ref W)) b := PySem.W.looks_subIn X hs
  unfold excMatches
  refine wpAny_bind (L2.at ?_)
  simp only [Bool.false_eq_true, if_false]
  refine wpAny_bind (wpAny_pure ?_)
  simp only [List.forIn_cons, List.forIn_nil, bind_assoc, pure_bind]
  unfold isExcClass
  refine wpAny_bind (wpAny_bind (L3.at ?_))
  simp only [if_true]
  refine L4.at ?_
  simp only [Bool.not_true, Bool.false_eq_true, if_false, pure_bind]
  refine wpAny_bind (L5.at ?_)
  refine wpAny_bind (L6.at ?_)
  cases b <;> exact wpAny_pure h
/-- what a clause's class must have -/
structure WCls (K : PySem.W.Frag) (W : Addr) : Prop where
  ty : PySem.W.typeIn K (.ref W) = some (.type "type")
  cl : PySem.W.isClsIn K W = true
  base : PySem.W.subIn K (.ref W) (.type "BaseException") = some true
def tTryAs (K : PySem.W.Frag) (W : Addr) (j : Nat) (tb : (St → XK) → TS) (ts : TS) : TS := fun D σ H => ∃ XE : St → XK, tb XE D σ H ∧
  ∀ σ' H' cls, XE σ' cls none H' → ∃ C, cls = .ref C ∧ PySem.W.subIn K (.ref C) (.ref W) = some true ∧ ∀ ex, H' ex = none →
    ts { nx := fun σ2 H2 => D.nx (σ2.set j none) H2, rt := D.rt, bk := fun σ2 H2 => D.bk (σ2.set j none) H2, ct := fun σ2 H2 => D.ct (σ2.set j none) H2 } (σ'.set j (some (.ref ex))) (upd H' ex (ExcO ex C))
end L2
namespace L2
open PySem PySem.Spec PyProof.Rows
/-! ### isinstance of an exception -/
/-- what of the text isinstance asks of an exception's class -/
structure XTy (K : PySem.W.Frag) (C : Addr) : Prop where
  ga : PySem.W.findIn K (.ref C) "__getattribute__" = some (some (.builtin "BaseException.__getattribute__"))
  gn : PySem.W.findIn K (.ref C) "__getattr__" = some none
  cl : PySem.W.findIn K (.ref C) "__class__" = some (some (.builtin "object.__class__"))
  ob : PySem.W.mroIn K C (.type "object") = some true
  be : PySem.W.mroIn K C (.type "BaseException") = some true
  ic : PySem.W.isClsIn K C = true
section
variable {prog : Program} {w : World} {A : Around} {E : Value → Shared → Prop} {K : PySem.W.Frag} {h : Heap} {g : Array GenState} {d : Drawn} {t : Nat} {os : OsState} {a C : Addr} {o : Obj}
end
section
variable {X : Cx}
/-- isinstance(x, (C, D, ..)), the tuple written there: a tuple of classes that was just made -/
def rIsiX (K : PySem.W.Frag) : List V → Hp → VK → Prop := fun xs H Q => ∃ a C, xs[0]? = some (.ref a) ∧ H a = some (ExcO a C) ∧ XTy K C ∧
  ((∃ (c : V) (cv : Value) (b : Bool), xs = [.ref a, c] ∧ (∀ u, RelV c u → u = cv) ∧ PySem.W.kitOne K (.ref C) cv = some b ∧ Q (.bl b) H) ∨
   (∃ (tp : Addr) (cs : List Addr) (b : Bool), xs = [.ref a, .ref tp] ∧ H tp = some (.tup (cs.map V.ref)) ∧ PySem.W.kitAny K (.ref C) (cs.map Value.ref) = some b ∧ Q (.bl b) H))
end
end L2
namespace L2
open PySem PySem.Spec PyProof.Rows
/-! ### list comprehensions -/
/-- what is known at the run alone -/
structure CZ where
  cl : List (Str × Addr)
  C : Addr
  s : Shared
  H : Hp
  fp : List Addr
/-- the context of a comprehension's block -/
abbrev cxComp (X : Cx) (scope : Scope) (N : List Str) (z : CZ) : Cx where
  prog := X.prog
  w := X.w
  K := X.K
  mg := X.mg
  base := X.base
  A := X.A
  N := N
  s₀ := z.s
  H₀ := z.H
  env := compEnvC scope z.cl z.C X.env
  outer := X.stack
  stack := X.stack
  ex := z.fp
  fn := fun _ => false
  calm := X.calm
  pn := []
  xe := fun _ _ => False
/-- what the scopes must be: own, the def's; the captured names -/
def compOk (own sc : Scope) (Nc : List Str) : Bool :=
  (own.kind == .function) && (own.names.all fun y => y.2 != .cell && (y.2 != .free || sc.names.lookup y.1 == some .cell || sc.names.lookup y.1 == some .free) && (y.2 != .local || own.names.lookup y.1 == some .local)) &&
  (Nc.all fun x => own.names.lookup x == some .free)
structure CompOk (own sc : Scope) (Nc : List Str) : Prop where
  kind : own.kind = .function
  nocell : ∀ y ∈ own.names, y.2 ≠ .cell
  free : ∀ y ∈ own.names, y.2 = .free → sc.names.lookup y.1 = some .cell ∨ sc.names.lookup y.1 = some .free
  loc : ∀ y ∈ own.names, y.2 = .local → own.names.lookup y.1 = some .local
  cap : ∀ x ∈ Nc, own.names.lookup x = some .free
theorem compOk_of {own sc : Scope} {Nc : List Str} (h : compOk own sc Nc = true) : CompOk own sc Nc := by
  unfold compOk at h
  simp only [Bool.and_eq_true, List.all_eq_true, Bool.or_eq_true, bne_iff_ne, ne_eq, beq_iff_eq] at h
  obtain ⟨⟨h1, h2⟩, h3⟩ := h
  refine ⟨h1, fun y hy => (h2 y hy).1.1, fun y hy e => ?_, fun y hy e => ?_, h3⟩
  · rcases (h2 y hy).1.2 with (z | z) | z
    · exact absurd e z
    · exact .inl z
    · exact .inr z
  · rcases (h2 y hy).2 with z | z
    · exact absurd e z
    · exact z
theorem closure_ok {scope : Scope} {env : Env} (h : ∀ y ∈ scope.names, y.2 = .free → ∃ c, env.cells.lookup y.1 = some c) :
    ∃ cl, closureFor scope env = pure cl ∧ (∀ y ∈ scope.names, y.2 = .free → ∃ c, cl.lookup y.1 = some c) ∧ ∀ x c, cl.lookup x = some c → env.cells.lookup x = some c := by
  have key : ∀ (l : List (Str × NameKind)) (cs : List (Str × Addr)), (∀ y ∈ l, y.2 = .free → ∃ c, env.cells.lookup y.1 = some c) → (∀ x c, cs.lookup x = some c → env.cells.lookup x = some c) →
      ∃ cl, (forIn l cs fun x r => if (x.2 == NameKind.free) = true then do let a ← cellOf env x.1; pure (ForInStep.yield ((x.1, a) :: r)) else pure (ForInStep.yield r) : Sem (List (Str × Addr))) = pure cl ∧
        (∀ y ∈ l, y.2 = .free → ∃ c, cl.lookup y.1 = some c) ∧ (∀ x c, cs.lookup x = some c → ∃ c', cl.lookup x = some c') ∧ ∀ x c, cl.lookup x = some c → env.cells.lookup x = some c := by
    intro l
    induction l with
    | nil => intro cs _ hcs; exact ⟨cs, rfl, fun y hy => (nomatch hy), fun x c e => ⟨c, e⟩, hcs⟩
    | cons y r ih =>
      intro cs hl hcs
      obtain ⟨n, k⟩ := y
      have hr : ∀ y ∈ r, y.2 = .free → ∃ c, env.cells.lookup y.1 = some c := fun y hy => hl y (List.mem_cons_of_mem _ hy)
      by_cases hk : k = .free
      · subst hk
        obtain ⟨c, hc⟩ := hl (n, .free) List.mem_cons_self rfl
        have hcs' : ∀ x c', ((n, c) :: cs).lookup x = some c' → env.cells.lookup x = some c' := fun x c' e => by
          rw [List.lookup_cons] at e
          cases hx : x == n with
          | true => rw [hx] at e; cases e; rw [eq_of_beq hx]; exact hc
          | false => rw [hx] at e; exact hcs x c' e
        obtain ⟨cl, e1, e2, e3, e4⟩ := ih ((n, c) :: cs) hr hcs'
        refine ⟨cl, ?_, ?_, ?_, e4⟩
        · have hcell : cellOf env n = pure c := by unfold cellOf; rw [hc]
          rw [List.forIn_cons]
          simp only [beq_self_eq_true, if_true, hcell, pure_bind]
          exact e1
        · intro y hy ey
          rcases List.mem_cons.mp hy with rfl | hy
          · exact e3 n c (by rw [List.lookup_cons]; simp)
          · exact e2 y hy ey
        · intro x c' e
          cases hx : x == n with
          | true => exact e3 x c (by rw [List.lookup_cons, hx])
          | false => exact e3 x c' (by rw [List.lookup_cons, hx]; exact e)
      · obtain ⟨cl, e1, e2, e3, e4⟩ := ih cs hr hcs
        have hb : (k == NameKind.free) = false := by simpa using hk
        refine ⟨cl, ?_, ?_, e3, e4⟩
        · rw [List.forIn_cons]
          simp only [hb, Bool.false_eq_true, if_false, pure_bind]
          exact e1
        · intro y hy ey
          rcases List.mem_cons.mp hy with rfl | hy
          · exact absurd ey hk
          · exact e2 y hy ey
  obtain ⟨cl, e1, e2, _, e4⟩ := key scope.names [] h (fun x c e => by cases e)
  refine ⟨cl, ?_, e2, e4⟩
  have e : closureFor scope env = (forIn scope.names ([] : List (Str × Addr)) (fun x r => if (x.2 == NameKind.free) = true then do let a ← cellOf env x.1; pure (ForInStep.yield ((x.1, a) :: r)) else pure (ForInStep.yield r)) >>= fun r => pure r : Sem (List (Str × Addr))) := rfl
  rw [e, e1, pure_bind]
theorem lookup_relabel {env : Env} {x : Str} : ∀ {names : List (Str × NameKind)}, 
    (names.map fun (n, k) => if (k == NameKind.free && env.scope.kind == .function && env.kindOf n == some .cell) then (n, NameKind.cell) else (n, k)).lookup x =
      (names.lookup x).map fun k => if (k == NameKind.free && env.scope.kind == .function && env.kindOf x == some .cell) then NameKind.cell else k
  | [] => rfl
  | (n, k) :: r => by
    have ih := @lookup_relabel env x r
    show List.lookup x ((if (k == NameKind.free && env.scope.kind == .function && env.kindOf n == some .cell) = true then (n, NameKind.cell) else (n, k)) :: _) = _
    cases hx : x == n with
    | true =>
      have e := eq_of_beq hx
      subst e
      by_cases hc : (k == NameKind.free && env.scope.kind == .function && env.kindOf x == some .cell) = true
      · rw [if_pos hc, List.lookup_cons, List.lookup_cons]; simp only [beq_self_eq_true, Option.map_some, hc, if_true]
      · rw [if_neg hc, List.lookup_cons, List.lookup_cons]; simp only [beq_self_eq_true, Option.map_some, if_neg hc]
    | false =>
      by_cases hc : (k == NameKind.free && env.scope.kind == .function && env.kindOf n == some .cell) = true
      · rw [if_pos hc, List.lookup_cons, List.lookup_cons, hx]; exact ih
      · rw [if_neg hc, List.lookup_cons, List.lookup_cons, hx]; exact ih
theorem relabel_free {env : Env} {own : Scope} {x : Str} (h : own.names.lookup x = some .free) : (relabel own env).names.lookup x = some .cell ∨ (relabel own env).names.lookup x = some .free := by
  have e : (relabel own env).names.lookup x = _ := lookup_relabel
  rw [e, h]
  by_cases hc : (NameKind.free == NameKind.free && env.scope.kind == .function && env.kindOf x == some .cell) = true
  · left; simp only [Option.map_some, hc, if_true]
  · right; simp only [Option.map_some, hc, if_false]; rfl
theorem relabel_inv {env : Env} {own : Scope} {x : Str} (h : (relabel own env).names.lookup x = some .cell ∨ (relabel own env).names.lookup x = some .free) : own.names.lookup x = some .free ∨ own.names.lookup x = some .cell := by
  have e : (relabel own env).names.lookup x = _ := lookup_relabel
  rw [e] at h
  cases hl : own.names.lookup x with
  | none => rw [hl] at h; simp at h
  | some k =>
    rw [hl] at h
    simp only [Option.map_some, Option.some.injEq] at h
    by_cases hc : (k == NameKind.free && env.scope.kind == .function && env.kindOf x == some .cell) = true
    · simp only [Bool.and_eq_true, beq_iff_eq] at hc
      exact .inl (by rw [hc.1.1])
    · rw [if_neg hc] at h
      rcases h with h | h
      · exact .inr (by rw [h])
      · exact .inl (by rw [h])
section
variable {X : Cx}
/-- the block's names at its beginning -/
def pre (n : Nat) (fr : List Nat) (σ : St) : St := List.replicate n none ++ fr.map fun j => (σ[j]?).getD none
theorem comp_start {pins : List (Addr × Obj)} {σ : St} {H : Hp} {s s' : Shared} {own : Scope} {cl : List (Str × Addr)} {C D : Addr} {fp : List Addr} {ts Nc : List Str} {fr : List Nat} {m : Str → Option Value}
    (I : Inv X pins σ H s) (hf : ∀ b ∈ fp, FpOk X pins H b) (hlt : ∀ b ∈ fp, b < s.heap.objs.size) (c : CompOk own X.env.scope Nc) (hc1 : ∀ y ∈ own.names, y.2 = .free → ∃ c, cl.lookup y.1 = some c) (hc2 : ∀ x c, cl.lookup x = some c → X.env.cells.lookup x = some c)
    (hN : fr.map (X.N[·]?) = Nc.map some) (hD : s.heap.objs.size ≤ D) (hC : s.heap.objs.size ≤ C) (hDC : D ≠ C)
    (k : ∀ b o, s.heap.get? b = some o → s'.heap.get? b = some o) (ns : s'.heap.Ns C m) (nl : s'.heap.get? D = some { cls := .type "list", data := .seq #[] }) (eo : s'.os = s.os) (eg : s'.gens = s.gens) :
    Inv (cxComp X own (ts ++ Nc) ⟨cl, C, s, H, fp⟩) [] (pre ts.length fr σ) (upd H D (.lst [])) s' := by
  have fresh : ∀ {b}, s.heap.objs.size ≤ b → H b = none := fun h => I.hok.fresh h
  have old : ∀ {b : Addr} {o : Obj}, s.heap.get? b = some o → b < s.heap.objs.size := fun e => Heap.lt_size e
  have cellLt : ∀ x c, X.env.cells.lookup x = some c → c < s.heap.objs.size := fun x c e => by
    obtain ⟨v, o, ho, _⟩ := I.cell x c e
    exact old ho
  refine ⟨⟨I.ok.mod, c.kind, I.ok.glob, I.ok.blt, hC, fun x y a h1 h2 => I.ok.inj x y a (hc2 x a h1) (hc2 y a h2), fun x hx => ?_, fun x a z _ => (by cases z), I.ok.hd, I.ok.frames, .inl rfl, fun b hb => ?_, I.bs, Nat.le_trans I.ok.bsz I.sz, fun b o e hb => ?_, fun b hb hb2 => ?_, I.stack, I.stkFree⟩,
    eo, by rw [eg]; exact I.bare, ?_, ⟨m, ns, fun i x v h1 h2 h3 => ?_⟩, fun x a h => ?_, ?_, fun x a h => ?_, fun p hp => absurd hp (by simp), ?_, ?_⟩
  · have hx : (relabel own X.env).names.lookup x = some .cell ∨ (relabel own X.env).names.lookup x = some .free := hx
    rcases relabel_inv hx with h | h
    · exact hc1 (x, .free) (PySem.mem_of_lookup h) rfl
    · exact absurd rfl (c.nocell _ (PySem.mem_of_lookup h))
  · obtain ⟨_, f1, f2, f3, f4, f5⟩ := hf b hb
    refine ⟨fun z => ?_, fun x a h => f4 x a (hc2 x a h)⟩
    have z : b = C := z
    subst z
    exact absurd (hlt _ hb) (Nat.not_lt.mpr hC)
  · obtain ⟨_, f1, f2, f3, f4, f5⟩ := hf b hb
    rcases f3 with f3 | f3
    · exact I.ok.noex b o e f3
    · exact absurd (Heap.lt_size (I.ok.bs b o e).1) (Nat.not_lt.mpr f3)
  · obtain ⟨_, f1, f2, f3, f4, f5⟩ := hf b hb
    rcases List.mem_cons.mp (I.stkSub b hb2) with z | z
    · exact f1 z
    · exact f2 z
  · exact Un.laid k hD (fresh hD)
  · by_cases hi : i < ts.length
    · unfold pre at h2
      rw [List.getElem?_append_left (by simpa using hi), List.getElem?_replicate] at h2
      split at h2 <;> cases h2
    · have h1 : (ts ++ Nc)[i]? = some x := h1
      unfold pre at h2
      rw [List.getElem?_append_right (by omega)] at h1
      rw [List.getElem?_append_right (by simpa using hi), List.length_replicate, List.getElem?_map] at h2
      have e1 : (fr.map (X.N[·]?))[i - ts.length]? = some (some x) := by rw [hN, List.getElem?_map, h1]; rfl
      rw [List.getElem?_map] at e1
      cases e : fr[i - ts.length]? with
      | none => rw [e] at h2; cases h2
      | some j =>
        rw [e] at h2 e1
        simp only [Option.map_some, Option.some.injEq] at h2 e1
        have hj : σ[j]? = some (some v) := by
          cases e2 : σ[j]? with
          | none => rw [e2] at h2; cases h2
          | some w' => rw [e2] at h2; exact congrArg some h2
        have hx := c.cap x (List.mem_of_getElem? h1)
        have hv := c.free _ (PySem.mem_of_lookup hx) rfl
        obtain ⟨m0, hns0, hl0⟩ := I.loc
        obtain ⟨u, ru, lk⟩ := hl0 j x v e1 hj (.inr hv)
        refine ⟨u, ru, .inr ⟨relabel_free hx, ?_⟩⟩
        rcases lk with ⟨lk, _⟩ | ⟨_, a, ea, ha⟩
        · have lk : X.env.scope.names.lookup x = some .local := lk
          rw [lk] at hv
          rcases hv with hv | hv <;> cases hv
        · obtain ⟨a', ea'⟩ := hc1 _ (PySem.mem_of_lookup hx) rfl
          have := hc2 x a' ea'
          rw [ea] at this
          cases this
          obtain ⟨o, ho, hd⟩ := ha
          exact ⟨a, ea', o, k _ _ ho, hd⟩
  · obtain ⟨v, o, ho, hd⟩ := I.cell x a (hc2 x a h)
    exact ⟨v, o, k _ _ ho, hd⟩
  · show upd H D (.lst []) C = none
    rw [upd_ne (Ne.symm hDC)]
    exact fresh hC
  · have h := hc2 x a h
    rw [upd_ne (Nat.ne_of_lt (Nat.lt_of_lt_of_le (cellLt x a h) hD))]
    exact I.freeC x a h
  · exact I.hok.laid k hD ⟨Nat.zero_le _, [], 0, .nil, nl⟩
  · have := congrArg List.length hN
    simp only [List.length_map] at this
    unfold pre
    simp only [List.length_append, List.length_replicate, List.length_map, this]
/-- behind the block -/
theorem comp_back {pins : List (Addr × Obj)} {σ σ' : St} {H H' : Hp} {s s' : Shared} {own : Scope} {cl : List (Str × Addr)} {C : Addr} {fp : List Addr} {N : List Str} {pl : List (Addr × Obj)}
    (I : Inv X pins σ H s) (hf : ∀ b ∈ fp, FpOk X pins H b) (J : Inv (cxComp X own N ⟨cl, C, s, H, fp⟩) pl σ' H' s') : Inv X pins σ H' s' :=
  I.call' (ch := fp) J.os J.base J.hok J.bare fun b hb => let ⟨_, f1, _, f3, f4, f5⟩ := hf b hb; ⟨f3, f1, f4, f5⟩
/-- the block's own names may change behind it -/
theorem comp_names {pins : List (Addr × Obj)} {σ σ2 : St} {H H' : Hp} {s s' : Shared} {C : Addr} {h' : Heap}
    (I : Inv X pins σ H s) (hC : s.heap.objs.size ≤ C) (J : Inv X pins σ2 H' s') (hn : H' C = none) (k : ∀ b o, b ≠ C → s'.heap.get? b = some o → h'.get? b = some o) : Inv X pins σ2 H' { s' with heap := h' } := by
  refine J.turned (t' := s'.toks) k hn (Nat.ne_of_gt (Nat.lt_of_lt_of_le I.lt hC)) (.inr (Nat.le_trans I.sz hC)) (fun x c e z => ?_) (fun p hp z => ?_)
  · obtain ⟨v, o, ho, _⟩ := I.cell x c e
    exact absurd (Heap.lt_size ho) (Nat.not_lt.mpr (z ▸ hC))
  · exact absurd (Heap.lt_size (I.pin p hp).1) (Nat.not_lt.mpr (z ▸ hC))
/-- the tests of a comprehension -/
def PIf (X : Cx) (ifs : List Expr) (t : TT) : Prop :=
  ∀ (pins : List (Addr × Obj)) (s : Shared) (σ : St) (H : Hp) (Q : Bool → Hp → Prop), Inv X pins σ H s → t σ H Q →
    wpAny (model X.prog X.w) X.A (forIn ifs true fun c r => if r = true then do let ok ← isTrue c X.env (eval c X.env); pure (ForInStep.yield ok) else pure (ForInStep.yield r)) (TP X pins σ Q) X.xe s
def tYes : TT := fun _ H Q => Q true H
theorem pf_nil : PIf X [] tYes := fun pins s σ H Q I h => wpAny_tests_nil ⟨H, I, h⟩
end
section
variable {prog : Program} {w : World} {A : Around} {R : Result → Shared → Prop} {s : Shared}
theorem comp_loop {elt target iter : Expr} {ifs : List Expr} {scope : Scope} {pos : Pos} {it acc : Value} {env : Env} (I : Nat → Shared → Prop)
    (turn : ∀ n s, I n s → wpAny (model prog w) A (pyNext it) (fun r s₁ => match r with
      | none => R (.ok .next) s₁
      | some v => wpAny (model prog w) A (letOwnedTupleGo target it v) (fun _ s₁ => wpAny (model prog w) A (assign target env v) (fun _ s₂ =>
          wpAny (model prog w) A (forIn ifs true fun c r => if r = true then do let ok ← isTrue c env (eval c env); pure (ForInStep.yield ok) else pure (ForInStep.yield r)) (fun ok s₃ =>
            if ok = true then wpAny (model prog w) A (eval elt env) (fun x s₄ =>
              wpAny (model prog w) A (call (.builtin "list.append") [acc, x]) (fun _ s₅ => ∃ m, m < n ∧ I m s₅) (fun _ _ => False) s₄) (fun _ _ => False) s₃
            else ∃ m, m < n ∧ I m s₃) (fun _ _ => False) s₂) (fun _ _ => False) s₁) (fun _ _ => False) s₁) (fun _ _ => False) s)
    (n : Nat) (h : I n s) :
    codeAny (model prog w) A (.compLoop (.ListComp elt [⟨target, iter, ifs, 0⟩] scope pos) 0 it acc env) R s := by
  refine codeAny_loop rfl I (fun n s hI => ?_) n h
  show wpAny _ A ((compTurn (.ListComp elt [⟨target, iter, ifs, 0⟩] scope pos) 0 it acc env).onRaise (fun x => do noteFrame x env; theTreesLotGoes x)) _ _ s
  refine wpAny_noted ?_
  rw [compTurn_list]
  refine wpAny_bind (wpAny_standAt (wpAny_bind (wpAny_mono (turn n s hI) (fun r s₁ h₁ => ?_) fun _ _ h' => h'.elim)))
  cases r with
  | none => exact wpAny_pure h₁
  | some v =>
    refine wpAny_bind (wpAny_mono h₁ (fun _ s₁ h₁ => ?_) fun _ _ h' => h'.elim)
    refine wpAny_bind (wpAny_mono h₁ (fun _ s₂ h₂ => wpAny_bind (wpAny_mono h₂ (fun ok s₃ h₃ => ?_) fun _ _ h' => h'.elim)) fun _ _ h' => h'.elim)
    cases ok with
    | false => exact wpAny_pure ⟨rfl, h₃⟩
    | true =>
      exact wpAny_bind (wpAny_bind (wpAny_mono h₃ (fun x s₄ h₄ => wpAny_bind (wpAny_mono h₄ (fun _ s₅ h₅ => wpAny_pure (wpAny_pure ⟨rfl, h₅⟩)) fun _ _ h' => h'.elim)) fun _ _ h' => h'.elim))
end
section
variable {X : Cx}
/-- a comprehension's turns: D the list that grows -/
def tTurns (J : It) (g : TG) (tf : TT) (te : TE) (D : Addr) (σ : St) (H : Hp) (Q : Hp → Prop) : Prop :=
  ∃ W : Nat → Nat → St → Hp → Prop, (∃ m, W 0 m σ H) ∧ ∀ i m σ H, W i m σ H →
    (J.stop i H ∧ Q H) ∨ (J.go i H ∧ ∃ N : St → Hp → Prop, (∀ σ' H', N σ' H' → ∃ m', m' < m ∧ W (i + 1) m' σ' H') ∧ ∀ x H', J.yld i H x H' → g x σ H' fun σ2 H2 => tf σ2 H2 fun b H3 =>
      if b = true then te σ2 H3 fun y H4 => ∃ ys, H4 D = some (.lst ys) ∧ ys.length < sizeLine ∧ N σ2 (upd H4 D (.lst (ys ++ [y]))) else N σ2 H3)
def tComp (n : Nat) (fr : List Nat) (wi : TI) (g : TG) (tf : TT) (te : TE) : TE := fun σ H Q => wi σ H fun J H1 => ∀ D, H1 D = none → tTurns J g tf te D (pre n fr σ) (upd H1 D (.lst [])) fun H2 => Q (.ref D) H2
theorem run_turns {own : Scope} {N : List Str} {z : CZ} {elt tg iter : Expr} {ifs : List Expr} {sc : Scope} {pos : Pos} {g : TG} {tf : TT} {te : TE} {J : It} {it D : Addr} {tn : Nat → Heap → Prop} {σ : St} {H : Hp} {s : Shared} {Q : Hp → Prop} {R : Result → Shared → Prop}
    (hg : PG (cxComp X own N z) tg g) (hf : PIf (cxComp X own N z) ifs tf) (he : PE (cxComp X own N z) elt te) (hc : X.calm = true) (T : Turn X.prog X.w X.K tg J z.fp it tn) (fo : ∀ H' : Hp, (∀ b ∈ z.fp, H' b = none) → ∀ b ∈ z.fp, FpOk (cxComp X own N z) [] H' b)
    (I : Inv (cxComp X own N z) [] σ H s) (st : tn 0 s.heap) (fr : ∀ b ∈ z.fp, H b = none) (h : tTurns J g tf te D σ H Q) (hR : ∀ σ' H' s', Inv (cxComp X own N z) [] σ' H' s' → Q H' → R (.ok .next) s') :
    codeAny (model X.prog X.w) X.A (.compLoop (.ListComp elt [⟨tg, iter, ifs, 0⟩] sc pos) 0 (.ref it) (.ref D) (compEnvC own z.cl z.C X.env)) R s := by
  obtain ⟨W, ⟨m0, w0⟩, turn⟩ := h
  refine comp_loop (fun n s' => ∃ i σ' H', Inv (cxComp X own N z) [] σ' H' s' ∧ tn i s'.heap ∧ (∀ b ∈ z.fp, H' b = none) ∧ W i n σ' H') ?_ m0 ⟨0, σ, H, I, st, fr, w0⟩
  rintro n s3 ⟨i, σ3, H3, I3, st3, fr3, w3⟩
  rcases turn i n σ3 H3 w3 with ⟨stop, qn⟩ | ⟨go, Nx, hN, step⟩
  · refine thn (T.done (cxComp X own N z) rfl rfl rfl hc i [] s3 σ3 H3 _ I3 (fo H3 fr3) st3 stop) fun r s4 ⟨hr, I4⟩ => ?_
    subst hr
    exact hR σ3 H3 s4 I4 qn
  · refine thn (T.item (cxComp X own N z) rfl rfl rfl hc i [] s3 σ3 H3 _ I3 (fo H3 fr3) st3 go) fun r s4 ⟨u, hr, h4⟩ => ?_
    subst hr
    refine thn h4 fun _ s5 ⟨x, H5, I5, r5, y5, st5, fr5⟩ => ?_
    have I5' := I5.pinned (fo H5 fr5) (T.obj _ _ st5)
    refine thn (hg _ s5 σ3 H5 x u _ I5' r5 (step x H5 y5)) fun _ s6 ⟨σ6, H6, I6, q6⟩ => ?_
    have again : ∀ {σ7 : St} {H7 : Hp} {s7 : Shared}, Inv (cxComp X own N z) ([] ++ pinsAt z.fp s5.heap) σ7 H7 s7 → Nx σ7 H7 → ∃ m, m < n ∧ ∃ i σ' H', Inv (cxComp X own N z) [] σ' H' s7 ∧ tn i s7.heap ∧ (∀ b ∈ z.fp, H' b = none) ∧ W i m σ' H' := fun {σ7 H7 s7} I7 n7 => by
      obtain ⟨m', hm, w7⟩ := hN σ7 H7 n7
      refine ⟨m', hm, i + 1, σ7, H7, I7.unpinned, T.keep _ _ _ st5 fun b hb o e => (I7.pin (b, o) (List.mem_append_right _ (List.mem_append_right _ (mem_pinsAt hb e)))).1, fun b hb => ?_, w7⟩
      obtain ⟨o, e, d⟩ := T.obj _ _ st5 b hb
      exact (I7.pin (b, o) (List.mem_append_right _ (List.mem_append_right _ (mem_pinsAt hb e)))).2.1
    refine thn (hf _ s6 σ6 H6 _ I6 q6) fun b s7 ⟨H7, I7, q7⟩ => ?_
    cases b with
    | false => exact again I7 q7
    | true =>
      refine thn (he _ s7 σ6 H7 _ I7 q7) fun y s8 ⟨yv, H8, I8, r8, ys, e8, z8, n8⟩ => ?_
      exact thn (mt_append _ s8 σ6 H8 (.ref D) [yv] (.ref D) [y] (fun _ H' => Nx σ6 H') I8 rfl (.cons r8 .nil) ⟨D, ys, yv, rfl, rfl, e8, z8, n8⟩) fun _ s9 ⟨_, H9, I9, _, q9⟩ => again I9 q9
theorem run_block {elt tg iter : Expr} {ifs : List Expr} {own sc : Scope} {pos : Pos} {ts Nc : List Str} {fr : List Nat} {g : TG} {tf : TT} {te : TE} {J : It} {it : Addr} {fp : List Addr} {tn : Nat → Heap → Prop} {cl : List (Str × Addr)}
    {pins : List (Addr × Obj)} {σ : St} {H : Hp} {s : Shared} {Q : Addr → Hp → Prop} {RR : Value → Addr → Result → Shared → Prop} {E : Value → Shared → Prop}
    (hg : ∀ z, PG (cxComp X own (ts ++ Nc) z) tg g) (hf : ∀ z, PIf (cxComp X own (ts ++ Nc) z) ifs tf) (he : ∀ z, PE (cxComp X own (ts ++ Nc) z) elt te) (hc : X.calm = true) (c : CompOk own X.env.scope Nc) (hN : fr.map (X.N[·]?) = Nc.map some)
    (hc1 : ∀ y ∈ own.names, y.2 = .free → ∃ c, cl.lookup y.1 = some c) (hc2 : ∀ x c, cl.lookup x = some c → X.env.cells.lookup x = some c)
    (I : Inv X pins σ H s) (T : Turn X.prog X.w X.K tg J fp it tn) (st : tn 0 s.heap) (fo : ∀ b ∈ fp, FpOk X pins H b)
    (h : ∀ D, H D = none → tTurns J g tf te D (pre ts.length fr σ) (upd H D (.lst [])) (Q D))
    (hR : ∀ D C σ' H' s', s.heap.objs.size ≤ C → Inv (cxComp X own (ts ++ Nc) ⟨cl, C, s, H, fp⟩) [] σ' H' s' → Q D H' → RR (.ref D) C (.ok .next) s') :
    wpAny (model X.prog X.w) X.A (newList []) (fun acc s₃ => wpAny (model X.prog X.w) X.A (newFunctionEnv own X.env.globals cl [] X.env.qual none .none (some X.env)) (fun cenv s₄ =>
      codeAny (model X.prog X.w) X.A (.compStart (.ListComp elt [⟨tg, iter, ifs, 0⟩] sc pos) 0 (.ref it) acc { cenv with scope := relabel own X.env }) (RR acc cenv.locals) s₄) E s₃) E s := by
  refine wpAny_newObj_type (wpAny_newFunctionEnv c.nocell (by intro y hy; simp at hy) (fun h₁ hns₁ hsb₁ => ?_) c.kind)
  dsimp only at hns₁ hsb₁ ⊢
  have hlt : ∀ b ∈ fp, b < s.heap.objs.size := fun b hb => let ⟨o, e, _⟩ := T.obj 0 _ st b hb; Heap.lt_size e
  generalize hH2 : s.heap.push { cls := .type "list", dict := none, data := .seq ([] : List Value).toArray } = H2 at hns₁ hsb₁ ⊢
  have hC : H2.objs.size = s.heap.objs.size + 1 := by rw [← hH2, Heap.size_push]
  have hDC : s.heap.objs.size ≠ H2.objs.size := by rw [hC]; exact Nat.ne_of_lt (Nat.lt_succ_self _)
  have hCle : s.heap.objs.size ≤ H2.objs.size := by rw [hC]; exact Nat.le_succ _
  have below : ∀ b, b < s.heap.objs.size → b ≠ H2.objs.size := fun b hb => by rw [hC]; exact Nat.ne_of_lt (Nat.lt_succ_of_lt hb)
  have old : ∀ b o, s.heap.get? b = some o → h₁.get? b = some o := fun b o e => hsb₁.extBut b o (below b (Heap.lt_size e)) (Heap.get?_push_of_some _ (hH2 ▸ Heap.get?_push_of_some _ e))
  have hacc : h₁.get? s.heap.objs.size = some { cls := .type "list", data := .seq #[] } := hsb₁.extBut _ _ hDC (Heap.get?_push_of_some _ (hH2 ▸ Heap.get?_push_size _ rfl))
  have st1 : tn 0 h₁ := T.keep _ _ _ st fun b _ o e => old b o e
  have hD0 : H s.heap.objs.size = none := I.fresh
  have I1 : Inv (cxComp X own (ts ++ Nc) ⟨cl, H2.objs.size, s, H, fp⟩) [] (pre ts.length fr σ) (upd H s.heap.objs.size (.lst [])) { s with heap := h₁, toks := s.toks + ([] : List (Str × Value)).length } :=
    comp_start I fo hlt c hc1 hc2 hN (Nat.le_refl _) hCle hDC old hns₁ hacc rfl rfl
  have fo' : ∀ H' : Hp, (∀ b ∈ fp, H' b = none) → ∀ b ∈ fp, FpOk (cxComp X own (ts ++ Nc) ⟨cl, H2.objs.size, s, H, fp⟩) [] H' b := fun H' hn b hb => by
    obtain ⟨_, f1, f2, f3, f4, f5⟩ := fo b hb
    refine ⟨hn b hb, below b (hlt b hb), fun z => ?_, .inl hb, fun x a e => f4 x a (hc2 x a e), fun p hp => absurd hp (by simp)⟩
    rcases List.mem_cons.mp (I.stkSub b z) with z | z
    · exact f1 z
    · exact f2 z
  have fr1 : ∀ b ∈ fp, upd H s.heap.objs.size (.lst []) b = none := fun b hb => by
    rw [upd_ne (Nat.ne_of_lt (hlt b hb))]
    exact (fo b hb).1
  have loop := run_turns (z := ⟨cl, H2.objs.size, s, H, fp⟩) (pos := pos) (sc := sc) (iter := iter) (R := RR (.ref s.heap.objs.size) H2.objs.size) (hg _) (hf _) (he _) hc T fo' I1 st1 fr1 (h _ hD0) fun σ' H' s' J' q => hR _ _ σ' H' s' hCle J' q
  exact codeAny_compStart_list loop (T.self _ 0 _ _ _ st1 loop)
theorem pe_comp {elt tg iter : Expr} {ifs : List Expr} {own : Scope} {pos : Pos} (ts Nc : List Str) (fr : List Nat) {wi : TI} {g : TG} {tf : TT} {te : TE} (hi : PI X tg iter wi)
    (hg : ∀ z, PG (cxComp X own (ts ++ Nc) z) tg g) (hf : ∀ z, PIf (cxComp X own (ts ++ Nc) z) ifs tf) (he : ∀ z, PE (cxComp X own (ts ++ Nc) z) elt te) (hc : X.calm = true := by rfl) (c : compOk own X.env.scope Nc = true := by rfl) (hN : fr.map (X.N[·]?) = Nc.map some := by rfl)
    (hs : ∀ x, foldedSetIterable iter X.env x = pure x := by intro _; rfl) : PE X (.ListComp elt [⟨tg, iter, ifs, 0⟩] own pos) (tComp ts.length fr wi g tf te) := by
  have c := compOk_of c
  intro pins s σ H Q I h
  obtain ⟨cl, e0, hc1, hc2⟩ := closure_ok (scope := own) (env := X.env) fun y hy e => I.ok.has y.1 (c.free y hy e)
  rw [eval_ListComp]
  refine wpAny_comprehension_free (use := none) rfl hs e0 c.kind c.loc (thn (hi pins s σ H _ I h) fun xv s₁ h₁ => thn h₁ fun itv s₂ h₂ => ?_)
  obtain ⟨it, fp, tn, J, H2, e, I2, T, st2, f2, q⟩ := h₂
  subst e
  refine run_block (RR := fun acc C => compPost (model X.prog X.w) X.A X.xe none (EP X pins σ Q) acc C) (Q := fun D H' => Q (.ref D) H') hg hf he hc c hN hc1 hc2 I2 T st2 f2 q ?_
  intro D C σ' H' s' hC J' q'
  obtain ⟨m, hns, _⟩ := J'.loc
  refine ⟨m, hns, fun h' sb => ⟨.ref D, H', comp_names I2 hC (comp_back I2 f2 J') J'.free fun b o hb e => sb.extBut b o hb e, rfl, q'⟩⟩
end
end L2
namespace L2
open PySem PySem.Spec PyProof.Rows
/-! ### over a text's signs -/
def Its (x : Str) : It := ⟨fun i _ => i < x.cps.size, fun i H v H' => H' = H ∧ ∃ c, x.cps[i]? = some c ∧ v = .str ⟨#[c]⟩, fun i _ => x.cps.size ≤ i⟩
theorem turn_str {P : Program} {w : World} {K : PySem.W.Frag} {tg : Expr} (x : Str) (t : Tok) (it : Addr) (n : String) (hn : n = "str_ascii_iterator" ∨ n = "str_iterator") : Turn P w K tg (Its x) [it] it (fun i h => h.IsStrIter it n x t i) where
  mem := by simp
  obj := fun i h st b hb => by
    have e : b = it := by simpa using hb
    subst e
    obtain ⟨o, e, c, d⟩ := st
    exact ⟨o, e, fun v z => by rw [d] at z; cases z⟩
  keep := fun i h h' st k => let ⟨o, ho, r⟩ := st; ⟨o, k it (by simp) o ho, r⟩
  item := by
    intro X hP hw hK hc i pins s σ H E I hf st hg
    subst hP hw hK
    obtain ⟨f0, f1, f2, f3, f4, f5⟩ := hf it (by simp)
    have hi : i < x.cps.size := hg
    have hx : x.cps[i]? = some x.cps[i] := Array.getElem?_eq_getElem hi
    have fin : ∀ h', h'.IsStrIter it n x t (i + 1) → Heap.SameBut it s.heap h' → ∃ u, some (Value.str ⟨#[x.cps[i]]⟩ s.toks) = some u ∧ wpAny (model X.prog X.w) X.A (letOwnedTupleGo tg (.ref it) u)
        (fun _ s2 => ∃ y H', Inv X pins σ H' s2 ∧ RelV y u ∧ (Its x).yld i H y H' ∧ s2.heap.IsStrIter it n x t (i + 1) ∧ ∀ b ∈ [it], H' b = none) E { s with heap := h', toks := s.toks + 1 } := fun h' st' sb => by
      have I1 : Inv X pins σ H { s with heap := h', toks := s.toks + 1 } := I.turned (fun b o hb e => (sb.2 b hb).trans e) f0 f1 f3 f4 f5
      obtain ⟨o, e, c, d⟩ := id st'
      exact ⟨_, rfl, go_of (s := { s with heap := h', toks := s.toks + 1 }) e c d (by rcases hn with rfl | rfl <;> decide) ⟨.str ⟨#[x.cps[i]]⟩, H, I1, ⟨_, rfl⟩, ⟨rfl, _, hx, rfl⟩, st', fun b hb => (hf b hb).1⟩⟩
    rcases hn with rfl | rfl
    · exact wpAny_pyNext_ascii_item st hx fun h' st' sb => fin h' st' sb
    · exact wpAny_pyNext_wide_item st hx fun h' st' sb => fin h' st' sb
  done := by
    intro X hP hw hK hc i pins s σ H E I hf st hg
    subst hP hw hK
    obtain ⟨f0, f1, f2, f3, f4, f5⟩ := hf it (by simp)
    have hx : x.cps[i]? = none := by simpa using show x.cps.size ≤ i from hg
    rcases hn with rfl | rfl
    · exact wpAny_pyNext_ascii_end (I.ok.hd hc) st hx fun h' eb => ⟨rfl, I.turned (t' := s.toks) (fun b o hb e => eb b o hb e) f0 f1 f3 f4 f5⟩
    · exact wpAny_pyNext_wide_end (I.ok.hd hc) st hx fun h' eb => ⟨rfl, I.turned (t' := s.toks) (fun b o hb e => eb b o hb e) f0 f1 f3 f4 f5⟩
  self := fun _ _ _ _ _ st h => by
    rcases hn with rfl | rfl
    · exact wpAny_pyIter_striter_ascii st h
    · exact wpAny_pyIter_striter_wide st h
section
variable {X : Cx} {tg : Expr}
def iStr (tl : TE) : TI := fun σ H R => tl σ H fun x H1 => ∃ y, x = .str y ∧ R (Its y) H1
theorem pi_str {l : Expr} {tl : TE} (hl : PE X l tl) : PI X tg l (iStr tl) := by
  intro pins s σ H R I h
  refine thn (hl pins s σ H _ I h) fun v s1 ⟨x, H1, I1, r1, y, e, q⟩ => ?_
  subst e
  obtain ⟨t, rfl⟩ := r1
  have fin : ∀ n : String, (n = "str_ascii_iterator" ∨ n = "str_iterator") → PIE X pins σ tg R (.ref s1.heap.objs.size) { s1 with heap := s1.heap.push { cls := .type n, data := .fields #[.str y t, .int 0 0] } } := fun n hn => by
    refine ⟨_, [s1.heap.objs.size], _, _, H1, rfl, I1.kept (t' := s1.toks) fun b o e => Heap.get?_push_of_some _ e, turn_str y t _ n hn, ⟨_, Heap.get?_push_size _ rfl, rfl, rfl⟩, fun b hb => ?_, q⟩
    have z : b = s1.heap.objs.size := by simpa using hb
    subst z
    exact I1.fpOk (Nat.le_refl _) (I1.hok.fresh (Nat.le_refl _))
  cases ha : y.cps.all (· < 128)
  · exact wpAny_pyIter_wide ha (fin _ (.inr rfl))
  · exact wpAny_pyIter_ascii ha (fin _ (.inl rfl))
end
/-! ### the forms of a comprehension that one uses: n items, the i-th makes the i-th value -/
/-- over n turns, without tests: W the word -/
theorem turns_n {J : It} {g : TG} {te : TE} {D : Addr} {σ : St} {H : Hp} {Q : Hp → Prop} (n : Nat) (Pv : Nat → St → Hp → Prop) (h0 : Pv 0 σ H) (hst : ∀ σ H, Pv n σ H → J.stop n H) (hgo : ∀ i σ H, i < n → Pv i σ H → J.go i H)
    (hs : ∀ i σ H x H', i < n → Pv i σ H → J.yld i H x H' → g x σ H' fun σ2 H2 => te σ2 H2 fun y H4 => ∃ ys, H4 D = some (.lst ys) ∧ ys.length < sizeLine ∧ Pv (i + 1) σ2 (upd H4 D (.lst (ys ++ [y])))) (hd : ∀ σ H, Pv n σ H → Q H) :
    tTurns J g tYes te D σ H Q := by
  refine ⟨fun i m σ H => m = n - i ∧ i ≤ n ∧ Pv i σ H, ⟨n, by simp, Nat.zero_le _, h0⟩, ?_⟩
  rintro i m σ H ⟨rfl, hi, p⟩
  by_cases hlt : i < n
  · refine .inr ⟨hgo i σ H hlt p, Pv (i + 1), fun σ' H' p' => ⟨n - (i + 1), by omega, rfl, hlt, p'⟩, fun v H' y => ?_⟩
    exact hs i σ H v H' hlt p y
  · have e : i = n := by omega
    subst e
    exact .inl ⟨hst σ H p, hd σ H p⟩
/-- all that was tracked is as it was, but for lists -/
def SameB (H H' : Hp) : Prop := ∀ b o, H b = some o → (∀ zs, o ≠ .lst zs) → H' b = some o
theorem Same.b {H H' : Hp} (e : Same H H') : SameB H H' := fun b o q _ => e b o q
/-- .. where the values are told one by one (F i y H: what is said of the i-th), and nothing that stood is touched but D -/
theorem turns_map {J : It} {g : TG} {te : TE} {D : Addr} {σ : St} {H0 : Hp} {Q : Hp → Prop} (n : Nat) (hn : n ≤ sizeLine) (C : St → Prop) (F : Nat → V → Hp → Prop) (hD : H0 D = none) (h0 : C σ)
    (hF : ∀ i y H H', SameB H H' → F i y H → F i y H') (hst : ∀ H, Same H0 H → J.stop n H) (hgo : ∀ i H, i < n → Same H0 H → J.go i H)
    (hs : ∀ i σ H x H' (Nx : St → VK), i < n → C σ → Same H0 H → J.yld i H x H' → (∀ σ2 y H4, C σ2 → Same H H4 → F i y H4 → Nx σ2 y H4) → g x σ H' fun σ2 H2 => te σ2 H2 (Nx σ2))
    (hd : ∀ H ys, Same H0 H → H D = some (.lst ys) → ys.length = n → (∀ i y, ys[i]? = some y → F i y H) → Q H) :
    tTurns J g tYes te D σ (upd H0 D (.lst [])) Q := by
  have sameD : ∀ {H : Hp} {zs}, Same H0 H → Same H0 (upd H D (.lst zs)) := fun e b o q => by rw [upd_ne (ne_of_none q hD)]; exact e b o q
  refine turns_n n (fun i σ H => C σ ∧ Same H0 H ∧ ∃ ys, H D = some (.lst ys) ∧ ys.length = i ∧ ∀ j y, ys[j]? = some y → F j y H) ⟨h0, sameD (Same.refl _), [], upd_same, rfl, fun j y e => by simp at e⟩
    (fun σ H ⟨_, e, _⟩ => hst H e) (fun i σ H hi ⟨_, e, _⟩ => hgo i H hi e) ?_ (fun σ H ⟨_, e, ys, h1, h2, h3⟩ => hd H ys e h1 h2 h3)
  rintro i σ H x H' hi ⟨hc, e, ys, hy, hl, hv⟩ yl
  refine hs i σ H x H' (fun σ2 y H4 => ∃ ys, H4 D = some (.lst ys) ∧ ys.length < sizeLine ∧ _) hi hc e yl fun σ2 y H4 c2 e4 f4 => ?_
  have kb : SameB H4 (upd H4 D (.lst (ys ++ [y]))) := fun b o q no => by
    by_cases hb : b = D
    · subst hb
      rw [e4 _ _ hy] at q
      cases q
      exact absurd rfl (no _)
    · rw [upd_ne hb]; exact q
  refine ⟨ys, e4 _ _ hy, by omega, c2, sameD (e.trans e4), ys ++ [y], upd_same, by rw [List.length_append, List.length_singleton, hl], fun j z hz => ?_⟩
  rcases Nat.lt_trichotomy j ys.length with h | h | h
  · rw [List.getElem?_append_left h] at hz
    exact hF _ _ _ _ (fun b o q no => kb b o (e4 b o q) no) (hv j z hz)
  · subst h
    have z2 : y = z := by simpa using hz
    subst z2
    rw [hl]
    exact hF _ _ _ _ kb f4
  · rw [List.getElem?_eq_none (by rw [List.length_append, List.length_singleton]; omega)] at hz
    cases hz
/-- the list is known to its last item -/
theorem ys_eq {ys xs : List V} {n : Nat} (h1 : ys.length = n) (h2 : xs.length = n) (h : ∀ (i : Nat) y, ys[i]? = some y → xs[i]? = some y) : ys = xs := by
  apply List.ext_getElem?
  intro i
  by_cases hi : i < ys.length
  · rw [List.getElem?_eq_getElem hi, h i ys[i] (List.getElem?_eq_getElem hi)]
  · rw [List.getElem?_eq_none (by omega), List.getElem?_eq_none (by omega)]
section
variable {X : Cx}
/-! ### all(..), any(..) of a list of bools -/
theorem blsAre {bs : List Bool} : ∀ {us : List Value}, Vals (bs.map V.bl) us → ∀ i, i < bs.length → us[i]? = some (.bool (bs.getD i false)) := by
  induction bs with
  | nil => intro us _ i hi; simp at hi
  | cons b r ih =>
    intro us h i hi
    cases h with
    | cons h1 h2 =>
      cases h1
      cases i with
      | zero => rfl
      | succ j => simpa using ih h2 j (by simpa using hi)
theorem all_range (bs : List Bool) : (List.range bs.length).all (fun i => bs.getD i false) = bs.all id := by
  induction bs with
  | nil => rfl
  | cons b r ih =>
    rw [List.length_cons, List.range_succ_eq_map, List.all_cons, List.all_map, List.all_cons, ← ih]
    rfl
theorem call_all (hc : X.calm = true) : CallR X (.builtin "all") (fun xs H Q => ∃ p, ∃ bs : List Bool, xs = [.ref p] ∧ SqL X.K H p (bs.map V.bl) ∧ Q (.bl (bs.all id)) H) := by
  intro pins s σ H xs us Q I r h
  obtain ⟨p, bs, rfl, hq, q⟩ := h
  obtain ⟨u, rfl, ru⟩ := vals1 r
  cases ru
  obtain ⟨its, rv, pl, hz⟩ := I.list hq
  have hlen := rv.length
  rw [List.length_map] at hlen
  refine call_all_walk (wpAny_pyIter_list pl.isList ?_)
  have hne : p ≠ s.heap.objs.size := by
    obtain ⟨o, _, e, _⟩ := pl
    exact Nat.ne_of_lt (Heap.lt_size e)
  have hl2 : (s.heap.push { cls := .type "list_iterator", data := .fields #[.ref p, .int 0 0] }).IsList p its.toArray := pl.isList.at fun o e => Heap.get?_push_of_some _ e
  refine ⟨_, _, _, _, _, _, fun i => bs.getD i false, rfl, Walks.list (A := X.A.in1) (show X.A.in1.handled = none from I.ok.hd hc) s.heap.objs.size p hne its.toArray, ⟨⟨_, Heap.get?_push_size _ rfl, rfl, rfl⟩, hl2⟩, ?_, ?_⟩
  · intro i v s' Q' E' hv hQ
    have hi : i < bs.length := by
      have := (Array.getElem?_eq_some_iff.mp hv).1
      simp only [List.size_toArray] at this
      omega
    have e := blsAre rv i hi
    rw [show its.toArray[i]? = its[i]? by simp, e] at hv
    cases hv
    exact wpAny_truthy_bool hQ
  · intro h' tk k
    have I' : Inv X pins σ H { s with heap := h', toks := tk } := I.kept fun b o e => k b o (by simpa using Nat.ne_of_lt (Heap.lt_size e)) (Heap.get?_push_of_some _ e)
    refine ⟨.bl _, H, I', rfl, ?_⟩
    rw [List.size_toArray, ← hlen, all_range]
    exact q
/-! ### texts -/
theorem strsAre_of {ys : List Str} : ∀ {us : List Value}, Vals (ys.map V.str) us → StrsAre us ys := by
  induction ys with
  | nil => intro us h; cases h; exact .nil
  | cons y r ih =>
    intro us h
    cases h with
    | cons h1 h2 =>
      obtain ⟨t, rfl⟩ := h1
      exact .cons _ _ (ih h2)
theorem mt_join : MtR X "str.join" (fun x xs H Q => ∃ sep p, ∃ ys : List Str, x = .str sep ∧ xs = [.ref p] ∧ SqL X.K H p (ys.map V.str) ∧ (ys.map (·.length)).sum + ys.length * sep.length ≤ 16777216 ∧ Q (.str (Txt.join sep ys)) H) := by
  intro pins s σ H x xs v us Q I rx r h
  obtain ⟨sep, p, ys, rfl, rfl, hq, hok, q⟩ := h
  obtain ⟨t, rfl⟩ := rx
  obtain ⟨u, rfl, ru⟩ := vals1 r
  cases ru
  obtain ⟨its, rv, pl, hz⟩ := I.list hq
  exact join_list pl.isList (by simpa using strsAre_of rv) hok fun t' k => ⟨.str _, H, I.tok k, ⟨t', rfl⟩, q⟩
/-- a slice of a text -/
theorem sl_str : SlR X (fun x lo hi H Q => ∃ y, x = .str y ∧ y.length ≤ sizeLine ∧ Q (.str (Txt.slice y lo hi)) H) := by
  intro pins s σ H x v vl vu lo hi sl Q I rx hs pl pu h
  obtain ⟨y, rfl, hz, q⟩ := h
  obtain ⟨t, rfl⟩ := rx
  refine ⟨"str", _, F.slot_str_getitem.lookup, typeIs_str _ _ _, ?_⟩
  have fin : ∀ t' k, EP X pins σ Q (.str (Txt.slice y lo hi) t') { s with toks := k } := fun t' k => ⟨.str _, H, I.tok k, ⟨t', rfl⟩, q⟩
  cases pl with
  | none =>
    cases pu with
    | none => exact wpAny_getItem_str_slice (l := none) (u := none) (st := none) hs rfl (post_val_or_str ⟨Nat.le_trans (Txt.slice_le y _ _) hz, fin⟩)
    | int j uj => exact wpAny_getItem_str_slice (l := none) (u := some (j, uj)) (st := none) hs rfl (post_val_or_str ⟨Nat.le_trans (Txt.slice_le y _ _) hz, fin⟩)
  | int i ui =>
    cases pu with
    | none => exact wpAny_getItem_str_slice (l := some (i, ui)) (u := none) (st := none) hs rfl (post_val_or_str ⟨Nat.le_trans (Txt.slice_le y _ _) hz, fin⟩)
    | int j uj => exact wpAny_getItem_str_slice (l := some (i, ui)) (u := some (j, uj)) (st := none) hs rfl (post_val_or_str ⟨Nat.le_trans (Txt.slice_le y _ _) hz, fin⟩)
end
end L2
namespace L2
open PySem PySem.Spec PyProof.Rows
/-! ### the same rules, with what they ask of the text said by its form alone -/
def noStar : Expr → Bool
  | .Starred .. => false
  | _ => true
def noStars : List Expr → Bool
  | [] => true
  | e :: es => noStar e && noStars es
theorem star_of {e : Expr} {es : List Expr} {env : Env} (h : noStar e = true) : starEach (e :: es) env = (false, eval e env) :: starEach es env := by
  cases e <;> first | rfl | cases h
theorem stars_of {env : Env} : ∀ {es : List Expr}, noStars es = true → ∀ pos, (backTo pos (starEach es env)).any (·.1) = false
  | [], _, _ => rfl
  | e :: es, h, pos => by
    unfold noStars at h
    rw [Bool.and_eq_true] at h
    rw [star_of h.1]
    show (false || (backTo pos (starEach es env)).any (·.1)) = false
    rw [stars_of h.2 pos]
    rfl
section
variable {X : Cx} {CX : CXT} {k : Nat} {f : Addr} {fd : FuncData} {ps : List Str} {sp : Sp} {dvs : List V} {ds : List Value} {E : XK} {x : Str} {p pos apos : Pos} {e o : Expr} {es : List Expr} {te to : TE} {t : TA} {id T : String} {r : List V → Hp → VK → Prop}
theorem pa_c (ha : PE X e te) (hr : PA X es t) (h : noStar e = true := by rfl) : PA X (e :: es) (tCons te t) := pa_cons ha hr (star_of h)
theorem pa_i {i : Int} {j : Nat} (hr : PA X es t) : PA X (.Constant (.int i) j pos :: es) (tCons (tC (.int i)) t) := pa_cons pe_int hr (star_of rfl)
theorem pa_s {i : Str} {j : Nat} (hr : PA X es t) : PA X (.Constant (.str i) j pos :: es) (tCons (tC (.str i)) t) := pa_cons pe_str hr (star_of rfl)
theorem pe_f (F : FnOk X.prog X.w X.K X.mg X.base CX k f fd ps sp) (hr : Room k X.A) (hg : Gl X x) (hm : X.mg x = some (.ref f)) (hk : PySem.W.keepIn X.K (.ref f) = true) (hb : Binds X.K fd ps ds) (hd : Vals dvs ds) (hx : Passes CX X E)
    (ha : PA X (e :: es) t) (hst : noStars (e :: es) = true := by rfl) (hdb : (x == ("__debug__" : Str)) = false := by decide) : PE X (.Call (.Name x p) (e :: es) [] pos) (tCall sp dvs E t) := by
  have h := hst
  unfold noStars at h
  rw [Bool.and_eq_true] at h
  exact pe_call F hr hg hm hk hb hd hx ha hdb (star_of h.1) (stars_of h.2 pos)
theorem pe_b (hc : CallR X (.builtin id) r) (hg : Gl X x) (hm : X.mg x = none) (hv : bootBuiltins x = some (.builtin id)) (ha : PA X (e :: es) t) (hst : noStars (e :: es) = true := by rfl) (hn : x ≠ "__name__" := by decide) (hdb : (x == ("__debug__" : Str)) = false := by decide) :
    PE X (.Call (.Name x p) (e :: es) [] pos) (tCB r t) := by
  have h := hst
  unfold noStars at h
  rw [Bool.and_eq_true] at h
  exact pe_callB hc hg hm hv ha hn hdb (star_of h.1) (stars_of h.2 pos)
theorem pe_bt (hc : CallR X (.type T) r) (hg : Gl X x) (hm : X.mg x = none) (hv : bootBuiltins x = some (.type T)) (ha : PA X (e :: es) t) (hst : noStars (e :: es) = true := by rfl) (hn : x ≠ "__name__" := by decide) (hdb : (x == ("__debug__" : Str)) = false := by decide) :
    PE X (.Call (.Name x p) (e :: es) [] pos) (tCB r t) := by
  have h := hst
  unfold noStars at h
  rw [Bool.and_eq_true] at h
  exact pe_callTy hc hg hm hv ha hn hdb (star_of h.1) (stars_of h.2 pos)
end
end L2
namespace L2
open PySem PySem.Spec PyProof.Rows
/-! ### the rules once more, each judgement a structure: so no elaborator looks into it -/
structure QE (X : Cx) (e : Expr) (t : TE) : Prop where
  get : PE X e t
structure QT (X : Cx) (e : Expr) (t : TT) : Prop where
  get : PT X e t
structure QW (X : Cx) (e : Expr) (t : TT) : Prop where
  get : PW X e t
structure QA (X : Cx) (es : List Expr) (t : TA) : Prop where
  get : PA X es t
structure QS (X : Cx) (st : Stmt) (t : TS) : Prop where
  get : PS X st t
structure QSs (X : Cx) (st : List Stmt) (t : TS) : Prop where
  get : PSs X st t
structure QG (X : Cx) (e : Expr) (t : TG) : Prop where
  get : PG X e t
structure QGs (X : Cx) (es : List Expr) (t : TGs) : Prop where
  get : PGs X es t
structure QI (X : Cx) (tg iter : Expr) (wi : TI) : Prop where
  get : PI X tg iter wi
structure QIf (X : Cx) (ifs : List Expr) (t : TT) : Prop where
  get : PIf X ifs t
structure QO (X : Cx) (e : Option Expr) (t : TO) : Prop where
  get : PO X e t
theorem qpa_c {X : Cx} {e : Expr} {es : List Expr} {te : TE} {t : TA} (ha : QE X e te) (hr : QA X es t) (h : noStar e = true := by rfl) : QA X (e :: es) (tCons te t) := ⟨L2.pa_c (ha := ha.get) (hr := hr.get) (h := h)⟩
theorem qpa_i {X : Cx} {pos : Pos} {es : List Expr} {t : TA} {i : Int} {j : Nat} (hr : QA X es t) : QA X (Expr.Constant (Const.int i) j pos :: es) (tCons (tC (V.int i)) t) := ⟨L2.pa_i (hr := hr.get)⟩
theorem qpa_nil {X : Cx} : QA X [] tNil := ⟨L2.pa_nil ⟩
theorem qpa_s {X : Cx} {pos : Pos} {es : List Expr} {t : TA} {i : Str} {j : Nat} (hr : QA X es t) : QA X (Expr.Constant (Const.str i) j pos :: es) (tCons (tC (V.str i)) t) := ⟨L2.pa_s (hr := hr.get)⟩
theorem qpe_and {X : Cx} {a b : Expr} {ta tb : TE} {pos : Pos} {rest : List Expr} (ha : QE X a ta) (hb : QE X (Expr.BoolOp BoolOp.And (b :: rest) pos) tb) : QE X (Expr.BoolOp BoolOp.And (a :: b :: rest) pos) (tAndV ta tb) := ⟨L2.pe_and (ha := ha.get) (hb := hb.get)⟩
theorem qpe_b {X : Cx} {x : Str} {p pos : Pos} {e : Expr} {es : List Expr} {t : TA} {id : String} {r : List V → Hp → VK → Prop} (hc : CallR X (Value.builtin id) r) (hg : Gl X x) (hm : Cx.mg X x = none) (hv : bootBuiltins x = some (Value.builtin id)) (ha : QA X (e :: es) t) (hst : noStars (e :: es) = true := by rfl) (hn : x ≠ Str.ofString "__name__" := by decide) (hdb : (x == Str.ofString "__debug__") = false := by decide) : QE X (Expr.Call (Expr.Name x p) (e :: es) [] pos) (tCB r t) := ⟨L2.pe_b (hc := hc) (hg := hg) (hm := hm) (hv := hv) (ha := ha.get) (hst := hst) (hn := hn) (hdb := hdb)⟩
theorem qpe_bl {X : Cx} {b : Bool} {j : Nat} {pos : Pos} : QE X (Expr.Constant (Const.bool b) j pos) (tC (V.bl b)) := ⟨L2.pe_bl ⟩
theorem qpe_bltn {X : Cx} {x : Str} {v : V} {u : Value} {pos : Pos} (hg : Gl X x) (hm : Cx.mg X x = none) (hv : bootBuiltins x = some u) (r : L2.RelV v u) (hn : x ≠ Str.ofString "__name__" := by decide) (hd : (x == Str.ofString "__debug__") = false := by decide) : QE X (Expr.Name x pos) (tC v) := ⟨L2.pe_bltn (hg := hg) (hm := hm) (hv := hv) (r := r) (hn := hn) (hd := hd)⟩
theorem qpe_bt {X : Cx} {x : Str} {p pos : Pos} {e : Expr} {es : List Expr} {t : TA} {T : String} {r : List V → Hp → VK → Prop} (hc : CallR X (Value.type T) r) (hg : Gl X x) (hm : Cx.mg X x = none) (hv : bootBuiltins x = some (Value.type T)) (ha : QA X (e :: es) t) (hst : noStars (e :: es) = true := by rfl) (hn : x ≠ Str.ofString "__name__" := by decide) (hdb : (x == Str.ofString "__debug__") = false := by decide) : QE X (Expr.Call (Expr.Name x p) (e :: es) [] pos) (tCB r t) := ⟨L2.pe_bt (hc := hc) (hg := hg) (hm := hm) (hv := hv) (ha := ha.get) (hst := hst) (hn := hn) (hdb := hdb)⟩
theorem qpe_cmpR {X : Cx} {a b : Expr} {ta tb : TE} {pos : Pos} {op : CmpOp} {r : R2} (ho : OpR X (compareOp op) r) (ha : QE X a ta) (hb : QE X b tb) (hm : behindInMarks op b = false) : QE X (Expr.Compare a [op] [b] pos) (tOp r ta tb) := ⟨L2.pe_cmpR (ho := ho) (ha := ha.get) (hb := hb.get) (hm := hm)⟩
theorem qpe_comp {X : Cx} {elt tg iter : Expr} {ifs : List Expr} {own : Scope} {pos : Pos} (ts Nc : List Str) (fr : List Nat) {wi : TI} {g : TG} {tf : TT} {te : TE} (hi : QI X tg iter wi) (hg : ∀ (z : CZ), QG (cxComp X own (ts ++ Nc) z) tg g) (hf : ∀ (z : CZ), QIf (cxComp X own (ts ++ Nc) z) ifs tf) (he : ∀ (z : CZ), QE (cxComp X own (ts ++ Nc) z) elt te) (hc : Cx.calm X = true := by rfl) (c : compOk own (Env.scope (Cx.env X)) Nc = true := by rfl) (hN : List.map (fun (x : Nat) => (Cx.N X)[x]?) fr = List.map some Nc := by rfl) (hs : ∀ (x : Value), foldedSetIterable iter (Cx.env X) x = pure x := by intro _; rfl) : QE X (Expr.ListComp elt [{ target := tg, iter := iter, ifs := ifs, is_async := 0 }] own pos)
    (tComp (List.length ts) fr wi g tf te) := ⟨L2.pe_comp (ts := ts) (Nc := Nc) (fr := fr) (hi := hi.get) (hg := fun z => (hg z).get) (hf := fun z => (hf z).get) (he := fun z => (he z).get) (hc := hc) (c := c) (hN := hN) (hs := hs)⟩
theorem qpe_f {X : Cx} {CX : CXT} {k : Nat} {f : Addr} {fd : FuncData} {ps : List Str} {sp : Sp} {dvs : List V} {ds : List Value} {E : XK} {x : Str} {p pos : Pos} {e : Expr} {es : List Expr} {t : TA} (F : FnOk (Cx.prog X) (Cx.w X) (Cx.K X) (Cx.mg X) (Cx.base X) CX k f fd ps sp) (hr : Room k (Cx.A X)) (hg : Gl X x) (hm : Cx.mg X x = some (Value.ref f)) (hk : W.keepIn (Cx.K X) (Value.ref f) = true) (hb : L2.Binds (Cx.K X) fd ps ds) (hd : Vals dvs ds) (hx : Passes CX X E) (ha : QA X (e :: es) t) (hst : noStars (e :: es) = true := by rfl) (hdb : (x == Str.ofString "__debug__") = false := by decide) : QE X (Expr.Call (Expr.Name x p) (e :: es) [] pos) (tCall sp dvs E t) := ⟨L2.pe_f (F := F) (hr := hr) (hg := hg) (hm := hm) (hk := hk) (hb := hb) (hd := hd) (hx := hx) (ha := ha.get) (hst := hst) (hdb := hdb)⟩
theorem qpe_fld {X : Cx} {e : Expr} {f : Str} {pos : Pos} {ta : TE} (he : QE X e ta) (hb : attributeBase e f (Cx.env X) (eval e (Cx.env X)) = eval e (Cx.env X)) : QE X (Expr.Attribute e f pos) (tFld (Cx.K X) ta f) := ⟨L2.pe_fld (he := he.get) (hb := hb)⟩
theorem qpe_glob {X : Cx} {x : Str} {v : V} {u : Value} {pos : Pos} (hg : Gl X x) (hm : Cx.mg X x = some u) (r : L2.RelV v u) (hd : (x == Str.ofString "__debug__") = false := by decide) : QE X (Expr.Name x pos) (tC v) := ⟨L2.pe_glob (hg := hg) (hm := hm) (r := r) (hd := hd)⟩
theorem qpe_int {X : Cx} {i : Int} {j : Nat} {pos : Pos} : QE X (Expr.Constant (Const.int i) j pos) (tC (V.int i)) := ⟨L2.pe_int ⟩
theorem qpe_ix {X : Cx} {a b : Expr} {ta tb : TE} {pos : Pos} {r : R2} (hr : IxR X r) (ha : QE X a ta) (hb : QE X b tb) (hs : PlainIx b) : QE X (Expr.Subscript a b pos) (tOp r ta tb) := ⟨L2.pe_ix (hr := hr) (ha := ha.get) (hb := hb.get) (hs := hs)⟩
theorem qpe_lst {X : Cx} {es : List Expr} {t : TA} {pos : Pos} (h : QA X es t) : QE X (Expr.List es pos) (tLst t) := ⟨L2.pe_lst (h := h.get)⟩
theorem qpe_makeP {X : Cx} {C : Addr} {x : Str} {p pos : Pos} (M : MkP (Cx.K X) C) (hg : Gl X x) (hm : Cx.mg X x = some (Value.ref C)) (hdb : (x == Str.ofString "__debug__") = false := by decide) : QE X (Expr.Call (Expr.Name x p) [] [] pos) (tMakeP C) := ⟨L2.pe_makeP (M := M) (hg := hg) (hm := hm) (hdb := hdb)⟩
theorem qpe_methD0 {X : Cx} {m : Str} {pos apos : Pos} {o : Expr} {ta : TE} {k : Nat} {pl : Sem Bool} (hr : Room k (Cx.A X)) (he : QE X o ta) (ht :
    eval (Expr.Call (Expr.Attribute o m apos) [] [] pos) (Cx.env X) = (do
      let ov ← eval o (Cx.env X)
      standAt (Pos.atName apos)
      let __x ← holding [ov] (getMethod ov m pl)
      match __x with
        | (f, first) =>
          callWith pos f first (backTo pos (starEach [] (Cx.env X))) (backToKw pos (keywordEach [] (Cx.env X)))) := by
    rfl) : QE X (Expr.Call (Expr.Attribute o m apos) [] [] pos) (tMethD X k m ta tNil) := ⟨L2.pe_methD0 (hr := hr) (he := he.get) (ht := ht)⟩
theorem qpe_non {X : Cx} {j : Nat} {pos : Pos} : QE X (Expr.Constant Const.none j pos) (tC V.non) := ⟨L2.pe_non ⟩
theorem qpe_not {X : Cx} {a : Expr} {ta : TE} {pos : Pos} (ha : QE X a ta) : QE X (Expr.UnaryOp UnaryOp.Not a pos) (tNotV ta) := ⟨L2.pe_not (ha := ha.get)⟩
theorem qpe_one {X : Cx} {a : Expr} {pos : Pos} {op : BoolOp} {t : TE} (h : QE X a t) : QE X (Expr.BoolOp op [a] pos) t := ⟨L2.pe_one (h := h.get)⟩
theorem qpe_op {X : Cx} {a b : Expr} {ta tb : TE} {pos : Pos} {op : Operator} {r : R2} (ho : OpR X (binaryOp op) r) (ha : QE X a ta) (hb : QE X b tb) : QE X (Expr.BinOp a op b pos) (tOp r ta tb) := ⟨L2.pe_op (ho := ho) (ha := ha.get) (hb := hb.get)⟩
theorem qpe_or {X : Cx} {a b : Expr} {ta tb : TE} {pos : Pos} {rest : List Expr} (ha : QE X a ta) (hb : QE X (Expr.BoolOp BoolOp.Or (b :: rest) pos) tb) : QE X (Expr.BoolOp BoolOp.Or (a :: b :: rest) pos) (tOrV ta tb) := ⟨L2.pe_or (ha := ha.get) (hb := hb.get)⟩
theorem qpe_slice {X : Cx} {e : Expr} {te : TE} {lo hi : Option Expr} {tl th : TO} {pos p2 : Pos} {r : V → Option Int → Option Int → Hp → VK → Prop} (hr : SlR X r) (he : QE X e te) (hl : QO X lo tl) (hu : QO X hi th) : QE X (Expr.Subscript e (Expr.Slice lo hi none p2) pos) (tSl r te tl th) := ⟨L2.pe_slice (hr := hr) (he := he.get) (hl := hl.get) (hu := hu.get)⟩
theorem qpe_str {X : Cx} {x : Str} {j : Nat} {pos : Pos} : QE X (Expr.Constant (Const.str x) j pos) (tC (V.str x)) := ⟨L2.pe_str ⟩
theorem qpe_tup {X : Cx} {es : List Expr} {t : TA} {pos : Pos} {x1 : Nat} (h : QA X es t) : QE X (Expr.Tuple es x1 pos) (tTup t) := ⟨L2.pe_tup (h := h.get)⟩
theorem qpf_nil {X : Cx} : QIf X [] tYes := ⟨L2.pf_nil ⟩
theorem qpg_name {X : Cx} {pos : Pos} {i : Nat} {x : Str} (hN : List.Nodup (Cx.N X)) (hi : (Cx.N X)[i]? = some x) (hx : L2.Loc (Env.scope (Cx.env X)) x) (hf : Cx.fn X x = true ∨ List.lookup x (Scope.names (Env.scope (Cx.env X))) = some NameKind.local := by
    first
    | exact .inl rfl
    | exact .inr rfl
    | assumption) : QG X (Expr.Name x pos) (gName i) := ⟨L2.pg_name (hN := hN) (hi := hi) (hx := hx) (hf := hf)⟩
theorem qpg_sub {X : Cx} {pos : Pos} {o i : Expr} {to ti : TE} {t : TSet} (ho : QE X o to) (hi : QE X i ti) (hs : PSet X t) (ha :
    ∀ (v : Value),
      assign (Expr.Subscript o i pos) (Cx.env X) v = (do
        let ov ← holding [v] (eval o (Cx.env X))
        let iv ← holding [v, ov] (eval i (Cx.env X))
        standAt pos
        holding [v, ov, iv] (setItem ov iv v)
        release [v, ov, iv] []) := by
    intro _; rfl) : QG X (Expr.Subscript o i pos) (gSub to ti t) := ⟨L2.pg_sub (ho := ho.get) (hi := hi.get) (hs := hs) (ha := ha)⟩
theorem qpg_tup {X : Cx} {pos : Pos} {es : List Expr} {k : Nat} {t : TGs} {n : Nat} (hc : Cx.calm X = true) (h : QGs X es t) (hn : List.length (assignEach es (Cx.env X)) = n := by rfl) (hst : List.findIdx? (fun (x : Bool × (Value → Sem Unit)) => Prod.fst x) (assignEach es (Cx.env X)) = none := by
    rfl) : QG X (Expr.Tuple es k pos) (gTup (Cx.K X) n t) := ⟨L2.pg_tup (hc := hc) (h := h.get) (hn := hn) (hst := hst)⟩
theorem qpgs_cons {X : Cx} {e : Expr} {es : List Expr} {t : TG} {u : TGs} (h1 : QG X e t) (h2 : QGs X es u) (hs :
    List.map (fun (x : Bool × (Value → Sem Unit)) => Prod.snd x) (assignEach (e :: es) (Cx.env X)) =
      assign e (Cx.env X) ::
        List.map (fun (x : Bool × (Value → Sem Unit)) => Prod.snd x) (assignEach es (Cx.env X)) := by
    rfl) : QGs X (e :: es) (gCons t u) := ⟨L2.pgs_cons (h1 := h1.get) (h2 := h2.get) (hs := hs)⟩
theorem qpgs_nil {X : Cx} : QGs X [] gNil := ⟨L2.pgs_nil ⟩
theorem qpi_enum {X : Cx} {a : Expr} {ta : TA} {p pos : Pos} {elts : List Expr} {x1 : Nat} {tpos : Pos} (hg : Gl X (Str.ofString "enumerate")) (hm : Cx.mg X (Str.ofString "enumerate") = none) (ha : QA X [a] ta) (hs : starEach [a] (Cx.env X) = [(false, eval a (Cx.env X))] := by rfl) : QI X (Expr.Tuple elts x1 tpos) (Expr.Call (Expr.Name (Str.ofString "enumerate") p) [a] [] pos) (iEnum (Cx.K X) ta) := ⟨L2.pi_enum (hg := hg) (hm := hm) (ha := ha.get) (hs := hs)⟩
theorem qpi_list {X : Cx} {tg l : Expr} {tl : TE} (hl : QE X l tl) : QI X tg l (iList (Cx.K X) tl) := ⟨L2.pi_list (hl := hl.get)⟩
theorem qpi_range1 {X : Cx} {tg a : Expr} {ta : TA} {p pos : Pos} (hg : Gl X (Str.ofString "range")) (hm : Cx.mg X (Str.ofString "range") = none) (ha : QA X [a] ta) (hs : starEach [a] (Cx.env X) = [(false, eval a (Cx.env X))] := by rfl) : QI X tg (Expr.Call (Expr.Name (Str.ofString "range") p) [a] [] pos) (iRng1 ta) := ⟨L2.pi_range1 (hg := hg) (hm := hm) (ha := ha.get) (hs := hs)⟩
theorem qpi_str {X : Cx} {tg l : Expr} {tl : TE} (hl : QE X l tl) : QI X tg l (iStr tl) := ⟨L2.pi_str (hl := hl.get)⟩
theorem qpo_none {X : Cx} : QO X none tNoPart := ⟨L2.po_none ⟩
theorem qpo_some {X : Cx} {e : Expr} {te : TE} (h : QE X e te) : QO X (some e) (tPart te) := ⟨L2.po_some (h := h.get)⟩
theorem qps_asg {X : Cx} {pos : Pos} {tg e : Expr} {te : TE} {g : TG} (he : QE X e te) (hg : QG X tg g) (hs : swapsWithSole [tg] e (Pos.line pos) (Cx.env X) = pure false := by rfl) (hw : swappedStores [tg] e (Cx.env X) = pure none := by rfl) (h1 :
    List.map (fun (x : Bool × (Value → Sem Unit)) => Prod.snd x) (assignEach [tg] (Cx.env X)) =
      [assign tg (Cx.env X)] := by
    rfl) : QS X (Stmt.Assign [tg] e pos) (tAsg te g) := ⟨L2.ps_asg (he := he.get) (hg := hg.get) (hs := hs) (hw := hw) (h1 := h1)⟩
theorem qps_cut {X : Cx} {st : Stmt} {t : TS} (h : QS X st t) : QS X st (tCut t) := ⟨L2.ps_cut (h := h.get)⟩
theorem qps_fld {X : Cx} {o value : Expr} {f : Str} {pos pos' : Pos} {ta tv : TE} (ha : QE X o ta) (hv : QE X value tv) (hs : swapsWith value (some (Expr.Attribute o f pos')) (Pos.line pos) (Cx.env X) = pure false) : QS X (Stmt.Assign [Expr.Attribute o f pos'] value pos) (sFld (Cx.K X) ta tv f) := ⟨L2.ps_fld (ha := ha.get) (hv := hv.get) (hs := hs)⟩
theorem qps_if {X : Cx} {t u : TS} {pos : Pos} {c : Expr} {a b : List Stmt} {tc : TT} (hc : QT X c tc) (ha : QSs X a t) (hb : QSs X b u) : QS X (Stmt.If c a b pos) (tIfS tc t u) := ⟨L2.ps_if (hc := hc.get) (ha := ha.get) (hb := hb.get)⟩
theorem qps_ret {X : Cx} {e : Expr} {te : TE} {pos : Pos} (he : QE X e te) : QS X (Stmt.Return (some e) pos) (tRet te) := ⟨L2.ps_ret (he := he.get)⟩
theorem qps_set {X : Cx} {pos : Pos} {i : Nat} {x : Str} {e : Expr} {te : TE} {pos' : Pos} (hN : List.Nodup (Cx.N X)) (hi : (Cx.N X)[i]? = some x) (hx : L2.Loc (Env.scope (Cx.env X)) x) (he : QE X e te) (hs : swapsWith e (some (Expr.Name x pos')) (Pos.line pos) (Cx.env X) = pure false := by rfl) (hf : Cx.fn X x = true ∨ List.lookup x (Scope.names (Env.scope (Cx.env X))) = some NameKind.local := by
    first
    | exact .inl rfl
    | exact .inr rfl
    | assumption) : QS X (Stmt.Assign [Expr.Name x pos'] e pos) (tAsg te (gName i)) := ⟨L2.ps_set (hN := hN) (hi := hi) (hx := hx) (he := he.get) (hs := hs) (hf := hf)⟩
theorem qpss_cons {X : Cx} {st : Stmt} {rest : List Stmt} {t u : TS} (h1 : QS X st t) (h2 : QSs X rest u) : QSs X (st :: rest) (tSeq t u) := ⟨L2.pss_cons (h1 := h1.get) (h2 := h2.get)⟩
theorem qpss_nil {X : Cx} : QSs X [] tNext := ⟨L2.pss_nil ⟩
theorem qpss_one {X : Cx} {st : Stmt} {t : TS} (h1 : QS X st t) : QSs X [st] t := ⟨L2.pss_one (h1 := h1.get)⟩
theorem qpt_chain {X : Cx} {a b c : Expr} {ta tb tc : TE} {pos : Pos} {op op' : CmpOp} {r r' : R2} (ho : OpR X (compareOp op) r) (ho' : OpR X (compareOp op') r') (ha : QE X a ta) (hb : QE X b tb) (hc : QE X c tc) (hm : lastMarks [op, op'] [b, c] = false := by with_unfolding_all rfl) : QT X (Expr.Compare a [op, op'] [b, c] pos) (tTest (tChain r r' ta tb tc)) := ⟨L2.pt_chain (ho := ho) (ho' := ho') (ha := ha.get) (hb := hb.get) (hc := hc.get) (hm := hm)⟩
theorem qpt_cmpR {X : Cx} {a b : Expr} {ta tb : TE} {pos : Pos} {op : CmpOp} {r : R2} (ho : OpR X (compareOp op) r) (ha : QE X a ta) (hb : QE X b tb) (hm : behindInMarks op b = false) : QT X (Expr.Compare a [op] [b] pos) (tTest (tOp r ta tb)) := ⟨L2.pt_cmpR (ho := ho) (ha := ha.get) (hb := hb.get) (hm := hm)⟩
theorem qpt_not {X : Cx} {a : Expr} {pos : Pos} {tA : TT} (ha : QT X a tA) : QT X (Expr.UnaryOp UnaryOp.Not a pos) (tNot tA) := ⟨L2.pt_not (ha := ha.get)⟩
theorem qpt_val {X : Cx} {e : Expr} {t : TE} (h : QE X e t) (he :
    ∀ (whole : Sem Value),
      PySem.isTrue e (Cx.env X) whole = (do
        let v ← whole
        standAt (Expr.pos e)
        holding [v] (truthy v)) := by
    intro _; rfl) : QT X e (tB t) := ⟨L2.pt_val (h := h.get) (he := he)⟩
theorem qpv {X : Cx} (i : Nat) {x : Str} {pos : Pos} (hN : (Cx.N X)[i]? = some x := by rfl) (hv : Vis (Env.scope (Cx.env X)) x := by
    first
    | exact Or.inl rfl
    | exact Or.inr (Or.inl rfl)
    | exact Or.inr (Or.inr rfl)) (hd : (x == Str.ofString "__debug__") = false := by decide) (hcd : (x == Str.ofString "__classdict__") = false := by decide) : QE X (Expr.Name x pos) (tVar i) := ⟨L2.pv (i := i) (hN := hN) (hv := hv) (hd := hd) (hcd := hcd)⟩
theorem qpw_and {X : Cx} {a b : Expr} {pos : Pos} {tA tB' : TT} {rest : List Expr} (ha : QT X a tA) (hb : QW X (Expr.BoolOp BoolOp.And (b :: rest) pos) tB') : QW X (Expr.BoolOp BoolOp.And (a :: b :: rest) pos) (tAnd tA tB') := ⟨L2.pw_and (ha := ha.get) (hb := hb.get)⟩
theorem qpw_and1 {X : Cx} {a : Expr} {pos : Pos} {tA : TT} (ha : QT X a tA) : QW X (Expr.BoolOp BoolOp.And [a] pos) tA := ⟨L2.pw_and1 (ha := ha.get)⟩
theorem qpw_or {X : Cx} {a b : Expr} {pos : Pos} {tA tB' : TT} {rest : List Expr} (ha : QT X a tA) (hb : QW X (Expr.BoolOp BoolOp.Or (b :: rest) pos) tB') : QW X (Expr.BoolOp BoolOp.Or (a :: b :: rest) pos) (tOr tA tB') := ⟨L2.pw_or (ha := ha.get) (hb := hb.get)⟩
theorem qpw_or1 {X : Cx} {a : Expr} {pos : Pos} {tA : TT} (ha : QT X a tA) : QW X (Expr.BoolOp BoolOp.Or [a] pos) tA := ⟨L2.pw_or1 (ha := ha.get)⟩
theorem qPWpt {X : Cx} {e : Expr} {t : TT} (h : QW X e t) : QT X e t := ⟨L2.PW.pt (h := h.get)⟩
theorem qpe_bm {X : Cx} {o e : Expr} {es : List Expr} {to : TE} {t : TA} {name : Str} {apos cpos : Pos} {T id : String} {r : V → List V → Hp → VK → Prop} (pa : PlainAttrs T) (slot : Slot T name id) (hty : typeOf (.builtin id) = pure (.type "method_descriptor")) (hm : MtR X id r)
    (ho : QE X o to) (ha : QA X (e :: es) t) (hst : noStars (e :: es) = true := by rfl) (hbase : attributeBase o name X.env (eval o X.env) = eval o X.env := by rfl) (hlen : decide ((e :: es).length + ([] : List Keyword).length + (if ([] : List Keyword).isEmpty then 0 else 1) < 30) = true := by rfl)
    (hline : (apos.endLine == cpos.line) = true := by rfl) : QE X (.Call (.Attribute o name apos) (e :: es) [] cpos) (tBM X.K T r to t) := by
  have h := hst
  unfold noStars at h
  rw [Bool.and_eq_true] at h
  refine ⟨pe_bm pa slot hty hm ho.get ha.get hbase ?_ hline (star_of h.1) (stars_of h.2 cpos)⟩
  rw [hlen, Bool.and_true]
  show ((backTo cpos (starEach (e :: es) X.env)).all (fun x => !x.1) && true) = true
  rw [Bool.and_true, List.all_eq_true]
  intro x hx
  have z := stars_of (env := X.env) hst cpos
  rw [List.any_eq_false] at z
  simpa using z x hx
end L2
namespace L2
open PySem PySem.Spec PyProof.Rows
section
variable {P : Program} {w : World} {K : PySem.W.Frag} {mg : Str → Option Value} {base : Heap}
/-- a def that raises nothing -/
theorem Fun.okQ {x qual : Str} {st : Stmt} {f : Addr} {fd : FuncData} {N ps : List Str} {k : Nat} {sp : Sp} (F : Fun K x qual st f fd) (S : FnScope N ps (defScope st)) (len : ∀ vs H Q E, sp vs H Q E → vs.length = ps.length)
    (hbody : ∀ (cdv : Value) (A : Around) (outer : List Env) (s : Shared) (H : Hp) (vs : List V) (Q : VK) (E : XK), Room k (A.deeper (envOfC qual (defScope st) s.heap.objs.size f cdv)) → sp vs H Q E →
      ∃ t, QSs (cxOf CX0 P w K mg base N qual (defScope st) f cdv A outer s H E).nox (defBody st) t ∧ t { nx := fun _ H' => Q .non H', rt := Q } (start N vs) H) : FnOk P w K mg base CX0 (k + 1) f fd ps sp :=
  F.ok S len fun cdv A outer s H vs Q E hr hsp => let ⟨t, h, q⟩ := hbody cdv A outer s H vs Q E hr hsp; ⟨t, h.get, q⟩
/-- a def that may raise exceptions of own classes -/
theorem Fun.okX {x qual : Str} {st : Stmt} {f : Addr} {fd : FuncData} {N ps : List Str} {k : Nat} {sp : Sp} (F : Fun K x qual st f fd) (S : FnScope N ps (defScope st)) (len : ∀ vs H Q E, sp vs H Q E → vs.length = ps.length)
    (hbody : ∀ (cdv : Value) (A : Around) (outer : List Env) (s : Shared) (H : Hp) (vs : List V) (Q : VK) (E : XK), Room k (A.deeper (envOfC qual (defScope st) s.heap.objs.size f cdv)) → sp vs H Q E →
      ∃ t, QSs (cxOf (CXE P w) P w K mg base N qual (defScope st) f cdv A outer s H E) (defBody st) t ∧ t { nx := fun _ H' => Q .non H', rt := Q } (start N vs) H) : FnOk P w K mg base (CXE P w) (k + 1) f fd ps sp := by
  obtain ⟨oc, od, kV, doc, pm, an, cdv, ct, osl, rfl, lk, hcd⟩ := F.ex
  refine fn_of lk hcd S len fun A outer s H vs Q E hr hsp => ?_
  obtain ⟨t, h, q⟩ := hbody cdv A outer s H vs Q E hr hsp
  exact ⟨t, h.get, q⟩
end
end L2
namespace L2
open PySem PySem.Spec PyProof.Rows
/-! ### comprehensions over lists, tuples, ranges, texts, enumerate -/
section
variable {K : PySem.W.Frag} {g : TG} {te : TE} {D : Addr} {σ : St} {H0 : Hp} {Q : Hp → Prop}
theorem turns_list {a : Addr} {xs : List V} (C : St → Prop) (F : Nat → V → Hp → Prop) (hl : xs.length ≤ sizeLine) (hq : SqL K H0 a xs) (hD : H0 D = none) (h0 : C σ) (hF : ∀ i y H H', SameB H H' → F i y H → F i y H')
    (hs : ∀ i x σ H (Nx : St → VK), xs[i]? = some x → C σ → Same H0 H → (∀ σ2 y H4, C σ2 → Same H H4 → F i y H4 → Nx σ2 y H4) → g x σ H fun σ2 H2 => te σ2 H2 (Nx σ2))
    (hd : ∀ H ys, Same H0 H → H D = some (.lst ys) → ys.length = xs.length → (∀ (i : Nat) y, ys[i]? = some y → F i y H) → Q H) : tTurns (Itl K a) g tYes te D σ (upd H0 D (.lst [])) Q := by
  refine turns_map xs.length hl C F hD h0 hF (fun H e => ⟨xs, e.seq hq, Nat.le_refl _⟩) (fun i H hi e => ⟨xs, xs[i], e.seq hq, List.getElem?_eq_getElem hi⟩) ?_ hd
  rintro i σ H x H' Nx hi hc e ⟨rfl, hy⟩ kN
  exact hs i x σ _ Nx (hy xs (e.seq hq)) hc e kN
theorem turns_range {lo : Int} {n : Nat} (C : St → Prop) (F : Nat → V → Hp → Prop) (hl : n ≤ sizeLine) (hD : H0 D = none) (h0 : C σ) (hF : ∀ i y H H', SameB H H' → F i y H → F i y H')
    (hs : ∀ i σ H (Nx : St → VK), i < n → C σ → Same H0 H → (∀ σ2 y H4, C σ2 → Same H H4 → F i y H4 → Nx σ2 y H4) → g (.int (lo + i)) σ H fun σ2 H2 => te σ2 H2 (Nx σ2))
    (hd : ∀ H ys, Same H0 H → H D = some (.lst ys) → ys.length = n → (∀ (i : Nat) y, ys[i]? = some y → F i y H) → Q H) : tTurns (Itr lo n) g tYes te D σ (upd H0 D (.lst [])) Q := by
  refine turns_map n hl C F hD h0 hF (fun H e => Nat.le_refl _) (fun i H hi e => hi) ?_ hd
  rintro i σ H x H' Nx hi hc e ⟨rfl, rfl⟩ kN
  exact hs i σ _ Nx hi hc e kN
theorem turns_enum {a : Addr} {xs : List V} (C : St → Prop) (F : Nat → V → Hp → Prop) (hl : xs.length ≤ sizeLine) (hq : SqL K H0 a xs) (hD : H0 D = none) (h0 : C σ) (hF : ∀ i y H H', SameB H H' → F i y H → F i y H')
    (hs : ∀ i x σ H p (Nx : St → VK), xs[i]? = some x → C σ → Same H0 H → H p = none → (∀ σ2 y H4, C σ2 → Same H H4 → F i y H4 → Nx σ2 y H4) → g (.ref p) σ (upd H p (.tup [.int i, x])) fun σ2 H2 => te σ2 H2 (Nx σ2))
    (hd : ∀ H ys, Same H0 H → H D = some (.lst ys) → ys.length = xs.length → (∀ (i : Nat) y, ys[i]? = some y → F i y H) → Q H) : tTurns (Ite K a) g tYes te D σ (upd H0 D (.lst [])) Q := by
  refine turns_map xs.length hl C F hD h0 hF (fun H e => ⟨xs, e.seq hq, Nat.le_refl _⟩) (fun i H hi e => ⟨xs, xs[i], e.seq hq, List.getElem?_eq_getElem hi⟩) ?_ hd
  rintro i σ H x H' Nx hi hc e ⟨p, y, rfl, hn, rfl, hy⟩ kN
  exact hs i y σ H p Nx (hy xs (e.seq hq)) hc e hn kN
end
/-- every value is said to be such a one -/
theorem ys_map {α : Type} {ys : List V} {f : α → V} {G : α → Prop} (h : ∀ (i : Nat) y, ys[i]? = some y → ∃ z, y = f z ∧ G z) : ∃ zs : List α, ys = zs.map f ∧ ∀ z ∈ zs, G z := by
  induction ys with
  | nil => exact ⟨[], rfl, fun z hz => (nomatch hz)⟩
  | cons y r ih =>
    obtain ⟨z, e, gz⟩ := h 0 y rfl
    obtain ⟨zs, e2, g2⟩ := ih fun i y' hy => h (i + 1) y' (by simpa using hy)
    refine ⟨z :: zs, by rw [e, e2]; rfl, fun z' hz => ?_⟩
    rcases List.mem_cons.mp hz with rfl | hz
    · exact gz
    · exact g2 z' hz
theorem sum_len1 {zs : List Str} {m : Nat} (h : ∀ z ∈ zs, z.length ≤ m) : (zs.map (·.length)).sum ≤ zs.length * m := by
  induction zs with
  | nil => simp
  | cons z r ih =>
    have h1 := h z List.mem_cons_self
    have h2 := ih fun z' hz => h z' (List.mem_cons_of_mem _ hz)
    simp only [List.map_cons, List.sum_cons, List.length_cons, Nat.add_mul, Nat.one_mul]
    omega
end L2
namespace L2
open PySem PySem.Spec PyProof.Rows
/-! ### exceptions, by the quick rules -/
section
variable {X : Cx} {k : Nat} {f C : Addr} {fd : FuncData} {ps : List Str} {sp : Sp} {XE : St → XK} {x m : Str} {p pos apos np cpos : Pos} {e o : Expr} {es : List Expr} {ta : TE} {t : TA}
theorem qx_call (F : FnOk X.prog X.w X.K X.mg X.base (CXE X.prog X.w) k f fd ps sp) (hr : Room k X.A) (hg : Gl X x) (hm : X.mg x = some (.ref f)) (hk : PySem.W.keepIn X.K (.ref f) = true) (hb : Binds X.K fd ps []) (hx : PassesX X XE)
    (ha : QA X (e :: es) t) (hst : noStars (e :: es) = true := by rfl) (hdb : (x == ("__debug__" : Str)) = false := by decide) : QE X (.Call (.Name x p) (e :: es) [] pos) (tCallX sp XE t) := by
  have h := hst
  unfold noStars at h
  rw [Bool.and_eq_true] at h
  exact ⟨pe_callX F hr hg hm hk hb hx ha.get hdb (star_of h.1) (stars_of h.2 pos)⟩
end
section
variable {P : Program} {w : World} {K : PySem.W.Frag} {mg : Str → Option Value} {base : Heap} {N : List Str} {qual : Str} {scope : Scope} {f C : Addr} {cdv : Value} {A : Around} {outer : List Env} {s : Shared} {H : Hp} {E : XK}
  {x : Str} {np cpos pos : Pos} {e₀ : Expr} {rest : List Expr} {t : TA}
theorem qx_raise (c : XCls K C) (hm : mg x = some (.ref C)) (ha : QA (cxOf (CXE P w) P w K mg base N qual scope f cdv A outer s H E) (e₀ :: rest) t)
    (hg : Gl (cxOf (CXE P w) P w K mg base N qual scope f cdv A outer s H E) x := by rfl) (hst : noStars (e₀ :: rest) = true := by rfl) (hdb : (x == ("__debug__" : Str)) = false := by decide) :
    QS (cxOf (CXE P w) P w K mg base N qual scope f cdv A outer s H E) (.Raise (some (.Call (.Name x np) (e₀ :: rest) [] cpos)) none pos) (tRaise C E t) := by
  have h := hst
  unfold noStars at h
  rw [Bool.and_eq_true] at h
  exact ⟨ps_raise c hm ha.get hg hdb (star_of h.1) (stars_of h.2 cpos)⟩
end
/-! ### texts once more -/
section
variable {X : Cx}
end
end L2
namespace L2
open PySem PySem.Spec PyProof.Rows
/-! ### == and != of lists and tuples, however deep -/
inductive EqL (R : V → V → Bool → Prop) : List V → List V → Bool → Prop
  | nil : EqL R [] [] true
  | left (y : V) (ys : List V) : EqL R [] (y :: ys) false
  | right (x : V) (xs : List V) : EqL R (x :: xs) [] false
  | cons {x y : V} {xs ys : List V} {b c : Bool} : R x y b → EqL R xs ys c → EqL R (x :: xs) (y :: ys) (b && c)
def EqN (K : PySem.W.Frag) (H : Hp) : Nat → V → V → Bool → Prop
  | 0, x, y, b => (flatV x = true ∧ flatV y = true ∧ b = eqV x y) ∨ ∃ a, x = .ref a ∧ y = .ref a ∧ b = true
  | n + 1, x, y, b => EqN K H n x y b ∨ ∃ a c xs ys, x = .ref a ∧ y = .ref c ∧ ((SqT K H a xs ∧ SqT K H c ys) ∨ (SqL K H a xs ∧ SqL K H c ys)) ∧ EqL (EqN K H n) xs ys b
theorem EqL.ans {R : V → V → Bool → Prop} {xs ys : List V} {b : Bool} (h : EqL R xs ys b) :
    ∃ e : Nat → Bool, (∀ (j : Nat) x y, xs[j]? = some x → ys[j]? = some y → R x y (e j)) ∧ b = ((List.range (min xs.length ys.length)).all e && xs.length == ys.length) := by
  induction h with
  | nil => exact ⟨fun _ => true, fun j x y e => by simp at e, rfl⟩
  | left y ys => exact ⟨fun _ => true, fun j x y e => by simp at e, by simp⟩
  | right x xs => exact ⟨fun _ => true, fun j x y _ e => by simp at e, by simp⟩
  | @cons x y xs ys b c hr _ ih =>
    obtain ⟨e, h1, h2⟩ := ih
    refine ⟨fun j => match j with | 0 => b | j + 1 => e j, fun j x' y' ex ey => ?_, ?_⟩
    · cases j with
      | zero =>
        have e1 : x = x' := by simpa using ex
        have e2 : y = y' := by simpa using ey
        subst e1 e2
        exact hr
      | succ j => exact h1 j x' y' (by simpa using ex) (by simpa using ey)
    · have e1 : min (x :: xs).length (y :: ys).length = min xs.length ys.length + 1 := by simp [Nat.min_def]; split <;> rfl
      have e3 : ((x :: xs).length == (y :: ys).length) = (xs.length == ys.length) := by simp
      rw [e1, e3, List.range_succ_eq_map, List.all_cons, List.all_map, h2, Bool.and_assoc]
      rfl
section
variable {X : Cx} {pins : List (Addr × Obj)} {σ : St} {H : Hp} {s : Shared}
theorem eqN_at (I : Inv X pins σ H s) : ∀ (n : Nat) {A : Around} {x y : V} {u v : Value} {b : Bool}, EqN X.K H n x y b → RelV x u → RelV y v → A.units + n < cLine → SeqAt.EqAt A s u v b := by
  intro n
  induction n with
  | zero =>
    intro A x y u v b h ru rv _
    rcases h with ⟨fx, fy, rfl⟩ | ⟨a, rfl, rfl, rfl⟩
    · exact eqAt_V ru rv fx fy
    · cases ru
      cases rv
      exact SeqAt.EqAt.same _
  | succ n ih =>
    intro A x y u v b h ru rv hu
    rcases h with h | ⟨a, c, xs, ys, rfl, rfl, hq, hl⟩
    · exact ih h ru rv (by omega)
    · cases ru
      cases rv
      by_cases hac : a = c
      · subst hac
        have hb : b = true := by
          have key : ∀ {zs ws : List V} {b : Bool}, zs = ws → EqL (EqN X.K H n) zs ws b → (∀ (j : Nat) z, zs[j]? = some z → ∀ b', EqN X.K H n z z b' → b' = true) → b = true := by
            intro zs ws b e hl hz
            induction hl with
            | nil => rfl
            | left => cases e
            | right => cases e
            | cons h1 _ ih2 =>
              cases e
              rw [hz 0 _ rfl _ h1, ih2 rfl fun j z hj b' hb => hz (j + 1) z (by simpa using hj) b' hb]
              rfl
          have refl_true : ∀ (n : Nat) (z : V) (b' : Bool), EqN X.K H n z z b' → b' = true := by
            intro n
            induction n with
            | zero =>
              intro z b' h
              rcases h with ⟨f, _, rfl⟩ | ⟨_, _, _, rfl⟩
              · exact eqV_tail f
              · rfl
            | succ n ihn =>
              intro z b' h
              rcases h with h | ⟨a, c, xs, ys, rfl, e, hq, hl⟩
              · exact ihn z b' h
              · cases e
                have exy : xs = ys := by
                  rcases hq with ⟨h1, h2⟩ | ⟨h1, h2⟩
                  · exact I.tuple_inj h1 h2
                  · exact I.list_inj h1 h2
                have key2 : ∀ {zs ws : List V} {b : Bool}, zs = ws → EqL (EqN X.K H n) zs ws b → b = true := by
                  intro zs ws b e hl
                  induction hl with
                  | nil => rfl
                  | left => cases e
                  | right => cases e
                  | cons h1 _ ih2 =>
                    cases e
                    rw [ihn _ _ h1, ih2 rfl]
                    rfl
                exact key2 exy hl
          have exy : xs = ys := by
            rcases hq with ⟨h1, h2⟩ | ⟨h1, h2⟩
            · exact I.tuple_inj h1 h2
            · exact I.list_inj h1 h2
          exact key exy hl fun j z hj b' hb => refl_true n z b' hb
        subst hb
        exact SeqAt.EqAt.same _
      · obtain ⟨e, he, rfl⟩ := hl.ans
        refine SeqAt.EqAt.of_refs hac ?_
        rcases hq with ⟨h1, h2⟩ | ⟨h1, h2⟩
        · obtain ⟨us, r1, p1, _⟩ := I.tuple h1
          obtain ⟨ws, r2, p2, _⟩ := I.tuple h2
          have l1 := r1.length
          have l2 := r2.length
          have z := SeqAt.RcAt.tuples (A := A) (e := e) (show s.heap.IsTuple a us.toArray from p1) (show s.heap.IsTuple c ws.toArray from p2) (by omega) (fun j j1 j2 => ?_)
          · rw [List.size_toArray, List.size_toArray, ← l1, ← l2] at z
            exact z
          · simp only [List.size_toArray] at j1 j2
            obtain ⟨u, hu', ru⟩ := r1.get (List.getElem?_eq_getElem (show j < xs.length by omega))
            obtain ⟨v, hv', rv⟩ := r2.get (List.getElem?_eq_getElem (show j < ys.length by omega))
            have z1 : us[j] = u := by rw [List.getElem?_eq_getElem j1] at hu'; exact Option.some.inj hu'
            have z2 : ws[j] = v := by rw [List.getElem?_eq_getElem j2] at hv'; exact Option.some.inj hv'
            simp only [List.getElem_toArray]
            rw [z1, z2]
            exact ih (he j _ _ (List.getElem?_eq_getElem (show j < xs.length by omega)) (List.getElem?_eq_getElem (show j < ys.length by omega))) ru rv (by show A.units + 1 + n < cLine; omega)
        · obtain ⟨us, r1, p1, _⟩ := I.list h1
          obtain ⟨ws, r2, p2, _⟩ := I.list h2
          have l1 := r1.length
          have l2 := r2.length
          by_cases hsz : xs.length = ys.length
          · have z := SeqAt.RcAt.lists (A := A) (e := e) p1.isList p2.isList (by simp only [List.size_toArray]; omega) (by omega) (fun j j1 j2 => ?_)
            · rw [List.size_toArray, ← l1] at z
              rw [← hsz, Nat.min_self, beq_self_eq_true, Bool.and_true]
              exact z
            · simp only [List.size_toArray] at j1 j2
              obtain ⟨u, hu', ru⟩ := r1.get (List.getElem?_eq_getElem (show j < xs.length by omega))
              obtain ⟨v, hv', rv⟩ := r2.get (List.getElem?_eq_getElem (show j < ys.length by omega))
              have z1 : us[j] = u := by rw [List.getElem?_eq_getElem j1] at hu'; exact Option.some.inj hu'
              have z2 : ws[j] = v := by rw [List.getElem?_eq_getElem j2] at hv'; exact Option.some.inj hv'
              simp only [List.getElem_toArray]
              rw [z1, z2]
              exact ih (he j _ _ (List.getElem?_eq_getElem (show j < xs.length by omega)) (List.getElem?_eq_getElem (show j < ys.length by omega))) ru rv (by show A.units + 1 + n < cLine; omega)
          · rw [show (xs.length == ys.length) = false by simpa using hsz, Bool.and_false]
            exact SeqAt.RcAt.lists_lengths p1.isList p2.isList (by simp only [List.size_toArray, bne_iff_ne, ne_eq]; omega) (by omega)
def rEqD (K : PySem.W.Frag) (neg : Bool) : R2 := fun x y H Q => ∃ n a c xs ys b, n ≤ 50 ∧ x = .ref a ∧ y = .ref c ∧ ((SqT K H a xs ∧ SqT K H c ys) ∨ (SqL K H a xs ∧ SqL K H c ys)) ∧ EqL (EqN K H n) xs ys b ∧ Q (.bl (if neg then !b else b)) H
theorem eqD_items (I : Inv X pins σ H s) {n : Nat} {A : Around} {xs ys : List V} {us ws : List Value} {e : Nat → Bool} (r1 : Vals xs us) (r2 : Vals ys ws) (he : ∀ (j : Nat) x y, xs[j]? = some x → ys[j]? = some y → EqN X.K H n x y (e j)) (hu : A.units + 1 + n < cLine) :
    ∀ j (h1 : j < us.toArray.size) (h2 : j < ws.toArray.size), SeqAt.EqAt A.in1 s us.toArray[j] ws.toArray[j] (e j) := by
  intro j j1 j2
  have l1 := r1.length
  have l2 := r2.length
  simp only [List.size_toArray] at j1 j2
  obtain ⟨u, hu', ru⟩ := r1.get (List.getElem?_eq_getElem (show j < xs.length by omega))
  obtain ⟨v, hv', rv⟩ := r2.get (List.getElem?_eq_getElem (show j < ys.length by omega))
  have z1 : us[j] = u := by rw [List.getElem?_eq_getElem j1] at hu'; exact Option.some.inj hu'
  have z2 : ws[j] = v := by rw [List.getElem?_eq_getElem j2] at hv'; exact Option.some.inj hv'
  simp only [List.getElem_toArray]
  rw [z1, z2]
  exact eqN_at I n (he j _ _ (List.getElem?_eq_getElem (show j < xs.length by omega)) (List.getElem?_eq_getElem (show j < ys.length by omega))) ru rv hu
end
section
variable {X : Cx}
theorem op_eqD (hu : X.A.units + 100 < cLine) : OpR X (compareOp .Eq) (rEqD X.K false) := by
  intro pins s σ H x y v u Q I rx ry h
  obtain ⟨n, a, c, xs, ys, b, hn, rfl, rfl, hq, hl, q⟩ := h
  cases rx
  cases ry
  obtain ⟨e, he, rfl⟩ := hl.ans
  rcases hq with ⟨h1, h2⟩ | ⟨h1, h2⟩
  · obtain ⟨us, r1, p1, _⟩ := I.tuple h1
    obtain ⟨ws, r2, p2, _⟩ := I.tuple h2
    refine SeqAt.eq_tupleAt (show s.heap.IsTuple a us.toArray from p1) (show s.heap.IsTuple c ws.toArray from p2) (by omega) (eqD_items I r1 r2 he (by omega)) ?_
    rw [List.size_toArray, List.size_toArray, ← r1.length, ← r2.length]
    exact ⟨.bl _, H, I, rfl, q⟩
  · obtain ⟨us, r1, p1, _⟩ := I.list h1
    obtain ⟨ws, r2, p2, _⟩ := I.list h2
    have l1 := r1.length
    have l2 := r2.length
    by_cases hsz : xs.length = ys.length
    · refine SeqAt.eq_listAt p1.isList p2.isList (by simp only [List.size_toArray]; omega) (by omega) (eqD_items I r1 r2 he (by omega)) ?_
      rw [← hsz, Nat.min_self, beq_self_eq_true, Bool.and_true] at q
      rw [List.size_toArray, ← l1]
      exact ⟨.bl _, H, I, rfl, q⟩
    · rw [show (xs.length == ys.length) = false by simpa using hsz, Bool.and_false] at q
      exact SeqAt.eq_list_lengthsAt p1.isList p2.isList (by simp only [List.size_toArray, bne_iff_ne, ne_eq]; omega) (by omega) ⟨.bl false, H, I, rfl, q⟩
theorem op_neD (hu : X.A.units + 100 < cLine) : OpR X (compareOp .NotEq) (rEqD X.K true) := by
  intro pins s σ H x y v u Q I rx ry h
  obtain ⟨n, a, c, xs, ys, b, hn, rfl, rfl, hq, hl, q⟩ := h
  cases rx
  cases ry
  obtain ⟨e, he, rfl⟩ := hl.ans
  rcases hq with ⟨h1, h2⟩ | ⟨h1, h2⟩
  · obtain ⟨us, r1, p1, _⟩ := I.tuple h1
    obtain ⟨ws, r2, p2, _⟩ := I.tuple h2
    refine SeqAt.RcNeAt.tuples (show s.heap.IsTuple a us.toArray from p1) (show s.heap.IsTuple c ws.toArray from p2) (by omega) (eqD_items I r1 r2 he (by omega)) _ _ _ _ ?_
    rw [List.size_toArray, List.size_toArray, ← r1.length, ← r2.length]
    exact ⟨.bl _, H, I, rfl, q⟩
  · obtain ⟨us, r1, p1, _⟩ := I.list h1
    obtain ⟨ws, r2, p2, _⟩ := I.list h2
    have l1 := r1.length
    have l2 := r2.length
    by_cases hsz : xs.length = ys.length
    · refine SeqAt.RcNeAt.lists p1.isList p2.isList (by simp only [List.size_toArray]; omega) (by omega) (eqD_items I r1 r2 he (by omega)) _ _ _ _ ?_
      rw [← hsz, Nat.min_self, beq_self_eq_true, Bool.and_true] at q
      rw [List.size_toArray, ← l1]
      exact ⟨.bl _, H, I, rfl, q⟩
    · rw [show (xs.length == ys.length) = false by simpa using hsz, Bool.and_false] at q
      exact SeqAt.RcNeAt.lists_lengths p1.isList p2.isList (by simp only [List.size_toArray, bne_iff_ne, ne_eq]; omega) (by omega) _ _ _ _ ⟨.bl true, H, I, rfl, q⟩
end
/-- a list of flat things and of things that are the same -/
theorem EqL.refl {K : PySem.W.Frag} {H : Hp} {xs : List V} (h : ∀ x ∈ xs, flatV x = true ∨ ∃ a, x = .ref a) : EqL (EqN K H 0) xs xs true := by
  induction xs with
  | nil => exact .nil
  | cons x r ih =>
    have h1 : EqN K H 0 x x true := by
      rcases h x List.mem_cons_self with f | ⟨a, rfl⟩
      · exact .inl ⟨f, f, (eqV_tail f).symm⟩
      · exact .inr ⟨a, rfl, rfl, rfl⟩
    exact .cons h1 (ih fun y hy => h y (List.mem_cons_of_mem _ hy))
/-! ### C(..) whose __init__ may raise -/
section
variable {X : Cx} {k : Nat} {f C : Addr} {fd : FuncData} {ps : List Str} {sp : Sp} {dvs : List V} {ds : List Value} {XE : St → XK} {x : Str} {p pos : Pos} {e : Expr} {es : List Expr} {t : TA}
def tMakeX (C : Addr) (sp : Sp) (dvs : List V) (XE : St → XK) (t : TA) : TE := fun σ H Q => t σ H fun vs H1 => ∀ x dx, H1 x = none → H1 dx = none → dx ≠ x →
  sp (.ref x :: (vs ++ dvs)) (upd (upd H1 dx (.own x)) x (.ins C dx [])) (fun v H2 => v = .non ∧ Q (.ref x) H2) (XE σ)
theorem run_makeX {pins : List (Addr × Obj)} {σ : St} {H : Hp} {s : Shared} {Q : VK} {us : List Value} {vs : List V} (M : Mk X.K C f) (F : FnOk X.prog X.w X.K X.mg X.base (CXE X.prog X.w) k f fd ps sp) (hr : Room (k + 1) X.A) (hb : Binds X.K fd ps ds) (hd : Vals dvs ds)
    (hx : PassesX X XE) (I : Inv X pins σ H s) (r : Vals vs us)
    (h : ∀ x dx, H x = none → H dx = none → dx ≠ x → sp (.ref x :: (vs ++ dvs)) (upd (upd H dx (.own x)) x (.ins C dx [])) (fun v H2 => v = .non ∧ Q (.ref x) H2) (XE σ)) :
    wpAny (model X.prog X.w) X.A (call (.ref C) us) (EP X pins σ Q) X.xe s := by
  have hq := h (s.heap.objs.size + 1) s.heap.objs.size (I.hok.fresh (Nat.le_succ _)) (I.hok.fresh (Nat.le_refl _)) (Nat.ne_of_lt (Nat.lt_succ_self _))
  have I2 := Inv.made (C := C) I
  have r2 : Vals (V.ref (s.heap.objs.size + 1) :: (vs ++ dvs)) (Value.ref (s.heap.objs.size + 1) :: (us ++ ds)) := .cons rfl (r.append hd)
  have hl : (Value.ref (s.heap.objs.size + 1) :: us ++ ds).length = ps.length := by
    have e := r2.length
    rw [F.len _ _ _ _ hq] at e
    exact e.symm
  refine wpAny_call (make_map (f := f) I.kIn M.makes M.init (beq_iff_eq.mp M.fn) (codeAny_mono (F.run _ X.stack _ _ ⟨Value.ref (s.heap.objs.size + 1) :: us, []⟩ (Value.ref (s.heap.objs.size + 1) :: (us ++ ds)) _ _ (XE σ) (hr.make C us [])
    (I2.env0.make C us []) (hb _ (Value.ref (s.heap.objs.size + 1) :: us) I2.kIn hl) r2 hq) fun r s' hq' => ?_))
  cases r with
  | error e => exact hx pins σ _ _ e s' I2 hq'
  | ok fl =>
    cases fl with
    | ret u =>
      obtain ⟨v, H', I3, rv, ev, q3⟩ := I2.after hq'
      subst ev
      exact ⟨rv, ⟨V.ref (s.heap.objs.size + 1), H', I3, rfl, q3⟩⟩
    | next => exact False.elim hq'
    | brk => exact False.elim hq'
    | cont => exact False.elim hq'
theorem qx_make (M : Mk X.K C f) (F : FnOk X.prog X.w X.K X.mg X.base (CXE X.prog X.w) k f fd ps sp) (hr : Room (k + 1) X.A) (hg : Gl X x) (hm : X.mg x = some (.ref C)) (hb : Binds X.K fd ps ds) (hd : Vals dvs ds) (hx : PassesX X XE)
    (ha : QA X (e :: es) t) (hst : noStars (e :: es) = true := by rfl) (hdb : (x == ("__debug__" : Str)) = false := by decide) : QE X (.Call (.Name x p) (e :: es) [] pos) (tMakeX C sp dvs XE t) := by
  have h := hst
  unfold noStars at h
  rw [Bool.and_eq_true] at h
  refine ⟨?_⟩
  intro pins s σ H Q I h'
  refine wpAny_Call_Name_kw (ld_glob I hg hm ?_ hdb)
  refine PySem.W.callWith_K (h₀ := X.base) I.ok.mod.kin M.kp (thn (ha.get pos pins s σ H _ I h') fun us s1 ⟨vs, H1, I1, r, q⟩ => ⟨I1.kIn, ?_⟩) (star_of h.1) (stars_of h.2 pos)
  exact run_makeX M F hr hb hd hx I1 r q
end
end L2
namespace L2
open PySem PySem.Spec PyProof.Rows
theorem Room.u100 {k : Nat} {A : Around} (r : Room k A) : A.units + 100 < cLine := by have := r.un; omega
section
variable {X : Cx} {a b c d : Expr} {ta tb tc td : TE} {pos : Pos}
/-- a op1 b op2 c op3 d -/
def tChain3 (r r' r2 : R2) (ta tb tc td : TE) : TE := fun σ H Q => ta σ H fun x H1 => tb σ H1 fun y H2 => r x y H2 fun z H3 => ∃ k, z = .bl k ∧
  (if k = true then tc σ H3 fun w' H4 => r' y w' H4 fun z' H5 => ∃ k', z' = .bl k' ∧ (if k' = true then td σ H5 fun w2 H6 => r2 w' w2 H6 Q else Q (.bl false) H5) else Q (.bl false) H3)
theorem pe_chain3 {op op' op2 : CmpOp} {r r' r2 : R2} (ho : OpR X (compareOp op) r) (ho' : OpR X (compareOp op') r') (ho2 : OpR X (compareOp op2) r2) (ha : PE X a ta) (hb : PE X b tb) (hc : PE X c tc) (hd : PE X d td)
    (hm : lastMarks [op, op', op2] [b, c, d] = false := by with_unfolding_all rfl) : PE X (.Compare a [op, op', op2] [b, c, d] pos) (tChain3 r r' r2 ta tb tc td) := by
  intro pins s σ H Q I h
  refine Compare_chain (thn (ha pins s σ H _ I h) fun v s1 ⟨x, H1, I1, r1, q1⟩ => chain_link (thn (hb pins s1 σ H1 _ I1 q1) fun u s2 ⟨y, H2, I2, r2, q2⟩ =>
    thn (ho pins s2 σ H2 x y v u _ I2 r1 r2 q2) fun d s3 ⟨z, H3, I3, r3, k, e, q3⟩ => ?_)) hm
  subst e
  cases r3
  refine wpAny_truthy_bool ?_
  cases k with
  | false => exact ite_ff ⟨.bl false, H3, I3, rfl, q3⟩
  | true =>
    refine ite_tt (chain_link (thn (hc pins s3 σ H3 _ I3 q3) fun w' s4 ⟨z', H4, I4, r4, q4⟩ => thn (ho' pins s4 σ H4 y z' u w' _ I4 r2 r4 q4) fun d' s5 ⟨z2, H5, I5, r5, k2, e2, q5⟩ => ?_))
    subst e2
    cases r5
    refine wpAny_truthy_bool ?_
    cases k2 with
    | false => exact ite_ff ⟨.bl false, H5, I5, rfl, q5⟩
    | true => exact ite_tt (chain_last (thn (hd pins s5 σ H5 _ I5 q5) fun w2 s6 ⟨z3, H6, I6, r6, q6⟩ => ho2 pins s6 σ H6 z' z3 w' w2 Q I6 r4 r6 q6))
theorem qpe_chain3 {op op' op2 : CmpOp} {r r' r2 : R2} (ho : OpR X (compareOp op) r) (ho' : OpR X (compareOp op') r') (ho2 : OpR X (compareOp op2) r2) (ha : QE X a ta) (hb : QE X b tb) (hc : QE X c tc) (hd : QE X d td)
    (hm : lastMarks [op, op', op2] [b, c, d] = false := by with_unfolding_all rfl) : QE X (.Compare a [op, op', op2] [b, c, d] pos) (tChain3 r r' r2 ta tb tc td) := ⟨pe_chain3 ho ho' ho2 ha.get hb.get hc.get hd.get hm⟩
end
end L2
namespace L2
open PySem PySem.Spec PyProof.Rows
/-! ### texts by their signs -/
theorem sg_len (x : Str) : x.length = x.cps.toList.length := by
  show x.cps.size = _
  simp
theorem sg_app (x y : Str) : (x ++ y).cps.toList = x.cps.toList ++ y.cps.toList := by
  show (x.cps ++ y.cps).toList = _
  simp
theorem sg_one (c : Nat) : (⟨#[c]⟩ : Str).cps.toList = [c] := rfl
theorem sl_to {x : Str} {j : Int} (h0 : 0 ≤ j) (h : j ≤ x.cps.toList.length) : (Txt.slice x none (some j)).cps.toList = x.cps.toList.take j.toNat := by
  have := eq_of_beq (slice_closes_to (x := x) (j := j) ⟨h0, h⟩)
  rw [this]
  simp
theorem sl_ft {x : Str} {i j : Int} (h0 : 0 ≤ i) (h1 : i ≤ j) (h : j ≤ x.cps.toList.length) : (Txt.slice x (some i) (some j)).cps.toList = (x.cps.toList.drop i.toNat).take (j - i).toNat := by
  have := eq_of_beq (slice_closes (x := x) (i := i) (j := j) ⟨h0, h1, h⟩)
  rw [this]
/-- join by nothing -/
theorem join_sg (zs : List Str) : (Txt.join "" zs).cps.toList = (zs.map fun z => z.cps.toList).flatten := by
  show (Builtin.Str.glued "" zs).cps.toList = _
  rw [StrLaws.glued_eq_join]
  induction zs with
  | nil => rfl
  | cons a l ih =>
    cases l with
    | nil => simp [Str.join]
    | cons b r =>
      show ((a ++ ("" : Str)) ++ Str.join "" (b :: r)).cps.toList = _
      rw [sg_app, sg_app, ih]
      rw [show ("" : Str).cps.toList = [] from rfl]
      simp
end L2
namespace L2
open PySem PySem.Spec PyProof.Rows
section
variable {X : Cx}
/-! ### where the context hangs on what the block does not know (a comprehension, an except suite), the text's part is named -/
theorem qk_bm {K : PySem.W.Frag} {o e : Expr} {es : List Expr} {to : TE} {t : TA} {name : Str} {apos cpos : Pos} {T id : String} {r : V → List V → Hp → VK → Prop} (hK : X.K = K) (pa : PlainAttrs T) (slot : Slot T name id) (hty : typeOf (.builtin id) = pure (.type "method_descriptor")) (hm : MtR X id r)
    (ho : QE X o to) (ha : QA X (e :: es) t) (hst : noStars (e :: es) = true := by rfl) (hbase : attributeBase o name X.env (eval o X.env) = eval o X.env := by rfl) (hlen : decide ((e :: es).length + ([] : List Keyword).length + (if ([] : List Keyword).isEmpty then 0 else 1) < 30) = true := by rfl)
    (hline : (apos.endLine == cpos.line) = true := by rfl) : QE X (.Call (.Attribute o name apos) (e :: es) [] cpos) (tBM K T r to t) := by
  subst hK
  exact qpe_bm pa slot hty hm ho ha hst hbase hlen hline
theorem qk_fld {K : PySem.W.Frag} {e : Expr} {f : Str} {pos : Pos} {ta : TE} (hK : X.K = K) (he : QE X e ta) (hb : attributeBase e f X.env (eval e X.env) = eval e X.env) : QE X (.Attribute e f pos) (tFld K ta f) := by
  subst hK
  exact qpe_fld he hb
theorem qk_list {K : PySem.W.Frag} {tg l : Expr} {tl : TE} (hK : X.K = K) (hl : QE X l tl) : QI X tg l (iList K tl) := by
  subst hK
  exact qpi_list hl
section
variable {K : PySem.W.Frag}
theorem kc_isi (hK : X.K = K) : CallR X (.builtin "isinstance") (rIsi K) := by subst hK; exact call_isi
theorem kc_len (hK : X.K = K) : CallR X (.builtin "len") (fun xs H Q => ∃ p ys, xs = [.ref p] ∧ (SqL K H p ys ∨ SqT K H p ys) ∧ Q (.int ys.length) H) := by subst hK; exact call_len_seq
theorem kc_list (hK : X.K = K) : CallR X (.type "list") (fun xs H Q => ∃ p ys, xs = [.ref p] ∧ (SqL K H p ys ∨ SqT K H p ys) ∧ ∀ l, H l = none → Q (.ref l) (upd H l (.lst ys))) := by subst hK; exact call_list_of
theorem kc_tuple (hK : X.K = K) : CallR X (.type "tuple") (fun xs H Q => ∃ p ys, xs = [.ref p] ∧ ((SqL K H p ys ∧ ∀ l, H l = none → Q (.ref l) (upd H l (.tup ys))) ∨ (SqT K H p ys ∧ Q (.ref p) H))) := by subst hK; exact call_tuple_of
theorem kc_all (hK : X.K = K) (hc : X.calm = true) : CallR X (.builtin "all") (fun xs H Q => ∃ p, ∃ bs : List Bool, xs = [.ref p] ∧ SqL K H p (bs.map V.bl) ∧ Q (.bl (bs.all id)) H) := by subst hK; exact call_all hc
theorem ki_list (hK : X.K = K) : IxR X (rIxL K) := by subst hK; exact ix_list
theorem ks_list (hK : X.K = K) : SlR X (rSlL K) := by subst hK; exact sl_list
theorem ko_notIn (hK : X.K = K) : OpR X (compareOp .NotIn) (rIn K true) := by subst hK; exact op_notIn_seq
theorem ko_eqD (hK : X.K = K) (hu : X.A.units + 100 < cLine) : OpR X (compareOp .Eq) (rEqD K false) := by subst hK; exact op_eqD hu
theorem ko_neD (hK : X.K = K) (hu : X.A.units + 100 < cLine) : OpR X (compareOp .NotEq) (rEqD K true) := by subst hK; exact op_neD hu
theorem kt_join (hK : X.K = K) : MtR X "str.join" (fun x xs H Q => ∃ sep p, ∃ ys : List Str, x = .str sep ∧ xs = [.ref p] ∧ SqL K H p (ys.map V.str) ∧ (ys.map (·.length)).sum + ys.length * sep.length ≤ 16777216 ∧ Q (.str (Txt.join sep ys)) H) := by subst hK; exact mt_join
end
end
end L2
namespace L2
open PySem PySem.Spec PyProof.Rows
theorem qk_gtup {K : PySem.W.Frag} {X : Cx} {pos : Pos} {es : List Expr} {k : Nat} {t : TGs} {n : Nat} (hK : X.K = K) (hc : Cx.calm X = true) (h : QGs X es t) (hn : List.length (assignEach es (Cx.env X)) = n := by rfl) (hst : List.findIdx? (fun (x : Bool × (Value → Sem Unit)) => Prod.fst x) (assignEach es (Cx.env X)) = none := by
    rfl) : QG X (Expr.Tuple es k pos) (gTup (K) n t) := by
  subst hK
  exact qpg_tup (hc := hc) (h := h) (hn := hn) (hst := hst)
/-! ### try: .. except C: .. except D: .. -/
def tTry2 (K : PySem.W.Frag) (W1 W2 : Addr) (tb : (St → XK) → TS) (ts1 ts2 : TS) : TS := fun D σ H => ∃ XE : St → XK, tb XE D σ H ∧
  ∀ σ' H' cls, XE σ' cls none H' → ∃ C, cls = .ref C ∧ ((PySem.W.subIn K (.ref C) (.ref W1) = some true ∧ ts1 D σ' H') ∨ (PySem.W.subIn K (.ref C) (.ref W1) = some false ∧ PySem.W.subIn K (.ref C) (.ref W2) = some true ∧ ts2 D σ' H'))
theorem ps_try2 {X : Cx} {x1 x2 : Str} {W1 W2 : Addr} {body suite1 suite2 : List Stmt} {b1 b2 : Stmt} {np1 np2 hpos1 hpos2 pos : Pos} {tb : (St → XK) → TS} {ts1 ts2 : TS} (c1 : WCls X.K W1) (hg1 : Gl X x1) (hm1 : X.mg x1 = some (.ref W1)) (c2 : WCls X.K W2) (hg2 : Gl X x2) (hm2 : X.mg x2 = some (.ref W2))
    (hb : ∀ pins XE, PSs (tryCx X pins XE) body (tb XE)) (hs1 : ∀ e, PSs (X.handling e) (b1 :: suite1) ts1) (hs2 : ∀ e, PSs (X.handling e) (b2 :: suite2) ts2)
    (hcalm : X.calm = true := by rfl) (hst : X.stack = X.env :: X.outer := by rfl) (hfr : X.env.frame = some X.env.locals := by rfl) (hex : X.ex = [] := by rfl)
    (hdb1 : (x1 == ("__debug__" : Str)) = false := by decide) (hdb2 : (x2 == ("__debug__" : Str)) = false := by decide) :
    PS X (.Try body [.ExceptHandler (some (.Name x1 np1)) none (b1 :: suite1) hpos1, .ExceptHandler (some (.Name x2 np2)) none (b2 :: suite2) hpos2] [] [] pos) (tTry2 X.K W1 W2 tb ts1 ts2) := by
  intro pins s σ H D I hD
  obtain ⟨XE, hbody, hcatch⟩ := hD
  refine wpAny_Try_except ?_
  have I0 : Inv (tryCx X pins XE) [] σ H s := I.intoPn _
  refine wpAny_mono (hb pins XE [] s σ H D I0 hbody) (fun f s1 hs1 => ?_) (fun e s1 he => ?_)
  · cases f with
    | next =>
      obtain ⟨σ', H', I', q⟩ := hs1
      exact pss_nil (X := X) pins s1 σ' H' D I'.outPn q
    | brk =>
      obtain ⟨σ', H', I', q⟩ := hs1
      exact ⟨σ', H', I'.outPn, q⟩
    | cont =>
      obtain ⟨σ', H', I', q⟩ := hs1
      exact ⟨σ', H', I'.outPn, q⟩
    | ret u =>
      obtain ⟨v, σ', H', I', r, q⟩ := hs1
      exact ⟨v, σ', H', I'.outPn, r, q⟩
  · obtain ⟨pins', σ', H1, s0, I1, ex, t, cls, H', B, rfl, ho, hgn, u, ok, fl, cv, hn, hexn, hE⟩ := he
    have I1X : Inv X pins σ' H1 s0 := Inv.outPn (E := fun _ _ => False) I1
    have I2 : Inv X pins σ' H' s1 := I1X.call' (ch := []) ho u ok hgn (fun _ z => nomatch z)
    obtain ⟨C, rfl, hcase⟩ := hcatch σ' H' cls hE
    have fl0 : Heap.FlyingW B (X.env :: X.outer) ex (.ref C) (.ref t) s1.heap := by rw [← hst]; exact fl
    have cv0 : Cov (frs (X.env :: X.outer)) H' s0.heap s1.heap B := by rw [← hst]; exact cv
    have hframes : X.A.frames = some (X.env :: X.outer) := by rw [← hst]; exact I.ok.frames
    have hsubf : ∀ b ∈ X.fs, b ∈ frs (X.env :: X.outer) := fun b hb => by
      unfold frs
      rw [List.filterMap_cons, hfr]
      exact List.mem_cons_of_mem _ hb
    have hpin : ∀ p ∈ X.pn ++ pins, ∃ u, s0.heap.get? p.1 = some u := fun p hp => ⟨_, (I1X.pin p hp).1⟩
    have u0 : ∀ b o, X.s₀.heap.get? b = some o → ∃ u, s0.heap.get? b = some u := fun b o e => I1X.base.there b o e (by rw [hex]; simp)
    have mv : ∀ {h2 : Heap}, B.StaysIn h2 → s1.heap.UpToSlots h2 → Inv X pins σ' H' { s1 with heap := h2 } := fun st up => Inv.move (H0 := H1) (h0 := s0.heap) I2 hst cv0 st up fl0.2.2.1 hpin u0 hex hsubf
    refine wpAny_looks_onW (L := X.env.locals) hframes hfr fl0 fun h4 held4 up4 => ?_
    refine wpAny_landsW held4 fun h5 fl5 up5 => ?_
    have I5 : Inv X pins σ' H' { s1 with heap := h5 } := mv fl5.1 (up4.trans up5)
    obtain ⟨ob, hob, hobc⟩ := fl5.there
    have suite : ∀ {b₀ : Stmt} {su : List Stmt} {ts : TS} {hp : Pos} {R : Result → Shared → Prop}, (∀ e, PSs (X.handling e) (b₀ :: su) ts) → ts D σ' H' → (∀ f s2, SP X pins D f s2 → R (.ok f) s2) →
        codeAny (model X.prog X.w) (X.A.mark (some (.ref ex))) (.handlers (.ref ex) [.ExceptHandler none none (b₀ :: su) hp] X.env) R { s1 with heap := h5 } := fun {b₀ su ts hp R} hs q hR => by
      refine codeAny_handlers_suite (lands_againW (s := { s1 with heap := h5 }) fl5 fun h6 fl6 up6 => ?_)
      have I6 : Inv X pins σ' H' { s1 with heap := h6 } := mv fl6.1 ((up4.trans up5).trans up6)
      refine wpAny_mono (hs (.ref ex) pins _ _ _ D (I6.handle (.ref ex)) q) (fun f s9 h9 => hR f s9 ?_) (fun _ _ z => z.elim)
      cases f with
      | next => obtain ⟨σ2, H2, I9, q⟩ := h9; exact ⟨σ2, H2, I9.unhandle I.ok.hd I.ok.frames, q⟩
      | brk => obtain ⟨σ2, H2, I9, q⟩ := h9; exact ⟨σ2, H2, I9.unhandle I.ok.hd I.ok.frames, q⟩
      | cont => obtain ⟨σ2, H2, I9, q⟩ := h9; exact ⟨σ2, H2, I9.unhandle I.ok.hd I.ok.frames, q⟩
      | ret u9 => obtain ⟨v9, σ2, H2, I9, r9, q⟩ := h9; exact ⟨v9, σ2, H2, I9.unhandle I.ok.hd I.ok.frames, r9, q⟩
    refine wpAny_handleBy_cons (codeAny_handlers_test (ld_glob (X := X.handling (.ref ex)) (I5.handle _) hg1 hm1 ?_ hdb1)) (by intro q; cases q)
    rcases hcase with ⟨k1, q⟩ | ⟨k1, k2, q⟩
    · refine excMatches_own (s := { s1 with heap := h5 }) I5.kIn hob hobc c1.ty c1.cl c1.base k1 ?_
      exact suite hs1 q fun f s2 z => z
    · refine excMatches_own (s := { s1 with heap := h5 }) I5.kIn hob hobc c1.ty c1.cl c1.base k1 ?_
      show wpAny _ _ (handleBy (.ref ex) X.env _) _ _ _
      refine wpAny_handleBy_cons (codeAny_handlers_test (ld_glob (X := X.handling (.ref ex)) (I5.handle _) hg2 hm2 ?_ hdb2)) (by intro q; cases q)
      refine excMatches_own (s := { s1 with heap := h5 }) I5.kIn hob hobc c2.ty c2.cl c2.base k2 ?_
      exact suite hs2 q fun f s2 z => z
theorem qx_try2 {X : Cx} {x1 x2 : Str} {W1 W2 : Addr} {body suite1 suite2 : List Stmt} {b1 b2 : Stmt} {np1 np2 hpos1 hpos2 pos : Pos} {tb : (St → XK) → TS} {ts1 ts2 : TS} (c1 : WCls X.K W1) (hg1 : Gl X x1) (hm1 : X.mg x1 = some (.ref W1)) (c2 : WCls X.K W2) (hg2 : Gl X x2) (hm2 : X.mg x2 = some (.ref W2))
    (hb : ∀ pins XE, QSs (tryCx X pins XE) body (tb XE)) (hs1 : ∀ e, QSs (X.handling e) (b1 :: suite1) ts1) (hs2 : ∀ e, QSs (X.handling e) (b2 :: suite2) ts2)
    (hcalm : X.calm = true := by rfl) (hst : X.stack = X.env :: X.outer := by rfl) (hfr : X.env.frame = some X.env.locals := by rfl) (hex : X.ex = [] := by rfl)
    (hdb1 : (x1 == ("__debug__" : Str)) = false := by decide) (hdb2 : (x2 == ("__debug__" : Str)) = false := by decide) :
    QS X (.Try body [.ExceptHandler (some (.Name x1 np1)) none (b1 :: suite1) hpos1, .ExceptHandler (some (.Name x2 np2)) none (b2 :: suite2) hpos2] [] [] pos) (tTry2 X.K W1 W2 tb ts1 ts2) :=
  ⟨ps_try2 c1 hg1 hm1 c2 hg2 hm2 (fun p XE => (hb p XE).get) (fun e => (hs1 e).get) (fun e => (hs2 e).get) hcalm hst hfr hex hdb1 hdb2⟩
end L2
namespace MA
/-- in lowest terms, the bottom above nought -/
structure Low (p q : Int) : Prop where
  pos : 0 < q
  cop : Int.gcd p q = 1
theorem dvd_cop {p q r : Int} (h : Int.gcd p q = 1) (k : q ∣ p * r) : q ∣ r := by
  have h1 : Nat.Coprime q.natAbs p.natAbs := by
    show Nat.gcd q.natAbs p.natAbs = 1
    rw [Nat.gcd_comm]
    exact h
  have k1 : q.natAbs ∣ p.natAbs * r.natAbs := by
    rw [← Int.natAbs_mul]
    exact Int.natAbs_dvd_natAbs.mpr k
  exact Int.natAbs_dvd_natAbs.mp (h1.dvd_of_dvd_mul_left k1)
/-- lowest terms are unique -/
theorem Low.uniq {p q p' q' : Int} (h : Low p q) (h' : Low p' q') (e : p * q' = p' * q) : p = p' ∧ q = q' := by
  have d1 : q ∣ q' := dvd_cop h.cop ⟨p', by rw [e, Int.mul_comm]⟩
  have d2 : q' ∣ q := dvd_cop h'.cop ⟨p, by rw [← e, Int.mul_comm]⟩
  have l1 := Int.le_of_dvd h'.pos d1
  have l2 := Int.le_of_dvd h.pos d2
  have eq : q = q' := by omega
  subst eq
  exact ⟨Int.eq_of_mul_eq_mul_right (by have := h.pos; omega) e, rfl⟩
/-- two that stand for one fraction -/
theorem Low.same {p q p' q' a b : Int} (h : Low p q) (h' : Low p' q') (hb : b ≠ 0) (e : p * b = a * q) (e' : p' * b = a * q') : p = p' ∧ q = q' := by
  refine h.uniq h' (Int.eq_of_mul_eq_mul_right hb ?_)
  rw [Int.mul_assoc, Int.mul_comm q', ← Int.mul_assoc, e, Int.mul_assoc p', Int.mul_comm q b, ← Int.mul_assoc, e', Int.mul_assoc, Int.mul_assoc, Int.mul_comm q]
theorem Low.self {p q : Int} (h : Low p q) : p.fdiv (Int.gcd p q : Int) = p ∧ q.fdiv (Int.gcd p q : Int) = q := by
  rw [h.cop]
  exact ⟨Int.fdiv_one p, Int.fdiv_one q⟩
end MA
namespace My
open PySem L2 MA
def top (i : Nat) : Stmt := PySem.Challenge.pw_kbestwood_k15_a_row_of_words.main.body.getD i (.Pass ⟨0, 0, 0, 0⟩)
abbrev s_Cost_empty : Stmt := inClass (top 13) 1
theorem sc_Cost_empty : FnScope ["self"] ["self"] (defScope s_Cost_empty) := ⟨rfl, rfl, rfl, by decide +kernel, rfl, by decide +kernel, by decide +kernel⟩
abbrev s_Chance_empty : Stmt := inClass (top 14) 1
theorem sc_Chance_empty : FnScope ["self"] ["self"] (defScope s_Chance_empty) := ⟨rfl, rfl, rfl, by decide +kernel, rfl, by decide +kernel, by decide +kernel⟩
abbrev s_Net___init__ : Stmt := inClass (top 26) 0
theorem sc_Net___init__ : FnScope ["self", "places", "edges"] ["self", "places", "edges"] (defScope s_Net___init__) := ⟨rfl, rfl, rfl, by decide +kernel, rfl, by decide +kernel, by decide +kernel⟩
abbrev s_scale_of : Stmt := top 15
theorem sc_scale_of : FnScope ["word"] ["word"] (defScope s_scale_of) := ⟨rfl, rfl, rfl, by decide +kernel, rfl, by decide +kernel, by decide +kernel⟩
abbrev s_is_name_sign : Stmt := top 20
theorem sc_is_name_sign : FnScope ["sign"] ["sign"] (defScope s_is_name_sign) := ⟨rfl, rfl, rfl, by decide +kernel, rfl, by decide +kernel, by decide +kernel⟩
abbrev s_is_name : Stmt := top 21
theorem sc_is_name : FnScope ["text"] ["text"] (defScope s_is_name) := ⟨rfl, rfl, rfl, by decide +kernel, rfl, by decide +kernel, by decide +kernel⟩
abbrev s_is_word : Stmt := top 22
theorem sc_is_word : FnScope ["text"] ["text"] (defScope s_is_word) := ⟨rfl, rfl, rfl, by decide +kernel, rfl, by decide +kernel, by decide +kernel⟩
abbrev s_is_whole : Stmt := top 24
theorem sc_is_whole : FnScope ["thing"] ["thing"] (defScope s_is_whole) := ⟨rfl, rfl, rfl, by decide +kernel, rfl, by decide +kernel, by decide +kernel⟩
abbrev s_is_edge : Stmt := top 25
theorem sc_is_edge : FnScope ["edge", "places", "begin", "end", "word", "weight"] ["edge", "places"] (defScope s_is_edge) := ⟨rfl, rfl, rfl, by decide +kernel, rfl, by decide +kernel, by decide +kernel⟩
abbrev s_row_net : Stmt := top 27
theorem sc_row_net : FnScope ["words", "scale", "nothing"] ["words", "scale"] (defScope s_row_net) := ⟨rfl, rfl, rfl, by decide +kernel, rfl, by decide +kernel, by decide +kernel⟩
abbrev s_l_at : Stmt := top 29
theorem sc_l_at : FnScope ["_law_script", "_law_k"] ["_law_script", "_law_k"] (defScope s_l_at) := ⟨rfl, rfl, rfl, by decide +kernel, rfl, by decide +kernel, by decide +kernel⟩
abbrev s_l_mix : Stmt := top 30
theorem sc_l_mix : FnScope ["_law_cell", "_law_k", "_law_factor", "_law_number"] ["_law_cell", "_law_k"] (defScope s_l_mix) := ⟨rfl, rfl, rfl, by decide +kernel, rfl, by decide +kernel, by decide +kernel⟩
abbrev s_l_names : Stmt := top 31
theorem sc_l_names : FnScope ["_law_cell", "_law_many", "_law_firsts", "_law_rest", "_law_number", "_law_start", "_law_tail", "_law_size", "_law_at_here"] ["_law_cell", "_law_many", "_law_firsts"] (defScope s_l_names) := ⟨rfl, rfl, rfl, by decide +kernel, rfl, by decide +kernel, by decide +kernel⟩
abbrev s_l_words : Stmt := top 32
theorem sc_l_words : FnScope ["_law_script"] ["_law_script"] (defScope s_l_words) := ⟨rfl, rfl, rfl, by decide +kernel, rfl, by decide +kernel, by decide +kernel⟩
abbrev s_l_strange : Stmt := top 33
theorem sc_l_strange : FnScope ["_law_word", "_law_m", "_law_at_here"] ["_law_word", "_law_m"] (defScope s_l_strange) := ⟨rfl, rfl, rfl, by decide +kernel, rfl, by decide +kernel, by decide +kernel⟩
abbrev s_law : Stmt := top 34
theorem sc_law : FnScope ["_law_script", "_law_words_here", "_law_m", "_law_scale", "_law_row", "_law_good", "_law_at_here", "_law_handed", "_law_made", "_law_name", "_law_nothing", "_law_due"] ["_law_script"] (defScope s_law) := ⟨rfl, rfl, rfl, by decide +kernel, rfl, by decide +kernel, by decide +kernel⟩
abbrev c_SMALL_LETTERS : Str := "abcdefghijklmnopqrstuvwxyz"
abbrev c_GREAT_LETTERS : Str := "ABCDEFGHIJKLMNOPQRSTUVWXYZ"
abbrev c_FIGURES : Str := "0123456789"
structure Adr where
  C_NoScale : Addr
  C_NoNet : Addr
  C_Cost : Addr
  C_Chance : Addr
  C_Net : Addr
  f_Cost_empty : Addr
  d_Cost_empty : FuncData
  f_Chance_empty : Addr
  d_Chance_empty : FuncData
  f_Net___init__ : Addr
  d_Net___init__ : FuncData
  f_scale_of : Addr
  d_scale_of : FuncData
  f_is_name_sign : Addr
  d_is_name_sign : FuncData
  f_is_name : Addr
  d_is_name : FuncData
  f_is_word : Addr
  d_is_word : FuncData
  f_is_whole : Addr
  d_is_whole : FuncData
  f_is_edge : Addr
  d_is_edge : FuncData
  f_row_net : Addr
  d_row_net : FuncData
  f_l_at : Addr
  d_l_at : FuncData
  f_l_mix : Addr
  d_l_mix : FuncData
  f_l_names : Addr
  d_l_names : FuncData
  f_l_words : Addr
  d_l_words : FuncData
  f_l_strange : Addr
  d_l_strange : FuncData
  f_law : Addr
  d_law : FuncData
structure Txt (K : PySem.W.Frag) (mg : Str → Option Value) (A : Adr) : Prop where
  cl_Cost : Cls K A.C_Cost
  M_Cost : mg "Cost" = some (.ref A.C_Cost)
  mk_Cost : MkP K A.C_Cost
  cl_Chance : Cls K A.C_Chance
  M_Chance : mg "Chance" = some (.ref A.C_Chance)
  mk_Chance : MkP K A.C_Chance
  cl_Net : Cls K A.C_Net
  M_Net : mg "Net" = some (.ref A.C_Net)
  mk_Net : Mk K A.C_Net A.f_Net___init__
  n_Net_places : NoAttr K A.C_Net "places"
  n_Net_edges : NoAttr K A.C_Net "edges"
  M_NoScale : mg "NoScale" = some (.ref A.C_NoScale)
  M_NoNet : mg "NoNet" = some (.ref A.C_NoNet)
  x_NoNet : XCls K A.C_NoNet
  xt_NoNet : XTy K A.C_NoNet
  x_NoScale : XCls K A.C_NoScale
  xt_NoScale : XTy K A.C_NoScale
  w_NoScale : WCls K A.C_NoScale
  w_NoNet : WCls K A.C_NoNet
  s_NoNet_NoScale : PySem.W.subIn K (.ref A.C_NoNet) (.ref A.C_NoScale) = some false
  i_NoNet_NoScale : PySem.W.kitOne K (.ref A.C_NoNet) (.ref A.C_NoScale) = some false
  s_NoNet_NoNet : PySem.W.subIn K (.ref A.C_NoNet) (.ref A.C_NoNet) = some true
  i_NoNet_NoNet : PySem.W.kitOne K (.ref A.C_NoNet) (.ref A.C_NoNet) = some true
  s_NoScale_NoScale : PySem.W.subIn K (.ref A.C_NoScale) (.ref A.C_NoScale) = some true
  i_NoScale_NoScale : PySem.W.kitOne K (.ref A.C_NoScale) (.ref A.C_NoScale) = some true
  F_Cost_empty : Fun K "empty" "Cost.empty" s_Cost_empty A.f_Cost_empty A.d_Cost_empty
  me_Cost_empty : Meth K A.C_Cost "empty" A.f_Cost_empty
  a_Cost_empty : Binds K A.d_Cost_empty ["self"] []
  F_Chance_empty : Fun K "empty" "Chance.empty" s_Chance_empty A.f_Chance_empty A.d_Chance_empty
  me_Chance_empty : Meth K A.C_Chance "empty" A.f_Chance_empty
  a_Chance_empty : Binds K A.d_Chance_empty ["self"] []
  F_Net___init__ : Fun K "__init__" "Net.__init__" s_Net___init__ A.f_Net___init__ A.d_Net___init__
  me_Net___init__ : Meth K A.C_Net "__init__" A.f_Net___init__
  a_Net___init__ : Binds K A.d_Net___init__ ["self", "places", "edges"] []
  F_scale_of : Fun K "scale_of" "scale_of" s_scale_of A.f_scale_of A.d_scale_of
  m_scale_of : mg "scale_of" = some (.ref A.f_scale_of)
  k_scale_of : PySem.W.keepIn K (.ref A.f_scale_of) = true
  a_scale_of : Binds K A.d_scale_of ["word"] []
  F_is_name_sign : Fun K "is_name_sign" "is_name_sign" s_is_name_sign A.f_is_name_sign A.d_is_name_sign
  m_is_name_sign : mg "is_name_sign" = some (.ref A.f_is_name_sign)
  k_is_name_sign : PySem.W.keepIn K (.ref A.f_is_name_sign) = true
  a_is_name_sign : Binds K A.d_is_name_sign ["sign"] []
  F_is_name : Fun K "is_name" "is_name" s_is_name A.f_is_name A.d_is_name
  m_is_name : mg "is_name" = some (.ref A.f_is_name)
  k_is_name : PySem.W.keepIn K (.ref A.f_is_name) = true
  a_is_name : Binds K A.d_is_name ["text"] []
  F_is_word : Fun K "is_word" "is_word" s_is_word A.f_is_word A.d_is_word
  m_is_word : mg "is_word" = some (.ref A.f_is_word)
  k_is_word : PySem.W.keepIn K (.ref A.f_is_word) = true
  a_is_word : Binds K A.d_is_word ["text"] []
  F_is_whole : Fun K "is_whole" "is_whole" s_is_whole A.f_is_whole A.d_is_whole
  m_is_whole : mg "is_whole" = some (.ref A.f_is_whole)
  k_is_whole : PySem.W.keepIn K (.ref A.f_is_whole) = true
  a_is_whole : Binds K A.d_is_whole ["thing"] []
  F_is_edge : Fun K "is_edge" "is_edge" s_is_edge A.f_is_edge A.d_is_edge
  m_is_edge : mg "is_edge" = some (.ref A.f_is_edge)
  k_is_edge : PySem.W.keepIn K (.ref A.f_is_edge) = true
  a_is_edge : Binds K A.d_is_edge ["edge", "places"] []
  F_row_net : Fun K "row_net" "row_net" s_row_net A.f_row_net A.d_row_net
  m_row_net : mg "row_net" = some (.ref A.f_row_net)
  k_row_net : PySem.W.keepIn K (.ref A.f_row_net) = true
  a_row_net : Binds K A.d_row_net ["words", "scale"] []
  F_l_at : Fun K "_law_at" "_law_at" s_l_at A.f_l_at A.d_l_at
  m_l_at : mg "_law_at" = some (.ref A.f_l_at)
  k_l_at : PySem.W.keepIn K (.ref A.f_l_at) = true
  a_l_at : Binds K A.d_l_at ["_law_script", "_law_k"] []
  F_l_mix : Fun K "_law_mix" "_law_mix" s_l_mix A.f_l_mix A.d_l_mix
  m_l_mix : mg "_law_mix" = some (.ref A.f_l_mix)
  k_l_mix : PySem.W.keepIn K (.ref A.f_l_mix) = true
  a_l_mix : Binds K A.d_l_mix ["_law_cell", "_law_k"] []
  F_l_names : Fun K "_law_names" "_law_names" s_l_names A.f_l_names A.d_l_names
  m_l_names : mg "_law_names" = some (.ref A.f_l_names)
  k_l_names : PySem.W.keepIn K (.ref A.f_l_names) = true
  a_l_names : Binds K A.d_l_names ["_law_cell", "_law_many", "_law_firsts"] []
  F_l_words : Fun K "_law_words" "_law_words" s_l_words A.f_l_words A.d_l_words
  m_l_words : mg "_law_words" = some (.ref A.f_l_words)
  k_l_words : PySem.W.keepIn K (.ref A.f_l_words) = true
  a_l_words : Binds K A.d_l_words ["_law_script"] []
  F_l_strange : Fun K "_law_strange" "_law_strange" s_l_strange A.f_l_strange A.d_l_strange
  m_l_strange : mg "_law_strange" = some (.ref A.f_l_strange)
  k_l_strange : PySem.W.keepIn K (.ref A.f_l_strange) = true
  a_l_strange : Binds K A.d_l_strange ["_law_word", "_law_m"] []
  F_law : Fun K "law" "law" s_law A.f_law A.d_law
  m_law : mg "law" = some (.ref A.f_law)
  k_law : PySem.W.keepIn K (.ref A.f_law) = true
  a_law : Binds K A.d_law ["_law_script"] []
  g_SMALL_LETTERS : ∃ t, mg "SMALL_LETTERS" = some (.str c_SMALL_LETTERS t)
  g_GREAT_LETTERS : ∃ t, mg "GREAT_LETTERS" = some (.str c_GREAT_LETTERS t)
  g_FIGURES : ∃ t, mg "FIGURES" = some (.str c_FIGURES t)
  g_LONGEST_NAME : ∃ t, mg "LONGEST_NAME" = some (.int 12 t)
  b_tuple : mg "tuple" = none
  b_all : mg "all" = none
  b_isinstance : mg "isinstance" = none
  b_str : mg "str" = none
  b_len : mg "len" = none
  b_int : mg "int" = none
  b_bool : mg "bool" = none
  b_enumerate : mg "enumerate" = none
  b_range : mg "range" = none
  b_list : mg "list" = none
section
variable {P : Program} {w : World} {K : PySem.W.Frag} {mg : Str → Option Value} {base : Heap}
theorem iteDT {c A B : Prop} [Decidable c] (hc : c) (h : A) : if decide c = true then A else B := by
  rw [if_pos (decide_eq_true hc)]
  exact h
theorem iteDF {c A B : Prop} [Decidable c] (hc : ¬ c) (h : B) : if decide c = true then A else B := by
  rw [if_neg (by simp [hc])]
  exact h
theorem iteD {c A B : Prop} [Decidable c] (h1 : c → A) (h2 : ¬ c → B) : if decide c = true then A else B := by
  by_cases hc : c
  · exact iteDT hc (h1 hc)
  · exact iteDF hc (h2 hc)
theorem iteND {c A B : Prop} [Decidable c] (h1 : ¬ c → A) (h2 : c → B) : if (!decide c) = true then A else B := by
  by_cases hc : c
  · rw [if_neg (by simp [hc])]; exact h2 hc
  · rw [if_pos (by simp [hc])]; exact h1 hc
theorem atI_lt {α : Type} {xs : List α} {i : Int} (h0 : 0 ≤ i) (h : i < xs.length) : ∃ v, atI xs i = some v ∧ v ∈ xs := by
  obtain ⟨j, rfl⟩ : ∃ j : Nat, i = (j : Int) := ⟨i.toNat, by omega⟩
  have hj : j < xs.length := by omega
  exact ⟨xs[j], atI_nat (List.getElem?_eq_getElem hj), List.getElem_mem hj⟩
theorem atI_mod {α : Type} (xs : List α) (n : Int) (m : Nat) (hm : m ≤ xs.length) (h0 : 0 < m) : ∃ v, atI xs (n % (m : Int)) = some v ∧ v ∈ xs :=
  atI_lt (Int.emod_nonneg n (by omega)) (by have := Int.emod_lt_of_pos n (show (0 : Int) < (m : Int) by omega); omega)
theorem ixN_lt {n : Nat} {i : Int} (h0 : 0 ≤ i) (h : i < n) : ixN n i = some i.toNat := by
  unfold ixN
  rw [if_pos h0, if_pos h]
theorem _root_.L2.Same.also {H H1 : Hp} {a : Addr} {o : HO} (s : Same H H1) (h : H1 a = none) : Same H (upd H1 a o) := s.trans (Same.upd h)
theorem iteVI {i j : Int} {A B : Prop} (h1 : i = j → A) (h2 : ¬ i = j → B) : if decide (V.int i = V.int j) = true then A else B :=
  iteD (fun z => h1 (V.int.inj z)) (fun z => h2 fun y => z (congrArg V.int y))
theorem iteB {b : Bool} {c A B : Prop} (e : b = true) (h : A) : if b = true then A else B := by rw [if_pos e]; exact h
/-- a promise's value: a new pair -/
abbrev NewPair (H : Hp) (Q : VK) (p q : Int) : Prop := ∀ r H', Same H H' → H' r = some (.tup [.int p, .int q]) → Q (.ref r) H'
theorem small64 {i : Int} (a : -(2 ^ 64) < i) (b : i < 2 ^ 64) {n : Nat} (h : 64 ≤ n := by decide) : Bd n i := (Bd.of a b).mono h
/-- a while's turn -/
def WTurn (Pv : St → Hp → Prop) (μ : St → Hp → Nat) (D : Ends) (tb : TS) (σ : St) (H H1 : Hp) : Prop :=
  ∃ N : St → Hp → Prop, (∀ σ' H', N σ' H' → ∃ m', m' < μ σ H ∧ Pv σ' H' ∧ m' = μ σ' H') ∧ tb { D with nx := N, ct := N, bk := D.nx } σ H1
local macro_rules | `(tactic| walk_at "side") => `(tactic| first | (show (0 : Int) < _; decide) | exact ⟨by decide, by decide⟩ | exact ⟨by decide, by decide, by decide⟩ | exact CMulX.l (by omega) (by omega) | exact CMulX.r (by omega) (by omega) | exact CMulX.b (by assumption) (by assumption))
local macro_rules | `(tactic| walk_at "go") => `(tactic| repeat (first | refine ⟨_, rfl, ?_⟩ | refine ⟨_, _, rfl, rfl, (by walk_at "side"), ?_⟩ | refine ⟨_, _, rfl, rfl, ?_⟩ | refine ⟨_, _, _, _, rfl, rfl, SqT.of (by assumption), rfl, ?_⟩ | refine ⟨rfl, ?_⟩))
abbrev s62 : Str := "abcdefghijklmnopqrstuvwxyz0123456789ABCDEFGHIJKLMNOPQRSTUVWXYZ"
theorem sl_le (x : Str) (lo hi : Option Int) {n : Nat} (h : x.length ≤ n) : (Txt.slice x lo hi).length ≤ n := Nat.le_trans (Txt.slice_le x lo hi) h
theorem app_len (x y : Str) : (x ++ y).length = x.length + y.length := by
  show (x.cps ++ y.cps).size = _
  rw [Array.size_append]
  rfl
/-- a sign of a name -/
def nmS (c : Nat) : Bool := decide (c ∈ c_SMALL_LETTERS.cps.toList) || decide (c ∈ c_GREAT_LETTERS.cps.toList) || decide (c ∈ c_FIGURES.cps.toList)
def grS (c : Nat) : Bool := decide (c ∈ c_GREAT_LETTERS.cps.toList)
def isNm (x : Str) : Bool := decide (1 ≤ x.cps.size) && decide (x.cps.size ≤ 12) && x.cps.toList.all nmS
def fst (x : Str) : Nat := x.cps.getD 0 0
def isKd (x : Str) : Bool := isNm x && grS (fst x)
def isWd (x : Str) : Bool := isNm x && !grS (fst x)
theorem isNm_pos {x : Str} (h : isNm x = true) : x.cps.toList[0]? = some (fst x) := by
  unfold isNm at h
  simp only [Bool.and_eq_true, decide_eq_true_eq] at h
  obtain ⟨⟨h1, _⟩, _⟩ := h
  unfold fst
  rw [Array.getElem?_toList, Array.getD_eq_getD_getElem?, Array.getElem?_eq_getElem h1]
  rfl
def sp_is_name_sign (_K : PySem.W.Frag) : Sp := fun vs H Q _ => ∃ c : Nat, vs = [.str ⟨#[c]⟩] ∧ Q (.bl (nmS c)) H
theorem ok_is_name_sign {A : Adr} (T : Txt K mg A) : FnOk P w K mg base CX0 1 A.f_is_name_sign A.d_is_name_sign ["sign"] (sp_is_name_sign K) := by
  refine T.F_is_name_sign.okQ sc_is_name_sign (fun vs H Q E h => ?_) (fun cdv Ar outer s H vs Q E hr h => ?_)
  · obtain ⟨c, rfl, _⟩ := h
    rfl
  · have hu := hr.units0
    obtain ⟨c, rfl, k⟩ := h
    refine ⟨_, (qpss_one (qps_ret (qpe_or (qpe_cmpR op_in_str (qpv 0) (qpe_glob (by rfl) T.g_SMALL_LETTERS.choose_spec (show RelV (.str c_SMALL_LETTERS) _ from ⟨_, rfl⟩)) (by with_unfolding_all rfl)) (qpe_or (qpe_cmpR op_in_str (qpv 0) (qpe_glob (by rfl) T.g_GREAT_LETTERS.choose_spec (show RelV (.str c_GREAT_LETTERS) _ from ⟨_, rfl⟩)) (by with_unfolding_all rfl)) (qpe_one (qpe_cmpR op_in_str (qpv 0) (qpe_glob (by rfl) T.g_FIGURES.choose_spec (show RelV (.str c_FIGURES) _ from ⟨_, rfl⟩)) (by with_unfolding_all rfl))))))), ?_⟩
    unfold nmS at k
    refine ⟨_, rfl, _, _, rfl, rfl, _, rfl, ?_⟩
    rw [StrLaws.found_one]
    generalize decide (c ∈ c_SMALL_LETTERS.cps.toList) = b1 at k ⊢
    cases b1 with
    | true => exact iteT k
    | false =>
      refine iteF ⟨_, rfl, _, _, rfl, rfl, _, rfl, ?_⟩
      rw [StrLaws.found_one]
      generalize decide (c ∈ c_GREAT_LETTERS.cps.toList) = b2 at k ⊢
      cases b2 with
      | true => exact iteT k
      | false =>
        refine iteF ⟨_, rfl, _, _, rfl, rfl, ?_⟩
        rw [StrLaws.found_one]
        exact k
def sp_is_name (_K : PySem.W.Frag) : Sp := fun vs H Q _ => ∃ x : Str, vs = [.str x] ∧ x.length ≤ sizeLine ∧ ∀ H', Same H H' → Q (.bl (isNm x)) H'
theorem ok_is_name {A : Adr} (T : Txt K mg A) : FnOk P w K mg base CX0 2 A.f_is_name A.d_is_name ["text"] (sp_is_name K) := by
  have G_is_name_sign := ok_is_name_sign (P := P) (w := w) (base := base) T
  refine T.F_is_name.okQ sc_is_name (fun vs H Q E h => ?_) (fun cdv Ar outer s H vs Q E hr h => ?_)
  · obtain ⟨x, rfl, _⟩ := h
    rfl
  · have hu := hr.units0
    obtain ⟨x, rfl, hx, k⟩ := h
    refine ⟨_, (qpss_cons (qps_if (qPWpt (qpw_or (qpt_not (qpt_val (qpe_b (kc_isi (K := K) rfl) (by rfl) T.b_isinstance PyProof.Rows.boot_isinstance (qpa_c (qpv 0) (qpa_c (qpe_bltn (by rfl) T.b_str PyProof.Rows.boot_str (show RelV (.ty "str") _ from rfl)) qpa_nil))))) (qpw_or1 (qpt_not (qpt_chain op_le op_le qpe_int (qpe_b call_len_str (by rfl) T.b_len PySem.boot_len (qpa_c (qpv 0) qpa_nil)) (qpe_glob (by rfl) T.g_LONGEST_NAME.choose_spec (show RelV (.int 12) _ from ⟨_, rfl⟩))))))) (qpss_one (qps_ret qpe_bl)) qpss_nil)
      (qpss_one (qps_ret (qpe_b (kc_all (K := K) rfl rfl) (by rfl) T.b_all PyProof.Rows.boot_all (qpa_c (qpe_comp ["sign"] [] [] (qpi_str (qpv 0)) (fun _ => (qpg_name (i := 0) (show @List.Nodup Str ((["sign"] : List Str) ++ ([] : List Str)) by decide +kernel) rfl (Or.inl rfl) (Or.inr rfl))) (fun _ => qpf_nil) (fun _ => (qpe_f G_is_name_sign (hr.mono (by decide)) (by rfl) T.m_is_name_sign T.k_is_name_sign T.a_is_name_sign .nil pass0 (qpa_c (qpv 0) qpa_nil)))) qpa_nil))))), ?_⟩
    refine ⟨_, rfl, _, _, _, _, true, rfl, fun u r => r, TyOf.str x, (by with_unfolding_all rfl), _, rfl, ?_⟩
    refine iteF ?_
    refine ⟨_, rfl, x, rfl, hx, _, _, rfl, rfl, _, rfl, ?_⟩
    have kf : ∀ H', Same H H' → isNm x = false → Q (.bl false) H' := fun H' e z => by rw [← z]; exact k H' e
    refine iteD (fun h1 => ?_) (fun h1 => ?_)
    · refine ⟨_, _, rfl, rfl, _, rfl, ?_⟩
      have h1 : 1 ≤ x.cps.size := by have : (1 : Int) ≤ (x.cps.size : Int) := h1; omega
      refine iteND (fun h2 => ?_) (fun h2 => ?_)
      · have h2 : ¬ x.cps.size ≤ 12 := by have : ¬ (x.cps.size : Int) ≤ 12 := h2; omega
        exact kf H (Same.refl _) (by unfold isNm; rw [decide_eq_false h2]; simp)
      · have h2 : x.cps.size ≤ 12 := by have : (x.cps.size : Int) ≤ 12 := h2; omega
        refine ⟨_, rfl, x, rfl, fun D hD => ?_⟩
        refine turns_map x.cps.size hx (fun σ => ∃ v, σ = [v]) (fun i y _ => (x.cps.toList.map fun c => V.bl (nmS c))[i]? = some y) hD ⟨_, rfl⟩ (fun _ _ _ _ _ h => h) (fun _ _ => Nat.le_refl _) (fun i _ hi _ => hi) ?_ ?_
        · rintro i σ H1 v H1' Nx hi ⟨v0, rfl⟩ e ⟨rfl, c, hc, rfl⟩ kN
          refine ⟨_, rfl, c, rfl, kN _ _ _ ⟨_, rfl⟩ (Same.refl _) ?_⟩
          rw [List.getElem?_map, Array.getElem?_toList, hc]
          rfl
        · intro H1 ys e hy hl hv
          have ey := ys_eq hl (by rw [List.length_map, Array.length_toList]) hv
          subst ey
          refine ⟨D, x.cps.toList.map nmS, rfl, SqL.of (by rw [List.map_map]; exact hy), ?_⟩
          have z : isNm x = (x.cps.toList.map nmS).all id := by
            unfold isNm
            rw [decide_eq_true h1, decide_eq_true h2, List.all_map]
            rfl
          rw [← z]
          exact k H1 e
    · have h1 : ¬ 1 ≤ x.cps.size := by have : ¬ (1 : Int) ≤ (x.cps.size : Int) := h1; omega
      exact ⟨_, rfl, kf H (Same.refl _) (by unfold isNm; rw [decide_eq_false h1]; simp)⟩
def sp_is_word (_K : PySem.W.Frag) : Sp := fun vs H Q _ => ∃ x : Str, vs = [.str x] ∧ x.length ≤ sizeLine ∧ ∀ H', Same H H' → Q (.bl (isWd x)) H'
theorem ok_is_word {A : Adr} (T : Txt K mg A) : FnOk P w K mg base CX0 3 A.f_is_word A.d_is_word ["text"] (sp_is_word K) := by
  have G_is_name := ok_is_name (P := P) (w := w) (base := base) T
  refine T.F_is_word.okQ sc_is_word (fun vs H Q E h => ?_) (fun cdv Ar outer s H vs Q E hr h => ?_)
  · obtain ⟨x, rfl, _⟩ := h
    rfl
  · have hu := hr.units0
    obtain ⟨x, rfl, hx, k⟩ := h
    refine ⟨_, (qpss_one (qps_ret (qpe_and (qpe_f G_is_name (hr.mono (by decide)) (by rfl) T.m_is_name T.k_is_name T.a_is_name .nil pass0 (qpa_c (qpv 0) qpa_nil)) (qpe_one (qpe_cmpR op_notin_str (qpe_ix ix_str (qpv 0) qpe_int (fun _ _ => rfl)) (qpe_glob (by rfl) T.g_GREAT_LETTERS.choose_spec (show RelV (.str c_GREAT_LETTERS) _ from ⟨_, rfl⟩)) (by with_unfolding_all rfl)))))), ?_⟩
    unfold isWd at k
    refine ⟨_, rfl, x, rfl, hx, fun H1 e => ⟨_, rfl, ?_⟩⟩
    cases hn : isNm x with
    | false => exact iteF (by rw [hn] at k; exact k H1 e)
    | true =>
      refine iteT ⟨_, rfl, x, _, _, rfl, rfl, hx, atI_nat (isNm_pos hn), _, _, rfl, rfl, ?_⟩
      rw [StrLaws.found_one]
      rw [hn] at k
      exact k H1 e
theorem s62_eq : s62.cps.toList = c_SMALL_LETTERS.cps.toList ++ c_FIGURES.cps.toList ++ c_GREAT_LETTERS.cps.toList := by decide +kernel
theorem nmS62 (c : Nat) : decide (c ∈ s62.cps.toList) = nmS c := by
  unfold nmS
  rw [s62_eq]
  simp only [List.mem_append, Bool.decide_or, Bool.or_assoc]
  rw [Bool.or_comm (decide (c ∈ c_FIGURES.cps.toList))]
def sp_l_at (K : PySem.W.Frag) : Sp := fun vs H Q _ => ∃ (a : Addr) (ns : List Int) (k : Int), vs = [.ref a, .int k] ∧ SqL K H a (ns.map V.int) ∧ 0 ≤ k ∧ Q (.int (ns.getD k.toNat 0)) H
theorem ok_l_at {A : Adr} (T : Txt K mg A) : FnOk P w K mg base CX0 1 A.f_l_at A.d_l_at ["_law_script", "_law_k"] (sp_l_at K) := by
  refine T.F_l_at.okQ sc_l_at (fun vs H Q E h => ?_) (fun cdv Ar outer s H vs Q E hr h => ?_)
  · obtain ⟨a, ns, k, rfl, _⟩ := h
    rfl
  · have hu := hr.units0
    obtain ⟨a, ns, k, rfl, hS, hk, q⟩ := h
    refine ⟨_, (qpss_cons (qps_if (qpt_cmpR op_lt (qpv 1) (qpe_b (kc_len (K := K) rfl) (by rfl) T.b_len PySem.boot_len (qpa_c (qpv 0) qpa_nil)) (nomark _)) (qpss_one (qps_ret (qpe_ix (ki_list (K := K) rfl) (qpv 0) (qpv 1) (fun _ _ => rfl)))) qpss_nil)
      (qpss_one (qps_ret qpe_int))), ?_⟩
    refine ⟨_, rfl, _, rfl, a, _, rfl, .inl hS, _, _, rfl, rfl, _, rfl, ?_⟩
    obtain ⟨j, rfl⟩ : ∃ j : Nat, k = (j : Int) := ⟨k.toNat, by omega⟩
    refine iteD (fun h => ?_) (fun h => ?_)
    · rw [List.length_map] at h
      have hj : j < ns.length := by omega
      refine ⟨_, rfl, _, rfl, a, _, _, _, rfl, rfl, hS, atI_nat (by rw [List.getElem?_map, List.getElem?_eq_getElem hj]; rfl), ?_⟩
      have e : ns.getD (j : Int).toNat 0 = ns[j] := by simp [List.getD, List.getElem?_eq_getElem hj]
      rw [e] at q
      exact q
    · rw [List.length_map] at h
      have e : ns.getD (j : Int).toNat 0 = 0 := by simp [List.getD, List.getElem?_eq_none (show ns.length ≤ j by omega)]
      rw [e] at q
      exact q
def sp_l_mix (_K : PySem.W.Frag) : Sp := fun vs H Q _ => ∃ c k : Int, vs = [.int c, .int k] ∧ -(2 ^ 60) < k ∧ k < 2 ^ 60 ∧ ∀ m H', 0 ≤ m → m < 1999999973 → Same H H' → Q (.int m) H'
theorem ok_l_mix {A : Adr} (T : Txt K mg A) : FnOk P w K mg base CX0 1 A.f_l_mix A.d_l_mix ["_law_cell", "_law_k"] (sp_l_mix K) := by
  refine T.F_l_mix.okQ sc_l_mix (fun vs H Q E h => ?_) (fun cdv Ar outer s H vs Q E hr h => ?_)
  · obtain ⟨c, k, rfl, _⟩ := h
    rfl
  · have hu := hr.units0
    obtain ⟨c, k, rfl, k1, k2, kk⟩ := h
    refine ⟨_, (qpss_cons (qps_set (i := 2) sc_l_mix.nd rfl (Or.inl rfl) (qpe_ix (ki_list (K := K) rfl) (qpe_lst (qpa_i (qpa_i (qpa_i (qpa_i (qpa_i (qpa_i (qpa_i qpa_nil)))))))) (qpe_op op_mod (qpv 1) qpe_int) (fun _ _ => rfl)))
      (qpss_cons (qps_set (i := 3) sc_l_mix.nd rfl (Or.inl rfl) (qpe_op op_mod (qpe_op op_mulX (qpe_op op_add (qpe_op op_add (qpe_op op_mod (qpv 0) qpe_int) (qpe_op op_mulX (qpe_op op_mulX qpe_int (qpv 1)) (qpv 1))) qpe_int) (qpv 2)) qpe_int))
      (qpss_one (qps_ret (qpe_op op_mod (qpe_op op_mulX (qpv 3) (qpv 3)) qpe_int))))), ?_⟩
    refine ⟨by show 7 ≤ sizeLine; decide, fun l hl => ?_⟩
    have a1 := Int.emod_nonneg k (show (7 : Int) ≠ 0 by decide)
    have a2 := Int.emod_lt_of_pos k (show (0 : Int) < 7 by decide)
    obtain ⟨j, ej⟩ : ∃ j : Nat, k % 7 = (j : Int) := ⟨(k % 7).toNat, by omega⟩
    obtain ⟨f, hf, hb⟩ : ∃ f : Int, ([V.int 48271, .int 69621, .int 16807, .int 40692, .int 30269, .int 62089, .int 45991] : List V)[j]? = some (.int f) ∧ 0 < f ∧ f < 100000 := by
      have hj : j < 7 := by omega
      match j, hj with
      | 0, _ => exact ⟨_, rfl, by decide, by decide⟩
      | 1, _ => exact ⟨_, rfl, by decide, by decide⟩
      | 2, _ => exact ⟨_, rfl, by decide, by decide⟩
      | 3, _ => exact ⟨_, rfl, by decide, by decide⟩
      | 4, _ => exact ⟨_, rfl, by decide, by decide⟩
      | 5, _ => exact ⟨_, rfl, by decide, by decide⟩
      | 6, _ => exact ⟨_, rfl, by decide, by decide⟩
    refine ⟨_, rfl, _, _, rfl, rfl, (by show (0 : Int) < 7; decide), ?_⟩
    refine ⟨l, _, _, _, rfl, rfl, SqL.of upd_same, by rw [ej]; exact atI_nat hf, ?_⟩
    refine ⟨_, rfl, _, _, rfl, rfl, (by show (0 : Int) < 2147483647; decide), ?_⟩
    refine ⟨_, rfl, _, _, rfl, rfl, .l (by decide) (by decide), ?_⟩
    refine ⟨_, rfl, _, _, rfl, rfl, .r (by omega) (by omega), ?_⟩
    refine ⟨_, _, rfl, rfl, ?_⟩
    refine ⟨_, _, rfl, rfl, ?_⟩
    refine ⟨_, rfl, _, _, rfl, rfl, .r (by omega) (by omega), ?_⟩
    refine ⟨_, _, rfl, rfl, (by show (0 : Int) < 2147483629; decide), ?_⟩
    generalize hn : ((c % 2147483647 + 97 * k * k + 11) * f) % 2147483629 = n
    have n1 : 0 ≤ n := hn ▸ Int.emod_nonneg _ (by decide)
    have n2 : n < 2147483629 := hn ▸ Int.emod_lt_of_pos _ (by decide)
    refine ⟨_, rfl, _, rfl, _, _, rfl, rfl, .l (by omega) (by omega), _, _, rfl, rfl, (by show (0 : Int) < 1999999973; decide), ?_⟩
    exact kk _ _ (Int.emod_nonneg _ (by decide)) (Int.emod_lt_of_pos _ (by decide)) (Same.upd hl)
/-- a name that begins with a sign of F -/
def NmOf (F z : Str) : Prop := ∃ c r, z.cps.toList = c :: r ∧ c ∈ F.cps.toList ∧ (∀ d ∈ r, d ∈ s62.cps.toList) ∧ r.length ≤ 11
theorem nm_mk {F a b : Str} {c : Nat} (ha : a.cps.toList = [c]) (hc : c ∈ F.cps.toList) (hb : ∀ d ∈ b.cps.toList, d ∈ s62.cps.toList) (hl : b.cps.toList.length ≤ 11) : NmOf F (a ++ b) :=
  ⟨c, b.cps.toList, by rw [sg_app, ha]; rfl, hc, hb, hl⟩
theorem NmOf.len {F z : Str} (h : NmOf F z) : 1 ≤ z.length ∧ z.length ≤ 12 := by
  obtain ⟨c, r, e, _, _, hl⟩ := h
  rw [sg_len, e, List.length_cons]
  omega
def sp_l_names (_K : PySem.W.Frag) : Sp := fun vs H Q _ => ∃ (cell many : Int) (F : Str), vs = [.int cell, .int many, .str F] ∧ 0 ≤ many ∧ many ≤ 12 ∧ 0 < F.length ∧ F.length ≤ 100 ∧
  ∀ D (zs : List Str) H', Same H H' → H' D = some (.lst (zs.map V.str)) → zs.length = many.toNat → (∀ z ∈ zs, NmOf F z) → Q (.ref D) H'
theorem ok_l_names {A : Adr} (T : Txt K mg A) : FnOk P w K mg base CX0 2 A.f_l_names A.d_l_names ["_law_cell", "_law_many", "_law_firsts"] (sp_l_names K) := by
  have G_l_mix := ok_l_mix (P := P) (w := w) (base := base) T
  refine T.F_l_names.okQ sc_l_names (fun vs H Q E h => ?_) (fun cdv Ar outer s H vs Q E hr h => ?_)
  · obtain ⟨cell, many, F, rfl, _⟩ := h
    rfl
  · have hu := hr.units0
    obtain ⟨cell, many, F, rfl, m0, m12, F0, F1, kk⟩ := h
    refine ⟨_, (qpss_cons (qps_set (i := 3) sc_l_names.nd rfl (Or.inr rfl) qpe_str)
      (qpss_cons (qps_set (i := 4) sc_l_names.nd rfl (Or.inr rfl) (qpe_f G_l_mix (hr.mono (by decide)) (by rfl) T.m_l_mix T.k_l_mix T.a_l_mix .nil pass0 (qpa_c (qpv 0) (qpa_i qpa_nil))))
      (qpss_cons (qps_set (i := 5) sc_l_names.nd rfl (Or.inr rfl) (qpe_op op_mod (qpe_op op_fdiv (qpv 4) qpe_int) (qpe_b call_len_str (by rfl) T.b_len PySem.boot_len (qpa_c (qpv 2) qpa_nil))))
      (qpss_cons (qps_set (i := 6) sc_l_names.nd rfl (Or.inr rfl) (qk_bm (K := K) rfl PySem.F.plainAttrs_str PySem.F.slot_str_join PySem.F.type_str_join (kt_join (K := K) rfl) qpe_str (qpa_c (qpe_comp ["_law_j"] ["_law_rest", "_law_number"] [3, 4] (qpi_range1 (by rfl) T.b_range (qpa_i qpa_nil)) (fun _ => (qpg_name (i := 0) (show @List.Nodup Str ((["_law_j"] : List Str) ++ (["_law_rest", "_law_number"] : List Str)) by decide +kernel) rfl (Or.inl rfl) (Or.inr rfl))) (fun _ => qpf_nil) (fun _ => (qpe_ix ix_str (qpv 1) (qpe_op op_mod (qpe_op op_add (qpe_op op_fdivB (qpv 2) (qpe_op op_add (qpv 0) qpe_int)) (qpe_op op_mulX (qpv 0) (qpv 0))) qpe_int) (fun _ _ => rfl)))) qpa_nil)))
      (qpss_cons (qps_if (qpt_cmpR op_eq (qpe_op op_mod (qpv 4) qpe_int) qpe_int (nomark _)) (qpss_one (qps_ret (qpe_comp ["_law_k"] ["_law_firsts", "_law_start", "_law_tail"] [2, 5, 6] (qpi_range1 (by rfl) T.b_range (qpa_c (qpv 1) qpa_nil)) (fun _ => (qpg_name (i := 0) (show @List.Nodup Str ((["_law_k"] : List Str) ++ (["_law_firsts", "_law_start", "_law_tail"] : List Str)) by decide +kernel) rfl (Or.inl rfl) (Or.inr rfl))) (fun _ => qpf_nil) (fun _ => (qpe_op op_add_str (qpe_ix ix_str (qpv 1) (qpv 2) (fun _ _ => rfl)) (qpe_slice sl_str (qpv 3) qpo_none (qpo_some (qpv 0)))))))) qpss_nil)
      (qpss_cons (qps_if (qpt_cmpR op_eq (qpe_op op_mod (qpv 4) qpe_int) qpe_int (nomark _)) (qpss_cons (qps_set (i := 7) sc_l_names.nd rfl (Or.inr rfl) (qpe_op op_mod (qpe_op op_fdiv (qpv 4) qpe_int) qpe_int))
      (qpss_one (qps_ret (qpe_comp ["_law_k"] ["_law_firsts", "_law_tail", "_law_size", "_law_start"] [2, 6, 7, 5] (qpi_range1 (by rfl) T.b_range (qpa_c (qpv 1) qpa_nil)) (fun _ => (qpg_name (i := 0) (show @List.Nodup Str ((["_law_k"] : List Str) ++ (["_law_firsts", "_law_tail", "_law_size", "_law_start"] : List Str)) by decide +kernel) rfl (Or.inl rfl) (Or.inr rfl))) (fun _ => qpf_nil) (fun _ => (qpe_op op_add_str (qpe_ix ix_str (qpv 1) (qpe_op op_mod (qpe_op op_add (qpv 4) (qpv 0)) (qpe_b call_len_str (by rfl) T.b_len PySem.boot_len (qpa_c (qpv 1) qpa_nil))) (fun _ _ => rfl)) (qpe_slice sl_str (qpv 2) qpo_none (qpo_some (qpv 3))))))))) qpss_nil)
      (qpss_cons (qps_set (i := 7) sc_l_names.nd rfl (Or.inr rfl) (qpe_op op_mod (qpe_op op_fdiv (qpv 4) qpe_int) qpe_int))
      (qpss_cons (qps_set (i := 8) sc_l_names.nd rfl (Or.inr rfl) (qpe_op op_mod (qpe_op op_fdiv (qpv 4) qpe_int) (qpe_op op_add (qpv 7) qpe_int)))
      (qpss_cons (qps_set (i := 3) sc_l_names.nd rfl (Or.inr rfl) (qpe_comp ["_law_k"] ["_law_rest", "_law_number"] [3, 4] (qpi_range1 (by rfl) T.b_range (qpa_c (qpv 1) qpa_nil)) (fun _ => (qpg_name (i := 0) (show @List.Nodup Str ((["_law_k"] : List Str) ++ (["_law_rest", "_law_number"] : List Str)) by decide +kernel) rfl (Or.inl rfl) (Or.inr rfl))) (fun _ => qpf_nil) (fun _ => (qpe_ix ix_str (qpv 1) (qpe_op op_mod (qpe_op op_add (qpe_op op_fdiv (qpv 2) qpe_int) (qpv 0)) qpe_int) (fun _ _ => rfl)))))
      (qpss_one (qps_ret (qpe_comp ["_law_sign"] ["_law_tail", "_law_at_here", "_law_size", "_law_firsts", "_law_start"] [6, 8, 7, 2, 5] (qk_list (K := K) rfl (qpv 3)) (fun _ => (qpg_name (i := 0) (show @List.Nodup Str ((["_law_sign"] : List Str) ++ (["_law_tail", "_law_at_here", "_law_size", "_law_firsts", "_law_start"] : List Str)) by decide +kernel) rfl (Or.inl rfl) (Or.inr rfl))) (fun _ => qpf_nil) (fun _ => (qpe_op op_add_str (qpe_op op_add_str (qpe_op op_add_str (qpe_ix ix_str (qpv 4) (qpv 5) (fun _ _ => rfl)) (qpe_slice sl_str (qpv 1) qpo_none (qpo_some (qpv 2)))) (qpv 0)) (qpe_slice sl_str (qpv 1) (qpo_some (qpv 2)) (qpo_some (qpv 3))))))))))))))))), ?_⟩
    have hsz : sizeLine = 16777216 := rfl
    have hmn : many.toNat ≤ sizeLine := by omega
    refine ⟨_, rfl, cell, 0, rfl, by decide, by decide, fun m H1 m1 m2 s1 => ?_⟩
    refine ⟨_, rfl, _, _, rfl, rfl, ⟨by decide, by decide⟩, _, rfl, F, rfl, by omega, _, _, rfl, rfl, (by show (0 : Int) < (F.length : Int); omega), ?_⟩
    obtain ⟨c0, hc0, hc0m⟩ := atI_mod F.cps.toList (m / 5) F.length (by rw [sg_len]; exact Nat.le_refl _) F0
    refine ⟨rfl, _, rfl, by decide, by decide, fun D hD => ?_⟩
    refine turns_range (fun σ => ∃ v, σ = [v, some (.str s62), some (.int m)]) (fun i y _ => ∃ c : Nat, y = V.str ⟨#[c]⟩ ∧ c ∈ s62.cps.toList) (by decide) hD ⟨_, rfl⟩ (fun _ _ _ _ _ h => h) ?_ ?_
    · rintro i σ H2 Nx hi ⟨v, rfl⟩ e kN
      have hi' : i < 11 := hi
      refine ⟨_, rfl, _, rfl, _, rfl, _, _, rfl, rfl, _, _, rfl, rfl, ⟨by omega, small64 (by omega) (by omega)⟩, ?_⟩
      refine ⟨_, rfl, _, rfl, _, _, rfl, rfl, .l (by omega) (by omega), _, _, rfl, rfl, _, _, rfl, rfl, (by show (0 : Int) < 62; decide), ?_⟩
      obtain ⟨c, hc, hcm⟩ := atI_mod s62.cps.toList (m.fdiv (0 + (i : Int) + 1) + (0 + (i : Int)) * (0 + (i : Int))) 62 (by decide +kernel) (by decide)
      exact ⟨_, _, _, rfl, rfl, by decide +kernel, hc, kN _ _ _ ⟨_, rfl⟩ (Same.refl _) ⟨_, rfl, hcm⟩⟩
    intro H2 ys e2 hy hl hv
    obtain ⟨cs, rfl, hcs⟩ := ys_map hv
    rw [List.length_map] at hl
    have hl : cs.length = 11 := hl
    have esg : ((cs.map fun c => (⟨#[c]⟩ : Str)).map fun z => z.cps.toList).flatten = cs := by
      have : ∀ l : List Nat, ((l.map fun c => (⟨#[c]⟩ : Str)).map fun z => z.cps.toList).flatten = l := by
        intro l
        induction l with
        | nil => rfl
        | cons a r ih => rw [List.map_cons, List.map_cons, List.flatten_cons, ih]; rfl
      exact this cs
    have esum : ((cs.map fun c => (⟨#[c]⟩ : Str)).map (·.length)).sum ≤ 11 := by
      have := sum_len1 (zs := cs.map fun c => (⟨#[c]⟩ : Str)) (m := 1) (fun z hz => by obtain ⟨c, _, rfl⟩ := List.mem_map.mp hz; exact Nat.le_refl 1)
      rw [List.length_map] at this
      omega
    have e0 : ("" : Str).length = 0 := rfl
    refine ⟨_, D, cs.map fun c => (⟨#[c]⟩ : Str), rfl, rfl, SqL.of (by rw [List.map_map]; exact hy), by rw [e0]; omega, ?_⟩
    generalize htl : Txt.join "" (cs.map fun c => (⟨#[c]⟩ : Str)) = tl
    have tsg : tl.cps.toList = cs := by rw [← htl, join_sg, esg]
    have tlen : tl.cps.toList.length = 11 := by rw [tsg, hl]
    have tin : ∀ d ∈ tl.cps.toList, d ∈ s62.cps.toList := by rw [tsg]; exact hcs
    have tlen2 : tl.length = 11 := by rw [sg_len, tlen]
    have sm2 : Same H H2 := s1.trans e2
    have one : ∀ c : Nat, (⟨#[c]⟩ : Str).length = 1 := fun _ => rfl
    refine ⟨_, rfl, _, _, rfl, rfl, (by show (0 : Int) < 3; decide), rfl, _, rfl, iteVI (fun _ => ?_) (fun _ => ?_)⟩
    · refine ⟨_, rfl, many, rfl, by omega, by omega, fun D2 hD2 => ?_⟩
      refine turns_range (fun σ => ∃ v, σ = [v, some (.str F), some (.int (m / 5 % (F.length : Int))), some (.str tl)]) (fun i y _ => ∃ z : Str, y = V.str z ∧ NmOf F z) hmn hD2 ⟨_, rfl⟩ (fun _ _ _ _ _ h => h) ?_ ?_
      · rintro i σ H3 Nx hi ⟨v, rfl⟩ e kN
        have g1 := sl_to (x := tl) (j := 0 + (i : Int)) (by omega) (by rw [tlen]; omega)
        have g2 := sl_le tl none (some (0 + (i : Int))) (Nat.le_of_eq tlen2)
        refine ⟨_, rfl, _, rfl, F, _, c0, rfl, rfl, by omega, hc0, _, rfl, _, rfl, _, rfl, tl, rfl, by omega, _, _, rfl, rfl, by rw [one]; omega, ?_⟩
        exact kN _ _ _ ⟨_, rfl⟩ (Same.refl _) ⟨_, rfl, nm_mk (sg_one c0) hc0m (fun d hd => tin d (List.mem_of_mem_take (g1 ▸ hd))) (by rw [g1, List.length_take, tlen]; omega)⟩
      · intro H3 ys e3 hy3 hl3 hv3
        obtain ⟨zs, rfl, hz⟩ := ys_map hv3
        exact kk D2 zs H3 (sm2.trans e3) hy3 (by rw [List.length_map] at hl3; exact hl3) hz
    refine ⟨_, rfl, _, _, rfl, rfl, (by show (0 : Int) < 3; decide), rfl, _, rfl, iteVI (fun _ => ?_) (fun _ => ?_)⟩
    · refine ⟨_, rfl, _, _, rfl, rfl, ⟨by decide, by decide⟩, _, _, rfl, rfl, (by show (0 : Int) < 12; decide), ?_⟩
      have b1 := Int.emod_nonneg (m / 3) (show (12 : Int) ≠ 0 by decide)
      have b2 := Int.emod_lt_of_pos (m / 3) (show (0 : Int) < 12 by decide)
      dsimp only
      generalize m / 3 % 12 = sz at b1 b2 ⊢
      have g1 := sl_to (x := tl) (j := sz) (by omega) (by rw [tlen]; omega)
      have g2 := sl_le tl none (some sz) (Nat.le_of_eq tlen2)
      refine ⟨_, rfl, many, rfl, by omega, by omega, fun D2 hD2 => ?_⟩
      refine turns_range (fun σ => ∃ v, σ = [v, some (.str F), some (.str tl), some (.int sz), some (.int (m / 5 % (F.length : Int)))]) (fun i y _ => ∃ z : Str, y = V.str z ∧ NmOf F z) hmn hD2 ⟨_, rfl⟩ (fun _ _ _ _ _ h => h) ?_ ?_
      · rintro i σ H3 Nx hi ⟨v, rfl⟩ e kN
        obtain ⟨c1, hc1, hc1m⟩ := atI_mod F.cps.toList (m / 5 % (F.length : Int) + (0 + (i : Int))) F.length (by rw [sg_len]; exact Nat.le_refl _) F0
        refine ⟨_, rfl, _, rfl, _, rfl, _, _, rfl, rfl, _, rfl, F, rfl, by omega, _, _, rfl, rfl, (by show (0 : Int) < (F.length : Int); omega), F, _, c1, rfl, rfl, by omega, hc1, ?_⟩
        refine ⟨_, rfl, _, rfl, _, rfl, tl, rfl, by omega, _, _, rfl, rfl, by rw [one]; omega, ?_⟩
        exact kN _ _ _ ⟨_, rfl⟩ (Same.refl _) ⟨_, rfl, nm_mk (sg_one c1) hc1m (fun d hd => tin d (List.mem_of_mem_take (g1 ▸ hd))) (by rw [g1, List.length_take, tlen]; omega)⟩
      · intro H3 ys e3 hy3 hl3 hv3
        obtain ⟨zs, rfl, hz⟩ := ys_map hv3
        exact kk D2 zs H3 (sm2.trans e3) hy3 (by rw [List.length_map] at hl3; exact hl3) hz
    refine ⟨_, rfl, _, _, rfl, rfl, ⟨by decide, by decide⟩, _, _, rfl, rfl, (by show (0 : Int) < 11; decide), ?_⟩
    have b1 := Int.emod_nonneg (m / 3) (show (11 : Int) ≠ 0 by decide)
    have b2 := Int.emod_lt_of_pos (m / 3) (show (0 : Int) < 11 by decide)
    dsimp only
    generalize m / 3 % 11 = sz at b1 b2 ⊢
    refine ⟨_, rfl, _, _, rfl, rfl, ⟨by decide, by decide⟩, _, rfl, _, _, rfl, rfl, _, _, rfl, rfl, (by show (0 : Int) < sz + 1; omega), ?_⟩
    have d1 := Int.emod_nonneg (m / 33) (show sz + 1 ≠ 0 by omega)
    have d2 := Int.emod_lt_of_pos (m / 33) (show (0 : Int) < sz + 1 by omega)
    dsimp only
    generalize m / 33 % (sz + 1) = ah at d1 d2 ⊢
    refine ⟨_, rfl, many, rfl, by omega, by omega, fun D2 hD2 => ?_⟩
    refine turns_range (fun σ => ∃ v, σ = [v, some (.str s62), some (.int m)]) (fun i y _ => ∃ c : Nat, y = V.str ⟨#[c]⟩ ∧ c ∈ s62.cps.toList) hmn hD2 ⟨_, rfl⟩ (fun _ _ _ _ _ h => h) ?_ ?_
    · rintro i σ H3 Nx hi ⟨v, rfl⟩ e kN
      refine ⟨_, rfl, _, rfl, _, _, rfl, rfl, ⟨by decide, by decide⟩, _, rfl, _, _, rfl, rfl, _, _, rfl, rfl, (by show (0 : Int) < 62; decide), ?_⟩
      obtain ⟨c, hc, hcm⟩ := atI_mod s62.cps.toList (m / 7 + (0 + (i : Int))) 62 (by decide +kernel) (by decide)
      exact ⟨_, _, _, rfl, rfl, by decide +kernel, hc, kN _ _ _ ⟨_, rfl⟩ (Same.refl _) ⟨_, rfl, hcm⟩⟩
    intro H3 ys3 e3 hy3 hl3 hv3
    obtain ⟨ds, rfl, hds⟩ := ys_map hv3
    rw [List.length_map] at hl3
    refine ⟨_, rfl, D2, rfl, ⟨_, SqL.of hy3⟩, fun D3 hD3 => ?_⟩
    have g1 := sl_to (x := tl) (j := ah) (by omega) (by rw [tlen]; omega)
    have g2 := sl_le tl none (some ah) (Nat.le_of_eq tlen2)
    have g3 := sl_ft (x := tl) (i := ah) (j := sz) (by omega) (by omega) (by rw [tlen]; omega)
    have g4 := sl_le tl (some ah) (some sz) (Nat.le_of_eq tlen2)
    refine turns_list (xs := ds.map fun c => V.str ⟨#[c]⟩) (fun σ => ∃ v, σ = [v, some (.str tl), some (.int ah), some (.int sz), some (.str F), some (.int (m / 5 % (F.length : Int)))]) (fun i y _ => ∃ z : Str, y = V.str z ∧ NmOf F z) (by rw [List.length_map]; omega) (SqL.of hy3) hD3 ⟨_, rfl⟩ (fun _ _ _ _ _ h => h) ?_ ?_
    · rintro i x σ H4 Nx hx ⟨v, rfl⟩ e kN
      obtain ⟨d, hd, rfl⟩ := List.mem_map.mp (List.mem_of_getElem? hx)
      refine ⟨_, rfl, _, rfl, F, _, c0, rfl, rfl, by omega, hc0, _, rfl, _, rfl, _, rfl, tl, rfl, by omega, _, _, rfl, rfl, by rw [one]; omega, ?_⟩
      refine ⟨_, rfl, _, _, rfl, rfl, by rw [app_len, one, one]; omega, ?_⟩
      refine ⟨_, rfl, _, rfl, _, rfl, _, rfl, _, rfl, tl, rfl, by omega, _, _, rfl, rfl, by rw [app_len, app_len, one, one]; omega, ?_⟩
      refine kN _ _ _ ⟨_, rfl⟩ (Same.refl _) ⟨_, rfl, c0, (Txt.slice tl none (some ah)).cps.toList ++ [d] ++ (Txt.slice tl (some ah) (some sz)).cps.toList, ?_, hc0m, ?_, ?_⟩
      · rw [sg_app, sg_app, sg_app, sg_one, sg_one]; simp
      · intro z hz
        rw [g1, g3] at hz
        rcases List.mem_append.mp hz with hz | hz
        · rcases List.mem_append.mp hz with hz | hz
          · exact tin z (List.mem_of_mem_take hz)
          · rw [List.mem_singleton.mp hz]; exact hds d hd
        · exact tin z (List.mem_of_mem_drop (List.mem_of_mem_take hz))
      · rw [List.length_append, List.length_append, g1, g3, List.length_take, List.length_take, List.length_drop, tlen]
        simp only [List.length_cons, List.length_nil]
        omega
    · intro H4 ys4 e4 hy4 hl4 hv4
      obtain ⟨zs, rfl, hz⟩ := ys_map hv4
      rw [List.length_map, List.length_map] at hl4
      exact kk D3 zs H4 ((sm2.trans e3).trans e4) hy4 (by omega) hz
abbrev s36 : Str := "abcdefghijklmnopqrstuvwxyz0123456789"
theorem s36_eq : s36.cps.toList = c_SMALL_LETTERS.cps.toList ++ c_FIGURES.cps.toList := by decide +kernel
theorem great_no : ∀ c ∈ c_GREAT_LETTERS.cps.toList, c ∉ c_SMALL_LETTERS.cps.toList ++ c_FIGURES.cps.toList := by decide +kernel
theorem word_fst {c : Nat} (h : nmS c = true) : decide (c ∈ s36.cps.toList) = !grS c := by
  unfold nmS at h
  unfold grS
  rw [s36_eq]
  by_cases hg : c ∈ c_GREAT_LETTERS.cps.toList
  · rw [decide_eq_false (great_no c hg), decide_eq_true hg]; rfl
  · rw [decide_eq_false hg]
    simp only [hg, decide_false, Bool.or_false, Bool.or_eq_true, decide_eq_true_eq] at h
    rw [decide_eq_true (List.mem_append.mpr h)]
    rfl
def sp_l_words (K : PySem.W.Frag) : Sp := fun vs H Q _ => ∃ (a : Addr) (ns : List Int), vs = [.ref a] ∧ SqL K H a (ns.map V.int) ∧ ∀ D (zs : List Str) H', Same H H' → H' D = some (.lst (zs.map V.str)) → zs.length = 3 → (∀ z ∈ zs, NmOf "abcdefghijklmnopqrstuvwxyz0123456789" z) → Q (.ref D) H'
theorem ok_l_words {A : Adr} (T : Txt K mg A) : FnOk P w K mg base CX0 3 A.f_l_words A.d_l_words ["_law_script"] (sp_l_words K) := by
  have G_l_names := ok_l_names (P := P) (w := w) (base := base) T
  have G_l_at := ok_l_at (P := P) (w := w) (base := base) T
  refine T.F_l_words.okQ sc_l_words (fun vs H Q E h => ?_) (fun cdv Ar outer s H vs Q E hr h => ?_)
  · obtain ⟨a, ns, rfl, _⟩ := h
    rfl
  · have hu := hr.units0
    obtain ⟨a, ns, rfl, hS, k⟩ := h
    refine ⟨_, (qpss_one (qps_ret (qpe_f G_l_names (hr.mono (by decide)) (by rfl) T.m_l_names T.k_l_names T.a_l_names .nil pass0 (qpa_c (qpe_f G_l_at (hr.mono (by decide)) (by rfl) T.m_l_at T.k_l_at T.a_l_at .nil pass0 (qpa_c (qpv 0) (qpa_i qpa_nil))) (qpa_i (qpa_s qpa_nil)))))), ?_⟩
    refine ⟨_, rfl, a, ns, _, rfl, hS, by decide, ?_⟩
    exact ⟨_, _, _, rfl, by decide, by decide, by decide +kernel, by decide +kernel, fun D zs H' s' hD hl hz => k D zs H' s' hD hl hz⟩
theorem nmOf_wd {z : Str} (h : NmOf s36 z) : isWd z = true := by
  obtain ⟨c, r, e, hc, hr, hl⟩ := h
  have hsub : ∀ d, d ∈ s62.cps.toList → nmS d = true := fun d hd => by rw [← nmS62]; exact decide_eq_true hd
  have hc62 : c ∈ s62.cps.toList := by
    have e : s62.cps.toList = s36.cps.toList ++ c_GREAT_LETTERS.cps.toList := by decide +kernel
    rw [e]
    exact List.mem_append_left _ hc
  have hn : isNm z = true := by
    unfold isNm
    have l1 : z.cps.size = r.length + 1 := by
      have := congrArg List.length e
      simpa using this
    rw [e, l1]
    simp only [List.all_cons, hsub c hc62, Bool.true_and, Bool.and_eq_true, decide_eq_true_eq, List.all_eq_true]
    exact ⟨⟨by omega, by omega⟩, fun d hd => hsub d (hr d hd)⟩
  have hf : fst z = c := by
    have := isNm_pos hn
    rw [e] at this
    simpa using this.symm
  unfold isWd
  rw [hn, hf]
  have := word_fst (hsub c hc62)
  rw [decide_eq_true hc] at this
  rw [← this]
  rfl
theorem not_nm_len {z : Str} (h : ¬ (1 ≤ z.length ∧ z.length ≤ 12)) : isWd z = false := by
  have : isNm z = false := by
    unfold isNm
    by_cases h1 : 1 ≤ z.cps.size
    · have h2 : ¬ z.cps.size ≤ 12 := fun q => h ⟨h1, q⟩
      rw [decide_eq_false h2]; simp
    · rw [decide_eq_false h1]; simp
  unfold isWd
  rw [this]
  rfl
theorem not_nm_sign {z : Str} {c : Nat} (hc : c ∈ z.cps.toList) (h : nmS c = false) : isWd z = false := by
  have : isNm z = false := by
    unfold isNm
    have : z.cps.toList.all nmS = false := by rw [List.all_eq_false]; exact ⟨c, hc, by simp [h]⟩
    rw [this, Bool.and_false]
  unfold isWd
  rw [this]
  rfl
theorem great_fst {z : Str} {c : Nat} {r : List Nat} (e : z.cps.toList = c :: r) (hc : c ∈ ("ABCDEFGHIJKLMNOPQRSTUVWXYZ" : Str).cps.toList) : isWd z = false := by
  unfold isWd
  cases hn : isNm z with
  | false => rfl
  | true =>
    have := isNm_pos hn
    rw [e] at this
    have hf : fst z = c := by simpa using this.symm
    rw [hf]
    unfold grS
    rw [decide_eq_true (show c ∈ c_GREAT_LETTERS.cps.toList from hc)]
    rfl
theorem odd_signs : ∀ c ∈ (" .-_/:>#$" : Str).cps.toList, nmS c = false := by decide +kernel
def sp_l_strange (_K : PySem.W.Frag) : Sp := fun vs H Q _ => ∃ (x : Str) (m : Int), vs = [.str x, .int m] ∧ 1 ≤ x.length ∧ x.length ≤ 12 ∧ ∀ z : Str, z.length ≤ 100 → isWd z = false → Q (.str z) H
theorem ok_l_strange {A : Adr} (T : Txt K mg A) : FnOk P w K mg base CX0 1 A.f_l_strange A.d_l_strange ["_law_word", "_law_m"] (sp_l_strange K) := by
  refine T.F_l_strange.okQ sc_l_strange (fun vs H Q E h => ?_) (fun cdv Ar outer s H vs Q E hr h => ?_)
  · obtain ⟨x, m, rfl, _⟩ := h
    rfl
  · have hu := hr.units0
    obtain ⟨x, m, rfl, x1, x2, kk⟩ := h
    refine ⟨_, (qpss_cons (qps_set (i := 2) sc_l_strange.nd rfl (Or.inl rfl) (qpe_op op_mod (qpe_op op_fdiv (qpv 1) qpe_int) (qpe_b call_len_str (by rfl) T.b_len PySem.boot_len (qpa_c (qpv 0) qpa_nil))))
      (qpss_cons (qps_if (qpt_cmpR op_eq (qpe_op op_mod (qpv 1) qpe_int) qpe_int (nomark _)) (qpss_one (qps_ret qpe_str)) qpss_nil)
      (qpss_cons (qps_if (qpt_cmpR op_eq (qpe_op op_mod (qpv 1) qpe_int) qpe_int (nomark _)) (qpss_one (qps_ret (qpe_slice sl_str (qpe_op op_add_str (qpv 0) qpe_str) qpo_none (qpo_some qpe_int)))) qpss_nil)
      (qpss_cons (qps_if (qpt_cmpR op_eq (qpe_op op_mod (qpv 1) qpe_int) qpe_int (nomark _)) (qpss_one (qps_ret (qpe_op op_add_str (qpe_ix ix_str qpe_str (qpe_op op_mod (qpe_op op_fdiv (qpv 1) qpe_int) qpe_int) (fun _ _ => rfl)) (qpe_slice sl_str (qpv 0) (qpo_some qpe_int) qpo_none)))) qpss_nil)
      (qpss_one (qps_ret (qpe_op op_add_str (qpe_op op_add_str (qpe_slice sl_str (qpv 0) qpo_none (qpo_some (qpv 2))) (qpe_ix ix_str qpe_str (qpe_op op_mod (qpe_op op_fdiv (qpv 1) qpe_int) qpe_int) (fun _ _ => rfl))) (qpe_slice sl_str (qpv 0) (qpo_some (qpe_op op_add (qpv 2) qpe_int)) qpo_none)))))))), ?_⟩
    have hsz : sizeLine = 16777216 := rfl
    have one : ∀ c : Nat, (⟨#[c]⟩ : Str).length = 1 := fun _ => rfl
    refine ⟨_, rfl, _, _, rfl, rfl, ⟨by decide, by decide⟩, _, rfl, x, rfl, by omega, _, _, rfl, rfl, (by show (0 : Int) < (x.length : Int); omega), ?_⟩
    have a1 := Int.emod_nonneg (m / 5) (show (x.length : Int) ≠ 0 by omega)
    have a2 := Int.emod_lt_of_pos (m / 5) (show (0 : Int) < (x.length : Int) by omega)
    dsimp only
    generalize m / 5 % (x.length : Int) = ah at a1 a2 ⊢
    refine ⟨_, rfl, _, _, rfl, rfl, (by show (0 : Int) < 5; decide), rfl, _, rfl, iteVI (fun _ => ?_) (fun _ => ?_)⟩
    · exact kk _ (by decide) (not_nm_len (by decide))
    refine ⟨_, rfl, _, _, rfl, rfl, (by show (0 : Int) < 5; decide), rfl, _, rfl, iteVI (fun _ => ?_) (fun _ => ?_)⟩
    · have e1 := app_len x "abcdefghijklm"
      have e2 : ("abcdefghijklm" : Str).length = 13 := rfl
      have g := sl_to (x := x ++ "abcdefghijklm") (j := 13) (by decide) (by rw [← sg_len]; omega)
      have g2 : (Txt.slice (x ++ "abcdefghijklm") none (some 13)).length = 13 := by
        rw [sg_len, g, List.length_take, ← sg_len, e1, e2]
        show min 13 _ = 13
        omega
      refine ⟨_, rfl, _, _, rfl, rfl, by omega, _, rfl, _, rfl, by omega, kk _ (by omega) (not_nm_len (by omega))⟩
    refine ⟨_, rfl, _, _, rfl, rfl, (by show (0 : Int) < 5; decide), rfl, _, rfl, iteVI (fun _ => ?_) (fun _ => ?_)⟩
    · obtain ⟨c, hc, hcm⟩ := atI_mod ("ABCDEFGHIJKLMNOPQRSTUVWXYZ" : Str).cps.toList (m / 7) 26 (by decide +kernel) (by decide)
      have v1 := sl_le x (some 1) none x2
      refine ⟨_, rfl, _, _, rfl, rfl, ⟨by decide, by decide⟩, _, _, rfl, rfl, (by show (0 : Int) < 26; decide), _, _, c, rfl, rfl, by decide +kernel, hc, _, rfl, _, rfl, x, rfl, by omega, _, _, rfl, rfl, by rw [one]; omega, kk _ (by rw [app_len, one]; omega) (great_fst (c := c) (r := (Txt.slice x (some 1) none).cps.toList) (by rw [sg_app, sg_one]; rfl) hcm)⟩
    · obtain ⟨c, hc, hcm⟩ := atI_mod (" .-_/:>#$" : Str).cps.toList (m / 60) 9 (by decide +kernel) (by decide)
      have v1 := sl_le x none (some ah) x2
      have v2 := sl_le x (some (ah + 1)) none x2
      refine ⟨_, rfl, _, rfl, _, rfl, x, rfl, by omega, ?_⟩
      refine ⟨_, rfl, _, _, rfl, rfl, ⟨by decide, by decide⟩, _, _, rfl, rfl, (by show (0 : Int) < 9; decide), _, _, c, rfl, rfl, by decide +kernel, hc, _, _, rfl, rfl, by rw [one]; omega, ?_⟩
      refine ⟨_, rfl, _, rfl, _, _, rfl, rfl, _, rfl, x, rfl, by omega, _, _, rfl, rfl, by rw [app_len, one]; omega, kk _ (by rw [app_len, app_len, one]; omega) (not_nm_sign (c := c) (by rw [sg_app, sg_app, sg_one]; simp) (odd_signs c hcm))⟩
def Cof (A : Adr) (b : Bool) : Addr := if b then A.C_Chance else A.C_Cost
def wordS (b : Bool) : Str := if b then "chance" else "cost"
def nb (b : Bool) : Int := if b then 1 else 0
def spEmpty (b : Bool) : Sp := fun vs H Q _ => ∃ x, vs = [x] ∧ NewPair H Q (nb b) 1
abbrev sp_Cost_empty (_K : PySem.W.Frag) : Sp := spEmpty false
theorem ok_Cost_empty {A : Adr} (T : Txt K mg A) : FnOk P w K mg base CX0 1 A.f_Cost_empty A.d_Cost_empty ["self"] (sp_Cost_empty K) := by
  refine T.F_Cost_empty.okQ sc_Cost_empty (fun vs H Q E h => ?_) (fun cdv Ar outer s H vs Q E hr h => ?_)
  · obtain ⟨x, rfl, _⟩ := h
    rfl
  · have hu := hr.units0
    obtain ⟨x, rfl, k⟩ := h
    refine ⟨_, (qpss_one (qps_ret (qpe_tup (qpa_i (qpa_i qpa_nil))))), ?_⟩
    exact ⟨by show 2 ≤ sizeLine; decide, fun r hr => k r _ (Same.upd hr) upd_same⟩
abbrev sp_Chance_empty (_K : PySem.W.Frag) : Sp := spEmpty true
theorem ok_Chance_empty {A : Adr} (T : Txt K mg A) : FnOk P w K mg base CX0 1 A.f_Chance_empty A.d_Chance_empty ["self"] (sp_Chance_empty K) := by
  refine T.F_Chance_empty.okQ sc_Chance_empty (fun vs H Q E h => ?_) (fun cdv Ar outer s H vs Q E hr h => ?_)
  · obtain ⟨x, rfl, _⟩ := h
    rfl
  · have hu := hr.units0
    obtain ⟨x, rfl, k⟩ := h
    refine ⟨_, (qpss_one (qps_ret (qpe_tup (qpa_i (qpa_i qpa_nil))))), ?_⟩
    exact ⟨by show 2 ≤ sizeLine; decide, fun r hr => k r _ (Same.upd hr) upd_same⟩
theorem empty_meth {A : Adr} (T : Txt K mg A) (b : Bool) {k : Nat} (hk : 1 ≤ k) : MOk P w K mg base k (Cof A b) "empty" (spEmpty b) := by
  cases b with
  | false => exact ⟨T.cl_Cost, _, _, _, T.me_Cost_empty, (ok_Cost_empty T).mono hk, T.a_Cost_empty⟩
  | true => exact ⟨T.cl_Chance, _, _, _, T.me_Chance_empty, (ok_Chance_empty T).mono hk, T.a_Chance_empty⟩
theorem same_made {H : Hp} {x dx : Addr} {o u : HO} (hx : H x = none) (hd : H dx = none) (ne : dx ≠ x) : Same H (upd (upd H dx u) x o) :=
  (Same.upd hd).trans (Same.upd (by rw [upd_ne ne.symm]; exact hx))
/-- a scale, or NoScale -/
def sp_scale_of (_K : PySem.W.Frag) (A : Adr) : Sp := fun vs H Q E => ∃ x : Str, vs = [.str x] ∧ ((∃ b, x = wordS b ∧ ∀ y dx H', Same H H' → H' y = some (.ins (Cof A b) dx []) → Q (.ref y) H') ∨ ((∀ b, x ≠ wordS b) ∧ E (.ref A.C_NoScale) none H))
theorem str_cc : ¬ ("chance" : Str) = "cost" := by decide +kernel
theorem ok_scale_of {A : Adr} (T : Txt K mg A) : FnOk P w K mg base (CXE P w) 1 A.f_scale_of A.d_scale_of ["word"] (sp_scale_of K A) := by
  refine T.F_scale_of.okX sc_scale_of (fun vs H Q E h => ?_) (fun cdv Ar outer s H vs Q E hr h => ?_)
  · obtain ⟨x, rfl, _⟩ := h
    rfl
  · have hu := hr.units0
    obtain ⟨x, rfl, k⟩ := h
    refine ⟨_, (qpss_cons (qps_if (qpt_cmpR op_eq (qpv 0) qpe_str (nomark _)) (qpss_one (qps_ret (qpe_makeP T.mk_Cost (by rfl) T.M_Cost))) qpss_nil)
      (qpss_cons (qps_if (qpt_cmpR op_eq (qpv 0) qpe_str (nomark _)) (qpss_one (qps_ret (qpe_makeP T.mk_Chance (by rfl) T.M_Chance))) qpss_nil)
      (qpss_one (qx_raise T.x_NoScale T.M_NoScale (qpa_s qpa_nil))))), ?_⟩
    refine ⟨_, rfl, rfl, _, rfl, ?_⟩
    rcases k with ⟨b, rfl, k⟩ | ⟨hx, k⟩
    · cases b with
      | false =>
        refine iteDT rfl ?_
        intro y dx hy hd ne
        exact k y dx _ (same_made hy hd ne) upd_same
      | true =>
        refine iteDF (fun z => str_cc (V.str.inj z)) ?_
        refine ⟨_, rfl, rfl, _, rfl, ?_⟩
        refine iteDT rfl ?_
        intro y dx hy hd ne
        exact k y dx _ (same_made hy hd ne) upd_same
    · refine iteDF (fun z => hx false (V.str.inj z)) ?_
      refine ⟨_, rfl, rfl, _, rfl, ?_⟩
      refine iteDF (fun z => hx true (V.str.inj z)) ?_
      exact ⟨by show 1 ≤ sizeLine; decide, k⟩
/-- an edge's data: from, to, word, weight -/
structure Ed where
  f : Int
  t : Int
  wd : Str
  w4 : V
def Ed.tup (d : Ed) : HO := .tup [.int d.f, .int d.t, .str d.wd, d.w4]
def Ed.ok (n : Int) (d : Ed) : Bool := decide (0 ≤ d.f) && decide (d.f < d.t) && decide (d.t ≤ n) && isWd d.wd
/-- the edges that are handed in -/
def Eds (H : Hp) (es : List V) (ds : List Ed) : Prop := es.length = ds.length ∧ ∀ (i : Nat) e, es[i]? = some e → ∃ p d, ds[i]? = some d ∧ e = .ref p ∧ H p = some d.tup ∧ d.wd.length ≤ 100
theorem Eds.same {H H' : Hp} {es : List V} {ds : List Ed} (h : Eds H es ds) (s : SameB H H') : Eds H' es ds :=
  ⟨h.1, fun i e he => let ⟨p, d, a, b, c, l⟩ := h.2 i e he; ⟨p, d, a, b, s _ _ c (fun zs z => by cases z), l⟩⟩
def sp_is_whole (_K : PySem.W.Frag) : Sp := fun vs H Q _ => ∃ a : Int, vs = [.int a] ∧ Q (.bl true) H
theorem ok_is_whole {A : Adr} (T : Txt K mg A) : FnOk P w K mg base CX0 1 A.f_is_whole A.d_is_whole ["thing"] (sp_is_whole K) := by
  refine T.F_is_whole.okQ sc_is_whole (fun vs H Q E h => ?_) (fun cdv Ar outer s H vs Q E hr h => ?_)
  · obtain ⟨a, rfl, _⟩ := h
    rfl
  · have hu := hr.units0
    obtain ⟨a, rfl, k⟩ := h
    refine ⟨_, (qpss_one (qps_ret (qpe_and (qpe_b (kc_isi (K := K) rfl) (by rfl) T.b_isinstance PyProof.Rows.boot_isinstance (qpa_c (qpv 0) (qpa_c (qpe_bltn (by rfl) T.b_int PyProof.Rows.boot_int (show RelV (.ty "int") _ from rfl)) qpa_nil))) (qpe_one (qpe_not (qpe_b (kc_isi (K := K) rfl) (by rfl) T.b_isinstance PyProof.Rows.boot_isinstance (qpa_c (qpv 0) (qpa_c (qpe_bltn (by rfl) T.b_bool PyProof.Rows.boot_bool (show RelV (.ty "bool") _ from rfl)) qpa_nil)))))))), ?_⟩
    refine ⟨_, rfl, _, _, _, _, true, rfl, fun u r => r, TyOf.int a, (by with_unfolding_all rfl), _, rfl, ?_⟩
    refine iteT ?_
    refine ⟨_, rfl, _, _, _, _, false, rfl, fun u r => r, TyOf.int a, (by with_unfolding_all rfl), _, rfl, ?_⟩
    exact k
def sp_is_edge (_K : PySem.W.Frag) : Sp := fun vs H Q _ => ∃ (p : Addr) (n : Int) (d : Ed), vs = [.ref p, .int n] ∧ H p = some d.tup ∧ d.wd.length ≤ 100 ∧ ∀ H', Same H H' → Q (.bl (d.ok n)) H'
theorem ok_is_edge {A : Adr} (T : Txt K mg A) : FnOk P w K mg base CX0 4 A.f_is_edge A.d_is_edge ["edge", "places"] (sp_is_edge K) := by
  have G_is_word := ok_is_word (P := P) (w := w) (base := base) T
  have G_is_whole := ok_is_whole (P := P) (w := w) (base := base) T
  refine T.F_is_edge.okQ sc_is_edge (fun vs H Q E h => ?_) (fun cdv Ar outer s H vs Q E hr h => ?_)
  · obtain ⟨p, n, d, rfl, _⟩ := h
    rfl
  · have hu := hr.units0
    obtain ⟨p, n, d, rfl, hp, hl, k⟩ := h
    refine ⟨_, (qpss_cons (qps_if (qPWpt (qpw_or (qpt_not (qpt_val (qpe_b (kc_isi (K := K) rfl) (by rfl) T.b_isinstance PyProof.Rows.boot_isinstance (qpa_c (qpv 0) (qpa_c (qpe_bltn (by rfl) T.b_tuple PyProof.Rows.boot_tuple (show RelV (.ty "tuple") _ from rfl)) qpa_nil))))) (qpw_or1 (qpt_cmpR op_ne (qpe_b (kc_len (K := K) rfl) (by rfl) T.b_len PySem.boot_len (qpa_c (qpv 0) qpa_nil)) qpe_int (nomark _))))) (qpss_one (qps_ret qpe_bl)) qpss_nil)
      (qpss_cons (qps_asg (qpv 0) (qk_gtup (K := K) (n := 4) rfl rfl (qpgs_cons (qpg_name (i := 2) sc_is_edge.nd rfl (Or.inl rfl)) (qpgs_cons (qpg_name (i := 3) sc_is_edge.nd rfl (Or.inl rfl)) (qpgs_cons (qpg_name (i := 4) sc_is_edge.nd rfl (Or.inl rfl)) (qpgs_cons (qpg_name (i := 5) sc_is_edge.nd rfl (Or.inl rfl)) qpgs_nil))))))
      (qpss_cons (qps_if (qPWpt (qpw_or (qpt_not (qpt_val (qpe_f G_is_whole (hr.mono (by decide)) (by rfl) T.m_is_whole T.k_is_whole T.a_is_whole .nil pass0 (qpa_c (qpv 2) qpa_nil)))) (qpw_or1 (qpt_not (qpt_val (qpe_f G_is_whole (hr.mono (by decide)) (by rfl) T.m_is_whole T.k_is_whole T.a_is_whole .nil pass0 (qpa_c (qpv 3) qpa_nil))))))) (qpss_one (qps_ret qpe_bl)) qpss_nil)
      (qpss_one (qps_ret (qpe_and (qpe_chain3 op_le op_lt op_le qpe_int (qpv 2) (qpv 3) (qpv 1)) (qpe_one (qpe_f G_is_word (hr.mono (by decide)) (by rfl) T.m_is_word T.k_is_word T.a_is_word .nil pass0 (qpa_c (qpv 4) qpa_nil))))))))), ?_⟩
    have hsz : sizeLine = 16777216 := rfl
    refine ⟨_, rfl, _, _, _, _, true, rfl, fun u r => r, TyOf.tup hp, (by with_unfolding_all rfl), _, rfl, iteF ?_⟩
    refine ⟨_, rfl, p, _, rfl, .inr (SqT.of hp), rfl, _, rfl, iteNS rfl ?_⟩
    refine ⟨_, rfl, p, _, rfl, SqT.of hp, rfl, _, _, rfl, _, _, rfl, _, _, rfl, _, _, rfl, rfl, ?_⟩
    refine ⟨_, rfl, d.f, rfl, _, rfl, iteF ?_⟩
    refine ⟨_, rfl, d.t, rfl, _, rfl, iteF ?_⟩
    unfold Ed.ok at k
    refine ⟨_, rfl, _, _, rfl, rfl, _, rfl, ?_⟩
    cases h1 : decide (0 ≤ d.f) with
    | false => rw [h1] at k; exact iteF ⟨_, rfl, iteF (k H (Same.refl _))⟩
    | true =>
      rw [h1] at k
      refine iteT ⟨_, rfl, _, _, rfl, rfl, _, rfl, ?_⟩
      cases h2 : decide (d.f < d.t) with
      | false => rw [h2] at k; exact iteF ⟨_, rfl, iteF (k H (Same.refl _))⟩
      | true =>
        rw [h2] at k
        refine iteT ⟨_, rfl, _, _, rfl, rfl, _, rfl, ?_⟩
        cases h3 : decide (d.t ≤ n) with
        | false => rw [h3] at k; exact iteF (k H (Same.refl _))
        | true =>
          rw [h3] at k
          exact iteT ⟨_, rfl, d.wd, rfl, by omega, fun H' s' => k H' s'⟩
/-- all but one thing stays -/
def SameX (a : Addr) (H H' : Hp) : Prop := ∀ b o, b ≠ a → H b = some o → H' b = some o
def sp_Net___init__ (K : PySem.W.Frag) (A : Adr) : Sp := fun vs H Q E => ∃ (x dx le : Addr) (n : Int) (es : List V) (ds : List Ed), vs = [.ref x, .int n, .ref le] ∧ H x = some (.ins A.C_Net dx []) ∧ SqL K H le es ∧ es.length ≤ 100 ∧ Eds H es ds ∧
  (ds.all (Ed.ok n) = true ∧ 1 ≤ n → ∀ te H', SameX x H H' → H' te = some (.tup es) → H' x = some (.ins A.C_Net dx [("places", .int n), ("edges", .ref te)]) → Q .non H') ∧
  (¬ (ds.all (Ed.ok n) = true ∧ 1 ≤ n) → ∀ H', Same H H' → E (.ref A.C_NoNet) none H')
theorem ok_Net___init__ {A : Adr} (T : Txt K mg A) : FnOk P w K mg base (CXE P w) 5 A.f_Net___init__ A.d_Net___init__ ["self", "places", "edges"] (sp_Net___init__ K A) := by
  have G_is_whole := ok_is_whole (P := P) (w := w) (base := base) T
  have G_is_edge := ok_is_edge (P := P) (w := w) (base := base) T
  refine T.F_Net___init__.okX sc_Net___init__ (fun vs H Q E h => ?_) (fun cdv Ar outer s H vs Q E hr h => ?_)
  · obtain ⟨x, dx, le, n, es, ds, rfl, _⟩ := h
    rfl
  · have hu := hr.units0
    obtain ⟨x, dx, le, n, es, ds, rfl, hx, hle, hlen, hes, kg, kb⟩ := h
    refine ⟨_, (qpss_cons (qps_if (qPWpt (qpw_or (qpt_not (qpt_val (qpe_f G_is_whole (hr.mono (by decide)) (by rfl) T.m_is_whole T.k_is_whole T.a_is_whole .nil pass0 (qpa_c (qpv 1) qpa_nil)))) (qpw_or1 (qpt_cmpR op_lt (qpv 1) qpe_int (nomark _))))) (qpss_one (qx_raise T.x_NoNet T.M_NoNet (qpa_s qpa_nil))) qpss_nil)
      (qpss_cons (qps_if (qpt_not (qpt_val (qpe_b (kc_all (K := K) rfl rfl) (by rfl) T.b_all PyProof.Rows.boot_all (qpa_c (qpe_comp ["edge"] ["places"] [1] (qk_list (K := K) rfl (qpv 2)) (fun _ => (qpg_name (i := 0) (show @List.Nodup Str ((["edge"] : List Str) ++ (["places"] : List Str)) by decide +kernel) rfl (Or.inl rfl) (Or.inr rfl))) (fun _ => qpf_nil) (fun _ => (qpe_f G_is_edge (hr.mono (by decide)) (by rfl) T.m_is_edge T.k_is_edge T.a_is_edge .nil pass0 (qpa_c (qpv 0) (qpa_c (qpv 1) qpa_nil))))) qpa_nil)))) (qpss_one (qx_raise T.x_NoNet T.M_NoNet (qpa_s qpa_nil))) qpss_nil)
      (qpss_cons (qps_fld (qpv 0) (qpv 1) rfl)
      (qpss_one (qps_fld (qpv 0) (qpe_bt (kc_tuple (K := K) rfl) (by rfl) T.b_tuple PyProof.Rows.boot_tuple (qpa_c (qpv 2) qpa_nil)) rfl))))), ?_⟩
    have hsz : sizeLine = 16777216 := rfl
    refine ⟨_, rfl, n, rfl, _, rfl, iteF ?_⟩
    refine ⟨_, rfl, _, _, rfl, rfl, _, rfl, iteD (fun hn => ?_) (fun hn => ?_)⟩
    · exact ⟨by show 1 ≤ sizeLine; decide, kb (fun z => by omega) H (Same.refl _)⟩
    refine ⟨_, rfl, le, rfl, ⟨_, hle⟩, fun D hD => ?_⟩
    refine turns_list (xs := es) (fun σ => ∃ v, σ = [v, some (.int n)]) (fun i y _ => (ds.map fun d => V.bl (d.ok n))[i]? = some y) (by omega) hle hD ⟨_, rfl⟩ (fun _ _ _ _ _ h => h) ?_ ?_
    · rintro i e σ H1 Nx he ⟨v, rfl⟩ s1 kN
      obtain ⟨p, d, hd, rfl, hp, hl⟩ := hes.2 i e he
      refine ⟨_, rfl, _, rfl, p, n, d, rfl, s1 _ _ hp, hl, fun H2 s2 => kN _ _ _ ⟨_, rfl⟩ s2 ?_⟩
      rw [List.getElem?_map, hd]
      rfl
    intro H1 ys s1 hy hl hv
    have ey := ys_eq hl (by rw [List.length_map]; exact hes.1.symm) hv
    subst ey
    refine ⟨D, ds.map (Ed.ok n), rfl, SqL.of (by rw [List.map_map]; exact hy), _, rfl, ?_⟩
    have eall : (ds.map (Ed.ok n)).all id = ds.all (Ed.ok n) := by rw [List.all_map]; rfl
    rw [eall]
    cases hall : ds.all (Ed.ok n) with
    | false =>
      refine iteT ⟨by show 1 ≤ sizeLine; decide, kb (fun z => by rw [hall] at z; cases z.1) H1 s1⟩
    | true =>
      refine iteF ?_
      refine ⟨_, rfl, _, rfl, x, _, dx, [], rfl, s1 _ _ hx, T.cl_Net, T.n_Net_places, by decide, ?_⟩
      refine ⟨_, rfl, le, es, rfl, .inl ⟨?_, fun te hte => ?_⟩⟩
      · have : SqL K H1 le es := s1.seq hle
        rcases this with (z | ⟨o, z⟩) | z
        · exact .inl (.inl (by rw [upd_ne (ne_of z (s1 _ _ hx) (by intro w; cases w))]; exact z))
        · exact .inl (.inr ⟨o, by rw [upd_ne (ne_of z (s1 _ _ hx) (by intro w; cases w))]; exact z⟩)
        · exact .inr z
      have hxt : x ≠ te := ne_of_none upd_same hte
      refine ⟨_, rfl, x, _, dx, _, rfl, by rw [upd_ne hxt]; exact upd_same, T.cl_Net, T.n_Net_edges, by show 1 < 1000; decide, ?_⟩
      refine kg ⟨hall, by omega⟩ te _ ?_ (by rw [upd_ne (Ne.symm hxt)]; exact upd_same) (by rw [upd_same]; rfl)
      intro b o hb q
      rw [upd_ne hb]
      have q1 := s1 _ _ q
      have q2 : upd H1 x (.ins A.C_Net dx (putF "places" (.int n) [])) b = some o := by rw [upd_ne hb]; exact q1
      rw [upd_ne (ne_of_none q2 hte)]
      exact q2
/-- the edges of a row -/
def rowEds (zs : List Str) (w4 : V) : List Ed := (List.range zs.length).map fun (i : Nat) => ⟨((i : Nat) : Int), ((i : Nat) : Int) + 1, zs.getD i "", w4⟩
theorem rowEds_get {zs : List Str} {w4 : V} {i : Nat} {z : Str} (h : zs[i]? = some z) : (rowEds zs w4)[i]? = some ⟨(i : Int), (i : Int) + 1, z, w4⟩ := by
  have hi := (List.getElem?_eq_some_iff.mp h).1
  unfold rowEds
  rw [List.getElem?_map, List.getElem?_range hi]
  simp [List.getD, h]
theorem rowEds_len (zs : List Str) (w4 : V) : (rowEds zs w4).length = zs.length := by unfold rowEds; simp
def GoodRow (zs : List Str) : Prop := zs ≠ [] ∧ ∀ z ∈ zs, isWd z = true
theorem rowEds_ok {zs : List Str} {w4 : V} : ((rowEds zs w4).all (Ed.ok zs.length) = true ∧ (1 : Int) ≤ zs.length) ↔ GoodRow zs := by
  constructor
  · rintro ⟨h1, h2⟩
    refine ⟨fun z => by rw [z] at h2; simp at h2, fun z hz => ?_⟩
    obtain ⟨i, hi, e⟩ := List.mem_iff_getElem.mp hz
    have g := rowEds_get (w4 := w4) (show zs[i]? = some z by rw [List.getElem?_eq_getElem hi, e])
    have := List.all_eq_true.mp h1 _ (List.mem_of_getElem? g)
    unfold Ed.ok at this
    simp only [Bool.and_eq_true] at this
    exact this.2
  · rintro ⟨h1, h2⟩
    refine ⟨List.all_eq_true.mpr fun d hd => ?_, ?_⟩
    · obtain ⟨i, hi, e⟩ := List.mem_map.mp hd
      have hi := List.mem_range.mp hi
      have g : zs.getD i "" = zs[i] := by simp [List.getD, List.getElem?_eq_getElem hi]
      rw [← e]
      unfold Ed.ok
      simp only [g, h2 _ (List.getElem_mem hi), Bool.and_true, Bool.and_eq_true, decide_eq_true_eq]
      omega
    · cases zs with
      | nil => exact absurd rfl h1
      | cons a r => simp only [List.length_cons]; omega
/-- what a row's net is -/
structure RowNet (H : Hp) (A : Adr) (x : Addr) (zs : List Str) (b : Bool) : Prop where
  ex : ∃ dx te es r, H x = some (.ins A.C_Net dx [("places", .int zs.length), ("edges", .ref te)]) ∧ H te = some (.tup es) ∧ Eds H es (rowEds zs (.ref r)) ∧ H r = some (.tup [.int (nb b), .int 1])
def sp_row_net (K : PySem.W.Frag) (A : Adr) : Sp := fun vs H Q E => ∃ (a : Addr) (sc : Str) (zs : List Str), vs = [.ref a, .str sc] ∧ SqL K H a (zs.map V.str) ∧ zs.length ≤ 63 ∧ (∀ z ∈ zs, z.length ≤ 100) ∧
  ((∀ b, sc ≠ wordS b) → E (.ref A.C_NoScale) none H) ∧
  (∀ b, sc = wordS b → ¬ GoodRow zs → ∀ H', Same H H' → E (.ref A.C_NoNet) none H') ∧
  (∀ b, sc = wordS b → GoodRow zs → ∀ x H', Same H H' → RowNet H' A x zs b → Q (.ref x) H')
theorem ok_row_net {A : Adr} (T : Txt K mg A) : FnOk P w K mg base (CXE P w) 7 A.f_row_net A.d_row_net ["words", "scale"] (sp_row_net K A) := by
  have G_Net___init__ := ok_Net___init__ (P := P) (w := w) (base := base) T
  have G_scale_of := ok_scale_of (P := P) (w := w) (base := base) T
  refine T.F_row_net.okX sc_row_net (fun vs H Q E h => ?_) (fun cdv Ar outer s H vs Q E hr h => ?_)
  · obtain ⟨a, sc, zs, rfl, _⟩ := h
    rfl
  · have hu := hr.units0
    obtain ⟨a, sc, zs, rfl, ha, hlen, hzl, k1, k2, k3⟩ := h
    refine ⟨_, (qpss_cons (qps_set (i := 2) sc_row_net.nd rfl (Or.inr rfl) (qpe_methD0 (k := 1) (hr.mono (by decide)) (qx_call G_scale_of (hr.mono (by decide)) (by rfl) T.m_scale_of T.k_scale_of T.a_scale_of passX_fn (qpa_c (qpv 1) qpa_nil))))
      (qpss_one (qps_ret (qx_make T.mk_Net G_Net___init__ (hr.mono (by decide)) (by rfl) T.M_Net T.a_Net___init__ .nil passX_fn (qpa_c (qpe_b (kc_len (K := K) rfl) (by rfl) T.b_len PySem.boot_len (qpa_c (qpv 0) qpa_nil)) (qpa_c (qpe_comp ["at", "word"] ["nothing"] [2] (qpi_enum (by rfl) T.b_enumerate (qpa_c (qpv 0) qpa_nil)) (fun _ => (qk_gtup (K := K) (n := 2) rfl rfl (qpgs_cons (qpg_name (i := 0) (show @List.Nodup Str ((["at", "word"] : List Str) ++ (["nothing"] : List Str)) by decide +kernel) rfl (Or.inl rfl) (Or.inr rfl)) (qpgs_cons (qpg_name (i := 1) (show @List.Nodup Str ((["at", "word"] : List Str) ++ (["nothing"] : List Str)) by decide +kernel) rfl (Or.inl rfl) (Or.inr rfl)) qpgs_nil)))) (fun _ => qpf_nil) (fun _ => (qpe_tup (qpa_c (qpv 0) (qpa_c (qpe_op op_add (qpv 0) qpe_int) (qpa_c (qpv 1) (qpa_c (qpv 2) qpa_nil))))))) qpa_nil)))))), ?_⟩
    have hsz : sizeLine = 16777216 := rfl
    by_cases hb : ∃ b, sc = wordS b
    · obtain ⟨b, rfl⟩ := hb
      refine ⟨_, rfl, _, rfl, .inl ⟨b, rfl, fun y dy H1 s1 h1 => ⟨y, _, dy, [], spEmpty b, rfl, h1, empty_meth T b (by decide), rfl, ⟨_, rfl, ?_⟩⟩⟩⟩
      intro r H2 s2 hr2
      have s12 := s1.trans s2
      refine ⟨_, rfl, a, _, rfl, .inl (s12.seq ha), ?_⟩
      refine ⟨_, rfl, a, rfl, ⟨_, s12.seq ha⟩, fun D hD => ?_⟩
      refine turns_enum (xs := zs.map V.str) (fun σ => ∃ v1 v2, σ = [v1, v2, some (.ref r)]) (fun i y H => ∃ p, ∃ z : Str, zs[i]? = some z ∧ y = .ref p ∧ H p = some (Ed.tup ⟨(i : Int), (i : Int) + 1, z, .ref r⟩)) (by rw [List.length_map]; omega) (s12.seq ha) hD ⟨_, _, rfl⟩
        (fun i y H H' s ⟨p, z, a1, a2, a3⟩ => ⟨p, z, a1, a2, s _ _ a3 (fun zs z => by cases z)⟩) ?_ ?_
      · rintro i x σ H3 p Nx hx ⟨v1, v2, rfl⟩ e hp kN
        rw [List.getElem?_map] at hx
        obtain ⟨z, hz, rfl⟩ := Option.map_eq_some_iff.mp hx
        refine ⟨p, _, rfl, SqT.of upd_same, rfl, _, _, rfl, _, _, rfl, rfl, ?_⟩
        refine ⟨_, rfl, _, rfl, _, _, rfl, rfl, _, rfl, _, rfl, by show 4 ≤ sizeLine; decide, fun t ht => ?_⟩
        exact kN _ _ _ ⟨_, _, rfl⟩ ((Same.upd hp).also ht) ⟨t, z, hz, rfl, upd_same⟩
      intro H3 es e3 hy hl hv
      rw [List.length_map] at hl
      have hEd : Eds H3 es (rowEds zs (.ref r)) := by
        refine ⟨by rw [hl, rowEds_len], fun i e he => ?_⟩
        obtain ⟨p, z, hz, rfl, hp⟩ := hv i e he
        exact ⟨p, _, rowEds_get hz, rfl, hp, hzl z (List.mem_of_getElem? hz)⟩
      intro x dx hx hdx ne
      have sm := same_made (o := .ins A.C_Net dx []) (u := .own x) hx hdx ne
      have e13 := s12.trans e3
      refine ⟨x, dx, D, _, es, rowEds zs (.ref r), rfl, upd_same, SqL.of (sm _ _ hy), by omega, hEd.same sm.b, ?_, ?_⟩
      · intro hg te H' sx hte hxx
        rw [List.length_map] at hg
        have up : ∀ {c o}, H3 c = some o → H' c = some o := fun {c o} q => sx _ _ (ne_of_none q hx) (sm _ _ q)
        refine ⟨rfl, k3 b rfl (rowEds_ok.mp hg) x H' (fun c o q => up (e13 _ _ q)) ⟨dx, te, es, r, ?_, hte, hEd.same fun c o q _ => up q, up (e3 _ _ hr2)⟩⟩
        rw [List.length_map] at hxx
        exact hxx
      · intro hb H' s'
        rw [List.length_map] at hb
        exact k2 b rfl (fun z => hb (rowEds_ok.mpr z)) H' ((e13.trans sm).trans s')
    · have hx : ∀ b, sc ≠ wordS b := fun b e => hb ⟨b, e⟩
      exact ⟨_, rfl, _, rfl, .inr ⟨hx, k1 hx⟩⟩
def sp_law (K : PySem.W.Frag) : Sp := fun vs H Q _ => ∃ (a : Addr) (ns : List Int), vs = [.ref a] ∧ SqL K H a (ns.map V.int) ∧ ns.length ≤ 63 ∧ ∀ H', Q (.bl true) H'
theorem eq_edge {K : PySem.W.Frag} {H : Hp} {p q r r' : Addr} {i : Int} {z : Str} {n : Int} (h1 : H p = some (Ed.tup ⟨i, i + 1, z, .ref r⟩)) (h2 : H q = some (Ed.tup ⟨i, i + 1, z, .ref r'⟩)) (h3 : H r = some (.tup [.int n, .int 1])) (h4 : H r' = some (.tup [.int n, .int 1])) : EqN K H 2 (.ref p) (.ref q) true := by
  have fl : ∀ {x : V} {m : Nat}, flatV x = true → EqN K H m x x true := fun {x m} f => by
    induction m with
    | zero => exact .inl ⟨f, f, (eqV_tail f).symm⟩
    | succ m ih => exact .inl ih
  have e1 : EqN K H 1 (.ref r) (.ref r') true := .inr ⟨r, r', _, _, rfl, rfl, .inl ⟨SqT.of h3, SqT.of h4⟩, EqL.refl fun x hx => .inl (by
    simp only [List.mem_cons, List.not_mem_nil, or_false] at hx
    rcases hx with rfl | rfl <;> rfl)⟩
  refine .inr ⟨p, q, _, _, rfl, rfl, .inl ⟨SqT.of h1, SqT.of h2⟩, ?_⟩
  exact .cons (b := true) (c := true) (fl rfl) (.cons (b := true) (c := true) (fl rfl) (.cons (b := true) (c := true) (fl rfl) (.cons (b := true) (c := true) e1 .nil)))
theorem eq_rows {K : PySem.W.Frag} {H : Hp} {es fs : List V} (hl : es.length = fs.length) (h : ∀ (i : Nat) e f, es[i]? = some e → fs[i]? = some f → EqN K H 2 e f true) : EqL (EqN K H 2) es fs true := by
  induction es generalizing fs with
  | nil =>
    cases fs with
    | nil => exact .nil
    | cons f r => simp at hl
  | cons e r ih =>
    cases fs with
    | nil => simp at hl
    | cons f r' => exact .cons (b := true) (c := true) (h 0 e f rfl rfl) (ih (by simpa using hl) fun i e' f' he hf => h (i + 1) e' f' (by simpa using he) (by simpa using hf))
theorem ok_law {A : Adr} (T : Txt K mg A) : FnOk P w K mg base CX0 8 A.f_law A.d_law ["_law_script"] (sp_law K) := by
  have G_l_words := ok_l_words (P := P) (w := w) (base := base) T
  have G_l_mix := ok_l_mix (P := P) (w := w) (base := base) T
  have G_l_at := ok_l_at (P := P) (w := w) (base := base) T
  have G_l_strange := ok_l_strange (P := P) (w := w) (base := base) T
  have G_row_net := ok_row_net (P := P) (w := w) (base := base) T
  refine T.F_law.okQ sc_law (fun vs H Q E h => ?_) (fun cdv Ar outer s H vs Q E hr h => ?_)
  · obtain ⟨a, ns, rfl, _⟩ := h
    rfl
  · have hu := hr.units0
    obtain ⟨a, ns, rfl, hS, hlen, k⟩ := h
    refine ⟨_, (qpss_cons (qps_set (i := 1) sc_law.nd rfl (Or.inr rfl) (qpe_f G_l_words (hr.mono (by decide)) (by rfl) T.m_l_words T.k_l_words T.a_l_words .nil pass0 (qpa_c (qpv 0) qpa_nil)))
      (qpss_cons (qps_set (i := 2) sc_law.nd rfl (Or.inl rfl) (qpe_f G_l_mix (hr.mono (by decide)) (by rfl) T.m_l_mix T.k_l_mix T.a_l_mix .nil pass0 (qpa_c (qpe_f G_l_at (hr.mono (by decide)) (by rfl) T.m_l_at T.k_l_at T.a_l_at .nil pass0 (qpa_c (qpv 0) (qpa_i qpa_nil))) (qpa_i qpa_nil))))
      (qpss_cons (qps_set (i := 3) sc_law.nd rfl (Or.inl rfl) (qpe_ix (ki_list (K := K) rfl) (qpe_lst (qpa_s (qpa_s (qpa_s (qpa_s (qpa_s (qpa_s (qpa_s (qpa_s qpa_nil))))))))) (qpe_op op_mod (qpv 2) qpe_int) (fun _ _ => rfl)))
      (qpss_cons (qps_set (i := 4) sc_law.nd rfl (Or.inr rfl) (qpe_comp ["_law_cell"] ["_law_words_here"] [1] (qk_list (K := K) rfl (qpe_slice (ks_list (K := K) rfl) (qpv 0) (qpo_some qpe_int) (qpo_some qpe_int))) (fun _ => (qpg_name (i := 0) (show @List.Nodup Str ((["_law_cell"] : List Str) ++ (["_law_words_here"] : List Str)) by decide +kernel) rfl (Or.inl rfl) (Or.inr rfl))) (fun _ => qpf_nil) (fun _ => (qpe_ix (ki_list (K := K) rfl) (qpv 1) (qpe_op op_mod (qpe_f G_l_mix (hr.mono (by decide)) (by rfl) T.m_l_mix T.k_l_mix T.a_l_mix .nil pass0 (qpa_c (qpv 0) (qpa_i qpa_nil))) qpe_int) (fun _ _ => rfl)))))
      (qpss_cons (qps_set (i := 5) sc_law.nd rfl (Or.inl rfl) (qpe_cmpR op_gt (qpe_b (kc_len (K := K) rfl) (by rfl) T.b_len PySem.boot_len (qpa_c (qpv 4) qpa_nil)) qpe_int (nomark _)))
      (qpss_cons (qps_cut (qps_if (qPWpt (qpw_and (qpt_val (qpv 5)) (qpw_and1 (qpt_cmpR op_eq (qpe_op op_mod (qpe_op op_fdiv (qpv 2) qpe_int) qpe_int) qpe_int (nomark _))))) (qpss_cons (qps_set (i := 6) sc_law.nd rfl (Or.inl rfl) (qpe_op op_mod (qpe_op op_fdiv (qpv 2) qpe_int) (qpe_b (kc_len (K := K) rfl) (by rfl) T.b_len PySem.boot_len (qpa_c (qpv 4) qpa_nil))))
      (qpss_cons (qps_asg (qpe_f G_l_strange (hr.mono (by decide)) (by rfl) T.m_l_strange T.k_l_strange T.a_l_strange .nil pass0 (qpa_c (qpe_ix (ki_list (K := K) rfl) (qpv 4) (qpv 6) (fun _ _ => rfl)) (qpa_c (qpe_op op_fdiv (qpv 2) qpe_int) qpa_nil))) (qpg_sub (qpv 4) (qpv 6) set_list))
      (qpss_one (qps_set (i := 5) sc_law.nd rfl (Or.inl rfl) qpe_bl)))) qpss_nil))
      (qpss_cons (qps_set (i := 7) sc_law.nd rfl (Or.inl rfl) (qpe_bt (kc_list (K := K) rfl) (by rfl) T.b_list PyProof.Rows.boot_list (qpa_c (qpv 4) qpa_nil)))
      (qpss_cons (qps_set (i := 8) sc_law.nd rfl (Or.inl rfl) qpe_non)
      (qpss_cons (qps_set (i := 9) sc_law.nd rfl (Or.inl rfl) qpe_str)
      (qpss_cons (qps_cut (qx_try2 T.w_NoScale (by rfl) T.M_NoScale T.w_NoNet (by rfl) T.M_NoNet (fun _ _ => (qpss_one (qps_set (i := 8) sc_law.nd rfl (Or.inl rfl) (qx_call G_row_net (hr.mono (by decide)) (by rfl) T.m_row_net T.k_row_net T.a_row_net passX_try (qpa_c (qpv 7) (qpa_c (qpv 3) qpa_nil)))))) (fun _ => (qpss_one (qps_set (i := 9) sc_law.nd rfl (Or.inl rfl) qpe_str))) (fun _ => (qpss_one (qps_set (i := 9) sc_law.nd rfl (Or.inl rfl) qpe_str)))))
      (qpss_cons (qps_if (qpt_cmpR (ko_neD (K := K) rfl hr.u100) (qpv 7) (qpv 4) (nomark _)) (qpss_one (qps_ret qpe_bl)) qpss_nil)
      (qpss_cons (qps_if (qpt_cmpR (ko_notIn (K := K) rfl) (qpv 3) (qpe_tup (qpa_s (qpa_s qpa_nil))) (by with_unfolding_all rfl)) (qpss_one (qps_ret (qpe_cmpR op_eq (qpv 9) qpe_str (nomark _)))) qpss_nil)
      (qpss_cons (qps_if (qpt_not (qpt_val (qpv 5))) (qpss_one (qps_ret (qpe_cmpR op_eq (qpv 9) qpe_str (nomark _)))) qpss_nil)
      (qpss_cons (qps_set (i := 10) sc_law.nd rfl (Or.inr rfl) (qpe_ix (ki_list (K := K) rfl) (qpe_lst (qpa_c (qpe_tup (qpa_i (qpa_i qpa_nil))) (qpa_c (qpe_tup (qpa_i (qpa_i qpa_nil))) qpa_nil))) (qpe_bt call_int1 (by rfl) T.b_int PyProof.Rows.boot_int (qpa_c (qpe_cmpR op_eq (qpv 3) qpe_str (nomark _)) qpa_nil)) (fun _ _ => rfl)))
      (qpss_cons (qps_set (i := 11) sc_law.nd rfl (Or.inl rfl) (qpe_bt (kc_tuple (K := K) rfl) (by rfl) T.b_tuple PyProof.Rows.boot_tuple (qpa_c (qpe_comp ["_law_k"] ["_law_nothing", "_law_row"] [10, 4] (qpi_range1 (by rfl) T.b_range (qpa_c (qpe_b (kc_len (K := K) rfl) (by rfl) T.b_len PySem.boot_len (qpa_c (qpv 4) qpa_nil)) qpa_nil)) (fun _ => (qpg_name (i := 0) (show @List.Nodup Str ((["_law_k"] : List Str) ++ (["_law_nothing", "_law_row"] : List Str)) by decide +kernel) rfl (Or.inl rfl) (Or.inr rfl))) (fun _ => qpf_nil) (fun _ => (qpe_tup (qpa_c (qpv 0) (qpa_c (qpe_op op_add (qpv 0) qpe_int) (qpa_c (qpe_ix (ki_list (K := K) rfl) (qpv 2) (qpv 0) (fun _ _ => rfl)) (qpa_c (qpv 1) qpa_nil))))))) qpa_nil)))
      (qpss_one (qps_ret (qpe_and (qpe_cmpR op_eq (qpv 9) qpe_str (nomark _)) (qpe_and (qpe_cmpR op_eq (qk_fld (K := K) rfl (qpv 8) rfl) (qpe_b (kc_len (K := K) rfl) (by rfl) T.b_len PySem.boot_len (qpa_c (qpv 4) qpa_nil)) (nomark _)) (qpe_and (qpe_b (kc_isi (K := K) rfl) (by rfl) T.b_isinstance PyProof.Rows.boot_isinstance (qpa_c (qk_fld (K := K) rfl (qpv 8) rfl) (qpa_c (qpe_bltn (by rfl) T.b_tuple PyProof.Rows.boot_tuple (show RelV (.ty "tuple") _ from rfl)) qpa_nil))) (qpe_one (qpe_cmpR (ko_eqD (K := K) rfl hr.u100) (qk_fld (K := K) rfl (qpv 8) rfl) (qpv 11) (nomark _))))))))))))))))))))))), ?_⟩
    have hsz : sizeLine = 16777216 := rfl
    refine ⟨_, rfl, a, ns, rfl, hS, fun D1 zs1 H1 s1 hD1 hz3 hz1 => ?_⟩
    refine ⟨_, rfl, a, ns, _, rfl, s1.seq hS, by decide, _, _, rfl, by decide, by decide, fun m H2 m1 m2 s2 => ?_⟩
    refine ⟨by show 8 ≤ sizeLine; decide, fun l hl => ?_⟩
    obtain ⟨v, hv, hm⟩ := atI_mod [V.str "cost", V.str "chance", V.str "cost", V.str "chances", V.str "chance", V.str "", V.str "chance", V.str "Cost"] m 8 (by decide) (by decide)
    obtain ⟨sc, rfl⟩ : ∃ sc, v = V.str sc := by
      simp only [List.mem_cons, List.not_mem_nil, or_false] at hm
      rcases hm with rfl | rfl | rfl | rfl | rfl | rfl | rfl | rfl <;> exact ⟨_, rfl⟩
    refine ⟨_, rfl, _, _, rfl, rfl, (by show (0 : Int) < 8; decide), l, _, _, _, rfl, rfl, SqL.of upd_same, hv, ?_⟩
    have s3 : Same H (upd H2 l (.lst [V.str "cost", V.str "chance", V.str "cost", V.str "chances", V.str "chance", V.str "", V.str "chance", V.str "Cost"])) := (s1.trans s2).also hl
    have hD1' := Same.upd (o := .lst [V.str "cost", V.str "chance", V.str "cost", V.str "chances", V.str "chance", V.str "", V.str "chance", V.str "Cost"]) hl _ _ (s2 _ _ hD1)
    generalize upd H2 l (.lst [V.str "cost", V.str "chance", V.str "cost", V.str "chances", V.str "chance", V.str "", V.str "chance", V.str "Cost"]) = H3 at s3 hD1' ⊢
    refine ⟨_, rfl, _, rfl, _, rfl, a, _, rfl, s3.seq hS, fun p hp => ⟨p, rfl, ⟨_, SqL.of upd_same⟩, fun D hD => ?_⟩⟩
    have hc : (cutV (ns.map V.int) (some 3) (some 13)).length ≤ 63 := Nat.le_trans (cutV_length _ _ _) (by rw [List.length_map]; exact hlen)
    refine turns_list (xs := cutV (ns.map V.int) (some 3) (some 13)) (fun σ => ∃ v, σ = [v, some (.ref D1)]) (fun i y H => ∃ z : Str, y = V.str z ∧ (isWd z = true ∧ 1 ≤ z.length ∧ z.length ≤ 12)) (by omega) (SqL.of upd_same) hD ⟨_, rfl⟩
      (fun _ _ _ _ _ h => h) ?_ ?_
    · rintro i x σ H4 Nx hx ⟨v, rfl⟩ e kN
      obtain ⟨cell, rfl⟩ : ∃ c, x = V.int c := by
        have := List.mem_of_getElem? hx
        have := List.mem_of_mem_drop (List.mem_of_mem_take this)
        obtain ⟨c, _, rfl⟩ := List.mem_map.mp this
        exact ⟨c, rfl⟩
      refine ⟨_, rfl, _, rfl, cell, _, rfl, by decide, by decide, fun q H5 q1 q2 s5 => ?_⟩
      obtain ⟨v2, hv2, hm2⟩ := atI_mod (zs1.map V.str) q 3 (by rw [List.length_map, hz3]; exact Nat.le_refl _) (by decide)
      obtain ⟨z, hz, rfl⟩ := List.mem_map.mp hm2
      refine ⟨_, _, rfl, rfl, (by show (0 : Int) < 3; decide), D1, _, _, _, rfl, rfl, SqL.of (s5 _ _ (e _ _ (Same.upd hp _ _ hD1'))), hv2, ?_⟩
      exact kN _ _ _ ⟨_, rfl⟩ s5 ⟨z, rfl, nmOf_wd (hz1 z hz), (hz1 z hz).len⟩
    intro H4 ys e4 hy hl4 hv4
    obtain ⟨zs, rfl, hz⟩ := ys_map hv4
    rw [List.length_map] at hl4
    refine ⟨_, rfl, D, _, rfl, .inl (SqL.of hy), _, _, rfl, rfl, ?_⟩
    rw [List.length_map]
    let Row : List Str → Bool → Prop := fun us g => us.length = zs.length ∧ (∀ z ∈ us, z.length ≤ 100) ∧ (g = true ↔ GoodRow us)
    refine ⟨fun σ' H' => ∃ us g v6, σ' = [some (.ref a), some (.ref D1), some (.int m), some (.str sc), some (.ref D), some (.bl g), v6, none, none, none, none, none] ∧ H' D = some (.lst (us.map V.str)) ∧ Row us g, ?_, ?_⟩
    · have good0 : decide ((0 : Int) < (zs.length : Int)) = true ↔ GoodRow zs := by
        rw [decide_eq_true_eq]
        constructor
        · intro h
          exact ⟨fun z => by rw [z] at h; simp at h, fun z hz' => (hz z hz').1⟩
        · rintro ⟨h, _⟩
          cases zs with
          | nil => exact absurd rfl h
          | cons b r => simp only [List.length_cons]; omega
      refine ⟨_, rfl, _, rfl, ?_⟩
      cases hg : decide ((0 : Int) < (zs.length : Int)) with
      | false =>
        exact iteF ⟨zs, _, _, rfl, hy, rfl, fun z hz' => by have := (hz z hz').2.2; omega, good0⟩
      | true =>
        have hpos : (0 : Int) < (zs.length : Int) := of_decide_eq_true hg
        refine iteT ⟨_, rfl, _, _, rfl, rfl, ⟨by decide, by decide⟩, _, _, rfl, rfl, (by show (0 : Int) < 3; decide), rfl, _, rfl, iteVI (fun _ => ?_) (fun _ => ?_)⟩
        · refine ⟨_, rfl, _, _, rfl, rfl, ⟨by decide, by decide⟩, _, rfl, D, _, rfl, .inl (SqL.of hy), _, _, rfl, rfl, (by rw [List.length_map]; exact hpos), ?_⟩
          rw [List.length_map]
          have i1 := Int.emod_nonneg (m / 24) (show (zs.length : Int) ≠ 0 by omega)
          have i2 := Int.emod_lt_of_pos (m / 24) hpos
          dsimp only
          generalize m / 24 % (zs.length : Int) = ix at i1 i2 ⊢
          obtain ⟨v2, hv2, hm2⟩ := atI_lt (xs := zs.map V.str) i1 (by rw [List.length_map]; exact i2)
          obtain ⟨z, hz', rfl⟩ := List.mem_map.mp hm2
          refine ⟨_, rfl, _, rfl, D, _, _, _, rfl, rfl, SqL.of hy, hv2, _, rfl, _, _, rfl, rfl, ⟨by decide, by decide⟩, z, _, rfl, (hz z hz').2.1, (hz z hz').2.2, fun st hst1 hst2 => ?_⟩
          refine ⟨_, rfl, _, rfl, D, _, _, _, rfl, rfl, hy, ixN_lt i1 (by rw [List.length_map]; exact i2), ?_⟩
          refine ⟨zs.set ix.toNat st, false, _, rfl, by rw [upd_same, List.map_set], by rw [List.length_set], fun z' hz'' => ?_, ?_⟩
          · rcases List.mem_or_eq_of_mem_set hz'' with h | h
            · have := (hz z' h).2.2; omega
            · rw [h]; exact hst1
          · refine ⟨fun z => (nomatch z), fun ⟨_, gr⟩ => ?_⟩
            have : st ∈ zs.set ix.toNat st := List.mem_set (by omega) _
            have := gr st this
            rw [hst2] at this
            cases this
        · exact ⟨zs, _, _, rfl, hy, rfl, fun z hz' => by have := (hz z hz').2.2; omega, good0⟩
    rintro σ5 H5 ⟨us, g, v6, rfl, h5, r1, r2, r3⟩
    have hul : us.length ≤ 63 := by omega
    refine ⟨_, rfl, D, _, rfl, .inl (SqL.of h5), fun l7 hl7 => ?_⟩
    generalize hH6 : upd H5 l7 (.lst (us.map V.str)) = H6
    have h6D : H6 D = some (.lst (us.map V.str)) := by rw [← hH6]; exact Same.upd hl7 _ _ h5
    have h6l : H6 l7 = some (.lst (us.map V.str)) := by rw [← hH6]; exact upd_same
    let St' : Option V → Option V → St := fun v8 v9 => [some (.ref a), some (.ref D1), some (.int m), some (.str sc), some (.ref D), some (.bl g), v6, some (.ref l7), v8, v9, none, none]
    let Bs : Hp → Prop := fun H' => H' D = some (.lst (us.map V.str)) ∧ H' l7 = some (.lst (us.map V.str))
    refine ⟨fun σ' H' => Bs H' ∧ ((∃ v8, σ' = St' v8 (some (.str "scale")) ∧ ∀ b, sc ≠ wordS b) ∨ (∃ v8 b, σ' = St' v8 (some (.str "net")) ∧ sc = wordS b ∧ g = false) ∨ (∃ x b, σ' = St' (some (.ref x)) (some (.str "none")) ∧ sc = wordS b ∧ g = true ∧ RowNet H' A x us b)), ?_, ?_⟩
    · refine ⟨fun σ' cls _ H' => σ' = St' (some .non) (some (.str "none")) ∧ Same H6 H' ∧ ((cls = .ref A.C_NoScale ∧ ∀ b, sc ≠ wordS b) ∨ (cls = .ref A.C_NoNet ∧ (∃ b, sc = wordS b) ∧ g = false)), ?_, ?_⟩
      · refine ⟨_, rfl, _, rfl, l7, sc, us, rfl, SqL.of h6l, hul, r2, fun hx => ⟨rfl, Same.refl _, .inl ⟨rfl, hx⟩⟩, fun b hb hng H' s' => ⟨rfl, s', .inr ⟨rfl, ⟨b, hb⟩, ?_⟩⟩, fun b hb hg x H' s' hr => ?_⟩
        · cases g with
          | false => rfl
          | true => exact absurd (r3.mp rfl) hng
        · exact ⟨⟨s' _ _ h6D, s' _ _ h6l⟩, .inr (.inr ⟨x, b, rfl, hb, r3.mpr hg, hr⟩)⟩
      · rintro σ' H' cls ⟨rfl, s', hcase⟩
        rcases hcase with ⟨rfl, hx⟩ | ⟨rfl, ⟨b, hb⟩, hg⟩
        · exact ⟨_, rfl, .inl ⟨T.s_NoScale_NoScale, ⟨s' _ _ h6D, s' _ _ h6l⟩, .inl ⟨_, rfl, hx⟩⟩⟩
        · exact ⟨_, rfl, .inr ⟨T.s_NoNet_NoScale, T.s_NoNet_NoNet, ⟨s' _ _ h6D, s' _ _ h6l⟩, .inr (.inl ⟨_, b, rfl, hb, hg⟩)⟩⟩
    have fin : ∀ (v8 : Option V) (nm : Str) (H7 : Hp), Bs H7 → ((nm = "scale" ∧ ∀ b, sc ≠ wordS b) ∨ (∃ b, nm = "net" ∧ sc = wordS b ∧ g = false) ∨ (∃ x b, v8 = some (.ref x) ∧ nm = "none" ∧ sc = wordS b ∧ g = true ∧ RowNet H7 A x us b)) → True := fun _ _ _ _ _ => trivial
    rintro σ7 H7 ⟨⟨b4, b5⟩, hcase⟩
    have flat : ∀ x ∈ us.map V.str, flatV x = true ∨ ∃ a, x = V.ref a := fun x hx => by obtain ⟨z, _, rfl⟩ := List.mem_map.mp hx; exact .inl rfl
    have inS : ∀ b, inV (.str (wordS b)) [V.str "cost", V.str "chance"] = true := by
      intro b
      cases b <;> decide +kernel
    have notS : (∀ b, sc ≠ wordS b) → inV (.str sc) [V.str "cost", V.str "chance"] = false := fun h => by
      have h1 : ("cost" : Str) ≠ sc := fun z => h false z.symm
      have h2 : ("chance" : Str) ≠ sc := fun z => h true z.symm
      unfold inV
      simp only [List.any_cons, List.any_nil, eqV, Bool.or_false, Bool.or_eq_false_iff, beq_eq_false_iff_ne]
      exact ⟨h1, h2⟩
    rcases hcase with ⟨v8, rfl, hx⟩ | ⟨v8, b, rfl, rfl, rfl⟩ | ⟨x, b, rfl, rfl, rfl, hr⟩
    · refine ⟨_, rfl, _, rfl, 0, l7, D, _, _, true, by decide, rfl, rfl, .inr ⟨SqL.of b5, SqL.of b4⟩, EqL.refl flat, _, rfl, iteF ?_⟩
      refine ⟨_, rfl, by show 2 ≤ sizeLine; decide, fun t ht => ⟨t, _, rfl, .inr (SqT.of upd_same), rfl, rfl, _, rfl, ?_⟩⟩
      rw [notS hx]
      refine iteT ⟨_, rfl, rfl, ?_⟩
      rw [decide_eq_true rfl]
      exact k _
    · refine ⟨_, rfl, _, rfl, 0, l7, D, _, _, true, by decide, rfl, rfl, .inr ⟨SqL.of b5, SqL.of b4⟩, EqL.refl flat, _, rfl, iteF ?_⟩
      refine ⟨_, rfl, by show 2 ≤ sizeLine; decide, fun t ht => ⟨t, _, rfl, .inr (SqT.of upd_same), rfl, rfl, _, rfl, ?_⟩⟩
      rw [inS b]
      refine iteF ⟨_, rfl, _, rfl, iteT ⟨_, rfl, rfl, ?_⟩⟩
      rw [decide_eq_true rfl]
      exact k _
    · refine ⟨_, rfl, _, rfl, 0, l7, D, _, _, true, by decide, rfl, rfl, .inr ⟨SqL.of b5, SqL.of b4⟩, EqL.refl flat, _, rfl, iteF ?_⟩
      refine ⟨_, rfl, by show 2 ≤ sizeLine; decide, fun t ht => ⟨t, _, rfl, .inr (SqT.of upd_same), rfl, rfl, _, rfl, ?_⟩⟩
      rw [inS b]
      refine iteF ⟨_, rfl, _, rfl, iteF ?_⟩
      have s8 : Same H7 (upd H7 t (.tup [V.str "cost", V.str "chance"])) := Same.upd ht
      generalize upd H7 t (.tup [V.str "cost", V.str "chance"]) = H8 at s8 ⊢
      refine ⟨by show 2 ≤ sizeLine; decide, fun t0 ht0 => ⟨by show 2 ≤ sizeLine; decide, fun t1 ht1 => ⟨by show 2 ≤ sizeLine; decide, fun lt hlt => ?_⟩⟩⟩
      refine ⟨_, rfl, rfl, .inr ⟨_, rfl, lt, _, _, (if b then .ref t1 else .ref t0), rfl, rfl, SqL.of upd_same, ?_, ?_⟩⟩
      · cases b
        · rw [decide_eq_false (show ¬ V.str (wordS false) = V.str "chance" from fun z => str_cc (V.str.inj z).symm)]; rfl
        · rw [decide_eq_true (show V.str (wordS true) = V.str "chance" from rfl)]; rfl
      have h9 : Same H7 (upd (upd (upd H8 t0 (.tup [.int 0, .int 1])) t1 (.tup [.int 1, .int 1])) lt (.lst [.ref t0, .ref t1])) := ((s8.also ht0).also ht1).also hlt
      have ht0' : upd (upd (upd H8 t0 (.tup [.int 0, .int 1])) t1 (.tup [.int 1, .int 1])) lt (.lst [.ref t0, .ref t1]) t0 = some (.tup [.int 0, .int 1]) := Same.upd hlt _ _ (Same.upd ht1 _ _ upd_same)
      have ht1' : upd (upd (upd H8 t0 (.tup [.int 0, .int 1])) t1 (.tup [.int 1, .int 1])) lt (.lst [.ref t0, .ref t1]) t1 = some (.tup [.int 1, .int 1]) := Same.upd hlt _ _ upd_same
      generalize upd (upd (upd H8 t0 (.tup [.int 0, .int 1])) t1 (.tup [.int 1, .int 1])) lt (.lst [.ref t0, .ref t1]) = H9 at h9 ht0' ht1' ⊢
      obtain ⟨tr, htr, htr'⟩ : ∃ tr, (if b then V.ref t1 else V.ref t0) = .ref tr ∧ H9 tr = some (.tup [.int (nb b), .int 1]) := by
        cases b
        · exact ⟨t0, rfl, ht0'⟩
        · exact ⟨t1, rfl, ht1'⟩
      rw [htr]
      refine ⟨_, rfl, D, _, rfl, .inl (SqL.of (h9 _ _ b4)), _, rfl, ?_, ?_, fun D2 hD2 => ?_⟩
      · rw [List.length_map]; omega
      · rw [List.length_map]; omega
      rw [List.length_map]
      refine turns_range (fun σ => ∃ v, σ = [v, some (.ref tr), some (.ref D)]) (fun i y H => ∃ p, ∃ z : Str, us[i]? = some z ∧ y = .ref p ∧ H p = some (Ed.tup ⟨(i : Int), (i : Int) + 1, z, .ref tr⟩)) (by omega) hD2 ⟨_, rfl⟩
        (fun i y H H' s ⟨p, z, a1, a2, a3⟩ => ⟨p, z, a1, a2, s _ _ a3 (fun zs z => by cases z)⟩) ?_ ?_
      · rintro i σ H10 Nx hi ⟨v, rfl⟩ e kN
        have hi' : i < us.length := by omega
        have hz : us[i]? = some us[i] := List.getElem?_eq_getElem hi'
        refine ⟨_, rfl, _, rfl, _, _, rfl, rfl, _, rfl, _, rfl, D, _, _, V.str us[i], rfl, rfl, SqL.of (e _ _ (h9 _ _ b4)), ?_, _, rfl, by show 4 ≤ sizeLine; decide, fun q hq => ?_⟩
        · rw [Int.zero_add]
          exact atI_nat (by rw [List.getElem?_map, hz]; rfl)
        · refine kN _ _ _ ⟨_, rfl⟩ (Same.upd hq) ⟨q, us[i], hz, rfl, ?_⟩
          rw [upd_same, Int.zero_add]
          rfl
      intro H10 fs e10 hy10 hl10 hv10
      have hl10 : fs.length = us.length := by omega
      refine ⟨D2, fs, rfl, .inl ⟨SqL.of hy10, fun td htd => ?_⟩⟩
      have h11 := (h9.trans e10).trans (Same.upd (o := .tup fs) htd)
      obtain ⟨dx, te, es, r, hx, hte, hEd, hrr⟩ := hr.ex
      have hx' := h11 _ _ hx
      have hte' := h11 _ _ hte
      refine ⟨_, rfl, rfl, _, rfl, iteB (c := True) (decide_eq_true rfl) ?_⟩
      refine ⟨_, rfl, x, _, dx, _, _, rfl, hx', T.cl_Net, T.n_Net_places, rfl, ?_⟩
      refine ⟨_, rfl, D, _, rfl, .inl (SqL.of (h11 _ _ b4)), rfl, _, rfl, iteB (c := True) (decide_eq_true (by rw [List.length_map])) ?_⟩
      refine ⟨_, rfl, x, _, dx, _, _, rfl, hx', T.cl_Net, T.n_Net_edges, rfl, ?_⟩
      refine ⟨_, _, _, _, true, rfl, fun u r => r, TyOf.tup hte', (by with_unfolding_all rfl), _, rfl, iteT ?_⟩
      refine ⟨_, rfl, x, _, dx, _, _, rfl, hx', T.cl_Net, T.n_Net_edges, rfl, ?_⟩
      refine ⟨_, rfl, 2, te, td, es, fs, true, by decide, rfl, rfl, .inl ⟨SqT.of hte', SqT.of upd_same⟩, eq_rows ?_ ?_, k _⟩
      · rw [hEd.1, rowEds_len, hl10]
      · intro i e f he hf
        obtain ⟨p, d, hd, rfl, hp, _⟩ := hEd.2 i e he
        obtain ⟨q, z, hz, rfl, hq⟩ := hv10 i f hf
        rw [rowEds_get hz] at hd
        cases hd
        exact eq_edge (h11 _ _ hp) (Same.upd htd _ _ hq) (h11 _ _ hrr) ((e10.trans (Same.upd htd)) _ _ htr')
end

theorem all_mk {l : PySem.W.OpenLaw} {w : World} {K : PySem.W.Frag} {h : Heap} {mg : Str → Option Value} {fa : Addr} (X : K.In h) (G : h.Ns mainGlobals mg) (hfa : mg "law" = some (.ref fa))
    {C_NoScale : Addr}
    {C_NoNet : Addr}
    {C_Cost : Addr}
    {C_Chance : Addr}
    {C_Net : Addr}
    {f_Cost_empty : Addr} {od_Cost_empty an_Cost_empty : Option Addr} {sl_Cost_empty : Array (Option Value)} {oc_Cost_empty kV_Cost_empty dc_Cost_empty pm_Cost_empty cd_Cost_empty ct_Cost_empty : Value}
    {f_Chance_empty : Addr} {od_Chance_empty an_Chance_empty : Option Addr} {sl_Chance_empty : Array (Option Value)} {oc_Chance_empty kV_Chance_empty dc_Chance_empty pm_Chance_empty cd_Chance_empty ct_Chance_empty : Value}
    {f_Net___init__ : Addr} {od_Net___init__ an_Net___init__ : Option Addr} {sl_Net___init__ : Array (Option Value)} {oc_Net___init__ kV_Net___init__ dc_Net___init__ pm_Net___init__ cd_Net___init__ ct_Net___init__ : Value}
    {f_scale_of : Addr} {od_scale_of an_scale_of : Option Addr} {sl_scale_of : Array (Option Value)} {oc_scale_of kV_scale_of dc_scale_of pm_scale_of cd_scale_of ct_scale_of : Value}
    {f_is_name_sign : Addr} {od_is_name_sign an_is_name_sign : Option Addr} {sl_is_name_sign : Array (Option Value)} {oc_is_name_sign kV_is_name_sign dc_is_name_sign pm_is_name_sign cd_is_name_sign ct_is_name_sign : Value}
    {f_is_name : Addr} {od_is_name an_is_name : Option Addr} {sl_is_name : Array (Option Value)} {oc_is_name kV_is_name dc_is_name pm_is_name cd_is_name ct_is_name : Value}
    {f_is_word : Addr} {od_is_word an_is_word : Option Addr} {sl_is_word : Array (Option Value)} {oc_is_word kV_is_word dc_is_word pm_is_word cd_is_word ct_is_word : Value}
    {f_is_whole : Addr} {od_is_whole an_is_whole : Option Addr} {sl_is_whole : Array (Option Value)} {oc_is_whole kV_is_whole dc_is_whole pm_is_whole cd_is_whole ct_is_whole : Value}
    {f_is_edge : Addr} {od_is_edge an_is_edge : Option Addr} {sl_is_edge : Array (Option Value)} {oc_is_edge kV_is_edge dc_is_edge pm_is_edge cd_is_edge ct_is_edge : Value}
    {f_row_net : Addr} {od_row_net an_row_net : Option Addr} {sl_row_net : Array (Option Value)} {oc_row_net kV_row_net dc_row_net pm_row_net cd_row_net ct_row_net : Value}
    {f_l_at : Addr} {od_l_at an_l_at : Option Addr} {sl_l_at : Array (Option Value)} {oc_l_at kV_l_at dc_l_at pm_l_at cd_l_at ct_l_at : Value}
    {f_l_mix : Addr} {od_l_mix an_l_mix : Option Addr} {sl_l_mix : Array (Option Value)} {oc_l_mix kV_l_mix dc_l_mix pm_l_mix cd_l_mix ct_l_mix : Value}
    {f_l_names : Addr} {od_l_names an_l_names : Option Addr} {sl_l_names : Array (Option Value)} {oc_l_names kV_l_names dc_l_names pm_l_names cd_l_names ct_l_names : Value}
    {f_l_words : Addr} {od_l_words an_l_words : Option Addr} {sl_l_words : Array (Option Value)} {oc_l_words kV_l_words dc_l_words pm_l_words cd_l_words ct_l_words : Value}
    {f_l_strange : Addr} {od_l_strange an_l_strange : Option Addr} {sl_l_strange : Array (Option Value)} {oc_l_strange kV_l_strange dc_l_strange pm_l_strange cd_l_strange ct_l_strange : Value}
    {f_law : Addr} {od_law an_law : Option Addr} {sl_law : Array (Option Value)} {oc_law kV_law dc_law pm_law cd_law ct_law : Value}
    (aC_Cost : PySem.W.nsIn K mainGlobals "Cost" = some (some (.ref C_Cost))) (pg_Cost : PySem.W.plainGet K C_Cost Str.empty = true) (hd_Cost : PySem.W.hasDictIn K C_Cost = true) (po_Cost : PySem.W.plainOver K C_Cost = true) (sa_Cost : PySem.W.findIn K (.ref C_Cost) "__setattr__" = some (some (.builtin "object.__setattr__"))) (mk_Cost : PySem.W.makesIn K C_Cost = true) (in_Cost : PySem.W.findIn K (.ref C_Cost) "__init__" = some (some (.builtin "object.__init__"))) (kc_Cost : PySem.W.keepIn K (.ref C_Cost) = true)
    (aC_Chance : PySem.W.nsIn K mainGlobals "Chance" = some (some (.ref C_Chance))) (pg_Chance : PySem.W.plainGet K C_Chance Str.empty = true) (hd_Chance : PySem.W.hasDictIn K C_Chance = true) (po_Chance : PySem.W.plainOver K C_Chance = true) (sa_Chance : PySem.W.findIn K (.ref C_Chance) "__setattr__" = some (some (.builtin "object.__setattr__"))) (mk_Chance : PySem.W.makesIn K C_Chance = true) (in_Chance : PySem.W.findIn K (.ref C_Chance) "__init__" = some (some (.builtin "object.__init__"))) (kc_Chance : PySem.W.keepIn K (.ref C_Chance) = true)
    (aC_Net : PySem.W.nsIn K mainGlobals "Net" = some (some (.ref C_Net))) (pg_Net : PySem.W.plainGet K C_Net Str.empty = true) (hd_Net : PySem.W.hasDictIn K C_Net = true) (po_Net : PySem.W.plainOver K C_Net = true) (sa_Net : PySem.W.findIn K (.ref C_Net) "__setattr__" = some (some (.builtin "object.__setattr__"))) (mk_Net : PySem.W.makesIn K C_Net = true) (kc_Net : PySem.W.keepIn K (.ref C_Net) = true) (nf_places_Net : PySem.W.findIn K (.ref C_Net) "places" = some none) (nf_edges_Net : PySem.W.findIn K (.ref C_Net) "edges" = some none)
    (aC_NoScale : PySem.W.nsIn K mainGlobals "NoScale" = some (some (.ref C_NoScale))) (xc_NoScale : PySem.W.excIn K C_NoScale [.type "ValueError", .type "Exception", .type "BaseException", .type "object"] "ValueError.__new__" = true) (ga_NoScale : PySem.W.findIn K (.ref C_NoScale) "__getattribute__" = some (some (.builtin "BaseException.__getattribute__"))) (gn_NoScale : PySem.W.findIn K (.ref C_NoScale) "__getattr__" = some none) (ec_NoScale : PySem.W.findIn K (.ref C_NoScale) "__class__" = some (some (.builtin "object.__class__"))) (eo_NoScale : PySem.W.mroIn K C_NoScale (.type "object") = some true) (eb_NoScale : PySem.W.mroIn K C_NoScale (.type "BaseException") = some true) (ei_NoScale : PySem.W.isClsIn K C_NoScale = true) (ct_NoScale : PySem.W.typeIn K (.ref C_NoScale) = some (.type "type")) (ck_NoScale : PySem.W.isClsIn K C_NoScale = true) (cb_NoScale : PySem.W.subIn K (.ref C_NoScale) (.type "BaseException") = some true) (dd_NoScale : PySem.W.hasDictIn K C_NoScale = true) (dt_NoScale : PySem.W.typeIn K (.ref C_NoScale) = some (.type "type")) (dr_NoScale : PySem.W.subIn K (.ref C_NoScale) (.ref C_NoScale) = some true)
    (aC_NoNet : PySem.W.nsIn K mainGlobals "NoNet" = some (some (.ref C_NoNet))) (xc_NoNet : PySem.W.excIn K C_NoNet [.type "ValueError", .type "Exception", .type "BaseException", .type "object"] "ValueError.__new__" = true) (ga_NoNet : PySem.W.findIn K (.ref C_NoNet) "__getattribute__" = some (some (.builtin "BaseException.__getattribute__"))) (gn_NoNet : PySem.W.findIn K (.ref C_NoNet) "__getattr__" = some none) (ec_NoNet : PySem.W.findIn K (.ref C_NoNet) "__class__" = some (some (.builtin "object.__class__"))) (eo_NoNet : PySem.W.mroIn K C_NoNet (.type "object") = some true) (eb_NoNet : PySem.W.mroIn K C_NoNet (.type "BaseException") = some true) (ei_NoNet : PySem.W.isClsIn K C_NoNet = true) (ct_NoNet : PySem.W.typeIn K (.ref C_NoNet) = some (.type "type")) (ck_NoNet : PySem.W.isClsIn K C_NoNet = true) (cb_NoNet : PySem.W.subIn K (.ref C_NoNet) (.type "BaseException") = some true) (dd_NoNet : PySem.W.hasDictIn K C_NoNet = true) (dt_NoNet : PySem.W.typeIn K (.ref C_NoNet) = some (.type "type")) (dr_NoNet : PySem.W.subIn K (.ref C_NoNet) (.ref C_NoNet) = some true)
    (es_NoNet_NoScale : PySem.W.subIn K (.ref C_NoNet) (.ref C_NoScale) = some false)
    (es_NoNet_NoNet : PySem.W.subIn K (.ref C_NoNet) (.ref C_NoNet) = some true)
    (es_NoScale_NoScale : PySem.W.subIn K (.ref C_NoScale) (.ref C_NoScale) = some true)
    (a_Cost_empty : PySem.W.findIn K (.ref C_Cost) "empty" = some (some (.ref f_Cost_empty))) (i_Cost_empty : PySem.W.isFn K (.ref f_Cost_empty) = true) (l_Cost_empty : K.lookup f_Cost_empty = some ⟨oc_Cost_empty, od_Cost_empty, .func (PySem.W.fnOf "empty" "Cost.empty" (defArgs s_Cost_empty) (defBody s_Cost_empty) (defScope s_Cost_empty) .none kV_Cost_empty dc_Cost_empty pm_Cost_empty an_Cost_empty cd_Cost_empty ct_Cost_empty), sl_Cost_empty⟩) (c_Cost_empty : PySem.W.codeIn K cd_Cost_empty "Cost.empty" = true) (k_Cost_empty : PySem.W.keepIn K (.ref f_Cost_empty) = true)
    (a_Chance_empty : PySem.W.findIn K (.ref C_Chance) "empty" = some (some (.ref f_Chance_empty))) (i_Chance_empty : PySem.W.isFn K (.ref f_Chance_empty) = true) (l_Chance_empty : K.lookup f_Chance_empty = some ⟨oc_Chance_empty, od_Chance_empty, .func (PySem.W.fnOf "empty" "Chance.empty" (defArgs s_Chance_empty) (defBody s_Chance_empty) (defScope s_Chance_empty) .none kV_Chance_empty dc_Chance_empty pm_Chance_empty an_Chance_empty cd_Chance_empty ct_Chance_empty), sl_Chance_empty⟩) (c_Chance_empty : PySem.W.codeIn K cd_Chance_empty "Chance.empty" = true) (k_Chance_empty : PySem.W.keepIn K (.ref f_Chance_empty) = true)
    (a_Net___init__ : PySem.W.findIn K (.ref C_Net) "__init__" = some (some (.ref f_Net___init__))) (i_Net___init__ : PySem.W.isFn K (.ref f_Net___init__) = true) (l_Net___init__ : K.lookup f_Net___init__ = some ⟨oc_Net___init__, od_Net___init__, .func (PySem.W.fnOf "__init__" "Net.__init__" (defArgs s_Net___init__) (defBody s_Net___init__) (defScope s_Net___init__) .none kV_Net___init__ dc_Net___init__ pm_Net___init__ an_Net___init__ cd_Net___init__ ct_Net___init__), sl_Net___init__⟩) (c_Net___init__ : PySem.W.codeIn K cd_Net___init__ "Net.__init__" = true) (k_Net___init__ : PySem.W.keepIn K (.ref f_Net___init__) = true)
    (a_scale_of : PySem.W.nsIn K mainGlobals "scale_of" = some (some (.ref f_scale_of))) (l_scale_of : K.lookup f_scale_of = some ⟨oc_scale_of, od_scale_of, .func (PySem.W.fnOf "scale_of" "scale_of" (defArgs s_scale_of) (defBody s_scale_of) (defScope s_scale_of) .none kV_scale_of dc_scale_of pm_scale_of an_scale_of cd_scale_of ct_scale_of), sl_scale_of⟩) (c_scale_of : PySem.W.codeIn K cd_scale_of "scale_of" = true) (k_scale_of : PySem.W.keepIn K (.ref f_scale_of) = true)
    (a_is_name_sign : PySem.W.nsIn K mainGlobals "is_name_sign" = some (some (.ref f_is_name_sign))) (l_is_name_sign : K.lookup f_is_name_sign = some ⟨oc_is_name_sign, od_is_name_sign, .func (PySem.W.fnOf "is_name_sign" "is_name_sign" (defArgs s_is_name_sign) (defBody s_is_name_sign) (defScope s_is_name_sign) .none kV_is_name_sign dc_is_name_sign pm_is_name_sign an_is_name_sign cd_is_name_sign ct_is_name_sign), sl_is_name_sign⟩) (c_is_name_sign : PySem.W.codeIn K cd_is_name_sign "is_name_sign" = true) (k_is_name_sign : PySem.W.keepIn K (.ref f_is_name_sign) = true)
    (a_is_name : PySem.W.nsIn K mainGlobals "is_name" = some (some (.ref f_is_name))) (l_is_name : K.lookup f_is_name = some ⟨oc_is_name, od_is_name, .func (PySem.W.fnOf "is_name" "is_name" (defArgs s_is_name) (defBody s_is_name) (defScope s_is_name) .none kV_is_name dc_is_name pm_is_name an_is_name cd_is_name ct_is_name), sl_is_name⟩) (c_is_name : PySem.W.codeIn K cd_is_name "is_name" = true) (k_is_name : PySem.W.keepIn K (.ref f_is_name) = true)
    (a_is_word : PySem.W.nsIn K mainGlobals "is_word" = some (some (.ref f_is_word))) (l_is_word : K.lookup f_is_word = some ⟨oc_is_word, od_is_word, .func (PySem.W.fnOf "is_word" "is_word" (defArgs s_is_word) (defBody s_is_word) (defScope s_is_word) .none kV_is_word dc_is_word pm_is_word an_is_word cd_is_word ct_is_word), sl_is_word⟩) (c_is_word : PySem.W.codeIn K cd_is_word "is_word" = true) (k_is_word : PySem.W.keepIn K (.ref f_is_word) = true)
    (a_is_whole : PySem.W.nsIn K mainGlobals "is_whole" = some (some (.ref f_is_whole))) (l_is_whole : K.lookup f_is_whole = some ⟨oc_is_whole, od_is_whole, .func (PySem.W.fnOf "is_whole" "is_whole" (defArgs s_is_whole) (defBody s_is_whole) (defScope s_is_whole) .none kV_is_whole dc_is_whole pm_is_whole an_is_whole cd_is_whole ct_is_whole), sl_is_whole⟩) (c_is_whole : PySem.W.codeIn K cd_is_whole "is_whole" = true) (k_is_whole : PySem.W.keepIn K (.ref f_is_whole) = true)
    (a_is_edge : PySem.W.nsIn K mainGlobals "is_edge" = some (some (.ref f_is_edge))) (l_is_edge : K.lookup f_is_edge = some ⟨oc_is_edge, od_is_edge, .func (PySem.W.fnOf "is_edge" "is_edge" (defArgs s_is_edge) (defBody s_is_edge) (defScope s_is_edge) .none kV_is_edge dc_is_edge pm_is_edge an_is_edge cd_is_edge ct_is_edge), sl_is_edge⟩) (c_is_edge : PySem.W.codeIn K cd_is_edge "is_edge" = true) (k_is_edge : PySem.W.keepIn K (.ref f_is_edge) = true)
    (a_row_net : PySem.W.nsIn K mainGlobals "row_net" = some (some (.ref f_row_net))) (l_row_net : K.lookup f_row_net = some ⟨oc_row_net, od_row_net, .func (PySem.W.fnOf "row_net" "row_net" (defArgs s_row_net) (defBody s_row_net) (defScope s_row_net) .none kV_row_net dc_row_net pm_row_net an_row_net cd_row_net ct_row_net), sl_row_net⟩) (c_row_net : PySem.W.codeIn K cd_row_net "row_net" = true) (k_row_net : PySem.W.keepIn K (.ref f_row_net) = true)
    (a_l_at : PySem.W.nsIn K mainGlobals "_law_at" = some (some (.ref f_l_at))) (l_l_at : K.lookup f_l_at = some ⟨oc_l_at, od_l_at, .func (PySem.W.fnOf "_law_at" "_law_at" (defArgs s_l_at) (defBody s_l_at) (defScope s_l_at) .none kV_l_at dc_l_at pm_l_at an_l_at cd_l_at ct_l_at), sl_l_at⟩) (c_l_at : PySem.W.codeIn K cd_l_at "_law_at" = true) (k_l_at : PySem.W.keepIn K (.ref f_l_at) = true)
    (a_l_mix : PySem.W.nsIn K mainGlobals "_law_mix" = some (some (.ref f_l_mix))) (l_l_mix : K.lookup f_l_mix = some ⟨oc_l_mix, od_l_mix, .func (PySem.W.fnOf "_law_mix" "_law_mix" (defArgs s_l_mix) (defBody s_l_mix) (defScope s_l_mix) .none kV_l_mix dc_l_mix pm_l_mix an_l_mix cd_l_mix ct_l_mix), sl_l_mix⟩) (c_l_mix : PySem.W.codeIn K cd_l_mix "_law_mix" = true) (k_l_mix : PySem.W.keepIn K (.ref f_l_mix) = true)
    (a_l_names : PySem.W.nsIn K mainGlobals "_law_names" = some (some (.ref f_l_names))) (l_l_names : K.lookup f_l_names = some ⟨oc_l_names, od_l_names, .func (PySem.W.fnOf "_law_names" "_law_names" (defArgs s_l_names) (defBody s_l_names) (defScope s_l_names) .none kV_l_names dc_l_names pm_l_names an_l_names cd_l_names ct_l_names), sl_l_names⟩) (c_l_names : PySem.W.codeIn K cd_l_names "_law_names" = true) (k_l_names : PySem.W.keepIn K (.ref f_l_names) = true)
    (a_l_words : PySem.W.nsIn K mainGlobals "_law_words" = some (some (.ref f_l_words))) (l_l_words : K.lookup f_l_words = some ⟨oc_l_words, od_l_words, .func (PySem.W.fnOf "_law_words" "_law_words" (defArgs s_l_words) (defBody s_l_words) (defScope s_l_words) .none kV_l_words dc_l_words pm_l_words an_l_words cd_l_words ct_l_words), sl_l_words⟩) (c_l_words : PySem.W.codeIn K cd_l_words "_law_words" = true) (k_l_words : PySem.W.keepIn K (.ref f_l_words) = true)
    (a_l_strange : PySem.W.nsIn K mainGlobals "_law_strange" = some (some (.ref f_l_strange))) (l_l_strange : K.lookup f_l_strange = some ⟨oc_l_strange, od_l_strange, .func (PySem.W.fnOf "_law_strange" "_law_strange" (defArgs s_l_strange) (defBody s_l_strange) (defScope s_l_strange) .none kV_l_strange dc_l_strange pm_l_strange an_l_strange cd_l_strange ct_l_strange), sl_l_strange⟩) (c_l_strange : PySem.W.codeIn K cd_l_strange "_law_strange" = true) (k_l_strange : PySem.W.keepIn K (.ref f_l_strange) = true)
    (a_law : PySem.W.nsIn K mainGlobals "law" = some (some (.ref f_law))) (l_law : K.lookup f_law = some ⟨oc_law, od_law, .func (PySem.W.fnOf "law" "law" (defArgs s_law) (defBody s_law) (defScope s_law) .none kV_law dc_law pm_law an_law cd_law ct_law), sl_law⟩) (c_law : PySem.W.codeIn K cd_law "law" = true) (k_law : PySem.W.keepIn K (.ref f_law) = true)
    {t_SMALL_LETTERS : Tok} (q_SMALL_LETTERS : PySem.W.nsIn K mainGlobals "SMALL_LETTERS" = some (some (.str c_SMALL_LETTERS t_SMALL_LETTERS)))
    {t_GREAT_LETTERS : Tok} (q_GREAT_LETTERS : PySem.W.nsIn K mainGlobals "GREAT_LETTERS" = some (some (.str c_GREAT_LETTERS t_GREAT_LETTERS)))
    {t_FIGURES : Tok} (q_FIGURES : PySem.W.nsIn K mainGlobals "FIGURES" = some (some (.str c_FIGURES t_FIGURES)))
    {t_LONGEST_NAME : Tok} (q_LONGEST_NAME : PySem.W.nsIn K mainGlobals "LONGEST_NAME" = some (some (.int 12 t_LONGEST_NAME)))
    (z_tuple : PySem.W.nsIn K mainGlobals "tuple" = some none) (z_all : PySem.W.nsIn K mainGlobals "all" = some none) (z_isinstance : PySem.W.nsIn K mainGlobals "isinstance" = some none) (z_str : PySem.W.nsIn K mainGlobals "str" = some none) (z_len : PySem.W.nsIn K mainGlobals "len" = some none) (z_int : PySem.W.nsIn K mainGlobals "int" = some none) (z_bool : PySem.W.nsIn K mainGlobals "bool" = some none) (z_enumerate : PySem.W.nsIn K mainGlobals "enumerate" = some none) (z_range : PySem.W.nsIn K mainGlobals "range" = some none) (z_list : PySem.W.nsIn K mainGlobals "list" = some none) :
    ∃ fd : FuncData, (∀ (s : Shared) (v : Value), BindsTo s fd ⟨[v], []⟩ [("_law_script", v)]) ∧ ∀ base : Heap, K.In base → base.Ns mainGlobals mg → FnOk l.prog w K mg base CX0 8 fa fd ["_law_script"] (sp_law K) := by
  have e := hfa.symm.trans (PySem.W.mg_of X G a_law)
  cases e
  have F_Cost_empty := fun_mk (st := s_Cost_empty) l_Cost_empty c_Cost_empty k_Cost_empty
  have b_Cost_empty := F_Cost_empty.binds (ps := ["self"]) fun _ _ _ _ _ _ us hl => match us, hl with | [_], _ => rfl
  have F_Chance_empty := fun_mk (st := s_Chance_empty) l_Chance_empty c_Chance_empty k_Chance_empty
  have b_Chance_empty := F_Chance_empty.binds (ps := ["self"]) fun _ _ _ _ _ _ us hl => match us, hl with | [_], _ => rfl
  have F_Net___init__ := fun_mk (st := s_Net___init__) l_Net___init__ c_Net___init__ k_Net___init__
  have b_Net___init__ := F_Net___init__.binds (ps := ["self", "places", "edges"]) fun _ _ _ _ _ _ us hl => match us, hl with | [_, _, _], _ => rfl
  have F_scale_of := fun_mk (st := s_scale_of) l_scale_of c_scale_of k_scale_of
  have b_scale_of := F_scale_of.binds (ps := ["word"]) fun _ _ _ _ _ _ us hl => match us, hl with | [_], _ => rfl
  have F_is_name_sign := fun_mk (st := s_is_name_sign) l_is_name_sign c_is_name_sign k_is_name_sign
  have b_is_name_sign := F_is_name_sign.binds (ps := ["sign"]) fun _ _ _ _ _ _ us hl => match us, hl with | [_], _ => rfl
  have F_is_name := fun_mk (st := s_is_name) l_is_name c_is_name k_is_name
  have b_is_name := F_is_name.binds (ps := ["text"]) fun _ _ _ _ _ _ us hl => match us, hl with | [_], _ => rfl
  have F_is_word := fun_mk (st := s_is_word) l_is_word c_is_word k_is_word
  have b_is_word := F_is_word.binds (ps := ["text"]) fun _ _ _ _ _ _ us hl => match us, hl with | [_], _ => rfl
  have F_is_whole := fun_mk (st := s_is_whole) l_is_whole c_is_whole k_is_whole
  have b_is_whole := F_is_whole.binds (ps := ["thing"]) fun _ _ _ _ _ _ us hl => match us, hl with | [_], _ => rfl
  have F_is_edge := fun_mk (st := s_is_edge) l_is_edge c_is_edge k_is_edge
  have b_is_edge := F_is_edge.binds (ps := ["edge", "places"]) fun _ _ _ _ _ _ us hl => match us, hl with | [_, _], _ => rfl
  have F_row_net := fun_mk (st := s_row_net) l_row_net c_row_net k_row_net
  have b_row_net := F_row_net.binds (ps := ["words", "scale"]) fun _ _ _ _ _ _ us hl => match us, hl with | [_, _], _ => rfl
  have F_l_at := fun_mk (st := s_l_at) l_l_at c_l_at k_l_at
  have b_l_at := F_l_at.binds (ps := ["_law_script", "_law_k"]) fun _ _ _ _ _ _ us hl => match us, hl with | [_, _], _ => rfl
  have F_l_mix := fun_mk (st := s_l_mix) l_l_mix c_l_mix k_l_mix
  have b_l_mix := F_l_mix.binds (ps := ["_law_cell", "_law_k"]) fun _ _ _ _ _ _ us hl => match us, hl with | [_, _], _ => rfl
  have F_l_names := fun_mk (st := s_l_names) l_l_names c_l_names k_l_names
  have b_l_names := F_l_names.binds (ps := ["_law_cell", "_law_many", "_law_firsts"]) fun _ _ _ _ _ _ us hl => match us, hl with | [_, _, _], _ => rfl
  have F_l_words := fun_mk (st := s_l_words) l_l_words c_l_words k_l_words
  have b_l_words := F_l_words.binds (ps := ["_law_script"]) fun _ _ _ _ _ _ us hl => match us, hl with | [_], _ => rfl
  have F_l_strange := fun_mk (st := s_l_strange) l_l_strange c_l_strange k_l_strange
  have b_l_strange := F_l_strange.binds (ps := ["_law_word", "_law_m"]) fun _ _ _ _ _ _ us hl => match us, hl with | [_, _], _ => rfl
  have F_law := fun_mk (st := s_law) l_law c_law k_law
  have b_law := F_law.binds (ps := ["_law_script"]) fun _ _ _ _ _ _ us hl => match us, hl with | [_], _ => rfl
  have T : Txt K mg ⟨C_NoScale, C_NoNet, C_Cost, C_Chance, C_Net, f_Cost_empty, _, f_Chance_empty, _, f_Net___init__, _, f_scale_of, _, f_is_name_sign, _, f_is_name, _, f_is_word, _, f_is_whole, _, f_is_edge, _, f_row_net, _, f_l_at, _, f_l_mix, _, f_l_names, _, f_l_words, _, f_l_strange, _, fa, _⟩ := ⟨⟨pg_Cost, hd_Cost, po_Cost, sa_Cost⟩, PySem.W.mg_of X G aC_Cost, ⟨mk_Cost, in_Cost, kc_Cost⟩, ⟨pg_Chance, hd_Chance, po_Chance, sa_Chance⟩, PySem.W.mg_of X G aC_Chance, ⟨mk_Chance, in_Chance, kc_Chance⟩, ⟨pg_Net, hd_Net, po_Net, sa_Net⟩, PySem.W.mg_of X G aC_Net, ⟨mk_Net, a_Net___init__, i_Net___init__, kc_Net⟩, nf_places_Net, nf_edges_Net, PySem.W.mg_of X G aC_NoScale, PySem.W.mg_of X G aC_NoNet, ⟨xc_NoNet⟩, ⟨ga_NoNet, gn_NoNet, ec_NoNet, eo_NoNet, eb_NoNet, ei_NoNet⟩, ⟨xc_NoScale⟩, ⟨ga_NoScale, gn_NoScale, ec_NoScale, eo_NoScale, eb_NoScale, ei_NoScale⟩, ⟨ct_NoScale, ck_NoScale, cb_NoScale⟩, ⟨ct_NoNet, ck_NoNet, cb_NoNet⟩, es_NoNet_NoScale, kit_ref dd_NoScale dt_NoScale es_NoNet_NoScale dr_NoScale, es_NoNet_NoNet, kit_ref dd_NoNet dt_NoNet es_NoNet_NoNet dr_NoNet, es_NoScale_NoScale, kit_ref dd_NoScale dt_NoScale es_NoScale_NoScale dr_NoScale, F_Cost_empty, ⟨a_Cost_empty, i_Cost_empty, k_Cost_empty⟩, b_Cost_empty, F_Chance_empty, ⟨a_Chance_empty, i_Chance_empty, k_Chance_empty⟩, b_Chance_empty, F_Net___init__, ⟨a_Net___init__, i_Net___init__, k_Net___init__⟩, b_Net___init__, F_scale_of, PySem.W.mg_of X G a_scale_of, k_scale_of, b_scale_of, F_is_name_sign, PySem.W.mg_of X G a_is_name_sign, k_is_name_sign, b_is_name_sign, F_is_name, PySem.W.mg_of X G a_is_name, k_is_name, b_is_name, F_is_word, PySem.W.mg_of X G a_is_word, k_is_word, b_is_word, F_is_whole, PySem.W.mg_of X G a_is_whole, k_is_whole, b_is_whole, F_is_edge, PySem.W.mg_of X G a_is_edge, k_is_edge, b_is_edge, F_row_net, PySem.W.mg_of X G a_row_net, k_row_net, b_row_net, F_l_at, PySem.W.mg_of X G a_l_at, k_l_at, b_l_at, F_l_mix, PySem.W.mg_of X G a_l_mix, k_l_mix, b_l_mix, F_l_names, PySem.W.mg_of X G a_l_names, k_l_names, b_l_names, F_l_words, PySem.W.mg_of X G a_l_words, k_l_words, b_l_words, F_l_strange, PySem.W.mg_of X G a_l_strange, k_l_strange, b_l_strange, F_law, PySem.W.mg_of X G a_law, k_law, b_law, ⟨_, PySem.W.mg_of X G q_SMALL_LETTERS⟩, ⟨_, PySem.W.mg_of X G q_GREAT_LETTERS⟩, ⟨_, PySem.W.mg_of X G q_FIGURES⟩, ⟨_, PySem.W.mg_of X G q_LONGEST_NAME⟩, PySem.W.mg_none_of X G z_tuple, PySem.W.mg_none_of X G z_all, PySem.W.mg_none_of X G z_isinstance, PySem.W.mg_none_of X G z_str, PySem.W.mg_none_of X G z_len, PySem.W.mg_none_of X G z_int, PySem.W.mg_none_of X G z_bool, PySem.W.mg_none_of X G z_enumerate, PySem.W.mg_none_of X G z_range, PySem.W.mg_none_of X G z_list⟩
  exact ⟨PySem.W.fnOf "law" "law" (defArgs s_law) (defBody s_law) (defScope s_law) .none kV_law dc_law pm_law an_law cd_law ct_law, fun s v => .of_eq rfl, fun base _ _ => ok_law T⟩
theorem walk {l : PySem.W.OpenLaw} {q : Program} {loose : List Str} {XP : (Str → Option Value) → Heap → Prop} {YP : World → Heap → Prop} {d : DefRec} {K : Params → PySem.W.Frag} (hn : l.most = some 63) (hdf : d.params.defaults = [])
    (hY : ∀ (w : World) (h : Heap), YP w h → (K w.params).In h)
    (F : ∀ (w : World) (mg : Str → Option Value) (fa : Addr) (h : Heap), (K w.params).In h → h.Ns mainGlobals mg → mg d.name = some (.ref fa) →
      ∃ fd : FuncData, (∀ (s : Shared) (u : Value), BindsTo s fd ⟨[u], []⟩ [("_law_script", u)]) ∧ ∀ base : Heap, (K w.params).In base → base.Ns mainGlobals mg → FnOk l.prog w (K w.params) mg base CX0 8 fa fd ["_law_script"] (sp_law (K w.params))) :
    PySem.W.WalkO q loose XP YP l.row.toRowW d [] (fun f vs => PySem.call f vs) :=
  L2.walk_of (n := 63) (k := 8) (x := "_law_script") (CX := fun _ => CX0) (sp := fun w => sp_law (K w.params)) hn (by decide) hdf ⟨rfl, by decide, by decide⟩ hY F (fun _ _ a ns hl _ hS => ⟨a, ns, rfl, hS, hl, fun _ => rfl⟩) fun _ _ _ _ _ z => z
end My
open PySem PySem.W PyProof.Rows
set_option maxRecDepth 100000 in
set_option maxHeartbeats 0 in
theorem PySem.Challenge.cw_kbestwood_k15_a_row_of_words_holds : PySem.Challenge.rw_kbestwood_k15_a_row_of_words.Holds := by
  w_on; o_law; k_head; (case hw => w_witness2)
  k_fill
  refine My.walk (l := PySem.Challenge.rw_kbestwood_k15_a_row_of_words) rfl rfl (fun w h Y => PySem.W.kIn_of Y) ?F
  case F =>
    intro w mg fa h KX G hmg
    refine' My.all_mk KX G hmg ?aC_Cost ?pg_Cost ?hd_Cost ?po_Cost ?sa_Cost ?mk_Cost ?in_Cost ?kc_Cost ?aC_Chance ?pg_Chance ?hd_Chance ?po_Chance ?sa_Chance ?mk_Chance ?in_Chance ?kc_Chance ?aC_Net ?pg_Net ?hd_Net ?po_Net ?sa_Net ?mk_Net ?kc_Net ?nf_places_Net ?nf_edges_Net ?aC_NoScale ?xc_NoScale ?ga_NoScale ?gn_NoScale ?ec_NoScale ?eo_NoScale ?eb_NoScale ?ei_NoScale ?ct_NoScale ?ck_NoScale ?cb_NoScale ?dd_NoScale ?dt_NoScale ?dr_NoScale ?aC_NoNet ?xc_NoNet ?ga_NoNet ?gn_NoNet ?ec_NoNet ?eo_NoNet ?eb_NoNet ?ei_NoNet ?ct_NoNet ?ck_NoNet ?cb_NoNet ?dd_NoNet ?dt_NoNet ?dr_NoNet ?es_NoNet_NoScale ?es_NoNet_NoNet ?es_NoScale_NoScale ?a_Cost_empty ?i_Cost_empty ?l_Cost_empty ?c_Cost_empty ?k_Cost_empty ?a_Chance_empty ?i_Chance_empty ?l_Chance_empty ?c_Chance_empty ?k_Chance_empty ?a_Net___init__ ?i_Net___init__ ?l_Net___init__ ?c_Net___init__ ?k_Net___init__ ?a_scale_of ?l_scale_of ?c_scale_of ?k_scale_of ?a_is_name_sign ?l_is_name_sign ?c_is_name_sign ?k_is_name_sign ?a_is_name ?l_is_name ?c_is_name ?k_is_name ?a_is_word ?l_is_word ?c_is_word ?k_is_word ?a_is_whole ?l_is_whole ?c_is_whole ?k_is_whole ?a_is_edge ?l_is_edge ?c_is_edge ?k_is_edge ?a_row_net ?l_row_net ?c_row_net ?k_row_net ?a_l_at ?l_l_at ?c_l_at ?k_l_at ?a_l_mix ?l_l_mix ?c_l_mix ?k_l_mix ?a_l_names ?l_l_names ?c_l_names ?k_l_names ?a_l_words ?l_l_words ?c_l_words ?k_l_words ?a_l_strange ?l_l_strange ?c_l_strange ?k_l_strange ?a_law ?l_law ?c_law ?k_law ?q_SMALL_LETTERS ?q_GREAT_LETTERS ?q_FIGURES ?q_LONGEST_NAME ?z_tuple ?z_all ?z_isinstance ?z_str ?z_len ?z_int ?z_bool ?z_enumerate ?z_range ?z_list
    (case aC_Cost => k_is)
    (case pg_Cost => k_is)
    (case hd_Cost => k_is)
    (case po_Cost => k_is)
    (case sa_Cost => k_is)
    (case mk_Cost => k_is)
    (case in_Cost => k_is)
    (case kc_Cost => k_is)
    (case aC_Chance => k_is)
    (case pg_Chance => k_is)
    (case hd_Chance => k_is)
    (case po_Chance => k_is)
    (case sa_Chance => k_is)
    (case mk_Chance => k_is)
    (case in_Chance => k_is)
    (case kc_Chance => k_is)
    (case aC_Net => k_is)
    (case pg_Net => k_is)
    (case hd_Net => k_is)
    (case po_Net => k_is)
    (case sa_Net => k_is)
    (case mk_Net => k_is)
    (case kc_Net => k_is)
    (case nf_places_Net => k_is)
    (case nf_edges_Net => k_is)
    (case aC_NoScale => k_is)
    (case xc_NoScale => k_exc)
    (case ga_NoScale => k_is)
    (case gn_NoScale => k_is)
    (case ec_NoScale => k_is)
    (case eo_NoScale => k_is)
    (case eb_NoScale => k_is)
    (case ei_NoScale => k_is)
    (case ct_NoScale => k_is)
    (case ck_NoScale => k_is)
    (case cb_NoScale => k_is)
    (case dd_NoScale => k_is)
    (case dt_NoScale => k_is)
    (case dr_NoScale => k_is)
    (case aC_NoNet => k_is)
    (case xc_NoNet => k_exc)
    (case ga_NoNet => k_is)
    (case gn_NoNet => k_is)
    (case ec_NoNet => k_is)
    (case eo_NoNet => k_is)
    (case eb_NoNet => k_is)
    (case ei_NoNet => k_is)
    (case ct_NoNet => k_is)
    (case ck_NoNet => k_is)
    (case cb_NoNet => k_is)
    (case dd_NoNet => k_is)
    (case dt_NoNet => k_is)
    (case dr_NoNet => k_is)
    (case es_NoNet_NoScale => k_is)
    (case es_NoNet_NoNet => k_is)
    (case es_NoScale_NoScale => k_is)
    (case a_Cost_empty => k_is)
    (case i_Cost_empty => k_is)
    (case l_Cost_empty => k_is)
    (case c_Cost_empty => k_is)
    (case k_Cost_empty => k_is)
    (case a_Chance_empty => k_is)
    (case i_Chance_empty => k_is)
    (case l_Chance_empty => k_is)
    (case c_Chance_empty => k_is)
    (case k_Chance_empty => k_is)
    (case a_Net___init__ => k_is)
    (case i_Net___init__ => k_is)
    (case l_Net___init__ => k_is)
    (case c_Net___init__ => k_is)
    (case k_Net___init__ => k_is)
    (case a_scale_of => k_is)
    (case l_scale_of => k_is)
    (case c_scale_of => k_is)
    (case k_scale_of => k_is)
    (case a_is_name_sign => k_is)
    (case l_is_name_sign => k_is)
    (case c_is_name_sign => k_is)
    (case k_is_name_sign => k_is)
    (case a_is_name => k_is)
    (case l_is_name => k_is)
    (case c_is_name => k_is)
    (case k_is_name => k_is)
    (case a_is_word => k_is)
    (case l_is_word => k_is)
    (case c_is_word => k_is)
    (case k_is_word => k_is)
    (case a_is_whole => k_is)
    (case l_is_whole => k_is)
    (case c_is_whole => k_is)
    (case k_is_whole => k_is)
    (case a_is_edge => k_is)
    (case l_is_edge => k_is)
    (case c_is_edge => k_is)
    (case k_is_edge => k_is)
    (case a_row_net => k_is)
    (case l_row_net => k_is)
    (case c_row_net => k_is)
    (case k_row_net => k_is)
    (case a_l_at => k_is)
    (case l_l_at => k_is)
    (case c_l_at => k_is)
    (case k_l_at => k_is)
    (case a_l_mix => k_is)
    (case l_l_mix => k_is)
    (case c_l_mix => k_is)
    (case k_l_mix => k_is)
    (case a_l_names => k_is)
    (case l_l_names => k_is)
    (case c_l_names => k_is)
    (case k_l_names => k_is)
    (case a_l_words => k_is)
    (case l_l_words => k_is)
    (case c_l_words => k_is)
    (case k_l_words => k_is)
    (case a_l_strange => k_is)
    (case l_l_strange => k_is)
    (case c_l_strange => k_is)
    (case k_l_strange => k_is)
    (case a_law => k_is)
    (case l_law => k_is)
    (case c_law => k_is)
    (case k_law => k_is)
    (case q_SMALL_LETTERS => k_is)
    (case q_GREAT_LETTERS => k_is)
    (case q_FIGURES => k_is)
    (case q_LONGEST_NAME => k_is)
    (case z_tuple => k_is)
    (case z_all => k_is)
    (case z_isinstance => k_is)
    (case z_str => k_is)
    (case z_len => k_is)
    (case z_int => k_is)
    (case z_bool => k_is)
    (case z_enumerate => k_is)
    (case z_range => k_is)
    (case z_list => k_is)
