import PyProof.Rows.All
import Wide.All
import OpenK.AllK
import Wide.FinOn
import Lean
import PyProof.EqAt
import PyProof.EqKinds
import PyProof.TupleCall
import PyProof.NeKinds
import PyProof.EnumFor
import PyProof.EnumMake
import PyProof.NsDelKeeps
import OpenK.KOwn
import KE.KIsBytes
import PyProof.CompFree
import PyProof.StrWalks
import PyProof.ConsumeWalk
import PyProof.StrBlockI
import PySem.Challenge.RW_kbestwood_k04_scales
set_option Elab.async false
set_option linter.all false
set_option maxRecDepth 100000
set_option maxHeartbeats 4000000
/-! THE HAND LAYER, for ints, bools, texts, own classes, LISTS and tuples (index, slices, in, append, pop ..), calls, loops. Paste it whole ahead of your own text; what your proof does not reach may be deleted. -/
namespace L2
open PySem PySem.Spec PyProof.Rows

/-- a key: an int or a str -/
abbrev Key := Sum Int Str
def keyIs : Key → Value → Bool
  | .inl k, v => Value.isInt k v
  | .inr x, v => Value.isStrOf x v
def keyH (w : World) : Key → Int
  | .inl k => hashInt k
  | .inr x => hashStr w x
theorem keyIs_shape : ∀ {k : Key} {v : Value}, keyIs k v = true → (∃ i t, k = Sum.inl i ∧ v = Value.int i t) ∨ (∃ x t, k = Sum.inr x ∧ v = Value.str x t)
  | .inl i, v, h => by
    obtain ⟨t, e⟩ := Value.isInt_shape (k := i) (v := v) h
    exact .inl ⟨i, t, rfl, e⟩
  | .inr x, v, h => by
    obtain ⟨t, e⟩ := Value.isStrOf_shape (x := x) (v := v) h
    exact .inr ⟨x, t, rfl, e⟩
theorem key_ll (a b : Int) : decide ((Sum.inl a : Key) = Sum.inl b) = (a == b) := by
  by_cases e : a = b
  · subst e; simp
  · have h : ¬ (Sum.inl a : Key) = Sum.inl b := fun q => e (Sum.inl.inj q)
    rw [decide_eq_false h]
    exact (beq_eq_false_iff_ne.mpr e).symm
theorem key_rr (a b : Str) : decide ((Sum.inr a : Key) = Sum.inr b) = decide (a = b) := by
  by_cases e : a = b
  · subst e; simp
  · have h : ¬ (Sum.inr a : Key) = Sum.inr b := fun q => e (Sum.inr.inj q)
    rw [decide_eq_false h, decide_eq_false e]
theorem key_lr (a : Int) (b : Str) : decide ((Sum.inl a : Key) = Sum.inr b) = false := decide_eq_false (fun q => nomatch q)
theorem key_rl (a : Str) (b : Int) : decide ((Sum.inr a : Key) = Sum.inl b) = false := decide_eq_false (fun q => nomatch q)

def mixKind (prog : Program) (w : World) : PySem.KeyKind prog w Key where
  is := keyIs
  hash := keyH w
  inj := fun v a b ha hb => by
    rcases keyIs_shape ha with ⟨i, t, rfl, rfl⟩ | ⟨x, t, rfl, rfl⟩
    · rcases keyIs_shape hb with ⟨j, u, rfl, e⟩ | ⟨y, u, rfl, e⟩
      · injection e with e1 _; rw [e1]
      · exact nomatch e
    · rcases keyIs_shape hb with ⟨j, u, rfl, e⟩ | ⟨y, u, rfl, e⟩
      · exact nomatch e
      · injection e with e1 _; rw [e1]
  byValue := fun k v h => by
    rcases keyIs_shape h with ⟨i, t, rfl, rfl⟩ | ⟨x, t, rfl, rfl⟩ <;> rfl
  pyHash := fun hv h => by
    rcases keyIs_shape hv with ⟨i, t, rfl, rfl⟩ | ⟨x, t, rfl, rfl⟩
    · exact wpAny_pyHash_int h
    · exact wpAny_pyHash_str h
  eqBool := fun hu hv h => by
    rcases keyIs_shape hu with ⟨i, t, rfl, rfl⟩ | ⟨x, t, rfl, rfl⟩
    · rcases keyIs_shape hv with ⟨j, u, rfl, rfl⟩ | ⟨y, u, rfl, rfl⟩
      · rw [key_ll] at h; exact wpAny_eqBool_int h
      · rw [key_lr] at h; exact SeqAt.EqAt.int_str i t y u _ _ _ _ h
    · rcases keyIs_shape hv with ⟨j, u, rfl, rfl⟩ | ⟨y, u, rfl, rfl⟩
      · rw [key_rl] at h; exact SeqAt.EqAt.str_int x t j u _ _ _ _ h
      · rw [key_rr] at h; exact wpAny_eqBool_str h
  «strs» := fun k x t v h => by
    rcases keyIs_shape h with ⟨i, u, rfl, e⟩ | ⟨y, u, rfl, e⟩
    · exact nomatch e
    · injection e with e1 _
      subst e1
      cases v <;> rfl

end L2

namespace L2
open PySem PySem.Spec PyProof.Rows

/-- a value, without the heap -/
inductive V where
  | non | bl (b : Bool) | int (i : Int) | str (x : Str) | byt (b : Array UInt8) | flt (b : UInt64) | ref (a : Addr) | ty (n : String)
  deriving DecidableEq

def RelV : V → Value → Prop
  | .non, u => u = Value.none
  | .bl b, u => u = Value.bool b
  | .int i, u => ∃ t, u = Value.int i t
  | .str x, u => ∃ t, u = Value.str x t
  | .byt b, u => ∃ t, u = Value.bytes b t
  | .flt b, u => ∃ t, u = Value.float b t
  | .ref a, u => u = Value.ref a
  | .ty n, u => u = Value.type n

abbrev Vals : List V → List Value → Prop := Paired RelV
theorem Vals.length {xs : List V} {us : List Value} (r : Vals xs us) : xs.length = us.length := Paired.length r
theorem Vals.get : ∀ {xs : List V} {us : List Value} {i : Nat} {x : V}, Vals xs us → xs[i]? = some x → ∃ u, us[i]? = some u ∧ RelV x u
  | _, _, _, _, .nil, e => by simp at e
  | _, _, 0, _, .cons r _, e => by simp at e; subst e; exact ⟨_, rfl, r⟩
  | _, _, i + 1, x, .cons _ t, e => by
    obtain ⟨u, h1, h2⟩ := Vals.get (i := i) (x := x) t (by simpa using e)
    exact ⟨u, by simpa using h1, h2⟩
theorem Vals.set {x : V} {u : Value} (r : RelV x u) : ∀ {xs : List V} {us : List Value} (i : Nat), Vals xs us → Vals (xs.set i x) (us.set i u)
  | _, _, _, .nil => .nil
  | _, _, 0, .cons _ t => .cons r t
  | _, _, i + 1, .cons q t => .cons q (Vals.set r i t)
theorem Vals.append : ∀ {xs ys : List V} {us ws : List Value}, Vals xs us → Vals ys ws → Vals (xs ++ ys) (us ++ ws)
  | _, _, _, _, .nil, s => s
  | _, _, _, _, .cons r t, s => .cons r (Vals.append t s)
theorem Vals.take : ∀ {xs : List V} {us : List Value} (n : Nat), Vals xs us → Vals (xs.take n) (us.take n)
  | _, _, 0, _ => .nil
  | _, _, _ + 1, .nil => .nil
  | _, _, n + 1, .cons r t => .cons r (Vals.take n t)
theorem Vals.drop : ∀ {xs : List V} {us : List Value} (n : Nat), Vals xs us → Vals (xs.drop n) (us.drop n)
  | _, _, 0, r => r
  | _, _, _ + 1, .nil => .nil
  | _, _, n + 1, .cons _ t => Vals.drop n t
theorem Vals.none_of : ∀ {xs : List V} {us : List Value} {i : Nat}, Vals xs us → xs[i]? = none → us[i]? = none := fun {xs us i} r e => by
  have h1 := r.length
  have h2 : xs.length ≤ i := List.getElem?_eq_none_iff.mp e
  exact List.getElem?_eq_none_iff.mpr (by omega)

def RelO : Option V → Option Value → Prop
  | some v, some u => RelV v u
  | none, none => True
  | _, _ => False
def KV {κ : Type} : List (κ × V) → List (κ × Value) → Prop := Paired fun (p : κ × V) (q : κ × Value) => p.1 = q.1 ∧ RelV p.2 q.2

/-- a key of a dict (00_mix): an int or a text -/
def kV : Key → V
  | .inl i => .int i
  | .inr x => .str x

/-- what stands at a tracked address -/
inductive HO where
  /-- a list -/
  | lst (xs : List V)
  /-- a tuple (never changes) -/
  | tup (xs : List V)
  /-- a dict whose keys are ints and texts; one whose keys are tuples of ints and texts (the empty one is both) -/
  | dK (kvs : List (Key × V)) | dT (kvs : List (List Key × V))
  /-- a set of ints: its members, its size -/
  | set (S : Int → Bool) (n : Nat)
  /-- an instance of the class at C, its dict at dx, its attributes -/
  | ins (C dx : Addr) (fs : List (Str × V))
  /-- the dict of the instance at x -/
  | own (x : Addr)
  /-- the dict of an exception -/
  | xd (fs : List (Str × V))
  /-- a bound method, f of x -/
  | met (f x : Addr)
  /-- a range object lo, lo + 1, .. below hi -/
  | rng (lo hi : Int)
  /-- a thing that is known to the object (the script; a dict while a loop walks it): read, never written while it is so -/
  | frz (o : Obj) (u : HO)
  /-- a code object's table -/
  | tbl (ps : Array Value)
  /-- any other thing, by what is true of its one object (a def of one's own: SetO a S n := HO.ext fun h => ..) -/
  | ext (φ : Heap → Prop)

abbrev Hp := Addr → Option HO
def upd (H : Hp) (a : Addr) (o : HO) : Hp := fun b => if b = a then some o else H b
theorem upd_same {H : Hp} {a : Addr} {o : HO} : upd H a o a = some o := by unfold upd; rw [if_pos rfl]
theorem upd_ne {H : Hp} {a b : Addr} {o : HO} (h : b ≠ a) : upd H a o b = H b := by unfold upd; rw [if_neg h]
theorem ne_of_none {H : Hp} {a b : Addr} {o : HO} (h : H a = some o) (h' : H b = none) : a ≠ b := by
  intro e; subst e; rw [h] at h'; cases h'

section
variable (P : Program) (w : World)
def ObjOk (H : Hp) (h : Heap) (a : Addr) : HO → Prop
  | .lst xs => xs.length ≤ sizeLine ∧ ∃ (its : List Value) (n : Nat), Vals xs its ∧ h.get? a = some { cls := .type "list", data := .seq its.toArray n }
  | .tup xs => xs.length ≤ sizeLine ∧ ∃ its : List Value, Vals xs its ∧ IsTup h a its.toArray
  | .dK kvs => kvs.length ≤ sizeLine ∧ (a == sysModules) = false ∧ ∃ vs, KV kvs vs ∧ h.DictOf (mixKind P w) a vs
  | .dT kvs => kvs.length ≤ sizeLine ∧ (a == sysModules) = false ∧ ∃ xs : List (List Key × Addr × Value),
      Paired (fun (p : List Key × V) (q : List Key × Addr × Value) => p.1 = q.1 ∧ H q.2.1 = some (.tup (p.1.map kV)) ∧ RelV p.2 q.2.2) kvs xs ∧
      ∃ o es ep, h.get? a = some o ∧ o.ExactDict ∧ o.data = .dict es ep ∧ es.toList = xs.map (entryOfKey (tupleKind (mixKind P w))) ∧ (xs.map (·.1)).Nodup
  | .set S n => h.SetOf (intKind P w) a S n
  | .ins C dx fs => H dx = some (.own a) ∧ fs.length ≤ 1000 ∧ dx ≠ a ∧ h.get? a = some (PySem.W.instObj C dx) ∧
      ∃ mA, h.Ns1 dx mA ∧ (∀ f, RelO (fs.lookup f) (mA f)) ∧ PySem.Within mA (fs.map (·.1))
  | .own _ => ∃ o, h.get? a = some o
  | .xd fs => ∃ mA, h.Ns1 a mA ∧ ∀ f, RelO (fs.lookup f) (mA f)
  | .rng lo hi => ∃ t u v, h.get? a = some { cls := .type "range", data := .fields #[.int lo t, .int hi u, .int 1 v] }
  | .frz o u => h.get? a = some o ∧ ObjOk H h a u
  | .tbl ps => h.get? a = some { cls := .none, data := .fields ps }
  | .met f x => h.get? a = some (PySem.W.methodObj (.ref f) (.ref x))
  | .ext φ => φ h ∧ (∃ o, h.get? a = some o) ∧ ∀ h1 h2 : Heap, φ h1 → (∀ o, h1.get? a = some o → h2.get? a = some o) → φ h2
/-- the abstract heap is held -/
def HOk (H : Hp) (h : Heap) : Prop := ∀ a o, H a = some o → ObjOk P w H h a o
end

section
variable {P : Program} {w : World} {H H' : Hp} {h h' : Heap} {a : Addr} {o : HO}
theorem ObjOk.lt (x : ObjOk P w H h a o) : a < h.objs.size := by
  cases o with
  | lst xs => obtain ⟨_, _, _, _, e⟩ := x; exact Heap.lt_size e
  | tup xs => obtain ⟨_, _, _, p⟩ := x; exact p.lt
  | dK kvs => obtain ⟨_, _, _, _, o, _, _, e, _⟩ := x; exact Heap.lt_size e
  | dT kvs => obtain ⟨_, _, _, _, o, _, _, e, _⟩ := x; exact Heap.lt_size e
  | set S n => obtain ⟨o, _, _, _, e, _⟩ := x; exact Heap.lt_size e
  | ins C dx fs => obtain ⟨_, _, _, e, _⟩ := x; exact Heap.lt_size e
  | own y => obtain ⟨_, e⟩ := x; exact Heap.lt_size e
  | xd fs => obtain ⟨_, ⟨_, _, _, e, _⟩, _⟩ := x; exact Heap.lt_size e
  | rng lo hi => obtain ⟨_, _, _, e⟩ := x; exact Heap.lt_size e
  | frz ob u => obtain ⟨e, _⟩ := x; exact Heap.lt_size e
  | tbl ps => exact Heap.lt_size (show h.get? a = some _ from x)
  | met f y => exact Heap.lt_size (show h.get? a = some _ from x)
  | ext φ => obtain ⟨_, ⟨_, e⟩, _⟩ := x; exact Heap.lt_size e
theorem Paired.mapP {α β : Type} {F G : α → β → Prop} : ∀ {l₁ : List α} {l₂ : List β}, Paired F l₁ l₂ → (∀ a b, F a b → G a b) → Paired G l₁ l₂
  | _, _, .nil, _ => .nil
  | _, _, .cons r t, f => .cons (f _ _ r) (Paired.mapP t f)
/-- what an object's description leans on: its own object, its own dict, the tuples -/
theorem ObjOk.stay (x : ObjOk P w H h a o) (k : ∀ b u, (b = a ∨ H b = some (.own a)) → h.get? b = some u → h'.get? b = some u)
    (ho : ∀ b, H b = some (.own a) → H' b = some (.own a)) (ht : ∀ b xs, H b = some (.tup xs) → H' b = some (.tup xs)) : ObjOk P w H' h' a o := by
  induction o with
  | lst xs => obtain ⟨z, its, n, r, e⟩ := x; exact ⟨z, its, n, r, k _ _ (.inl rfl) e⟩
  | tup xs => obtain ⟨z, its, r, ob, e, c⟩ := x; exact ⟨z, its, r, ob, k _ _ (.inl rfl) e, c⟩
  | dK kvs => obtain ⟨z, y, vs, r, ob, es, ep, e, c⟩ := x; exact ⟨z, y, vs, r, ob, es, ep, k _ _ (.inl rfl) e, c⟩
  | dT kvs =>
    obtain ⟨z, y, xs, r, ob, es, ep, e, c⟩ := x
    exact ⟨z, y, xs, Paired.mapP r fun p q z => ⟨z.1, ht _ _ z.2.1, z.2.2⟩, ob, es, ep, k _ _ (.inl rfl) e, c⟩
  | set S n => obtain ⟨ob, es, ep, t, e, c⟩ := x; exact ⟨ob, es, ep, t, k _ _ (.inl rfl) e, c⟩
  | ins C dx fs =>
    obtain ⟨d, z, ne, e, mA, ⟨od, es, ep, e2, c⟩, r⟩ := x
    exact ⟨ho _ d, z, ne, k _ _ (.inl rfl) e, mA, ⟨od, es, ep, k _ _ (.inr d) e2, c⟩, r⟩
  | own y => obtain ⟨ob, e⟩ := x; exact ⟨ob, k _ _ (.inl rfl) e⟩
  | xd fs => obtain ⟨mA, ⟨od, es, ep, e, c⟩, r⟩ := x; exact ⟨mA, ⟨od, es, ep, k _ _ (.inl rfl) e, c⟩, r⟩
  | rng lo hi => obtain ⟨t, u, v, e⟩ := x; exact ⟨t, u, v, k _ _ (.inl rfl) e⟩
  | frz ob u ih => obtain ⟨e, q⟩ := x; exact ⟨k _ _ (.inl rfl) e, ih q⟩
  | tbl ps =>
    have e : h.get? a = some { cls := .none, data := .fields ps } := x
    show h'.get? a = some { cls := .none, data := .fields ps }
    exact k a _ (.inl rfl) e
  | met f y =>
    have e : h.get? a = some (PySem.W.methodObj (.ref f) (.ref y)) := x
    show h'.get? a = some (PySem.W.methodObj (.ref f) (.ref y))
    exact k a _ (.inl rfl) e
  | ext φ => obtain ⟨p, ⟨o, e⟩, st⟩ := x; exact ⟨st _ _ p fun o q => k _ _ (.inl rfl) q, ⟨o, k _ _ (.inl rfl) e⟩, st⟩
theorem HOk.lt (x : HOk P w H h) (e : H a = some o) : a < h.objs.size := (x a o e).lt
theorem HOk.fresh (x : HOk P w H h) (e : h.objs.size ≤ a) : H a = none := by
  cases q : H a with
  | none => rfl
  | some u => exact absurd (Nat.lt_of_lt_of_le (x.lt q) e) (Nat.lt_irrefl _)
/-- every object of the heap is kept -/
theorem HOk.kept (x : HOk P w H h) (k : ∀ b u, h.get? b = some u → h'.get? b = some u) : HOk P w H h' := fun a o e =>
  (x a o e).stay (fun b u _ q => k b u q) (fun _ q => q) fun _ _ q => q
/-- a new object is laid and tracked -/
theorem HOk.laid (x : HOk P w H h) (k : ∀ b u, h.get? b = some u → h'.get? b = some u) (hp : h.objs.size ≤ a) (new : ObjOk P w (upd H a o) h' a o) : HOk P w (upd H a o) h' := fun b u e => by
  have hn := x.fresh hp
  by_cases hb : b = a
  · subst hb; rw [upd_same] at e; cases e; exact new
  · rw [upd_ne hb] at e
    exact (x b u e).stay (fun c v _ q => k c v q) (fun c q => by rw [upd_ne (ne_of_none q hn)]; exact q) fun c xs q => by rw [upd_ne (ne_of_none q hn)]; exact q
end

/-- what may be read as u: it is u, or a known u -/
def Rd (H : Hp) (a : Addr) (u : HO) : Prop := H a = some u ∨ ∃ o, H a = some (.frz o u)
theorem Rd.of {H : Hp} {a : Addr} {u : HO} (h : H a = some u) : Rd H a u := .inl h
theorem Rd.ok {P : Program} {w : World} {H : Hp} {h : Heap} {a : Addr} {u : HO} (r : Rd H a u) (x : HOk P w H h) : ObjOk P w H h a u := by
  rcases r with r | ⟨o, r⟩
  · exact x a u r
  · obtain ⟨_, q⟩ := x a _ r
    exact q
/-- what may be written -/
def Mut : Option HO → Prop
  | some (.lst _) => True
  | some (.dK _) => True
  | some (.dT _) => True
  | some (.set _ _) => True
  | some (.ins _ _ _) => True
  | some (.ext _) => True
  | _ => False
section
variable {P : Program} {w : World} {H : Hp} {h h' : Heap} {x e : Addr} {o' : HO}
/-- the object at e is changed: x itself, or the dict of the instance x -/
theorem HOk.write (ok : HOk P w H h) (mu : Mut (H x)) (he : e = x ∨ H e = some (.own x)) (k : ∀ b u, b ≠ e → h.get? b = some u → h'.get? b = some u) (heo : ∃ u, h'.get? e = some u)
    (new : ObjOk P w (upd H x o') h' x o') : HOk P w (upd H x o') h' := fun b u q => by
  have nown : ∀ c y, H c = some (.own y) → c ≠ x := fun c y r z => by subst z; rw [r] at mu; exact mu
  have ntup : ∀ c xs, H c = some (.tup xs) → c ≠ x := fun c xs r z => by subst z; rw [r] at mu; exact mu
  by_cases hb : b = x
  · subst hb; rw [upd_same] at q; cases q; exact new
  · rw [upd_ne hb] at q
    by_cases hbe : b = e
    · have q' : H b = some (.own x) := by
        rcases he with z | z
        · exact absurd (hbe.trans z) hb
        · rw [hbe]; exact z
      rw [q] at q'; cases q'
      obtain ⟨v, hv⟩ := heo
      exact ⟨v, by rw [hbe]; exact hv⟩
    · refine (ok b u q).stay (fun c v hc r => k c v ?_ r) (fun c r => by rw [upd_ne (nown c b r)]; exact r) fun c xs r => by rw [upd_ne (ntup c xs r)]; exact r
      rcases hc with rfl | hc
      · exact hbe
      · rintro rfl
        rcases he with z | z
        · exact nown c b hc z
        · rw [hc] at z; cases z; exact hb rfl
end

/-! ### kept unless tracked; of the frames at fs (the callers') the slots may change (an exception that passes writes there); of the records at ex (iterators) nothing is said -/
structure Un (fs ex : List Addr) (H H' : Hp) (h h' : Heap) : Prop where
  keep : ∀ b o, h.get? b = some o → H b = none → b ∉ fs → b ∉ ex → h'.get? b = some o
  slot : ∀ b o, h.get? b = some o → H b = none → b ∈ fs → b ∉ ex → ∃ sl, h'.get? b = some { o with slots := sl }
  free : ∀ b o, h.get? b = some o → H b = none → b ∉ ex → H' b = none
  there : ∀ b o, h.get? b = some o → b ∉ ex → ∃ o', h'.get? b = some o'
  tups : ∀ b xs, H b = some (.tup xs) → H' b = some (.tup xs)
  frzs : ∀ b o u, H b = some (.frz o u) → H' b = some (.frz o u)
  tbls : ∀ b ps, H b = some (.tbl ps) → ∃ more, H' b = some (.tbl (ps ++ more))
section
variable {fs fs' ex ex' : List Addr} {H H1 H2 : Hp} {h h1 h2 h' : Heap} {a x e : Addr} {o : HO}
theorem Un.any (u : Un fs ex H H1 h h1) {b : Addr} {ob : Obj} (q : h.get? b = some ob) (n : H b = none) (hx : b ∉ ex) : ∃ sl, h1.get? b = some { ob with slots := sl } := by
  by_cases hb : b ∈ fs
  · exact u.slot b ob q n hb hx
  · exact ⟨ob.slots, u.keep b ob q n hb hx⟩
theorem Un.trans (a : Un fs ex H H1 h h1) (b : Un fs ex H1 H2 h1 h2) : Un fs ex H H2 h h2 where
  keep := fun c ob q n hc hx => b.keep c ob (a.keep c ob q n hc hx) (a.free c ob q n hx) hc hx
  slot := fun c ob q n hc hx => by
    obtain ⟨sl, e1⟩ := a.slot c ob q n hc hx
    obtain ⟨sl', e2⟩ := b.slot c _ e1 (a.free c ob q n hx) hc hx
    exact ⟨sl', e2⟩
  free := fun c ob q n hx => by
    obtain ⟨o', e1⟩ := a.there c ob q hx
    exact b.free c o' e1 (a.free c ob q n hx) hx
  there := fun c ob q hx => by
    obtain ⟨o', e1⟩ := a.there c ob q hx
    exact b.there c o' e1 hx
  tups := fun c xs q => b.tups c xs (a.tups c xs q)
  frzs := fun c ob xs q => b.frzs c ob xs (a.frzs c ob xs q)
  tbls := fun c ps q => by
    obtain ⟨m1, e1⟩ := a.tbls c ps q
    obtain ⟨m2, e2⟩ := b.tbls c _ e1
    exact ⟨m1 ++ m2, by rw [e2, Array.append_assoc]⟩
theorem Un.kept (k : ∀ b u, h.get? b = some u → h'.get? b = some u) : Un fs ex H H h h' :=
  ⟨fun b ob q _ _ _ => k b ob q, fun b ob q _ _ _ => ⟨ob.slots, k b ob q⟩, fun _ _ _ n _ => n, fun b ob q _ => ⟨ob, k b ob q⟩, fun _ _ q => q, fun _ _ _ q => q, fun _ ps q => ⟨#[], by rw [q]; simp⟩⟩
theorem Un.refl : Un fs ex H H h h := Un.kept fun _ _ q => q
theorem Un.laid (k : ∀ b u, h.get? b = some u → h'.get? b = some u) (hp : h.objs.size ≤ a) (hn : H a = none) : Un fs ex H (upd H a o) h h' where
  keep := fun b u q _ _ _ => k b u q
  slot := fun b u q _ _ _ => ⟨u.slots, k b u q⟩
  free := fun b u q n _ => by rw [upd_ne (Nat.ne_of_lt (Nat.lt_of_lt_of_le (Heap.lt_size q) hp))]; exact n
  there := fun b u q _ => ⟨u, k b u q⟩
  tups := fun b xs q => by rw [upd_ne (ne_of_none q hn)]; exact q
  frzs := fun b u xs q => by rw [upd_ne (ne_of_none q hn)]; exact q
  tbls := fun b ps q => ⟨#[], by rw [upd_ne (ne_of_none q hn), q]; simp⟩
theorem Un.write (mu : Mut (H x)) (he : e = x ∨ H e = some (.own x)) (k : ∀ b u, b ≠ e → h.get? b = some u → h'.get? b = some u) (heo : ∃ u, h'.get? e = some u) : Un fs ex H (upd H x o) h h' := by
  have hx : ∀ b, H b = none → b ≠ x := fun b n z => by subst z; rw [n] at mu; exact mu
  have hb : ∀ b, H b = none → b ≠ e := fun b n z => by
    subst z
    rcases he with r | r
    · exact hx b n r
    · rw [n] at r; cases r
  have hm : ∀ b u, H b = some u → ¬ Mut (some u) → b ≠ x := fun b u q nm z => by subst z; rw [q] at mu; exact nm mu
  refine ⟨fun b u q n _ _ => k b u (hb b n) q, fun b u q n _ _ => ⟨u.slots, k b u (hb b n) q⟩, fun b u q n _ => by rw [upd_ne (hx b n)]; exact n, fun b u q _ => ?_,
    fun b xs q => by rw [upd_ne (hm b _ q fun z => z)]; exact q, fun b u xs q => by rw [upd_ne (hm b _ q fun z => z)]; exact q, fun b ps q => ⟨#[], by rw [upd_ne (hm b _ q fun z => z), q]; simp⟩⟩
  by_cases hbe : b = e
  · subst hbe; exact heo
  · exact ⟨u, k b u hbe q⟩
theorem Un.mono (u : Un fs ex H H1 h h1) (hs : ∀ b ∈ fs, b ∈ fs') (hx : ∀ b ∈ ex, b ∈ ex') : Un fs' ex' H H1 h h1 :=
  ⟨fun b ob q n hb he => u.keep b ob q n (fun z => hb (hs b z)) fun z => he (hx b z), fun _ _ q n _ he => u.any q n fun z => he (hx _ z), fun b ob q n he => u.free b ob q n fun z => he (hx b z), fun b ob q he => u.there b ob q fun z => he (hx b z), u.tups, u.frzs, u.tbls⟩
end

/-! ### the heap without what is tracked -/
def trk (h : Heap) (H : Hp) : List Addr := (List.range h.objs.size).filter fun a => (H a).isSome
def hidT (h : Heap) (H : Hp) : Heap := PySem.W.hideAll h (trk h H)
theorem hidT_size (h : Heap) (H : Hp) : (hidT h H).objs.size = h.objs.size := PySem.W.hideAll_size _ _
theorem hidT_get {h : Heap} {H : Hp} {b : Addr} {o : Obj} (e : h.get? b = some o) (n : H b = none) : (hidT h H).get? b = some o :=
  PySem.W.hideAll_get _ e fun hm => by
    have q : (H b).isSome = true := (List.mem_filter.mp hm).2
    rw [n] at q; simp at q
theorem of_hidT {h : Heap} {H : Hp} {b : Addr} {o : Obj} (e : (hidT h H).get? b = some o) : h.get? b = some o ∧ H b = none := by
  have e' : h.get? b = some o := PySem.W.of_hideAll (trk h H) e
  refine ⟨e', ?_⟩
  cases q : H b with
  | none => rfl
  | some x =>
    have hm : b ∈ trk h H := List.mem_filter.mpr ⟨List.mem_range.mpr (Heap.lt_size e'), by simp [q]⟩
    have z : (hidT h H).get? b = none := PySem.W.hideAll_none (trk h H) hm
    rw [z] at e; cases e

/-! ### OpenK's ledger, filled with every new object but one -/
def allNews (g h : Heap) (L : Addr) : List (Addr × Obj) := (List.range h.objs.size).filterMap fun a => if a = L ∨ (g.get? a).isSome = true then none else (h.get? a).map fun o => (a, o)
def rest (g h : Heap) (L d : Addr) : List (Addr × Obj) := (allNews g h L).filter fun p => decide (p.1 ≠ d)
end L2

namespace L2
open PySem PySem.Spec PyProof.Rows

/-- the module's facts, over the base: the heap at the law's entry without what is tracked there -/
structure Mod (K : PySem.W.Frag) (mg : Str → Option Value) (base : Heap) : Prop where
  kin : K.In base
  glob : base.Ns mainGlobals mg
  blt : ∃ mb, base.Ns builtinsNs mb ∧ ∀ x : Str, x ≠ "__name__" → mb x = bootBuiltins x
  nolimit : base.NoLimit

/-- the context: a def's body (or a comprehension's block) running. base: fixed through the whole law; s₀, H₀: the entry; outer: the frames whose slots others may change (a def's callers); stack: all frames that run;
   ex: iterators that were made ahead of the entry and are walked here (a comprehension's); fn: the names whose cells were made at the entry (a def: all; a comprehension's block: its own); calm: not within an except suite; pn: pins that every state bears; xe: what is wanted of an exception that leaves the code -/
structure Cx where
  prog : Program
  w : World
  K : PySem.W.Frag
  mg : Str → Option Value
  base : Heap
  A : Around
  N : List Str
  s₀ : Shared
  H₀ : Hp
  env : Env
  outer : List Env
  stack : List Env
  ex : List Addr
  fn : Str → Bool
  calm : Bool
  pn : List (Addr × Obj)
  xe : Value → Shared → Prop
/-- the callers' frames -/
def frs (l : List Env) : List Addr := l.filterMap (·.frame)
abbrev Cx.fs (X : Cx) : List Addr := frs X.outer

def Vis (sc : Scope) (x : Str) : Prop := sc.names.lookup x = some .local ∨ sc.names.lookup x = some .cell ∨ sc.names.lookup x = some .free
def Loc (sc : Scope) (x : Str) : Prop := sc.names.lookup x = some .local ∨ sc.names.lookup x = some .cell
def Look (env : Env) (h : Heap) (m : Str → Option Value) (x : Str) (u : Value) : Prop :=
  (env.kindOf x = some .local ∧ m x = some u) ∨ ((env.kindOf x = some .cell ∨ env.kindOf x = some .free) ∧ ∃ c, env.cells.lookup x = some c ∧ h.IsCell c (some u))

structure Cx.Ok (X : Cx) : Prop where
  mod : Mod X.K X.mg X.base
  kind : X.env.scope.kind = .function
  glob : X.env.globals = mainGlobals
  blt : X.env.builtins = builtinsNs
  above : X.s₀.heap.objs.size ≤ X.env.locals
  inj : ∀ x y c, X.env.cells.lookup x = some c → X.env.cells.lookup y = some c → x = y
  has : ∀ x, (X.env.kindOf x = some .cell ∨ X.env.kindOf x = some .free) → ∃ c, X.env.cells.lookup x = some c
  cab : ∀ x c, X.fn x = true → X.env.cells.lookup x = some c → X.s₀.heap.objs.size ≤ c
  hd : X.calm = true → X.A.handled = none
  frames : X.A.frames = some X.stack
  stk : X.stack = X.outer ∨ (X.stack = X.env :: X.outer ∧ X.env.frame = some X.env.locals)
  exf : ∀ b ∈ X.ex, b ≠ X.env.locals ∧ ∀ x c, X.env.cells.lookup x = some c → c ≠ b
  bs : ∀ b o, X.base.get? b = some o → X.s₀.heap.get? b = some o ∧ X.H₀ b = none
  bsz : X.base.objs.size ≤ X.s₀.heap.objs.size
  noex : ∀ b o, X.base.get? b = some o → b ∉ X.ex
  exfs : ∀ b ∈ X.ex, b ∉ X.fs
  funs : X.s₀.heap.FunFrames X.base X.outer
  frf : ∀ b ∈ X.fs, X.H₀ b = none

structure Inv (X : Cx) (pins : List (Addr × Obj)) (σ : List (Option V)) (H : Hp) (s : Shared) : Prop where
  ok : X.Ok
  os : s.os = X.s₀.os
  bare : AllBare s.gens
  base : Un X.fs X.ex X.H₀ H X.s₀.heap s.heap
  loc : ∃ m, s.heap.Ns X.env.locals m ∧ ∀ (i : Nat) (x : Str) (v : V), X.N[i]? = some x → σ[i]? = some (some v) → Vis X.env.scope x → ∃ u, RelV v u ∧ Look X.env s.heap m x u
  cell : ∀ x c, X.env.cells.lookup x = some c → ∃ v, s.heap.IsCell c v
  free : H X.env.locals = none
  freeC : ∀ x c, X.env.cells.lookup x = some c → H c = none
  pin : ∀ p ∈ X.pn ++ pins, s.heap.get? p.1 = some p.2 ∧ H p.1 = none ∧ p.1 ≠ X.env.locals ∧ p.1 ∉ X.fs ∧ ∀ v, p.2.data ≠ .cell v
  hok : HOk X.prog X.w H s.heap
  len : σ.length = X.N.length

section
variable {X : Cx} {pins : List (Addr × Obj)} {σ : List (Option V)} {H H' : Hp} {s : Shared} {h' : Heap}

theorem Cx.Ok.nofr (ok : X.Ok) {b : Addr} {o : Obj} (e : X.base.get? b = some o) : b ∉ X.fs := fun hb => by
  have := (ok.funs.mem hb).1
  rw [e] at this; cases this
theorem Inv.bs (I : Inv X pins σ H s) : ∀ b o, X.base.get? b = some o → s.heap.get? b = some o ∧ H b = none := fun b o e =>
  ⟨I.base.keep b o (I.ok.bs b o e).1 (I.ok.bs b o e).2 (I.ok.nofr e) (I.ok.noex b o e), I.base.free b o (I.ok.bs b o e).1 (I.ok.bs b o e).2 (I.ok.noex b o e)⟩
theorem Inv.bk (I : Inv X pins σ H s) : ∀ b o, X.base.get? b = some o → s.heap.get? b = some o := fun b o e => (I.bs b o e).1
theorem Inv.mod (I : Inv X pins σ H s) : Mod X.K X.mg X.base := I.ok.mod
theorem Inv.kIn (I : Inv X pins σ H s) : X.K.In s.heap := I.ok.mod.kin.keeps I.bk
theorem Inv.nolimit (I : Inv X pins σ H s) : s.heap.NoLimit := I.ok.mod.nolimit.keeps I.bk
/-- the frame over the base: for OpenK's rules (K.In X.base is I.mod.kin) -/
theorem Inv.fr (I : Inv X pins σ H s) : ∃ m, Fr X.base X.env.locals s.heap m :=
  let ⟨m, hn, _⟩ := I.loc
  ⟨m, hn, I.bk, Nat.le_trans I.ok.bsz I.ok.above⟩
theorem Inv.lt (I : Inv X pins σ H s) : X.env.locals < s.heap.objs.size := let ⟨_, hn, _⟩ := I.loc; hn.lt
theorem Inv.sz (I : Inv X pins σ H s) : X.s₀.heap.objs.size ≤ s.heap.objs.size := Nat.le_trans I.ok.above (Nat.le_of_lt I.lt)
theorem Inv.nofs (I : Inv X pins σ H s) {a : Addr} (h : s.heap.objs.size ≤ a) : a ∉ X.fs := fun hb => by
  obtain ⟨_, o, ho, _⟩ := I.ok.funs.mem hb
  exact absurd (Nat.lt_of_lt_of_le (Heap.lt_size ho) (Nat.le_trans I.sz h)) (Nat.lt_irrefl _)
theorem Inv.cne (I : Inv X pins σ H s) : ∀ x c, X.env.cells.lookup x = some c → c ≠ X.env.locals := fun x c e z => by
  obtain ⟨v, o, ho, hd⟩ := I.cell x c e
  obtain ⟨m, ⟨o', es, ep, ho', hd', _⟩, _⟩ := I.loc
  rw [z, ho'] at ho; cases ho; rw [hd'] at hd; cases hd
theorem Inv.funs (I : Inv X pins σ H s) : s.heap.FunFrames X.base X.outer := by
  have all : ∀ (l : List Env), (∀ b ∈ frs l, b ∈ X.fs) → X.s₀.heap.FunFrames X.base l → s.heap.FunFrames X.base l := by
    intro l
    induction l with
    | nil => intro _ _; trivial
    | cons env r ih =>
      intro hs hl
      obtain ⟨hk, ⟨L, o, hf, hn, ho, hd⟩, hr⟩ := hl
      have hL : L ∈ X.fs := hs L (by unfold frs; rw [List.filterMap_cons, hf]; exact List.mem_cons_self)
      obtain ⟨sl, e⟩ := I.base.slot L o ho (I.ok.frf L hL) hL fun z => I.ok.exfs L z hL
      exact ⟨hk, ⟨L, _, hf, hn, e, hd⟩, ih (fun b hb => hs b (by unfold frs; rw [List.filterMap_cons, hf]; exact List.mem_cons_of_mem _ hb)) hr⟩
  exact all X.outer (fun _ hb => hb) I.ok.funs

/-- the frames that run, for a call -/
theorem Inv.stack (I : Inv X pins σ H s) : s.heap.FunFrames X.base X.stack := by
  rcases I.ok.stk with e | ⟨e, hf⟩
  · rw [e]; exact I.funs
  · rw [e]
    obtain ⟨m, hn, _⟩ := I.loc
    refine .cons (by rw [I.ok.kind]; decide) hf hn ?_ I.funs
    exact Heap.get?_none_of_le (Nat.le_trans I.ok.bsz I.ok.above)
theorem Inv.stkSub (I : Inv X pins σ H s) : ∀ b ∈ frs X.stack, b ∈ X.env.locals :: X.fs := fun b hb => by
  rcases I.ok.stk with e | ⟨e, hf⟩
  · rw [e] at hb; exact List.mem_cons_of_mem _ hb
  · rw [e] at hb
    unfold frs at hb
    rw [List.filterMap_cons, hf] at hb
    exact hb
theorem Inv.stkFree (I : Inv X pins σ H s) : ∀ b ∈ frs X.stack, H b = none := fun b hb => by
  rcases List.mem_cons.mp (I.stkSub b hb) with e | hb
  · rw [e]; exact I.free
  · obtain ⟨_, o, ho, _⟩ := I.ok.funs.mem hb
    exact I.base.free b o ho (I.ok.frf b hb) fun z => I.ok.exfs b z hb

/-- THE STEP: the untracked objects but the frame and the records at ch are kept (the callers' frames up to slots), the frame's map is kept, the new abstract heap is held -/
theorem Inv.step {g' : Array GenState} {t' : Nat} {d' : Drawn} {ch : List Addr} (I : Inv X pins σ H s)
    (hch : ∀ b ∈ ch, (b ∈ X.ex ∨ X.s₀.heap.objs.size ≤ b) ∧ b ≠ X.env.locals ∧ (∀ x c, X.env.cells.lookup x = some c → c ≠ b) ∧ ∀ p ∈ X.pn ++ pins, p.1 ≠ b)
    (keep : ∀ b o, b ≠ X.env.locals → b ∉ X.fs → b ∉ ch → s.heap.get? b = some o → H b = none → h'.get? b = some o)
    (slot : ∀ b o, b ≠ X.env.locals → b ∈ X.fs → b ∉ ch → s.heap.get? b = some o → H b = none → ∃ sl, h'.get? b = some { o with slots := sl }) (free : ∀ b o, b ∉ ch → s.heap.get? b = some o → H b = none → H' b = none)
    (there : ∀ b o, b ∉ ch → s.heap.get? b = some o → ∃ o', h'.get? b = some o')
    (tups : ∀ b xs, H b = some (.tup xs) → H' b = some (.tup xs)) (frzs : ∀ b o u, H b = some (.frz o u) → H' b = some (.frz o u)) (tbls : ∀ b ps, H b = some (.tbl ps) → ∃ more, H' b = some (.tbl (ps ++ more)))
    (ns : ∀ m, s.heap.Ns X.env.locals m → h'.Ns X.env.locals m) (hok : HOk X.prog X.w H' h') (hg : AllBare g') :
    Inv X pins σ H' { s with heap := h', gens := g', drawn := d', toks := t' } := by
  have neL : ∀ b o, X.s₀.heap.get? b = some o → b ≠ X.env.locals := fun b o e => Nat.ne_of_lt (Nat.lt_of_lt_of_le (Heap.lt_size e) I.ok.above)
  have neC : ∀ b o, X.s₀.heap.get? b = some o → b ∉ X.ex → b ∉ ch := fun b o e hx hb => by
    rcases (hch b hb).1 with z | z
    · exact hx z
    · exact absurd (Nat.lt_of_lt_of_le (Heap.lt_size e) z) (Nat.lt_irrefl _)
  have cellK : ∀ x c, X.env.cells.lookup x = some c → ∀ v, s.heap.IsCell c v → h'.IsCell c v := fun x c e v ⟨o, ho, hd⟩ => by
    have nch : c ∉ ch := fun z => (hch c z).2.2.1 x c e rfl
    by_cases hc : c ∈ X.fs
    · obtain ⟨sl, q⟩ := slot c o (I.cne x c e) hc nch ho (I.freeC x c e)
      exact ⟨_, q, hd⟩
    · exact ⟨o, keep c o (I.cne x c e) hc nch ho (I.freeC x c e), hd⟩
  refine ⟨I.ok, I.os, hg, ⟨fun b o e n hb hx => ?_, fun b o e n hb hx => ?_, fun b o e n hx => ?_, fun b o e hx => ?_, fun b xs e => tups b xs (I.base.tups b xs e), fun b o xs e => frzs b o xs (I.base.frzs b o xs e), fun b ps e => ?_⟩, ?_, fun x c e => ?_, ?_, fun x c e => ?_, fun p hp => ?_, hok, I.len⟩
  · exact keep b o (neL b o e) hb (neC b o e hx) (I.base.keep b o e n hb hx) (I.base.free b o e n hx)
  · obtain ⟨sl, e1⟩ := I.base.slot b o e n hb hx
    obtain ⟨sl', e2⟩ := slot b _ (neL b o e) hb (neC b o e hx) e1 (I.base.free b o e n hx)
    exact ⟨sl', e2⟩
  · obtain ⟨o', e1⟩ := I.base.there b o e hx
    exact free b o' (neC b o e hx) e1 (I.base.free b o e n hx)
  · obtain ⟨o', e1⟩ := I.base.there b o e hx
    exact there b o' (neC b o e hx) e1
  · obtain ⟨m1, e1⟩ := I.base.tbls b ps e
    obtain ⟨m2, e2⟩ := tbls b _ e1
    exact ⟨m1 ++ m2, by rw [e2, Array.append_assoc]⟩
  · obtain ⟨m, hn, hl⟩ := I.loc
    refine ⟨m, ns m hn, fun i x v e1 e2 e3 => ?_⟩
    obtain ⟨u, r, l⟩ := hl i x v e1 e2 e3
    refine ⟨u, r, ?_⟩
    rcases l with l | ⟨k, c, e, z⟩
    · exact .inl l
    · exact .inr ⟨k, c, e, cellK x c e _ z⟩
  · obtain ⟨v, z⟩ := I.cell x c e
    exact ⟨v, cellK x c e v z⟩
  · obtain ⟨m, ⟨o, _, _, ho, _⟩, _⟩ := I.loc
    exact free _ o (fun z => (hch _ z).2.1 rfl) ho I.free
  · obtain ⟨v, o, ho, hd⟩ := I.cell x c e
    exact free c o (fun z => (hch c z).2.2.1 x c e rfl) ho (I.freeC x c e)
  · obtain ⟨e, n, ne, nf, d⟩ := I.pin p hp
    have nch : p.1 ∉ ch := fun z => (hch p.1 z).2.2.2 p hp rfl
    exact ⟨keep p.1 p.2 ne nf nch e n, free p.1 p.2 nch e n, ne, nf, d⟩
/-- .. where the frame's own object is kept too -/
theorem Inv.un {t' : Nat} (I : Inv X pins σ H s) (u : Un X.fs [] H H' s.heap h') (hok : HOk X.prog X.w H' h') : Inv X pins σ H' { s with heap := h', toks := t' } := by
  obtain ⟨m, ⟨o, es, ep, ho, r⟩, _⟩ := id I.loc
  obtain ⟨sl, hL⟩ := u.any ho I.free (by simp)
  exact I.step (g' := s.gens) (d' := s.drawn) (ch := []) (fun _ z => nomatch z) (fun b o _ hb _ e n => u.keep b o e n hb (by simp)) (fun b o _ hb _ e n => u.slot b o e n hb (by simp)) (fun b o _ e n => u.free b o e n (by simp)) (fun b o _ e => u.there b o e (by simp)) u.tups u.frzs u.tbls (fun m' hm => by
    obtain ⟨o', es', ep', ho', r'⟩ := hm
    rw [ho] at ho'; cases ho'
    exact ⟨_, es', ep', hL, r'⟩) hok I.bare
/-- behind a call (or a comprehension's block): the slots of this frame may have changed too, the records at ch may have turned -/
theorem Inv.call {g' : Array GenState} {t' : Nat} {d' : Drawn} {ch : List Addr} (I : Inv X pins σ H s) (u : Un (frs X.stack) ch H H' s.heap h') (hok : HOk X.prog X.w H' h') (hg : AllBare g')
    (hch : ∀ b ∈ ch, (b ∈ X.ex ∨ X.s₀.heap.objs.size ≤ b) ∧ b ≠ X.env.locals ∧ (∀ x c, X.env.cells.lookup x = some c → c ≠ b) ∧ ∀ p ∈ X.pn ++ pins, p.1 ≠ b) :
    Inv X pins σ H' { s with heap := h', gens := g', drawn := d', toks := t' } := by
  obtain ⟨m, ⟨o, es, ep, ho, r⟩, _⟩ := id I.loc
  obtain ⟨sl, hL⟩ := u.any ho I.free fun z => (hch _ z).2.1 rfl
  exact I.step (ch := ch) hch (fun b o hL hb hc e n => u.keep b o e n (fun z => (List.mem_cons.mp (I.stkSub b z)).elim hL hb) hc) (fun b o _ _ hc e n => u.any e n hc) (fun b o hc e n => u.free b o e n hc) (fun b o hc e => u.there b o e hc) u.tups u.frzs u.tbls (fun m' hm => by
    obtain ⟨o', es', ep', ho', r'⟩ := hm
    rw [ho] at ho'; cases ho'
    exact ⟨_, es', ep', hL, r'⟩) hok hg
/-- an untracked record of ours (an iterator) has turned -/
theorem Inv.turned {t' : Nat} {it : Addr} (I : Inv X pins σ H s) (k : ∀ b o, b ≠ it → s.heap.get? b = some o → h'.get? b = some o) (hn : H it = none) (hL : it ≠ X.env.locals)
    (h1 : it ∈ X.ex ∨ X.s₀.heap.objs.size ≤ it) (h2 : ∀ x c, X.env.cells.lookup x = some c → c ≠ it) (h3 : ∀ p ∈ X.pn ++ pins, p.1 ≠ it) : Inv X pins σ H { s with heap := h', toks := t' } := by
  have nit : ∀ b u, H b = some u → b ≠ it := fun b u e z => by rw [z, hn] at e; cases e
  refine I.step (g' := s.gens) (d' := s.drawn) (ch := [it]) (fun b hb => ?_) (fun b o _ _ hc e _ => k b o (fun z => hc (by simp [z])) e) (fun b o _ _ hc e _ => ⟨o.slots, k b o (fun z => hc (by simp [z])) e⟩) (fun _ _ _ _ n => n)
    (fun b o hc e => ⟨o, k b o (fun z => hc (by simp [z])) e⟩) (fun _ _ e => e) (fun _ _ _ e => e) (fun b ps e => ⟨#[], by rw [e]; simp⟩) (fun m hm => ?_) (fun b u e => ?_) I.bare
  · have e : b = it := by simpa using hb
    subst e
    exact ⟨h1, hL, h2, h3⟩
  · obtain ⟨o, es, ep, ho, r⟩ := hm
    exact ⟨o, es, ep, k _ o (Ne.symm hL) ho, r⟩
  · refine (I.hok b u e).stay (fun c v hc q => k c v ?_ q) (fun _ q => q) fun _ _ q => q
    rcases hc with z | z
    · rw [z]; exact nit b u e
    · exact nit c _ z
theorem Inv.tok (I : Inv X pins σ H s) (t : Nat) : Inv X pins σ H { s with toks := t } := I.un (h' := s.heap) (t' := t) Un.refl I.hok
/-- all objects kept -/
theorem Inv.kept {t' : Nat} (I : Inv X pins σ H s) (k : ∀ b u, s.heap.get? b = some u → h'.get? b = some u) : Inv X pins σ H { s with heap := h', toks := t' } := I.un (Un.kept k) (I.hok.kept k)
/-- a new object laid and tracked -/
theorem Inv.laid {a : Addr} {o : HO} {t' : Nat} (I : Inv X pins σ H s) (k : ∀ b u, s.heap.get? b = some u → h'.get? b = some u) (hp : s.heap.objs.size ≤ a) (new : ObjOk X.prog X.w (upd H a o) h' a o) :
    Inv X pins σ (upd H a o) { s with heap := h', toks := t' } := I.un (Un.laid k hp (I.hok.fresh hp)) (I.hok.laid k hp new)
/-- an object written -/
theorem Inv.write {x e : Addr} {o : HO} {t' : Nat} (I : Inv X pins σ H s) (mu : Mut (H x)) (he : e = x ∨ H e = some (.own x)) (k : ∀ b u, b ≠ e → s.heap.get? b = some u → h'.get? b = some u) (heo : ∃ u, h'.get? e = some u)
    (new : ObjOk X.prog X.w (upd H x o) h' x o) : Inv X pins σ (upd H x o) { s with heap := h', toks := t' } := I.un (Un.write mu he k heo) (I.hok.write mu he k heo new)
theorem Inv.pins_of {pins' : List (Addr × Obj)} (I : Inv X pins σ H s) (h : ∀ p ∈ pins', s.heap.get? p.1 = some p.2 ∧ H p.1 = none ∧ p.1 ≠ X.env.locals ∧ p.1 ∉ X.fs ∧ ∀ v, p.2.data ≠ .cell v) : Inv X pins' σ H s :=
  ⟨I.ok, I.os, I.bare, I.base, I.loc, I.cell, I.free, I.freeC, fun p hp => (List.mem_append.mp hp).elim (fun z => I.pin p (List.mem_append_left _ z)) (h p), I.hok, I.len⟩

theorem nodup_ix {N : List Str} (hN : N.Nodup) {i j : Nat} {x : Str} (a : N[i]? = some x) (b : N[j]? = some x) : i = j := by
  obtain ⟨h1, e1⟩ := List.getElem?_eq_some_iff.mp a
  obtain ⟨h2, e2⟩ := List.getElem?_eq_some_iff.mp b
  exact (List.getElem_inj hN).mp (e1.trans e2.symm)

/-- a name is stored; what changed -/
theorem store_ok2 {M : Model} {A : Around} {E : Value → Shared → Prop} {i : Nat} {x : Str} {v : V} {u : Value} {Q : Unit → Shared → Prop} (I : Inv X pins σ H s) (hN : X.N.Nodup) (hi : X.N[i]? = some x) (hx : Loc X.env.scope x) (r : RelV v u)
    (h : ∀ s', Inv X pins (σ.set i (some v)) H s' → (∃ a, Heap.SameBut a s.heap s'.heap ∧ (a = X.env.locals ∨ X.env.cells.lookup x = some a)) → Q () s') (hf : X.fn x = true ∨ X.env.scope.names.lookup x = some .local := by first | exact .inl rfl | exact .inr rfl | assumption) : wpAny M A (storeName X.env x u) Q E s := by
  obtain ⟨m, hn, hl⟩ := id I.loc
  have hcls : (X.env.scope.kind == .class || (X.env.scope.kind == .module && X.env.locals != X.env.globals)) = false := by rw [I.ok.kind]; rfl
  have hiσ : i < σ.length := by rw [I.len]; exact (List.getElem?_eq_some_iff.mp hi).1
  have cne := I.cne
  have tracked : ∀ {a : Addr} {h' : Heap}, (∃ o, s.heap.get? a = some o ∧ H a = none) → Heap.SameBut a s.heap h' → HOk X.prog X.w H h' := fun {a h'} ha hs b ob e => by
    obtain ⟨_, _, hfree⟩ := ha
    refine (I.hok b ob e).stay (fun c w' hc q => (hs.2 c ?_).trans q) (fun _ q => q) fun _ _ q => q
    rintro rfl
    rcases hc with rfl | hc
    · rw [hfree] at e; cases e
    · rw [hfree] at hc; cases hc
  rcases hx with hk | hk
  · refine wpAny_storeName_local hk hn (fun h' hn' hs => ?_) hcls
    obtain ⟨oL, _, _, hoL, _⟩ := id hn
    refine h _ ⟨I.ok, I.os, I.bare, ⟨fun b o e n hb hx => ?_, fun b o e n hb hx => ?_, I.base.free, fun b o e hx => ?_, I.base.tups, I.base.frzs, I.base.tbls⟩, ⟨_, hn', fun j y v' e1 e2 e3 => ?_⟩, fun y c e => ?_, I.free, I.freeC, fun p hp => ?_, tracked ⟨oL, hoL, I.free⟩ hs, by simpa using I.len⟩ ⟨_, hs, .inl rfl⟩
    · exact (hs.2 b (Nat.ne_of_lt (Nat.lt_of_lt_of_le (Heap.lt_size e) I.ok.above))).trans (I.base.keep b o e n hb hx)
    · obtain ⟨sl, e1⟩ := I.base.slot b o e n hb hx
      exact ⟨sl, (hs.2 b (Nat.ne_of_lt (Nat.lt_of_lt_of_le (Heap.lt_size e) I.ok.above))).trans e1⟩
    · obtain ⟨o', e1⟩ := I.base.there b o e hx
      exact ⟨o', (hs.2 b (Nat.ne_of_lt (Nat.lt_of_lt_of_le (Heap.lt_size e) I.ok.above))).trans e1⟩
    · by_cases hj : j = i
      · subst hj
        rw [hi] at e1; cases e1
        rw [List.getElem?_set_self hiσ] at e2
        cases e2
        exact ⟨u, r, .inl ⟨hk, by simp⟩⟩
      · rw [List.getElem?_set_ne (Ne.symm hj)] at e2
        obtain ⟨u', r', q⟩ := hl j y v' e1 e2 e3
        refine ⟨u', r', ?_⟩
        rcases q with ⟨k, e⟩ | ⟨k, c, e, z⟩
        · refine .inl ⟨k, ?_⟩
          have : y ≠ x := fun e => hj (nodup_ix hN e1 (e ▸ hi))
          simp [this, e]
        · exact .inr ⟨k, c, e, z.sameBut hs (cne y c e)⟩
    · obtain ⟨w', z⟩ := I.cell y c e
      exact ⟨w', z.sameBut hs (cne y c e)⟩
    · obtain ⟨e, n, ne, nf, d⟩ := I.pin p hp
      exact ⟨(hs.2 p.1 ne).trans e, n, ne, nf, d⟩
  · have hfn : X.fn x = true := by
      rcases hf with z | z
      · exact z
      · rw [z] at hk; cases hk
    obtain ⟨c, hc⟩ := I.ok.has x (.inl hk)
    obtain ⟨w', z⟩ := I.cell x c hc
    refine wpAny_storeName_cell I.ok.kind hk hc z (fun h' hc' hs => ?_)
    obtain ⟨oc, hoc, hocd⟩ := id z
    refine h { s with heap := h' } ⟨I.ok, I.os, I.bare, ⟨fun b o e n hb hx => ?_, fun b o e n hb hx => ?_, I.base.free, fun b o e hx => ?_, I.base.tups, I.base.frzs, I.base.tbls⟩, ⟨m, hn.sameBut hs (Ne.symm (cne x c hc)), fun j y v' e1 e2 e3 => ?_⟩, fun y c' e => ?_, I.free, I.freeC, fun p hp => ?_, tracked ⟨oc, hoc, I.freeC x c hc⟩ hs, by simpa using I.len⟩ ⟨c, hs, .inr hc⟩
    · exact (hs.2 b (Nat.ne_of_lt (Nat.lt_of_lt_of_le (Heap.lt_size e) (I.ok.cab x c hfn hc)))).trans (I.base.keep b o e n hb hx)
    · obtain ⟨sl, e1⟩ := I.base.slot b o e n hb hx
      exact ⟨sl, (hs.2 b (Nat.ne_of_lt (Nat.lt_of_lt_of_le (Heap.lt_size e) (I.ok.cab x c hfn hc)))).trans e1⟩
    · obtain ⟨o', e1⟩ := I.base.there b o e hx
      exact ⟨o', (hs.2 b (Nat.ne_of_lt (Nat.lt_of_lt_of_le (Heap.lt_size e) (I.ok.cab x c hfn hc)))).trans e1⟩
    · by_cases hj : j = i
      · subst hj
        rw [hi] at e1; cases e1
        rw [List.getElem?_set_self hiσ] at e2
        cases e2
        exact ⟨u, r, .inr ⟨.inl hk, c, hc, hc'⟩⟩
      · rw [List.getElem?_set_ne (Ne.symm hj)] at e2
        obtain ⟨u', r', q⟩ := hl j y v' e1 e2 e3
        refine ⟨u', r', ?_⟩
        rcases q with q | ⟨k, c', e, z'⟩
        · exact .inl q
        · refine .inr ⟨k, c', e, z'.sameBut hs ?_⟩
          rintro rfl
          exact hj (nodup_ix hN e1 (I.ok.inj _ _ _ e hc ▸ hi))
    · by_cases hcc : c' = c
      · subst hcc; exact ⟨_, hc'⟩
      · obtain ⟨w2, z2⟩ := I.cell y c' e
        exact ⟨w2, z2.sameBut hs hcc⟩
    · obtain ⟨e, n, ne, nf, d⟩ := I.pin p hp
      refine ⟨(hs.2 p.1 ?_).trans e, n, ne, nf, d⟩
      intro q
      rw [q, hoc] at e
      have q' : oc = p.2 := Option.some.inj e
      exact d w' (by rw [← q']; exact hocd)
theorem store_ok {M : Model} {A : Around} {E : Value → Shared → Prop} {i : Nat} {x : Str} {v : V} {u : Value} {Q : Unit → Shared → Prop} (I : Inv X pins σ H s) (hN : X.N.Nodup) (hi : X.N[i]? = some x) (hx : Loc X.env.scope x) (r : RelV v u)
    (h : ∀ s', Inv X pins (σ.set i (some v)) H s' → Q () s') (hf : X.fn x = true ∨ X.env.scope.names.lookup x = some .local := by first | exact .inl rfl | exact .inr rfl | assumption) : wpAny M A (storeName X.env x u) Q E s :=
  store_ok2 I hN hi hx r (fun s' I' _ => h s' I') hf
end

/-! ### the judgements -/
/-- an exception: its class, its own dict's address (where it has one), the abstract heap behind it -/
abbrev XK := Value → Option Addr → Hp → Prop
abbrev St := List (Option V)
abbrev VK := V → Hp → Prop
/-- an expression's reading; a test's; an argument list's -/
abbrev TE := St → Hp → VK → Prop
abbrev TT := St → Hp → (Bool → Hp → Prop) → Prop
abbrev TA := St → Hp → (List V → Hp → Prop) → Prop
/-- what is wanted behind a statement -/
structure Ends where
  nx : St → Hp → Prop
  rt : VK
  bk : St → Hp → Prop := fun _ _ => False
  ct : St → Hp → Prop := fun _ _ => False
abbrev TS := Ends → St → Hp → Prop

def EP (X : Cx) (pins : List (Addr × Obj)) (σ : St) (Q : VK) (u : Value) (s' : Shared) : Prop := ∃ v H', Inv X pins σ H' s' ∧ RelV v u ∧ Q v H'
def TP (X : Cx) (pins : List (Addr × Obj)) (σ : St) (Q : Bool → Hp → Prop) (b : Bool) (s' : Shared) : Prop := ∃ H', Inv X pins σ H' s' ∧ Q b H'
def AP (X : Cx) (pins : List (Addr × Obj)) (σ : St) (Q : List V → Hp → Prop) (us : List Value) (s' : Shared) : Prop := ∃ vs H', Inv X pins σ H' s' ∧ Vals vs us ∧ Q vs H'
def SP (X : Cx) (pins : List (Addr × Obj)) (D : Ends) (f : Flow) (s' : Shared) : Prop :=
  match f with
  | .next => ∃ σ' H', Inv X pins σ' H' s' ∧ D.nx σ' H'
  | .brk => ∃ σ' H', Inv X pins σ' H' s' ∧ D.bk σ' H'
  | .cont => ∃ σ' H', Inv X pins σ' H' s' ∧ D.ct σ' H'
  | .ret u => ∃ v σ' H', Inv X pins σ' H' s' ∧ RelV v u ∧ D.rt v H'

def PE (X : Cx) (e : Expr) (t : TE) : Prop :=
  ∀ (pins : List (Addr × Obj)) (s : Shared) (σ : St) (H : Hp) (Q : VK), Inv X pins σ H s → t σ H Q → wpAny (model X.prog X.w) X.A (eval e X.env) (EP X pins σ Q) X.xe s
def PT (X : Cx) (e : Expr) (t : TT) : Prop :=
  ∀ (pins : List (Addr × Obj)) (s : Shared) (σ : St) (H : Hp) (Q : Bool → Hp → Prop), Inv X pins σ H s → t σ H Q → wpAny (model X.prog X.w) X.A (isTrue e X.env (eval e X.env)) (TP X pins σ Q) X.xe s
/-- a test whatever its 'whole' is (and, or) -/
def PW (X : Cx) (e : Expr) (t : TT) : Prop :=
  ∀ (whole : Sem Value) (pins : List (Addr × Obj)) (s : Shared) (σ : St) (H : Hp) (Q : Bool → Hp → Prop), Inv X pins σ H s → t σ H Q → wpAny (model X.prog X.w) X.A (isTrue e X.env whole) (TP X pins σ Q) X.xe s
theorem PW.pt {X : Cx} {e : Expr} {t : TT} (h : PW X e t) : PT X e t := h _
/-- an argument list (no star), from the left -/
def PA (X : Cx) (es : List Expr) (t : TA) : Prop :=
  ∀ (pos : Pos) (pins : List (Addr × Obj)) (s : Shared) (σ : St) (H : Hp) (Q : List V → Hp → Prop), Inv X pins σ H s → t σ H Q → wpAny (model X.prog X.w) X.A (spliced (backTo pos (starEach es X.env))) (AP X pins σ Q) X.xe s
def PS (X : Cx) (st : Stmt) (t : TS) : Prop :=
  ∀ (pins : List (Addr × Obj)) (s : Shared) (σ : St) (H : Hp) (D : Ends), Inv X pins σ H s → t D σ H → wpAny (model X.prog X.w) X.A (exec st X.env) (SP X pins D) X.xe s
def PSs (X : Cx) (st : List Stmt) (t : TS) : Prop :=
  ∀ (pins : List (Addr × Obj)) (s : Shared) (σ : St) (H : Hp) (D : Ends), Inv X pins σ H s → t D σ H → wpAny (model X.prog X.w) X.A (execs st X.env) (SP X pins D) X.xe s
/-- weaken the end -/
theorem thn {α : Type} {t : Sem α} {Q Q' : α → Shared → Prop} {M : Model} {A : Around} {E : Value → Shared → Prop} {s : Shared} (h : wpAny M A t Q E s) (hQ : ∀ a s, Q a s → Q' a s) : wpAny M A t Q' E s := wpAny_mono h hQ fun _ _ x => x
end L2

namespace L2
open PySem PySem.Spec PyProof.Rows
section
variable {X : Cx}

/-! ### names and constants -/
def tVar (i : Nat) : TE := fun σ H Q => ∃ v, σ[i]? = some (some v) ∧ Q v H
def tC (v : V) : TE := fun _ H Q => Q v H
theorem pe_var {i : Nat} {x : Str} {pos : Pos} (hN : X.N[i]? = some x) (hv : Vis X.env.scope x) (hd : (x == ("__debug__" : Str)) = false := by decide) (hcd : (x == ("__classdict__" : Str)) = false := by decide) : PE X (.Name x pos) (tVar i) := by
  intro pins s σ H Q I h
  obtain ⟨v, e, h⟩ := h
  obtain ⟨m, hn, hl⟩ := I.loc
  obtain ⟨u, r, l⟩ := hl i x v hN e hv
  have fin : EP X pins σ Q u s := ⟨v, H, I, r, h⟩
  rcases l with ⟨hk, hm⟩ | ⟨hk, c, hc, hcell⟩
  · exact wpAny_Name (wpAny_loadName_local I.ok.kind hk hn hm fin) hd
  · rcases hk with hk | hk
    · exact wpAny_Name (wpAny_loadName_cell I.ok.kind hk hc hcell fin) hd
    · exact wpAny_Name (wpAny_loadName_free I.ok.kind hk hc hcell fin hcd) hd
theorem pe_int {i j pos} : PE X (.Constant (.int i) j pos) (tC (.int i)) := fun _ _ _ H _ I h => wpAny_Constant_int ⟨.int i, H, I.tok _, ⟨_, rfl⟩, h⟩
theorem pe_bl {b j pos} : PE X (.Constant (.bool b) j pos) (tC (.bl b)) := fun _ _ _ H _ I h => Constant_bool ⟨.bl b, H, I, rfl, h⟩
theorem pe_str {x j pos} : PE X (.Constant (.str x) j pos) (tC (.str x)) := fun _ _ _ H _ I h => Calls.Constant_str ⟨.str x, H, I.tok _, ⟨_, rfl⟩, h⟩

/-- a global name of the def -/
def Gl (X : Cx) (x : Str) : Prop := X.env.kindOf x = some .globalImplicit
theorem ld_glob {E : Value → Shared → Prop} {pins : List (Addr × Obj)} {s : Shared} {σ : St} {H : Hp} {x : Str} {u : Value} {pos : Pos} {Q : Value → Shared → Prop} (I : Inv X pins σ H s) (hg : Gl X x) (hm : X.mg x = some u) (h : Q u s)
    (hd : (x == ("__debug__" : Str)) = false := by decide) : wpAny (model X.prog X.w) X.A (eval (.Name x pos) X.env) Q E s :=
  Calls.Name_function_global I.ok.kind hg (Calls.loadGlobal_global (by rw [I.ok.glob]; exact I.mod.glob.keeps I.bk) hm h) hd
theorem ld_blt {E : Value → Shared → Prop} {pins : List (Addr × Obj)} {s : Shared} {σ : St} {H : Hp} {x : Str} {u : Value} {pos : Pos} {Q : Value → Shared → Prop} (I : Inv X pins σ H s) (hg : Gl X x) (hm : X.mg x = none) (hv : bootBuiltins x = some u) (h : Q u s)
    (hn : x ≠ "__name__" := by decide) (hd : (x == ("__debug__" : Str)) = false := by decide) : wpAny (model X.prog X.w) X.A (eval (.Name x pos) X.env) Q E s := by
  obtain ⟨mb, h1, h2⟩ := I.mod.blt
  exact Calls.Name_function_global I.ok.kind hg (Calls.loadGlobal_builtin (by rw [I.ok.glob]; exact I.mod.glob.keeps I.bk) hm (by rw [I.ok.blt]; exact h1.keeps I.bk) ((h2 x hn).trans hv) h) hd
/-- a module's constant, a class, a function, as a value -/
theorem pe_glob {x : Str} {v : V} {u : Value} {pos : Pos} (hg : Gl X x) (hm : X.mg x = some u) (r : RelV v u) (hd : (x == ("__debug__" : Str)) = false := by decide) : PE X (.Name x pos) (tC v) :=
  fun _ _ _ H _ I h => ld_glob I hg hm ⟨v, H, I, r, h⟩ hd
theorem pe_bltn {x : Str} {v : V} {u : Value} {pos : Pos} (hg : Gl X x) (hm : X.mg x = none) (hv : bootBuiltins x = some u) (r : RelV v u) (hn : x ≠ "__name__" := by decide) (hd : (x == ("__debug__" : Str)) = false := by decide) : PE X (.Name x pos) (tC v) :=
  fun _ _ _ H _ I h => ld_blt I hg hm hv ⟨v, H, I, r, h⟩ hn hd

/-! ### arithmetic -/
/-- two ints -/
def t2I (ta tb : TE) (k : Int → Int → Hp → Prop) : St → Hp → Prop := fun σ H => ta σ H fun x H1 => tb σ H1 fun y H2 => ∃ i j, x = .int i ∧ y = .int j ∧ k i j H2
def tAdd (ta tb : TE) : TE := fun σ H Q => t2I ta tb (fun i j H2 => Q (.int (i + j)) H2) σ H
def tSub (ta tb : TE) : TE := fun σ H Q => t2I ta tb (fun i j H2 => Q (.int (i - j)) H2) σ H
/-- the left factor below 2^64 -/
def tMul (ta tb : TE) : TE := fun σ H Q => t2I ta tb (fun i j H2 => (-(2 ^ 64) < i ∧ i < 2 ^ 64) ∧ Q (.int (i * j)) H2) σ H
variable {a b : Expr} {ta tb : TE} {pos : Pos}
/-! ### comparisons -/
def PC (X : Cx) (op : CmpOp) (a b : Expr) (t : TE) : Prop :=
  ∀ (pins : List (Addr × Obj)) (s : Shared) (σ : St) (H : Hp) (Q : VK), Inv X pins σ H s → t σ H Q →
    wpAny (model X.prog X.w) X.A (eval a X.env) (fun v s₁ => wpAny (model X.prog X.w) X.A (eval b X.env) (fun u s₂ => wpAny (model X.prog X.w) X.A (compareOp op v u) (EP X pins σ Q) X.xe s₂) X.xe s₁) X.xe s
def tCmp (p : Int → Int → Bool) (ta tb : TE) : TE := fun σ H Q => t2I ta tb (fun i j H2 => Q (.bl (p i j)) H2) σ H
abbrev tLt : TE → TE → TE := tCmp fun i j => decide (i < j)
abbrev tLe : TE → TE → TE := tCmp fun i j => decide (i ≤ j)
abbrev tGt : TE → TE → TE := tCmp fun i j => decide (j < i)
abbrev tGe : TE → TE → TE := tCmp fun i j => decide (j ≤ i)
abbrev tEqI : TE → TE → TE := tCmp fun i j => decide (i = j)
abbrev tNeI : TE → TE → TE := tCmp fun i j => !decide (i = j)
/-- is None -/
def tIsN (ta : TE) : TE := fun σ H Q => ta σ H fun x H1 => Q (.bl (decide (x = .non))) H1
def tNotN (ta : TE) : TE := fun σ H Q => ta σ H fun x H1 => Q (.bl (!decide (x = .non))) H1
/-- a comparison as a value, as a test -/
def tB (t : TE) : TT := fun σ H Q => t σ H fun x H1 => ∃ c, x = .bl c ∧ Q c H1
/-- an expression whose value is a bool, as a test -/
theorem pt_val {e : Expr} {t : TE} (h : PE X e t) (he : ∀ whole, isTrue e X.env whole = (do let v ← whole; standAt e.pos; holding [v] (truthy v)) := by intro _; rfl) : PT X e (tB t) := by
  intro pins s σ H Q I hw
  refine isTrue_plain (thn (h pins s σ H _ I hw) fun v s1 ⟨x, H1, I1, r1, q1⟩ => ?_) (he _)
  obtain ⟨d, rfl, q⟩ := q1
  cases r1
  exact wpAny_truthy_bool ⟨H1, I1, q⟩

/-! ### and, or, not -/
variable {tA tB' : TT} {rest : List Expr}
def tAnd (t u : TT) : TT := fun σ H Q => t σ H fun c H1 => if c = true then u σ H1 Q else Q false H1
def tOr (t u : TT) : TT := fun σ H Q => t σ H fun c H1 => if c = true then Q true H1 else u σ H1 Q
def tNot (t : TT) : TT := fun σ H Q => t σ H fun c H1 => Q (!c) H1
theorem pw_or1 (ha : PT X a tA) : PW X (.BoolOp .Or [a] pos) tA := by
  intro wh pins s σ H Q I h
  refine isTrue_or (thn (ha pins s σ H Q I h) fun c s1 e => ?_)
  cases c with
  | false => exact isTrue_or_nil e
  | true => exact e
theorem pw_or (ha : PT X a tA) (hb : PW X (.BoolOp .Or (b :: rest) pos) tB') : PW X (.BoolOp .Or (a :: b :: rest) pos) (tOr tA tB') := by
  intro wh pins s σ H Q I h
  refine isTrue_or (thn (ha pins s σ H _ I h) fun c s1 ⟨H1, I1, q1⟩ => ?_)
  cases c with
  | true => exact ⟨H1, I1, q1⟩
  | false => exact hb wh pins s1 σ H1 Q I1 q1
theorem pt_not (ha : PT X a tA) : PT X (.UnaryOp .Not a pos) (tNot tA) := by
  intro pins s σ H Q I h
  exact isTrue_not (ha pins s σ H (fun c H1 => Q (!c) H1) I h)
/-- .. as values (bools) -/
def tAndV (ta tb : TE) : TE := fun σ H Q => ta σ H fun x H1 => ∃ c, x = .bl c ∧ if c = true then tb σ H1 Q else Q (.bl false) H1
def tOrV (ta tb : TE) : TE := fun σ H Q => ta σ H fun x H1 => ∃ c, x = .bl c ∧ if c = true then Q (.bl true) H1 else tb σ H1 Q
def tNotV (ta : TE) : TE := fun σ H Q => ta σ H fun x H1 => ∃ c, x = .bl c ∧ Q (.bl (!c)) H1
theorem pe_one {op} {t : TE} (h : PE X a t) : PE X (.BoolOp op [a] pos) t := fun pins s σ H Q I hw => BoolOp_one (h pins s σ H Q I hw)
theorem pe_and (ha : PE X a ta) (hb : PE X (.BoolOp .And (b :: rest) pos) tb) : PE X (.BoolOp .And (a :: b :: rest) pos) (tAndV ta tb) := by
  intro pins s σ H Q I h
  refine BoolOp_and (thn (ha pins s σ H _ I h) fun v s1 ⟨x, H1, I1, r1, q1⟩ => ?_)
  obtain ⟨c, rfl, q1⟩ := q1
  cases r1
  refine wpAny_truthy_bool ?_
  cases c with
  | true => exact hb pins s1 σ H1 Q I1 q1
  | false => exact ⟨.bl false, H1, I1, rfl, q1⟩
theorem pe_or (ha : PE X a ta) (hb : PE X (.BoolOp .Or (b :: rest) pos) tb) : PE X (.BoolOp .Or (a :: b :: rest) pos) (tOrV ta tb) := by
  intro pins s σ H Q I h
  refine BoolOp_or (thn (ha pins s σ H _ I h) fun v s1 ⟨x, H1, I1, r1, q1⟩ => ?_)
  obtain ⟨c, rfl, q1⟩ := q1
  cases r1
  refine wpAny_truthy_bool ?_
  cases c with
  | false => exact hb pins s1 σ H1 Q I1 q1
  | true => exact ⟨.bl true, H1, I1, rfl, q1⟩
theorem pe_not (ha : PE X a ta) : PE X (.UnaryOp .Not a pos) (tNotV ta) := by
  intro pins s σ H Q I h
  refine UnaryOp_ (thn (ha pins s σ H _ I h) fun v s1 ⟨x, H1, I1, r1, q1⟩ => ?_)
  obtain ⟨c, rfl, q1⟩ := q1
  cases r1
  exact not_of (wpAny_truthy_bool ⟨.bl (!c), H1, I1, rfl, q1⟩)
/-- a if t else b -/
def tIf (t : TT) (ta tb : TE) : TE := fun σ H Q => t σ H fun c H1 => if c = true then ta σ H1 Q else tb σ H1 Q
end
end L2

namespace L2
open PySem PySem.Spec PyProof.Rows

/-! ### a list, a tuple that is read: tracked, frozen, or an object of the module -/
def SqL (K : PySem.W.Frag) (H : Hp) (a : Addr) (xs : List V) : Prop :=
  Rd H a (.lst xs) ∨
    ∃ (o : Obj) (its : Array Value) (n : Nat), K.lookup a = some o ∧ o.cls = .type "list" ∧ o.dict = none ∧ o.data = .seq its n ∧ its.size ≤ sizeLine ∧ Vals xs its.toList
def SqT (K : PySem.W.Frag) (H : Hp) (a : Addr) (xs : List V) : Prop :=
  Rd H a (.tup xs) ∨
    ∃ (o : Obj) (its : Array Value) (n : Nat), K.lookup a = some o ∧ o.cls = .type "tuple" ∧ o.data = .seq its n ∧ its.size ≤ sizeLine ∧ Vals xs its.toList
def absV : Value → Option V
  | .none => some .non
  | .bool b => some (.bl b)
  | .int i _ => some (.int i)
  | .str x _ => some (.str x)
  | .bytes b _ => some (.byt b)
  | .float b _ => some (.flt b)
  | .ref a => some (.ref a)
  | .type n => some (.ty n)
  | _ => none
theorem RelV.abs {x : V} {u : Value} (r : RelV x u) : absV u = some x := by
  cases x with
  | non => cases r; rfl
  | bl _ => cases r; rfl
  | int _ => obtain ⟨t, rfl⟩ := r; rfl
  | str _ => obtain ⟨t, rfl⟩ := r; rfl
  | byt _ => obtain ⟨t, rfl⟩ := r; rfl
  | flt _ => obtain ⟨t, rfl⟩ := r; rfl
  | ref _ => cases r; rfl
  | ty _ => cases r; rfl
theorem RelV.inj {x y : V} {u : Value} (r : RelV x u) (q : RelV y u) : x = y := Option.some.inj (r.abs.symm.trans q.abs)
theorem Vals.inj : ∀ {xs ys : List V} {us : List Value}, Vals xs us → Vals ys us → xs = ys
  | _, _, _, .nil, .nil => rfl
  | _, _, _, .cons r t, .cons r' t' => by rw [r.inj r', Vals.inj t t']
section
variable {X : Cx} {pins : List (Addr × Obj)} {σ : St} {H : Hp} {s : Shared} {a : Addr} {xs ys : List V}
theorem SqL.of {K : PySem.W.Frag} (h : H a = some (.lst xs)) : SqL K H a xs := .inl (.inl h)
theorem SqT.of {K : PySem.W.Frag} (h : H a = some (.tup xs)) : SqT K H a xs := .inl (.inl h)
theorem Inv.list (I : Inv X pins σ H s) (h : SqL X.K H a xs) : ∃ its : List Value, Vals xs its ∧ PlainL s.heap a its.toArray ∧ xs.length ≤ sizeLine := by
  rcases h with h | ⟨o, its, n, hk, hc, hd, hs, hz, r⟩
  · obtain ⟨z, its, n, r, e⟩ := h.ok I.hok
    exact ⟨its, r, ⟨_, n, e, rfl, rfl, rfl⟩, z⟩
  · refine ⟨its.toList, r, ⟨o, n, I.kIn a o hk, hc, hd, by simpa using hs⟩, ?_⟩
    have e := r.length
    simp only [Array.length_toList] at e
    omega
theorem Inv.tuple (I : Inv X pins σ H s) (h : SqT X.K H a xs) : ∃ its : List Value, Vals xs its ∧ IsTup s.heap a its.toArray ∧ xs.length ≤ sizeLine := by
  rcases h with h | ⟨o, its, n, hk, hc, hs, hz, r⟩
  · obtain ⟨z, its, r, p⟩ := h.ok I.hok
    exact ⟨its, r, p, z⟩
  · refine ⟨its.toList, r, ⟨o, I.kIn a o hk, hc, n, by simpa using hs⟩, ?_⟩
    have e := r.length
    simp only [Array.length_toList] at e
    omega
theorem Inv.list_inj (I : Inv X pins σ H s) (h : SqL X.K H a xs) (h' : SqL X.K H a ys) : xs = ys := by
  obtain ⟨its, r, ⟨o, n, e, _, _, d⟩, _⟩ := I.list h
  obtain ⟨its', r', ⟨o', n', e', _, _, d'⟩, _⟩ := I.list h'
  rw [e] at e'; cases e'
  rw [d] at d'
  injection d' with d1 _
  have : its = its' := by simpa using congrArg Array.toList d1
  subst this
  exact r.inj r'
end

/-! ### another wish about exceptions -/
abbrev Cx.wish (X : Cx) (E : Value → Shared → Prop) : Cx := { X with xe := E }
/-- no exception leaves -/
abbrev Cx.nox (X : Cx) : Cx := X.wish fun _ _ => False
theorem Cx.Ok.wish {X : Cx} (ok : X.Ok) (E : Value → Shared → Prop) : (X.wish E).Ok :=
  ⟨ok.mod, ok.kind, ok.glob, ok.blt, ok.above, ok.inj, ok.has, ok.cab, ok.hd, ok.frames, ok.stk, ok.exf, ok.bs, ok.bsz, ok.noex, ok.exfs, ok.funs, ok.frf⟩
theorem Cx.Ok.unwish {X : Cx} {E : Value → Shared → Prop} (ok : (X.wish E).Ok) : X.Ok :=
  ⟨ok.mod, ok.kind, ok.glob, ok.blt, ok.above, ok.inj, ok.has, ok.cab, ok.hd, ok.frames, ok.stk, ok.exf, ok.bs, ok.bsz, ok.noex, ok.exfs, ok.funs, ok.frf⟩
section
variable {X : Cx} {pins : List (Addr × Obj)} {σ : St} {H : Hp} {s : Shared} {E : Value → Shared → Prop}
theorem Inv.wish (I : Inv X pins σ H s) (E : Value → Shared → Prop) : Inv (X.wish E) pins σ H s := ⟨I.ok.wish E, I.os, I.bare, I.base, I.loc, I.cell, I.free, I.freeC, I.pin, I.hok, I.len⟩
theorem Inv.unwish (I : Inv (X.wish E) pins σ H s) : Inv X pins σ H s := ⟨I.ok.unwish, I.os, I.bare, I.base, I.loc, I.cell, I.free, I.freeC, I.pin, I.hok, I.len⟩
theorem SP.unwish {D : Ends} {f : Flow} {s' : Shared} (h : SP (X.wish E) pins D f s') : SP X pins D f s' := by
  cases f with
  | next => obtain ⟨σ', H', I, q⟩ := h; exact ⟨σ', H', I.unwish, q⟩
  | brk => obtain ⟨σ', H', I, q⟩ := h; exact ⟨σ', H', I.unwish, q⟩
  | cont => obtain ⟨σ', H', I, q⟩ := h; exact ⟨σ', H', I.unwish, q⟩
  | ret u => obtain ⟨v, σ', H', I, r, q⟩ := h; exact ⟨v, σ', H', I.unwish, r, q⟩
theorem PE.nox {e : Expr} {t : TE} (h : PE X.nox e t) : PE X e t := fun pins s σ H Q I hw =>
  wpAny_mono (h pins s σ H Q (I.wish _) hw) (fun _ _ ⟨v, H', I', r, q⟩ => ⟨v, H', I'.unwish, r, q⟩) fun _ _ z => False.elim z
theorem PT.nox {e : Expr} {t : TT} (h : PT X.nox e t) : PT X e t := fun pins s σ H Q I hw =>
  wpAny_mono (h pins s σ H Q (I.wish _) hw) (fun _ _ ⟨H', I', q⟩ => ⟨H', I'.unwish, q⟩) fun _ _ z => False.elim z
theorem PSs.nox {st : List Stmt} {t : TS} (h : PSs X.nox st t) : PSs X st t := fun pins s σ H D I hw =>
  wpAny_mono (h pins s σ H D (I.wish _) hw) (fun _ _ q => q.unwish) fun _ _ z => False.elim z
end

/-! ### blocks and small statements -/
section
variable {X : Cx} {st : Stmt} {rest : List Stmt} {t u : TS} {e : Expr} {te : TE} {pos : Pos}
def tNext : TS := fun D σ H => D.nx σ H
def tSeq (t u : TS) : TS := fun D σ H => t { D with nx := u D } σ H
theorem pss_nil : PSs X [] tNext := fun _ _ σ H _ I h => wpAny_execs_nil ⟨σ, H, I, h⟩
theorem pss_cons (h1 : PS X st t) (h2 : PSs X rest u) : PSs X (st :: rest) (tSeq t u) := by
  intro pins s σ H D I h
  refine wpAny_execs_cons (thn (h1 pins s σ H { D with nx := u D } I h) fun f s1 q => ?_)
  cases f with
  | next =>
    obtain ⟨σ', H', I', q⟩ := q
    exact h2 pins s1 σ' H' D I' q
  | ret v => exact q
  | brk => exact q
  | cont => exact q
theorem pss_one (h1 : PS X st t) : PSs X [st] t := by
  intro pins s σ H D I h
  refine wpAny_execs_cons (thn (h1 pins s σ H D I h) fun f s1 q => ?_)
  cases f with
  | next => exact wpAny_execs_nil q
  | ret v => exact q
  | brk => exact q
  | cont => exact q
def tBreak : TS := fun D σ H => D.bk σ H
def tCont : TS := fun D σ H => D.ct σ H
/-- an expression whose value is dropped -/
def tDrop (te : TE) : TS := fun D σ H => te σ H fun _ H1 => D.nx σ H1
def tRet (te : TE) : TS := fun D σ H => te σ H D.rt
theorem ps_ret (he : PE X e te) : PS X (.Return (some e) pos) (tRet te) := by
  intro pins s σ H D I h
  exact wpAny_Return_some (thn (he pins s σ H _ I h) fun v s1 ⟨x, H1, I1, r1, q1⟩ => ⟨x, σ, H1, I1, r1, q1⟩)
def tRetN : TS := fun D _ H => D.rt .non H
def tIfS (c : TT) (t u : TS) : TS := fun D σ H => c σ H fun b H1 => if b = true then t D σ H1 else u D σ H1
theorem ps_if {c : Expr} {a b : List Stmt} {tc : TT} (hc : PT X c tc) (ha : PSs X a t) (hb : PSs X b u) : PS X (.If c a b pos) (tIfS tc t u) := by
  intro pins s σ H D I h
  refine wpAny_If (thn (hc pins s σ H _ I h) fun d s1 ⟨H1, I1, q1⟩ => ?_)
  cases d with
  | true => exact ha pins s1 σ H1 D I1 q1
  | false => exact hb pins s1 σ H1 D I1 q1
/-- code that the proof never comes to -/
def tNever : TS := fun _ _ _ => False
theorem ps_never : PS X st tNever := fun _ _ _ _ _ _ h => h.elim
end

/-! ### targets -/
abbrev TG := V → St → Hp → (St → Hp → Prop) → Prop
abbrev TGs := List V → St → Hp → (St → Hp → Prop) → Prop
def PG (X : Cx) (target : Expr) (t : TG) : Prop :=
  ∀ (pins : List (Addr × Obj)) (s : Shared) (σ : St) (H : Hp) (v : V) (u : Value) (Q : St → Hp → Prop), Inv X pins σ H s → RelV v u → t v σ H Q →
    wpAny (model X.prog X.w) X.A (assign target X.env u) (fun _ s' => ∃ σ' H', Inv X pins σ' H' s' ∧ Q σ' H') X.xe s
/-- several targets, one after another -/
def PGs (X : Cx) (ts : List Expr) (t : TGs) : Prop :=
  ∀ (pins : List (Addr × Obj)) (s : Shared) (σ : St) (H : Hp) (vs : List V) (us : List Value) (Q : St → Hp → Prop), Inv X pins σ H s → Vals vs us → t vs σ H Q →
    wpAny (model X.prog X.w) X.A (assignInOrder ((assignEach ts X.env).map (·.2)) us) (fun _ s' => ∃ σ' H', Inv X pins σ' H' s' ∧ Q σ' H') X.xe s
/-- o[i] = v, by values -/
abbrev TSet := V → V → V → Hp → (Hp → Prop) → Prop
def PSet (X : Cx) (t : TSet) : Prop :=
  ∀ (pins : List (Addr × Obj)) (s : Shared) (σ : St) (H : Hp) (o i v : V) (ov iv u : Value) (Q : Hp → Prop), Inv X pins σ H s → RelV o ov → RelV i iv → RelV v u → t o i v H Q →
    wpAny (model X.prog X.w) X.A (setItem ov iv u) (fun _ s' => ∃ H', Inv X pins σ H' s' ∧ Q H') X.xe s
/-- a op= b, by values -/
abbrev TIp := V → V → Hp → VK → Prop
def PIp (X : Cx) (op : Operator) (t : TIp) : Prop :=
  ∀ (pins : List (Addr × Obj)) (s : Shared) (σ : St) (H : Hp) (x y : V) (v u : Value) (Q : VK), Inv X pins σ H s → RelV x v → RelV y u → t x y H Q →
    wpAny (model X.prog X.w) X.A (inplaceOp op v u) (EP X pins σ Q) X.xe s
section
variable {X : Cx} {pos : Pos}
def gName (i : Nat) : TG := fun v σ H Q => Q (σ.set i (some v)) H
theorem pg_name {i : Nat} {x : Str} (hN : X.N.Nodup) (hi : X.N[i]? = some x) (hx : Loc X.env.scope x) (hf : X.fn x = true ∨ X.env.scope.names.lookup x = some .local := by first | exact .inl rfl | exact .inr rfl | assumption) : PG X (.Name x pos) (gName i) := by
  intro pins s σ H v u Q I r h
  exact wpAny_assign_Name (store_ok I hN hi hx r (fun s' I' => ⟨_, H, I', h⟩) hf)
def gNil : TGs := fun vs σ H Q => vs = [] ∧ Q σ H
def gCons (t : TG) (u : TGs) : TGs := fun vs σ H Q => ∃ v r, vs = v :: r ∧ t v σ H fun σ' H' => u r σ' H' Q
theorem pgs_nil : PGs X [] gNil := by
  intro pins s σ H vs us Q I r h
  obtain ⟨e, h⟩ := h
  subst e
  cases r
  exact assignInOrder_nil ⟨σ, H, I, h⟩
theorem pgs_cons {e : Expr} {es : List Expr} {t : TG} {u : TGs} (h1 : PG X e t) (h2 : PGs X es u)
    (hs : (assignEach (e :: es) X.env).map (·.2) = assign e X.env :: (assignEach es X.env).map (·.2) := by rfl) : PGs X (e :: es) (gCons t u) := by
  intro pins s σ H vs us Q I r h
  obtain ⟨v, vr, e1, h⟩ := h
  subst e1
  cases r with
  | cons r rr =>
    rw [hs]
    refine assignInOrder_cons (thn (h1 pins s σ H _ _ _ I r h) fun _ s1 ⟨σ1, H1, I1, q1⟩ => ?_)
    exact h2 pins s1 σ1 H1 _ _ Q I1 rr q1
/-- (a, b, ..) = a tuple of that length -/
def gTup (K : PySem.W.Frag) (n : Nat) (t : TGs) : TG := fun v σ H Q => ∃ a xs, v = .ref a ∧ SqT K H a xs ∧ xs.length = n ∧ t xs σ H Q
theorem pg_tup {es : List Expr} {k : Nat} {t : TGs} {n : Nat} (hc : X.calm = true) (h : PGs X es t)
    (hn : (assignEach es X.env).length = n := by rfl) (hst : (assignEach es X.env).findIdx? (·.1) = none := by rfl) : PG X (.Tuple es k pos) (gTup X.K n t) := by
  intro pins s σ H v u Q I r hw
  obtain ⟨a, xs, e1, hq, hl, hw⟩ := hw
  subst e1
  cases r
  obtain ⟨its, rv, ht, hz⟩ := I.tuple hq
  refine assign_Tuple_tuple (I.ok.hd hc) ht (by simp [hn, ← hl, rv.length]) hst fun h' hx => ?_
  have I1 : Inv X pins σ H { s with heap := h' } := I.kept (t' := s.toks) fun b o e => hx b o (Nat.ne_of_lt (Heap.lt_size e)) e
  exact h pins _ σ H xs _ Q I1 (by simpa using rv) hw
/-- o[i] = .. -/
def gSub (to ti : TE) (t : TSet) : TG := fun v σ H Q => to σ H fun o H1 => ti σ H1 fun i H2 => t o i v H2 fun H3 => Q σ H3
/-- target = value -/
def tAsg (te : TE) (g : TG) : TS := fun D σ H => te σ H fun x H1 => g x σ H1 D.nx
/-- name = value -/
theorem ps_set {i : Nat} {x : Str} {e : Expr} {te : TE} {pos' : Pos} (hN : X.N.Nodup) (hi : X.N[i]? = some x) (hx : Loc X.env.scope x) (he : PE X e te) (hs : swapsWith e (some (.Name x pos')) pos.line X.env = pure false := by rfl) (hf : X.fn x = true ∨ X.env.scope.names.lookup x = some .local := by first | exact .inl rfl | exact .inr rfl | assumption) :
    PS X (.Assign [.Name x pos'] e pos) (tAsg te (gName i)) := by
  intro pins s σ H D I h
  refine wpAny_Assign_Name (thn (he pins s σ H _ I h) fun v s1 ⟨y, H1, I1, r1, q1⟩ => ?_) hs
  exact store_ok I1 hN hi hx r1 (fun s2 I2 => ⟨_, H1, I2, q1⟩) hf
/-- a, b = x, y with plain local names: stored from the right; the pair itself is not tracked (the opening rows as in PyProof/Rows/TupAssign.lean:23) -/
def tPar (i j : Nat) (ta : TA) : TS := fun D σ H => ta σ H fun vs H1 => ∃ v w, vs = [v, w] ∧ D.nx ((σ.set i (some v)).set j (some w)) H1
theorem ps_par {i j : Nat} {x y : Str} {a b : Expr} {ta : TA} {px py pt : Pos} {kt k2 pt2} (hc : X.calm = true) (hN : X.N.Nodup) (hi : X.N[i]? = some x) (hj : X.N[j]? = some y) (hij : i ≠ j)
    (hx : X.env.scope.names.lookup x = some .local) (hy : X.env.scope.names.lookup y = some .local) (ha : PA X [a, b] ta)
    (hw : swappedStores [.Tuple [.Name x px, .Name y py] kt pt] (.Tuple [a, b] k2 pt2) X.env = pure (some [x, y]))
    (hs : swapsWithSole [.Tuple [.Name x px, .Name y py] kt pt] (.Tuple [a, b] k2 pt2) pos.line X.env = pure false := by rfl) :
    PS X (.Assign [.Tuple [.Name x px, .Name y py] kt pt] (.Tuple [a, b] k2 pt2) pos) (tPar i j ta) := by
  intro pins s σ H D I h
  rw [exec_Assign_arm]
  refine wpAny_bind (wpAny_standAt ?_)
  rw [hs]
  refine wpAny_bind (wpAny_pure ?_)
  rw [if_neg (by decide)]
  refine wpAny_bind (Tuple_ (thn (ha _ pins s σ H _ I h) fun us s1 ⟨vs, H1, I1, r1, q1⟩ => ?_))
  obtain ⟨v, w, e1, q1⟩ := q1
  subst e1
  obtain ⟨u1, u2, rfl, rv, rw'⟩ : ∃ u1 u2, us = [u1, u2] ∧ RelV v u1 ∧ RelV w u2 := by
    cases r1 with
    | cons p q =>
      cases q with
      | cons p' q' =>
        cases q'
        exact ⟨_, _, rfl, p, p'⟩
  refine wpAny_newObj_type ?_ (by show 2 ≤ sizeLine; decide)
  have I2 : Inv X pins σ H1 { s1 with heap := s1.heap.push { cls := .type "tuple", data := .seq [u1, u2].toArray } } := I1.kept (t' := s1.toks) fun b o e => Heap.get?_push_of_some _ e
  rw [hw]
  refine wpAny_bind (wpAny_pure ?_)
  show wpAny (model X.prog X.w) X.A (do rule "assign.swapped-stores"; let items ← unpackItems (.ref s1.heap.objs.size) 2 none; assignInOrder [fun v => bindName X.env y v, fun v => bindName X.env x v] items.reverse; pure Flow.next) _ _ _
  refine wpAny_bind (wpAny_rule (wpAny_bind (unpackItems_tuple (items := #[u1, u2]) (I.ok.hd hc) (IsTup.new s1.heap _) fun h' hx' => ?_)))
  have I3 := I2.kept (h' := h') (t' := s1.toks) fun b o e => hx' b o (Nat.ne_of_lt (Heap.lt_size e)) e
  show wpAny _ _ (assignInOrder [fun v => bindName X.env y v, fun v => bindName X.env x v] [u2, u1] >>= fun _ => pure Flow.next) _ _ _
  refine wpAny_bind (assignInOrder_cons (wpAny_bindName (store_ok I3 hN hj (.inl hy) rw' (fun s2 I4 => ?_) (.inr hy))))
  refine assignInOrder_cons (wpAny_bindName (store_ok I4 hN hi (.inl hx) rv (fun s3 I5 => assignInOrder_nil (wpAny_pure ?_)) (.inr hx)))
  rw [List.set_comm _ _ (Ne.symm hij)] at I5
  exact ⟨_, H1, I5, q1⟩
/-- name op= e -/
def tAug (i : Nat) (te : TE) (ti : TIp) : TS := fun D σ H => ∃ x, σ[i]? = some (some x) ∧ te σ H fun y H1 => ti x y H1 fun z H2 => D.nx (σ.set i (some z)) H2
/-- o[i] op= e -/
def tAugS (to ti te : TE) (tget : V → V → Hp → VK → Prop) (tip : TIp) (tset : TSet) : TS := fun D σ H => to σ H fun o H1 => ti σ H1 fun i H2 => tget o i H2 fun x H3 => te σ H3 fun y H4 => tip x y H4 fun z H5 => tset o i z H5 fun H6 => D.nx σ H6
/-- o[i], by values -/
def PGet (X : Cx) (t : V → V → Hp → VK → Prop) : Prop :=
  ∀ (pins : List (Addr × Obj)) (s : Shared) (σ : St) (H : Hp) (o i : V) (ov iv : Value) (Q : VK), Inv X pins σ H s → RelV o ov → RelV i iv → t o i H Q →
    wpAny (model X.prog X.w) X.A (getItem ov iv) (EP X pins σ Q) X.xe s
/-- ints -/
def ipI (f : Int → Int → Int) : TIp := fun x y H Q => ∃ i j, x = .int i ∧ y = .int j ∧ Q (.int (f i j)) H
end

/-! ### while -/
section
variable {X : Cx} {pos : Pos}
/-- the invariant W with its measure -/
def tWhile (c : TT) (tb : TS) : TS := fun D σ H => ∃ W : Nat → St → Hp → Prop, (∃ m, W m σ H) ∧ ∀ m σ H, W m σ H →
  c σ H fun b H1 => if b = true then ∃ N : St → Hp → Prop, (∀ σ' H', N σ' H' → ∃ m', m' < m ∧ W m' σ' H') ∧ tb { D with nx := N, ct := N, bk := D.nx } σ H1 else D.nx σ H1
theorem ps_while {c : Expr} {body : List Stmt} {tc : TT} {tb : TS} (hp : PassesOwn (model X.prog X.w) X.A X.env X.xe) (hc : PT X c tc) (hb : PSs X body tb) : PS X (.While c body [] pos) (tWhile tc tb) := by
  intro pins s σ H D I h
  obtain ⟨W, ⟨m0, w0⟩, turn⟩ := h
  refine wpAny_While (codeAny_whileLoop (fun n s' => ∃ σ' H', Inv X pins σ' H' s' ∧ W n σ' H') ?_ m0 ⟨σ, H, I, w0⟩)
  rintro n s1 ⟨σ1, H1, I1, w1⟩
  refine wpAny_passesOwn hp (thn (hc pins s1 σ1 H1 _ I1 (turn n σ1 H1 w1)) fun b s2 ⟨H2, I2, q2⟩ => ?_)
  cases b with
  | true =>
    obtain ⟨N, hN, q2⟩ := q2
    rw [if_pos rfl]
    refine wpAny_passesOwn hp (thn (hb pins s2 σ1 H2 _ I2 q2) fun f s3 q3 => ?_)
    cases f with
    | next =>
      obtain ⟨σ3, H3, I3, n3⟩ := q3
      obtain ⟨m', hm, w3⟩ := hN σ3 H3 n3
      exact ⟨m', hm, σ3, H3, I3, w3⟩
    | cont =>
      obtain ⟨σ3, H3, I3, n3⟩ := q3
      obtain ⟨m', hm, w3⟩ := hN σ3 H3 n3
      exact ⟨m', hm, σ3, H3, I3, w3⟩
    | brk => exact q3
    | ret v => exact q3
  | false =>
    rw [if_neg Bool.false_ne_true]
    exact wpAny_execs_nil ⟨σ1, H2, I2, q2⟩
end

/-! ### what a loop or a comprehension walks -/
/-- at turn i: it yields x (the heap may grow), or it stops -/
structure It where
  go : Nat → Hp → Prop
  yld : Nat → Hp → V → Hp → Prop
  stop : Nat → Hp → Prop
/-- the iterator's own objects may turn: they are not the frame's, not pinned, younger than the entry (or a comprehension's own) -/
def FpOk (X : Cx) (pins : List (Addr × Obj)) (H : Hp) (b : Addr) : Prop :=
  H b = none ∧ b ≠ X.env.locals ∧ b ∉ X.fs ∧ (b ∈ X.ex ∨ X.s₀.heap.objs.size ≤ b) ∧ (∀ x c, X.env.cells.lookup x = some c → c ≠ b) ∧ ∀ p ∈ X.pn ++ pins, p.1 ≠ b
theorem Inv.fpOk {X : Cx} {pins : List (Addr × Obj)} {σ : St} {H H' : Hp} {s : Shared} {b : Addr} (I : Inv X pins σ H s) (hb : s.heap.objs.size ≤ b) (hn : H' b = none) : FpOk X pins H' b := by
  refine ⟨hn, Nat.ne_of_gt (Nat.lt_of_lt_of_le I.lt hb), I.nofs hb, .inr (Nat.le_trans I.sz hb), fun x c e z => ?_, fun p hp z => ?_⟩
  · obtain ⟨v, q⟩ := I.cell x c e
    exact absurd (Nat.lt_of_lt_of_le q.lt (by rw [z]; exact hb)) (Nat.lt_irrefl _)
  · exact absurd (Nat.lt_of_lt_of_le (Heap.lt_size (I.pin p hp).1) (by rw [z]; exact hb)) (Nat.lt_irrefl _)
structure Turn (P : Program) (w : World) (K : PySem.W.Frag) (tg : Expr) (J : It) (fp : List Addr) (it : Addr) (tn : Nat → Heap → Prop) : Prop where
  mem : it ∈ fp
  obj : ∀ i h, tn i h → ∀ b ∈ fp, ∃ o, h.get? b = some o ∧ ∀ v, o.data ≠ .cell v
  keep : ∀ i h h', tn i h → (∀ b ∈ fp, ∀ o, h.get? b = some o → h'.get? b = some o) → tn i h'
  item : ∀ (X : Cx), X.prog = P → X.w = w → X.K = K → X.calm = true → ∀ (i : Nat) (pins : List (Addr × Obj)) (s : Shared) (σ : St) (H : Hp) (E : Value → Shared → Prop), Inv X pins σ H s → (∀ b ∈ fp, FpOk X pins H b) → tn i s.heap → J.go i H →
    wpAny (model P w) X.A (pyNext (.ref it)) (fun r s1 => ∃ u, r = some u ∧
      wpAny (model P w) X.A (letOwnedTupleGo tg (.ref it) u) (fun _ s2 => ∃ x H', Inv X pins σ H' s2 ∧ RelV x u ∧ J.yld i H x H' ∧ tn (i + 1) s2.heap ∧ ∀ b ∈ fp, H' b = none) E s1) E s
  done : ∀ (X : Cx), X.prog = P → X.w = w → X.K = K → X.calm = true → ∀ (i : Nat) (pins : List (Addr × Obj)) (s : Shared) (σ : St) (H : Hp) (E : Value → Shared → Prop), Inv X pins σ H s → (∀ b ∈ fp, FpOk X pins H b) → tn i s.heap → J.stop i H →
    wpAny (model P w) X.A (pyNext (.ref it)) (fun r s1 => r = none ∧ Inv X pins σ H s1) E s
  self : ∀ (A : Around) (i : Nat) (s : Shared) (Q : Value → Shared → Prop) (E : Value → Shared → Prop), tn i s.heap → Q (.ref it) s → wpAny (model P w) A (pyIter (.ref it)) Q E s
abbrev TI := St → Hp → (It → Hp → Prop) → Prop
/-- an iterator has come -/
def PIE (X : Cx) (pins : List (Addr × Obj)) (σ : St) (tg : Expr) (R : It → Hp → Prop) (itv : Value) (s2 : Shared) : Prop :=
  ∃ (it : Addr) (fp : List Addr) (tn : Nat → Heap → Prop) (J : It) (H' : Hp), itv = .ref it ∧ Inv X pins σ H' s2 ∧ Turn X.prog X.w X.K tg J fp it tn ∧ tn 0 s2.heap ∧ (∀ b ∈ fp, FpOk X pins H' b) ∧ R J H'
def PI (X : Cx) (tg iter : Expr) (wi : TI) : Prop :=
  ∀ (pins : List (Addr × Obj)) (s : Shared) (σ : St) (H : Hp) (R : It → Hp → Prop), Inv X pins σ H s → wi σ H R →
    wpAny (model X.prog X.w) X.A (eval iter X.env) (fun v s1 => wpAny (model X.prog X.w) X.A (pyIter v) (PIE X pins σ tg R) X.xe s1) X.xe s

/-- the list at a, as it stands at each turn (a loop may append to it) -/
def Itl (K : PySem.W.Frag) (a : Addr) : It :=
  ⟨fun i H => ∃ xs x, SqL K H a xs ∧ xs[i]? = some x, fun i H x H' => H' = H ∧ ∀ xs, SqL K H a xs → xs[i]? = some x, fun i H => ∃ xs, SqL K H a xs ∧ xs.length ≤ i⟩
def Itt (K : PySem.W.Frag) (a : Addr) : It :=
  ⟨fun i H => ∃ xs x, SqT K H a xs ∧ xs[i]? = some x, fun i H x H' => H' = H ∧ ∀ xs, SqT K H a xs → xs[i]? = some x, fun i H => ∃ xs, SqT K H a xs ∧ xs.length ≤ i⟩
/-- lo, lo + 1, .. (n of them) -/
def Itr (lo : Int) (n : Nat) : It := ⟨fun i _ => i < n, fun i H x H' => H' = H ∧ x = .int (lo + i), fun i _ => n ≤ i⟩
end L2

namespace L2
open PySem PySem.Spec PyProof.Rows
section
variable {X : Cx} {tg : Expr}
def iList (K : PySem.W.Frag) (tl : TE) : TI := fun σ H R => tl σ H fun x H1 => ∃ a, x = .ref a ∧ (∃ xs, SqL K H1 a xs) ∧ R (Itl K a) H1
def iTup (K : PySem.W.Frag) (tl : TE) : TI := fun σ H R => tl σ H fun x H1 => ∃ a, x = .ref a ∧ (∃ xs, SqT K H1 a xs) ∧ R (Itt K a) H1
def iRng1 (ta : TA) : TI := fun σ H R => ta σ H fun vs H1 => ∃ j : Int, vs = [.int j] ∧ -(2 ^ 62) ≤ j ∧ j < 2 ^ 62 ∧ R (Itr 0 j.toNat) H1
def iRng2 (ta : TA) : TI := fun σ H R => ta σ H fun vs H1 => ∃ i j : Int, vs = [.int i, .int j] ∧ (-(2 ^ 62) ≤ i ∧ i < 2 ^ 62 ∧ -(2 ^ 62) ≤ j ∧ j < 2 ^ 62) ∧ R (Itr i (j - i).toNat) H1
/-! ### for -/
/-- W: the invariant by the turn and a measure; N: what the body is to reach -/
def tFor (wi : TI) (g : TG) (tb : TS) : TS := fun D σ H => wi σ H fun J H1 => ∃ W : Nat → Nat → St → Hp → Prop, (∃ m, W 0 m σ H1) ∧ ∀ i m σ H, W i m σ H →
  (J.stop i H ∧ D.nx σ H) ∨ (J.go i H ∧ ∃ N : St → Hp → Prop, (∀ σ' H', N σ' H' → ∃ m', m' < m ∧ W (i + 1) m' σ' H') ∧ ∀ x H', J.yld i H x H' → g x σ H' fun σ2 H2 => tb { D with nx := N, ct := N, bk := D.nx } σ2 H2)
/-- the records at fp as they stand -/
def pinsAt (fp : List Addr) (h : Heap) : List (Addr × Obj) := fp.filterMap fun b => (h.get? b).map fun o => (b, o)
theorem mem_pinsAt {fp : List Addr} {h : Heap} {b : Addr} {o : Obj} (hb : b ∈ fp) (e : h.get? b = some o) : (b, o) ∈ pinsAt fp h := List.mem_filterMap.mpr ⟨b, hb, by rw [e]; rfl⟩
theorem of_pinsAt {fp : List Addr} {h : Heap} {p : Addr × Obj} (hp : p ∈ pinsAt fp h) : p.1 ∈ fp ∧ h.get? p.1 = some p.2 := by
  obtain ⟨b, hb, e⟩ := List.mem_filterMap.mp hp
  cases q : h.get? b with
  | none => rw [q] at e; cases e
  | some o =>
    rw [q] at e
    have e' : (b, o) = p := Option.some.inj e
    subst e'
    exact ⟨hb, q⟩
theorem Inv.pinned {pins : List (Addr × Obj)} {σ : St} {H : Hp} {s : Shared} {fp : List Addr} (I : Inv X pins σ H s) (hf : ∀ b ∈ fp, FpOk X pins H b) (ho : ∀ b ∈ fp, ∃ o, s.heap.get? b = some o ∧ ∀ v, o.data ≠ .cell v) : Inv X (pins ++ pinsAt fp s.heap) σ H s :=
  I.pins_of fun p hp => (List.mem_append.mp hp).elim (fun z => I.pin p (List.mem_append_right _ z)) fun z => by
    obtain ⟨hb, e⟩ := of_pinsAt z
    obtain ⟨f0, f1, f2, _⟩ := hf p.1 hb
    obtain ⟨o, e', d⟩ := ho p.1 hb
    rw [e] at e'; cases e'
    exact ⟨e, f0, f1, f2, d⟩
theorem Inv.unpinned {pins pl : List (Addr × Obj)} {σ : St} {H : Hp} {s : Shared} (I : Inv X (pins ++ pl) σ H s) : Inv X pins σ H s := I.pins_of fun p hp => I.pin p (List.mem_append_right _ (List.mem_append_left _ hp))
theorem ps_for {iter : Expr} {body : List Stmt} {wi : TI} {g : TG} {tb : TS} {pos : Pos} (hp : PassesOwn (model X.prog X.w) X.A X.env X.xe) (hc : X.calm = true) (hi : PI X tg iter wi) (hg : PG X tg g) (hb : PSs X body tb)
    (hs : ∀ x, foldedSetIterable iter X.env x = pure x := by intro _; rfl) : PS X (.For tg iter body [] pos) (tFor wi g tb) := by
  intro pins s σ H D I h
  refine wpAny_For (thn (hi pins s σ H _ I h) fun v s1 h1 => thn h1 fun itv s2 h2 => ?_) hs
  obtain ⟨it, fp, tn, J, H2, e, I2, T, st2, f2, W, ⟨m0, w0⟩, turn⟩ := h2
  subst e
  -- what stays true of the iterator's objects through the loop
  have stat : ∀ {H' : Hp}, (∀ b ∈ fp, H' b = none) → ∀ b ∈ fp, FpOk X pins H' b := fun hn b hb => ⟨hn b hb, (f2 b hb).2⟩
  refine codeAny_forLoop_any (fun n s' => ∃ i σ' H', Inv X pins σ' H' s' ∧ tn i s'.heap ∧ (∀ b ∈ fp, H' b = none) ∧ W i n σ' H') ?_ m0 ⟨0, σ, H2, I2, st2, fun b hb => (f2 b hb).1, w0⟩
  rintro n s3 ⟨i, σ3, H3, I3, st3, fr3, w3⟩
  rcases turn i n σ3 H3 w3 with ⟨stop, qn⟩ | ⟨go, N, hN, step⟩
  · refine wpAny_passesOwn hp (thn (T.done X rfl rfl rfl hc i pins s3 σ3 H3 X.xe I3 (stat fr3) st3 stop) fun r s4 ⟨hr, I4⟩ => ?_)
    subst hr
    exact wpAny_execs_nil ⟨σ3, H3, I4, qn⟩
  · refine wpAny_passesOwn hp (thn (T.item X rfl rfl rfl hc i pins s3 σ3 H3 X.xe I3 (stat fr3) st3 go) fun r s4 ⟨u, hr, h4⟩ => ?_)
    subst hr
    refine wpAny_passesOwn hp (thn h4 fun _ s5 ⟨x, H5, I5, r5, y5, st5, fr5⟩ => ?_)
    have I5' := I5.pinned (stat fr5) (T.obj _ _ st5)
    refine wpAny_passesOwn hp (thn (hg _ s5 σ3 H5 x u _ I5' r5 (step x H5 y5)) fun _ s6 ⟨σ6, H6, I6, q6⟩ => ?_)
    refine wpAny_passesOwn hp (thn (hb _ s6 σ6 H6 _ I6 q6) fun f s7 q7 => ?_)
    have again : ∀ {σ7 : St} {H7 : Hp}, Inv X (pins ++ pinsAt fp s5.heap) σ7 H7 s7 → N σ7 H7 → ∃ m, m < n ∧ ∃ i σ' H', Inv X pins σ' H' s7 ∧ tn i s7.heap ∧ (∀ b ∈ fp, H' b = none) ∧ W i m σ' H' := fun {σ7 H7} I7 n7 => by
      obtain ⟨m', hm, w7⟩ := hN σ7 H7 n7
      refine ⟨m', hm, i + 1, σ7, H7, I7.unpinned, T.keep _ _ _ st5 fun b hb o e => (I7.pin (b, o) (List.mem_append_right _ (List.mem_append_right _ (mem_pinsAt hb e)))).1, fun b hb => ?_, w7⟩
      obtain ⟨o, e, d⟩ := T.obj _ _ st5 b hb
      exact (I7.pin (b, o) (List.mem_append_right _ (List.mem_append_right _ (mem_pinsAt hb e)))).2.1
    cases f with
    | next => obtain ⟨σ7, H7, I7, n7⟩ := q7; exact again I7 n7
    | cont => obtain ⟨σ7, H7, I7, n7⟩ := q7; exact again I7 n7
    | brk => obtain ⟨σ7, H7, I7, q7⟩ := q7; exact ⟨σ7, H7, I7.unpinned, q7⟩
    | ret v => obtain ⟨x7, σ7, H7, I7, r7, q7⟩ := q7; exact ⟨x7, σ7, H7, I7.unpinned, r7, q7⟩
end

/-! ### the forms one uses -/
end L2

namespace L2
open PySem PySem.Spec PyProof.Rows

abbrev R2 := V → V → Hp → VK → Prop
/-- a two-place operation on values: f is binaryOp op, inplaceOp op or compareOp op -/
def OpR (X : Cx) (f : Value → Value → Sem Value) (r : R2) : Prop :=
  ∀ (pins : List (Addr × Obj)) (s : Shared) (σ : St) (H : Hp) (x y : V) (v u : Value) (Q : VK), Inv X pins σ H s → RelV x v → RelV y u → r x y H Q →
    wpAny (model X.prog X.w) X.A (f v u) (EP X pins σ Q) X.xe s
/-- a one-place operation -/
def UnR (X : Cx) (f : Value → Sem Value) (r : V → Hp → VK → Prop) : Prop :=
  ∀ (pins : List (Addr × Obj)) (s : Shared) (σ : St) (H : Hp) (x : V) (v : Value) (Q : VK), Inv X pins σ H s → RelV x v → r x H Q →
    wpAny (model X.prog X.w) X.A (f v) (EP X pins σ Q) X.xe s
/-- a call of a value that is known (a builtin, a type) with values -/
def CallR (X : Cx) (f : Value) (r : List V → Hp → VK → Prop) : Prop :=
  ∀ (pins : List (Addr × Obj)) (s : Shared) (σ : St) (H : Hp) (xs : List V) (us : List Value) (Q : VK), Inv X pins σ H s → Vals xs us → r xs H Q →
    wpAny (model X.prog X.w) X.A (call f us) (EP X pins σ Q) X.xe s
/-- a value's truth -/
def TruR (X : Cx) (r : V → Hp → (Bool → Hp → Prop) → Prop) : Prop :=
  ∀ (pins : List (Addr × Obj)) (s : Shared) (σ : St) (H : Hp) (x : V) (v : Value) (Q : Bool → Hp → Prop), Inv X pins σ H s → RelV x v → r x H Q →
    wpAny (model X.prog X.w) X.A (truthy v) (TP X pins σ Q) X.xe s

def tOp (r : R2) (ta tb : TE) : TE := fun σ H Q => ta σ H fun x H1 => tb σ H1 fun y H2 => r x y H2 Q
def tUn (r : V → Hp → VK → Prop) (ta : TE) : TE := fun σ H Q => ta σ H fun x H1 => r x H1 Q
/-- ints in, under C, and a value out -/
def rI (C : Int → Int → Prop) (g : Int → Int → V) : R2 := fun x y H Q => ∃ i j, x = .int i ∧ y = .int j ∧ C i j ∧ Q (g i j) H
def rI0 (g : Int → Int → V) : R2 := fun x y H Q => ∃ i j, x = .int i ∧ y = .int j ∧ Q (g i j) H
def rU (g : Int → V) : V → Hp → VK → Prop := fun x H Q => ∃ i, x = .int i ∧ Q (g i) H

section
variable {X : Cx} {a b c : Expr} {ta tb tc : TE} {pos : Pos}

theorem binT (ha : PE X a ta) (hb : PE X b tb) {pins : List (Addr × Obj)} {s : Shared} {σ : St} {H : Hp} {R : V → V → Hp → Prop} (I : Inv X pins σ H s)
    (h : ta σ H fun x H1 => tb σ H1 fun y H2 => R x y H2) {Q : Value → Shared → Prop} {f : Value → Value → Sem Value}
    (hf : ∀ v u s2 x y H2, Inv X pins σ H2 s2 → RelV x v → RelV y u → R x y H2 → wpAny (model X.prog X.w) X.A (f v u) Q X.xe s2) :
    wpAny (model X.prog X.w) X.A (eval a X.env) (fun v s₁ => wpAny (model X.prog X.w) X.A (eval b X.env) (fun u s₂ => wpAny (model X.prog X.w) X.A (f v u) Q X.xe s₂) X.xe s₁) X.xe s := by
  refine thn (ha pins s σ H _ I h) fun v s1 ⟨x, H1, I1, r1, q1⟩ => ?_
  refine thn (hb pins s1 σ H1 _ I1 q1) fun u s2 ⟨y, H2, I2, r2, q2⟩ => ?_
  exact hf v u s2 x y H2 I2 r1 r2 q2

theorem pe_op {op : Operator} {r : R2} (ho : OpR X (binaryOp op) r) (ha : PE X a ta) (hb : PE X b tb) : PE X (.BinOp a op b pos) (tOp r ta tb) := by
  intro pins s σ H Q I h
  exact wpAny_BinOp (binT ha hb I h fun v u s2 x y H2 I2 rx ry q => ho pins s2 σ H2 x y v u Q I2 rx ry q)
theorem pe_un {op : UnaryOp} {r : V → Hp → VK → Prop} (ho : UnR X (unaryOp op) r) (ha : PE X a ta) : PE X (.UnaryOp op a pos) (tUn r ta) := by
  intro pins s σ H Q I h
  exact UnaryOp_ (thn (ha pins s σ H _ I h) fun v s1 ⟨x, H1, I1, r1, q1⟩ => ho pins s1 σ H1 x v Q I1 r1 q1)
/-! ### ints -/
theorem opI {f : Value → Value → Sem Value} {C : Int → Int → Prop} {g : Int → Int → Int}
    (rule : ∀ (i j : Int) (t u : Tok) (s : Shared) (Q : Value → Shared → Prop) (E : Value → Shared → Prop), C i j → Q (.int (g i j) s.toks) { s with toks := s.toks + 1 } → wpAny (model X.prog X.w) X.A (f (.int i t) (.int j u)) Q E s) :
    OpR X f (rI C fun i j => .int (g i j)) := by
  intro pins s σ H x y v u Q I rx ry h
  obtain ⟨i, j, rfl, rfl, hc, q⟩ := h
  obtain ⟨t, rfl⟩ := rx
  obtain ⟨t', rfl⟩ := ry
  exact rule i j t t' s _ _ hc ⟨.int (g i j), H, I.tok _, ⟨_, rfl⟩, q⟩
theorem opI0 {f : Value → Value → Sem Value} {g : Int → Int → Int}
    (rule : ∀ (i j : Int) (t u : Tok) (s : Shared) (Q : Value → Shared → Prop) (E : Value → Shared → Prop), Q (.int (g i j) s.toks) { s with toks := s.toks + 1 } → wpAny (model X.prog X.w) X.A (f (.int i t) (.int j u)) Q E s) :
    OpR X f (rI0 fun i j => .int (g i j)) := by
  intro pins s σ H x y v u Q I rx ry h
  obtain ⟨i, j, rfl, rfl, q⟩ := h
  obtain ⟨t, rfl⟩ := rx
  obtain ⟨t', rfl⟩ := ry
  exact rule i j t t' s _ _ ⟨.int (g i j), H, I.tok _, ⟨_, rfl⟩, q⟩
theorem opB0 {f : Value → Value → Sem Value} {g : Int → Int → Bool}
    (rule : ∀ (i j : Int) (t u : Tok) (s : Shared) (Q : Value → Shared → Prop) (E : Value → Shared → Prop), Q (.bool (g i j)) s → wpAny (model X.prog X.w) X.A (f (.int i t) (.int j u)) Q E s) :
    OpR X f (rI0 fun i j => .bl (g i j)) := by
  intro pins s σ H x y v u Q I rx ry h
  obtain ⟨i, j, rfl, rfl, q⟩ := h
  obtain ⟨t, rfl⟩ := rx
  obtain ⟨t', rfl⟩ := ry
  exact rule i j t t' s _ _ ⟨.bl (g i j), H, I, rfl, q⟩

def CDiv (i j : Int) : Prop := 0 < j ∧ j < 1073741824
def CDivN (i j : Int) : Prop := j ≠ 0 ∧ j.natAbs < 1073741824
def CPow (i j : Int) : Prop := 0 ≤ j ∧ j ≤ 1000000 ∧ i.natAbs < 2 ^ 64
def CMul (i j : Int) : Prop := (-(2 ^ 64) < i ∧ i < 2 ^ 64) ∨ (-(2 ^ 64) < j ∧ j < 2 ^ 64)
theorem CMul.ok {i j : Int} (h : CMul i j) : IntMulOk i j := by
  rcases h with ⟨h1, h2⟩ | ⟨h1, h2⟩
  · exact .of_left (intBits_le_64 h1 h2)
  · exact .of_right (intBits_le_64 h1 h2)
theorem op_add : OpR X (binaryOp .Add) (rI0 fun i j => .int (i + j)) := opI0 fun _ _ _ _ _ _ _ q => add_int q
theorem op_sub : OpR X (binaryOp .Sub) (rI0 fun i j => .int (i - j)) := opI0 fun _ _ _ _ _ _ _ q => sub_int q
/-- // by a positive divisor -/
theorem op_fdiv : OpR X (binaryOp .FloorDiv) (rI CDiv fun i j => .int (i / j)) := opI fun i j _ _ _ _ _ hc q => by
  have h1 : (0 : Int) < j := hc.1
  have h2 : j < 1073741824 := hc.2
  exact floordiv_int (by omega) (by rw [Int.fdiv_eq_ediv_of_nonneg i (by omega)]; exact q) (.inl (PyProof.noPylong_small (by omega)))
/-- % by a positive divisor of any size -/
theorem op_mod : OpR X (binaryOp .Mod) (rI (fun _ j => 0 < j) fun i j => .int (i % j)) := opI fun i j _ _ _ _ _ hc q => by
  have h1 : (0 : Int) < j := hc
  exact mod_int' (by omega) (by rw [Int.fmod_eq_emod_of_nonneg i (by omega)]; exact q)
theorem op_modN : OpR X (binaryOp .Mod) (rI (fun _ j => j ≠ 0) fun i j => .int (i.fmod j)) := opI fun _ _ _ _ _ _ _ hc q => mod_int' hc q
theorem op_pow : OpR X (binaryOp .Pow) (rI CPow fun i j => .int (i ^ j.toNat)) := opI fun _ _ _ _ _ _ _ hc q => pow_int_small hc.1 hc.2.1 hc.2.2 q
theorem unI {f : Value → Sem Value} {g : Int → Int}
    (rule : ∀ (i : Int) (t : Tok) (s : Shared) (Q : Value → Shared → Prop) (E : Value → Shared → Prop), Q (.int (g i) s.toks) { s with toks := s.toks + 1 } → wpAny (model X.prog X.w) X.A (f (.int i t)) Q E s) :
    UnR X f (rU fun i => .int (g i)) := by
  intro pins s σ H x v Q I rx h
  obtain ⟨i, rfl, q⟩ := h
  obtain ⟨t, rfl⟩ := rx
  exact rule i t s _ _ ⟨.int (g i), H, I.tok _, ⟨_, rfl⟩, q⟩
theorem un_neg : UnR X (unaryOp .USub) (rU fun i => .int (-i)) := unI fun _ _ _ _ _ q => neg_int q
/-! ### bools among ints: n += (a < b) -/
end

/-! ### comparisons -/
/-- the scalars that == tells apart as data does -/
def scal : V → V → Bool
  | .non, .non => true | .non, .int _ => true | .int _, .non => true | .non, .bl _ => true | .bl _, .non => true | .non, .str _ => true | .str _, .non => true
  | .int _, .int _ => true | .bl _, .bl _ => true | .str _, .str _ => true | .byt _, .byt _ => true
  | .int _, .str _ => true | .str _, .int _ => true | .bl _, .str _ => true | .str _, .bl _ => true
  | _, _ => false
def rEq : R2 := fun x y H Q => scal x y = true ∧ Q (.bl (decide (x = y))) H
def rNe : R2 := fun x y H Q => scal x y = true ∧ Q (.bl (!decide (x = y))) H

theorem dec_int {i j : Int} : decide (V.int i = V.int j) = (i == j) := by
  rw [Bool.eq_iff_iff]
  simp
theorem dec_bl {i j : Bool} : decide (V.bl i = V.bl j) = (i == j) := by
  rw [Bool.eq_iff_iff]
  simp
theorem dec_str {i j : Str} : decide (V.str i = V.str j) = (i == j) := by
  rw [Bool.eq_iff_iff]
  simp
theorem dec_byt {i j : Array UInt8} : decide (V.byt i = V.byt j) = (i.toList == j.toList) := by
  rw [Bool.eq_iff_iff]
  cases i
  cases j
  simp

section
variable {X : Cx} {a b c : Expr} {ta tb tc : TE} {pos : Pos}
theorem fin_bl {pins : List (Addr × Obj)} {σ : St} {H : Hp} {s : Shared} {Q : VK} {k k' : Bool} (I : Inv X pins σ H s) (q : Q (.bl k) H) (e : k = k') : EP X pins σ Q (.bool k') s := by
  subst e
  exact ⟨.bl k, H, I, rfl, q⟩
theorem op_eq : OpR X (compareOp .Eq) rEq := by
  intro pins s σ H x y v u Q I rx ry h
  obtain ⟨hs, q⟩ := h
  cases x with
  | non =>
    cases rx
    cases y with
    | non => cases ry; exact PySem.EqNone.eq_none_none (fin_bl I q (by simp))
    | bl j => cases ry; exact PySem.EqNone.eq_none_bool (fin_bl I q (by simp))
    | int j => obtain ⟨t', rfl⟩ := ry; exact PySem.EqNone.eq_none_int (fin_bl I q (by simp))
    | str j => obtain ⟨t', rfl⟩ := ry; exact PySem.EqNone.eq_none_str (fin_bl I q (by simp))
    | _ => exact absurd (show false = true from hs) Bool.false_ne_true
  | bl i =>
    cases rx
    cases y with
    | non => cases ry; exact PySem.EqNone.eq_bool_none (fin_bl I q (by simp))
    | bl j => cases ry; exact eq_bool (fin_bl I q dec_bl)
    | str j => obtain ⟨t', rfl⟩ := ry; exact PySem.EqMixed.eq_bool_str (fin_bl I q (by simp))
    | _ => exact absurd (show false = true from hs) Bool.false_ne_true
  | int i =>
    obtain ⟨t, rfl⟩ := rx
    cases y with
    | non => cases ry; exact PySem.EqNone.eq_int_none (fin_bl I q (by simp))
    | int j => obtain ⟨t', rfl⟩ := ry; exact eq_int (fin_bl I q dec_int)
    | str j => obtain ⟨t', rfl⟩ := ry; exact PySem.EqMixed.eq_int_str (fin_bl I q (by simp))
    | _ => exact absurd (show false = true from hs) Bool.false_ne_true
  | str i =>
    obtain ⟨t, rfl⟩ := rx
    cases y with
    | non => cases ry; exact PySem.EqNone.eq_str_none (fin_bl I q (by simp))
    | bl j => cases ry; exact PySem.EqMixed.eq_str_bool (fin_bl I q (by simp))
    | int j => obtain ⟨t', rfl⟩ := ry; exact PySem.EqMixed.eq_str_int (fin_bl I q (by simp))
    | str j => obtain ⟨t', rfl⟩ := ry; exact eq_str (fin_bl I q dec_str)
    | _ => exact absurd (show false = true from hs) Bool.false_ne_true
  | byt i =>
    obtain ⟨t, rfl⟩ := rx
    cases y with
    | byt j => obtain ⟨t', rfl⟩ := ry; exact PySem.W.eq_bytes (fin_bl I q dec_byt)
    | _ => exact absurd (show false = true from hs) Bool.false_ne_true
  | _ => cases y <;> exact absurd (show false = true from hs) Bool.false_ne_true
theorem op_ne : OpR X (compareOp .NotEq) rNe := by
  intro pins s σ H x y v u Q I rx ry h
  obtain ⟨hs, q⟩ := h
  cases x with
  | non =>
    cases rx
    cases y with
    | non => cases ry; exact PySem.EqNone.ne_none_none (fin_bl I q (by simp))
    | bl j => cases ry; exact PySem.EqNone.ne_none_bool (fin_bl I q (by simp))
    | int j => obtain ⟨t', rfl⟩ := ry; exact PySem.EqNone.ne_none_int (fin_bl I q (by simp))
    | str j => obtain ⟨t', rfl⟩ := ry; exact PySem.EqNone.ne_none_str (fin_bl I q (by simp))
    | _ => exact absurd (show false = true from hs) Bool.false_ne_true
  | bl i =>
    cases rx
    cases y with
    | non => cases ry; exact PySem.EqNone.ne_bool_none (fin_bl I q (by simp))
    | bl j => cases ry; exact ne_bool (fin_bl I q (congrArg not dec_bl))
    | str j => obtain ⟨t', rfl⟩ := ry; exact PySem.EqMixed.ne_bool_str (fin_bl I q (by simp))
    | _ => exact absurd (show false = true from hs) Bool.false_ne_true
  | int i =>
    obtain ⟨t, rfl⟩ := rx
    cases y with
    | non => cases ry; exact PySem.EqNone.ne_int_none (fin_bl I q (by simp))
    | int j => obtain ⟨t', rfl⟩ := ry; exact ne_int (fin_bl I q (congrArg not dec_int))
    | str j => obtain ⟨t', rfl⟩ := ry; exact PySem.EqMixed.ne_int_str (fin_bl I q (by simp))
    | _ => exact absurd (show false = true from hs) Bool.false_ne_true
  | str i =>
    obtain ⟨t, rfl⟩ := rx
    cases y with
    | non => cases ry; exact PySem.EqNone.ne_str_none (fin_bl I q (by simp))
    | bl j => cases ry; exact PySem.EqMixed.ne_str_bool (fin_bl I q (by simp))
    | int j => obtain ⟨t', rfl⟩ := ry; exact PySem.EqMixed.ne_str_int (fin_bl I q (by simp))
    | str j => obtain ⟨t', rfl⟩ := ry; exact ne_str (fin_bl I q (congrArg not dec_str))
    | _ => exact absurd (show false = true from hs) Bool.false_ne_true
  | byt i =>
    obtain ⟨t, rfl⟩ := rx
    cases y with
    | byt j => obtain ⟨t', rfl⟩ := ry; exact PySem.W.ne_bytes (fin_bl I q (congrArg not dec_byt))
    | _ => exact absurd (show false = true from hs) Bool.false_ne_true
  | _ => cases y <;> exact absurd (show false = true from hs) Bool.false_ne_true

theorem op_lt : OpR X (compareOp .Lt) (rI0 fun i j => .bl (decide (i < j))) := opB0 fun _ _ _ _ _ _ _ q => lt_int q
theorem op_gt : OpR X (compareOp .Gt) (rI0 fun i j => .bl (decide (j < i))) := opB0 fun _ _ _ _ _ _ _ q => gt_int q
/-- is, is not of two objects that are tracked lists or instances -/
def isObj : HO → Bool
  | .lst _ => true
  | .ins _ _ _ => true
  | _ => false
/-- two rules for one operation: by cases -/
theorem OpR.or {f : Value → Value → Sem Value} {r r' : R2} (h : OpR X f r) (h' : OpR X f r') : OpR X f (fun x y H Q => r x y H Q ∨ r' x y H Q) := by
  intro pins s σ H x y v u Q I rx ry q
  rcases q with q | q
  · exact h pins s σ H x y v u Q I rx ry q
  · exact h' pins s σ H x y v u Q I rx ry q

theorem nomark (b : Expr) {op : CmpOp} (h : op ≠ .In := by decide) (h2 : op ≠ .NotIn := by decide) : behindInMarks op b = false := by
  have e1 : (op == CmpOp.In) = false := by cases op <;> first | rfl | exact absurd rfl h
  have e2 : (op == CmpOp.NotIn) = false := by cases op <;> first | rfl | exact absurd rfl h2
  cases b <;> simp [behindInMarks, e1, e2]
/-- a comparison as a value; hm: nomark b, or (for in, not in) by with_unfolding_all rfl -/
theorem pe_cmpR {op : CmpOp} {r : R2} (ho : OpR X (compareOp op) r) (ha : PE X a ta) (hb : PE X b tb) (hm : behindInMarks op b = false) : PE X (.Compare a [op] [b] pos) (tOp r ta tb) := by
  intro pins s σ H Q I h
  exact wpAny_Compare1 (binT ha hb I h fun v u s2 x y H2 I2 rx ry q => ho pins s2 σ H2 x y v u Q I2 rx ry q) hm
/-- a reading of a value as a test -/
def tTest (t : TE) : TT := fun σ H Q => t σ H fun x H' => ∃ k, x = .bl k ∧ Q k H'
theorem pt_cmpR {op : CmpOp} {r : R2} (ho : OpR X (compareOp op) r) (ha : PE X a ta) (hb : PE X b tb) (hm : behindInMarks op b = false) : PT X (.Compare a [op] [b] pos) (tTest (tOp r ta tb)) := by
  intro pins s σ H Q I h
  refine wpAny_isTrue_Compare1 (thn (ha pins s σ H _ I h) fun v s1 ⟨x, H1, I1, r1, q1⟩ => thn (hb pins s1 σ H1 _ I1 q1) fun u s2 ⟨y, H2, I2, r2, q2⟩ =>
    thn (ho pins s2 σ H2 x y v u _ I2 r1 r2 q2) fun c s3 ⟨z, H3, I3, r3, k, e, q3⟩ => ?_) hm
  subst e
  cases r3
  exact wpAny_truthy_bool ⟨H3, I3, q3⟩
/-- a op1 b op2 c -/
def tChain (r r' : R2) (ta tb tc : TE) : TE := fun σ H Q => ta σ H fun x H1 => tb σ H1 fun y H2 => r x y H2 fun z H3 => ∃ k, z = .bl k ∧
  (if k = true then tc σ H3 fun w' H4 => r' y w' H4 Q else Q (.bl false) H3)
/-! ### truth -/
/-- a value's truth by the abstract heap -/
def TruV (K : PySem.W.Frag) (x : V) (H : Hp) (k : Bool) : Prop :=
  match x with
  | .non => k = false
  | .bl b => k = b
  | .int i => k = (i != 0)
  | .str y => y.length ≤ sizeLine ∧ k = ((y.length : Int) != 0)
  | .byt y => y.size ≤ sizeLine ∧ k = ((y.size : Int) != 0)
  | .ref p => (∃ xs, SqL K H p xs ∧ k = !xs.isEmpty) ∨ (∃ xs, SqT K H p xs ∧ k = !xs.isEmpty) ∨ ∃ kvs, H p = some (.dK kvs) ∧ k = !kvs.isEmpty
  | _ => False
theorem line63 : (sizeLine : Nat) < 2 ^ 63 := by rw [sizeLine_eq]; decide
/-! ### strs and bytes -/
def PlainIxT (b : Expr) : Prop := ∀ o i, subscripted b false o i = operate [o, i] (getItem o i)
/-! ### scalar builtins, by CallR -/
theorem vals1 {x : V} {us : List Value} (r : Vals [x] us) : ∃ u, us = [u] ∧ RelV x u := by
  cases r with
  | cons r1 r2 => cases r2; exact ⟨_, rfl, r1⟩
theorem vals2 {x y : V} {us : List Value} (r : Vals [x, y] us) : ∃ u w', us = [u, w'] ∧ RelV x u ∧ RelV y w' := by
  cases r with
  | cons r1 r2 =>
    cases r2 with
    | cons r3 r4 => cases r4; exact ⟨_, _, rfl, r1, r3⟩
theorem call_abs : CallR X (.builtin "abs") (fun xs H Q => ∃ i, xs = [.int i] ∧ Q (.int (if i < 0 then -i else i)) H) := by
  intro pins s σ H xs us Q I r h
  obtain ⟨i, rfl, q⟩ := h
  obtain ⟨u, rfl, t, rfl⟩ := vals1 r
  exact call_abs_int fun u tk => ⟨.int (if i < 0 then -i else i), H, I.tok _, ⟨_, rfl⟩, q⟩
theorem call_int1 : CallR X (.type "int") (fun xs H Q => (∃ i, xs = [.int i] ∧ Q (.int i) H) ∨ ∃ k, xs = [.bl k] ∧ Q (.int (if k then 1 else 0)) H) := by
  intro pins s σ H xs us Q I r h
  rcases h with ⟨i, rfl, q⟩ | ⟨k, rfl, q⟩
  · obtain ⟨u, rfl, t, rfl⟩ := vals1 r
    exact call_int_int ⟨.int i, H, I, ⟨_, rfl⟩, q⟩
  · obtain ⟨u, rfl, r1⟩ := vals1 r
    cases r1
    exact call_int_bool ⟨.int (if k then 1 else 0), H, I.tok _, ⟨_, rfl⟩, q⟩
/-- len of a str, a bytes, a list, a tuple -/
def LenV (K : PySem.W.Frag) (x : V) (H : Hp) (n : Nat) : Prop :=
  match x with
  | .str y => y.length ≤ sizeLine ∧ n = y.length
  | .byt y => y.size ≤ sizeLine ∧ n = y.size
  | .ref p => (∃ xs, SqL K H p xs ∧ n = xs.length) ∨ ∃ xs, SqT K H p xs ∧ n = xs.length
  | _ => False
end
end L2

namespace L2
open PySem PySem.Spec PyProof.Rows

/-! ### an instance, its attributes a map -/
structure ObjM (h : Heap) (x dx C : Addr) (mA : Str → Option Value) : Prop where
  obj : h.get? x = some (PySem.W.instObj C dx)
  ns : h.Ns1 dx mA
  ne : dx ≠ x

theorem lookIn_ns {h : Heap} {dx : Addr} {mA : Str → Option Value} (n : h.Ns1 dx mA) : ∃ od, h.get? dx = some od ∧ ∀ name, PySem.W.lookIn name od = some (mA name) := by
  obtain ⟨o, es, ep, ho, hd, hk, _, hm⟩ := n
  refine ⟨o, ho, fun name => ?_⟩
  have e := hm name
  unfold nsFind findBy at e
  rw [← Array.find?_toList] at e
  unfold PySem.W.lookIn
  rw [hd]
  dsimp only
  split
  · rename_i y q
    rw [q] at e
    exact congrArg some e
  · rename_i q
    rw [q] at e
    have a : es.toList.any (·.refKey) = false := by
      rw [List.any_eq_false]
      intro y hy
      obtain ⟨z, t, hkey⟩ := hk y (Array.mem_toList_iff.mp hy)
      simp [DictEntry.refKey, hkey]
    have a' : ¬ es.toList.any (·.refKey) = true := by rw [a]; exact Bool.false_ne_true
    rw [if_neg a']
    exact congrArg some e

theorem ObjM.look {h : Heap} {x dx C : Addr} {mA : Str → Option Value} (I : ObjM h x dx C mA) : ∃ od, PySem.W.InstAt h x (PySem.W.instObj C dx) C (some od) ∧ ∀ name, PySem.W.lookIn name od = some (mA name) :=
  let ⟨od, ho, hl⟩ := lookIn_ns I.ns
  ⟨od, ⟨I.obj, rfl, rfl, ho⟩, hl⟩

section
variable {prog : Program} {w : World} {A : Around} {E : Value → Shared → Prop} {s : Shared} {K : PySem.W.Frag} {x dx C f : Addr} {mA : Str → Option Value} {name : Str} {v : Value}

theorem get_meth {pl : Sem Bool} {Q : Value × List Value → Shared → Prop} (X : K.In s.heap) (I : ObjM s.heap x dx C mA) (hg : PySem.W.plainGet K C name = true)
    (hf : PySem.W.findIn K (.ref C) name = some (some (.ref f))) (ht : PySem.W.isFn K (.ref f) = true) (hv : mA name = none) (h : Q (.ref f, [.ref x]) s) :
    wpAny (model prog w) A (getMethod (.ref x) name pl) Q E s := by
  obtain ⟨od, J, hl⟩ := I.look
  exact PySem.W.method_fn X J (PySem.W.plainGet_of hg).1 (PySem.W.plainGet_of hg).2 hf (beq_iff_eq.mp ht) (by show (PySem.W.lookIn name od).map (·.isSome) = some false; rw [hl, hv]; rfl) h

/-- C() where there is no __init__ but object's -/
theorem make_map0 {R : Result → Shared → Prop} (X : K.In s.heap) (hm : PySem.W.makesIn K C = true)
    (hi : PySem.W.findIn K (.ref C) "__init__" = some (some (.builtin "object.__init__")))
    (hb : ∀ self, PySem.W.Looks (model prog w) s.heap (bindSpecial (.builtin "object.__init__") self) (.builtin "object.__init__", [self]))
    (h : codeAny (model prog w) (A.under (.builtin "type.__call__" ⟨[.ref C], []⟩)) (.call (.builtin "object.__init__") ⟨[.ref (s.heap.objs.size + 1)], []⟩) (PySem.W.InitBack (s.heap.objs.size + 1) R)
      { s with heap := (s.heap.push PySem.W.emptyDict).push (PySem.W.instObj C s.heap.objs.size) }) :
    codeAny (model prog w) A (.call (.ref C) ⟨[], []⟩) R s := by
  obtain ⟨hh, g, d, t, os⟩ := s
  exact PySem.W.make_core (PySem.W.makes_of X hm) (PySem.W.looks_findIn X hi) hb (.inr ⟨rfl, rfl⟩) h
end

/-! ### the attributes as a list of pairs -/
def putF (f : Str) (v : V) : List (Str × V) → List (Str × V)
  | [] => [(f, v)]
  | (g, x) :: r => if g = f then (g, v) :: r else (g, x) :: putF f v r
theorem RelO.none_of {o : Option Value} (r : RelO none o) : o = none := by
  cases o with
  | none => rfl
  | some u => exact (show False from r).elim
section
variable {P : Program} {w : World} {H H' : Hp} {h h' : Heap} {a C dx : Addr} {fs fs' : List (Str × V)}
theorem ins_get (hok : HOk P w H h) (e : H a = some (.ins C dx fs)) : ∃ mA, ObjM h a dx C mA ∧ (∀ f, RelO (fs.lookup f) (mA f)) ∧ PySem.Within mA (fs.map (·.1)) ∧ fs.length ≤ 1000 ∧ H dx = some (.own a) := by
  obtain ⟨d, z, ne, ob, mA, n, r, q⟩ := (show ObjOk P w H h a (.ins C dx fs) from hok a _ e)
  exact ⟨mA, ⟨ob, n, ne⟩, r, q, z, d⟩
end

/-! ### what of the text a class must have -/
structure Cls (K : PySem.W.Frag) (C : Addr) : Prop where
  pg : PySem.W.plainGet K C Str.empty = true
  hd : PySem.W.hasDictIn K C = true
  po : PySem.W.plainOver K C = true
  sa : PySem.W.findIn K (.ref C) "__setattr__" = some (some (.builtin "object.__setattr__"))
theorem Cls.get {K : PySem.W.Frag} {C : Addr} (c : Cls K C) (f : Str) : PySem.W.plainGet K C f = true := c.pg
/-- no class of it has the name -/
def NoAttr (K : PySem.W.Frag) (C : Addr) (f : Str) : Prop := PySem.W.findIn K (.ref C) f = some none
/-- a constant of the class -/
structure Con (K : PySem.W.Frag) (C : Addr) (f : Str) (v : V) (u : Value) : Prop where
  at_ : PySem.W.findIn K (.ref C) f = some (some u)
  rel : RelV v u
  get : PySem.W.specialIn K u "__get__" = some none
  cp : PySem.W.copiedNames.contains f = false
/-- a method: a plain def of the class or of one above it -/
structure Meth (K : PySem.W.Frag) (C : Addr) (m : Str) (f : Addr) : Prop where
  at_ : PySem.W.findIn K (.ref C) m = some (some (.ref f))
  fn : PySem.W.isFn K (.ref f) = true
  kp : PySem.W.keepIn K (.ref f) = true

section
variable {X : Cx} {pins : List (Addr × Obj)} {σ : St} {H : Hp} {s : Shared} {a C dx : Addr} {fs : List (Str × V)} {f : Str} {v : V} {A : Around} {E : Value → Shared → Prop}

theorem getmeth_ok {m : Str} {g : Addr} {pl : Sem Bool} {Q : Value × List Value → Shared → Prop} (I : Inv X pins σ H s) (e : H a = some (.ins C dx fs)) (c : Cls X.K C) (k : Meth X.K C m g) (l : fs.lookup m = none)
    (h : Q (.ref g, [.ref a]) s) : wpAny (model X.prog X.w) A (getMethod (.ref a) m pl) Q E s := by
  obtain ⟨mA, O, r, _, _, _⟩ := ins_get I.hok e
  have hn : mA m = none := RelO.none_of (by rw [← l]; exact r m)
  exact get_meth I.kIn O (c.get m) k.at_ k.fn hn h

/-- a new instance, tracked, without attributes -/
theorem Inv.made (I : Inv X pins σ H s) : Inv X pins σ (upd (upd H s.heap.objs.size (.own (s.heap.objs.size + 1))) (s.heap.objs.size + 1) (.ins C s.heap.objs.size []))
    { s with heap := (s.heap.push PySem.W.emptyDict).push (PySem.W.instObj C s.heap.objs.size) } := by
  have e1 : (s.heap.push PySem.W.emptyDict).get? s.heap.objs.size = some PySem.W.emptyDict := Heap.get?_push_size s.heap rfl
  have e2 : ((s.heap.push PySem.W.emptyDict).push (PySem.W.instObj C s.heap.objs.size)).get? (s.heap.objs.size + 1) = some (PySem.W.instObj C s.heap.objs.size) := by
    have := Heap.get?_push_size (s.heap.push PySem.W.emptyDict) (o := PySem.W.instObj C s.heap.objs.size) rfl
    rwa [Heap.size_push] at this
  have e3 : (s.heap.push PySem.W.emptyDict).Ns s.heap.objs.size (fun _ => none) := ⟨PySem.W.emptyDict, #[], _, e1, rfl, (fun e he => absurd he (by simp)), fun _ => rfl⟩
  have I1 := I.laid (a := s.heap.objs.size) (o := .own (s.heap.objs.size + 1)) (h' := s.heap.push PySem.W.emptyDict) (t' := s.toks) (fun b u q => Heap.get?_push_of_some _ q) (Nat.le_refl _) ⟨_, e1⟩
  refine I1.laid (a := s.heap.objs.size + 1) (o := .ins C s.heap.objs.size []) (t' := s.toks) (fun b u q => Heap.get?_push_of_some _ q) (Nat.le_of_eq (Heap.size_push _ _)) ?_
  have ne : s.heap.objs.size ≠ s.heap.objs.size + 1 := Nat.ne_of_lt (Nat.lt_succ_self _)
  refine ⟨by rw [upd_ne ne, upd_same], Nat.zero_le _, ne, e2, fun _ => none, (Heap.Ns1.of_empty e3).at fun o q => Heap.get?_push_of_some _ q, fun _ => True.intro, fun y hy => absurd rfl hy⟩

end

/-! ### readings and rules -/
/-- e.f, an attribute of the instance -/
def tFld (K : PySem.W.Frag) (ta : TE) (f : Str) : TE := fun σ H Q => ta σ H fun x H1 => ∃ a C dx fs v, x = .ref a ∧ H1 a = some (.ins C dx fs) ∧ Cls K C ∧ NoAttr K C f ∧ fs.lookup f = some v ∧ Q v H1
/-- e.f, a constant of the class -/
def tCon (K : PySem.W.Frag) (ta : TE) (f : Str) : TE := fun σ H Q => ta σ H fun x H1 => ∃ a C dx fs v u, x = .ref a ∧ H1 a = some (.ins C dx fs) ∧ Cls K C ∧ Con K C f v u ∧ fs.lookup f = none ∧ Q v H1
/-- e.f = value -/
def sFld (K : PySem.W.Frag) (ta tv : TE) (f : Str) : TS := fun D σ H => tv σ H fun y H1 => ta σ H1 fun x H2 => ∃ a C dx fs, x = .ref a ∧ H2 a = some (.ins C dx fs) ∧ Cls K C ∧ NoAttr K C f ∧ fs.length < 1000 ∧
  D.nx σ (upd H2 a (.ins C dx (putF f y fs)))
/-- an augmented operator on two values -/
def InOp (X : Cx) (op : Operator) (rd : V → V → Hp → VK → Prop) : Prop :=
  ∀ (pins : List (Addr × Obj)) (s : Shared) (σ : St) (H : Hp) (x y : V) (u v : Value) (Q : VK), Inv X pins σ H s → RelV x u → RelV y v → rd x y H Q → wpAny (model X.prog X.w) X.A (inplaceOp op u v) (EP X pins σ Q) X.xe s
/-- e.f op= value -/
def sFldAug (K : PySem.W.Frag) (ta tv : TE) (rd : V → V → Hp → VK → Prop) (f : Str) : TS := fun D σ H => ta σ H fun x H1 => ∃ a C dx fs v, x = .ref a ∧ H1 a = some (.ins C dx fs) ∧ Cls K C ∧ NoAttr K C f ∧ fs.lookup f = some v ∧
  tv σ H1 fun y H2 => rd v y H2 fun z H3 => ∃ dx' fs', H3 a = some (.ins C dx' fs') ∧ fs'.length < 1000 ∧ D.nx σ (upd H3 a (.ins C dx' (putF f z fs')))

section
variable {X : Cx} {o e value : Expr} {f : Str} {pos pos' tpos : Pos} {ta tv : TE}
def rAdd : V → V → Hp → VK → Prop := fun x y H Q => ∃ i j, x = .int i ∧ y = .int j ∧ Q (.int (i + j)) H
def rSub : V → V → Hp → VK → Prop := fun x y H Q => ∃ i j, x = .int i ∧ y = .int j ∧ Q (.int (i - j)) H
end

/-! ### isinstance -/
section
variable {X : Cx} {pins : List (Addr × Obj)} {σ : St} {H : Hp} {s : Shared} {A : Around} {E : Value → Shared → Prop} {Q : Value → Shared → Prop} {c : Value} {b : Bool}
/-- the type of a value, as the fragment's deciders take it; for an instance its class -/
inductive TyOf (K : PySem.W.Frag) (H : Hp) : V → Value → Prop where
  | non : TyOf K H .non (.type "NoneType")
  | bl (x : Bool) : TyOf K H (.bl x) (.type "bool")
  | int (i : Int) : TyOf K H (.int i) (.type "int")
  | str (x : Str) : TyOf K H (.str x) (.type "str")
  | flt (x : UInt64) : TyOf K H (.flt x) (.type "float")
  | lst {a : Addr} {xs : List V} (e : H a = some (.lst xs)) : TyOf K H (.ref a) (.type "list")
  | frz {a : Addr} {o : Obj} {xs : List V} (e : H a = some (.frz o (.lst xs))) : TyOf K H (.ref a) (.type "list")
  | tup {a : Addr} {xs : List V} (e : H a = some (.tup xs)) : TyOf K H (.ref a) (.type "tuple")
  | dK {a : Addr} {kvs : List (Key × V)} (e : H a = some (.dK kvs)) : TyOf K H (.ref a) (.type "dict")
  | dT {a : Addr} {kvs : List (List Key × V)} (e : H a = some (.dT kvs)) : TyOf K H (.ref a) (.type "dict")
  | ins {a C dx : Addr} {fs : List (Str × V)} (e : H a = some (.ins C dx fs)) (cl : Cls K C) (ha : PySem.W.findIn K (.ref C) "__class__" = some (some (.builtin "object.__class__")))
      (hn : PySem.W.specialIn K (.builtin "object.__class__") "__get__" = some (some (.builtin "getset_descriptor.__get__"))) (htk : PySem.W.takesIn K (.builtin "object.__class__") = some true)
      (hm : PySem.W.mroIn K C (.type "object") = some true) : TyOf K H (.ref a) (.ref C)
/-- isinstance(x, c) for one class c, a built-in or an own one: kitOne's answer -/
theorem isinst_ok {x : V} {u t : Value} (I : Inv X pins σ H s) (rx : RelV x u) (ty : TyOf X.K H x t) (e : PySem.W.kitOne X.K t c = some b) (h : ∀ tk, Q (.bool b) { s with toks := tk }) :
    wpAny (model X.prog X.w) A (call (.builtin "isinstance") [u, c]) Q E s := by
  cases ty with
  | non => cases (show u = Value.none from rx); exact PySem.W.kia_one PySem.W.kitx_none I.kIn True.intro e (fun z => nomatch z) h
  | bl y => cases (show u = Value.bool y from rx); exact PySem.W.kia_one PySem.W.kitx_bool I.kIn True.intro e (fun z => nomatch z) h
  | int i => obtain ⟨t, q⟩ := (show ∃ t, u = Value.int i t from rx); cases q; exact PySem.W.kia_one PySem.W.kitx_int I.kIn True.intro e (fun z => nomatch z) h
  | str y => obtain ⟨t, q⟩ := (show ∃ t, u = Value.str y t from rx); cases q; exact PySem.W.kia_one PySem.W.kitx_str I.kIn True.intro e (fun z => nomatch z) h
  | flt y => obtain ⟨t, q⟩ := (show ∃ t, u = Value.float y t from rx); cases q; exact PySem.W.kia_one PySem.W.kitx_float I.kIn True.intro e (fun z => nomatch z) h
  | @lst a xs ea =>
    cases (show u = Value.ref a from rx)
    obtain ⟨_, _, n, _, h1⟩ := (show ObjOk X.prog X.w H s.heap a (.lst xs) from I.hok a _ ea)
    exact PySem.W.kia_one PySem.W.kitx_list I.kIn ⟨_, h1, rfl⟩ e (fun z => nomatch z) h
  | @frz a ob xs ea =>
    cases (show u = Value.ref a from rx)
    obtain ⟨_, _, _, n, _, h1⟩ := (show ObjOk X.prog X.w H s.heap a (.frz ob (.lst xs)) from I.hok a _ ea)
    exact PySem.W.kia_one PySem.W.kitx_list I.kIn ⟨_, h1, rfl⟩ e (fun z => nomatch z) h
  | @tup a xs ea =>
    cases (show u = Value.ref a from rx)
    obtain ⟨_, _, _, p⟩ := (show ObjOk X.prog X.w H s.heap a (.tup xs) from I.hok a _ ea)
    obtain ⟨o, h1, h2, _⟩ := p
    exact PySem.W.kia_one PySem.W.kitx_tuple I.kIn ⟨o, h1, h2⟩ e (fun z => nomatch z) h
  | @dK a kvs ea =>
    cases (show u = Value.ref a from rx)
    obtain ⟨_, _, vs, _, p⟩ := (show ObjOk X.prog X.w H s.heap a (.dK kvs) from I.hok a _ ea)
    obtain ⟨o, es, ep, h1, h2, _⟩ := p
    exact PySem.W.kia_one PySem.W.kitx_dict I.kIn ⟨o, h1, h2.1⟩ e (fun z => nomatch z) h
  | @dT a kvs ea =>
    cases (show u = Value.ref a from rx)
    obtain ⟨_, _, xs, _, o, es, ep, h1, h2, _⟩ := (show ObjOk X.prog X.w H s.heap a (.dT kvs) from I.hok a _ ea)
    exact PySem.W.kia_one PySem.W.kitx_dict I.kIn ⟨o, h1, h2.1⟩ e (fun z => nomatch z) h
  | @ins a C dx fs ea cl ha hn htk hm =>
    cases (show u = Value.ref a from rx)
    obtain ⟨mA, O, _⟩ := ins_get I.hok ea
    obtain ⟨od, J, _⟩ := O.look
    exact PySem.W.kia_one (PySem.W.kitx_own (cl.get _) cl.hd ha hn htk hm) I.kIn J e (fun z => nomatch z) h
end
end L2

namespace L2
open PySem PySem.Spec PyProof.Rows

/-! ### room -/
structure Room (k : Nat) (A : Around) : Prop where
  hd : A.handled = none
  dp : A.depth + 3 * k + 5 < recursionLimit
  un : A.units + 16 * k + 200 < cLine
theorem Room.mono {j k : Nat} {A : Around} (r : Room k A) (h : j ≤ k) : Room j A := ⟨r.hd, by have := r.dp; omega, by have := r.un; omega⟩
theorem Room.deeper {k : Nat} {A : Around} (r : Room (k + 1) A) (env : Env) : Room k (A.deeper env) :=
  ⟨r.hd, by have := r.dp; show A.depth + 1 + 3 * k + 5 < _; omega, by have := r.un; show A.units + 3 + 16 * k + 200 < _; omega⟩
theorem Room.depth {k : Nat} {A : Around} (r : Room k A) : A.depth < recursionLimit := by have := r.dp; omega
theorem Room.units {k : Nat} {A : Around} (r : Room k A) : A.units + 64 < cLine := by have := r.un; omega
theorem Room.units0 {k : Nat} {A : Around} (r : Room k A) : A.units < cLine := by have := r.un; omega

/-! ### argument lists and displays -/
def tNil : TA := fun _ H Q => Q [] H
def tCons (ta : TE) (tr : TA) : TA := fun σ H Q => ta σ H fun x H1 => tr σ H1 fun xs H2 => Q (x :: xs) H2
section
variable {X : Cx} {e : Expr} {es : List Expr} {te : TE} {t : TA} {pos : Pos}
theorem pa_nil : PA X [] tNil := fun _ _ _ _ H Q I h => Calls.spliced_nil ⟨[], H, I, .nil, h⟩
theorem pa_cons (ha : PE X e te) (hr : PA X es t) (hs : starEach (e :: es) X.env = (false, eval e X.env) :: starEach es X.env := by rfl) : PA X (e :: es) (tCons te t) := by
  intro pos pins s σ H Q I h
  rw [hs]
  show wpAny _ _ (spliced ((false, eval e X.env) :: backTo pos (starEach es X.env))) _ _ s
  refine Calls.spliced_cons (thn (ha pins s σ H _ I h) fun u s1 ⟨x, H1, I1, r1, q1⟩ => ?_)
  exact thn (hr pos pins s1 σ H1 _ I1 q1) fun us s2 ⟨xs, H2, I2, r2, q2⟩ => ⟨x :: xs, H2, I2, .cons r1 r2, q2⟩

/-- a tuple, a list of written items -/
def tTup (t : TA) : TE := fun σ H Q => t σ H fun xs H1 => xs.length ≤ sizeLine ∧ ∀ p, H1 p = none → Q (.ref p) (upd H1 p (.tup xs))
def tLst (t : TA) : TE := fun σ H Q => t σ H fun xs H1 => xs.length ≤ sizeLine ∧ ∀ p, H1 p = none → Q (.ref p) (upd H1 p (.lst xs))
theorem pe_tup {x1} (h : PA X es t) : PE X (.Tuple es x1 pos) (tTup t) := by
  intro pins s σ H Q I hq
  refine wpAny_Tuple_spliced (thn (h pos pins s σ H _ I hq) fun us s1 ⟨xs, H1, I1, r, z, q⟩ => ⟨by rw [← r.length]; exact z, ?_⟩)
  have hf : H1 s1.heap.objs.size = none := I1.hok.fresh (Nat.le_refl _)
  refine ⟨.ref s1.heap.objs.size, upd H1 s1.heap.objs.size (.tup xs), I1.laid (t' := s1.toks) (fun b u e => Heap.get?_push_of_some _ e) (Nat.le_refl _) ?_, rfl, q _ hf⟩
  exact ⟨z, us, r, ⟨_, Heap.get?_push_size _ rfl, rfl, _, rfl⟩⟩
theorem pe_lst (h : PA X es t) : PE X (.List es pos) (tLst t) := by
  intro pins s σ H Q I hq
  refine wpAny_List_spliced (thn (h pos pins s σ H _ I hq) fun us s1 ⟨xs, H1, I1, r, z, q⟩ => ⟨by rw [← r.length]; exact z, ?_⟩)
  have hf : H1 s1.heap.objs.size = none := I1.hok.fresh (Nat.le_refl _)
  refine ⟨.ref s1.heap.objs.size, upd H1 s1.heap.objs.size (.lst xs), I1.laid (t' := s1.toks) (fun b u e => Heap.get?_push_of_some _ e) (Nat.le_refl _) ?_, rfl, q _ hf⟩
  exact ⟨z, us, 0, r, Heap.get?_push_size _ rfl⟩
end

/-! ### what a def promises -/
/-- a def's promise: the bound arguments in the parameters' order, the heap, the wanted end, the wanted exception -/
abbrev Sp := List V → Hp → VK → XK → Prop
/-- how an exception lies behind a call (file 08 gives it): the callers' frames, abstract heap and state ahead of the call, the wish, the exception, the state -/
abbrev CXT := List Env → Hp → Shared → XK → Value → Shared → Prop

/-- the state at a call -/
structure Env0 (P : Program) (w : World) (K : PySem.W.Frag) (mg : Str → Option Value) (base : Heap) (A : Around) (outer : List Env) (s : Shared) (H : Hp) : Prop where
  frames : A.frames = some outer
  mod : Mod K mg base
  bs : ∀ b o, base.get? b = some o → s.heap.get? b = some o ∧ H b = none
  bsz : base.objs.size ≤ s.heap.objs.size
  funs : s.heap.FunFrames base outer
  frf : ∀ b ∈ frs outer, H b = none
  hok : HOk P w H s.heap
  bare : AllBare s.gens
/-- a call's end -/
def CE (outer : List Env) (P : Program) (w : World) (H : Hp) (s : Shared) (Q : VK) (u : Value) (s' : Shared) : Prop :=
  ∃ v H', s'.os = s.os ∧ AllBare s'.gens ∧ Un (frs outer) [] H H' s.heap s'.heap ∧ HOk P w H' s'.heap ∧ RelV v u ∧ Q v H'
def CR (CX : CXT) (outer : List Env) (P : Program) (w : World) (H : Hp) (s : Shared) (Q : VK) (E : XK) (r : Result) (s' : Shared) : Prop :=
  match r with
  | .ok (.ret u) => CE outer P w H s Q u s'
  | .ok _ => False
  | .error e => CX outer H s E e s'
structure FnOk (P : Program) (w : World) (K : PySem.W.Frag) (mg : Str → Option Value) (base : Heap) (CX : CXT) (k : Nat) (f : Addr) (fd : FuncData) (ps : List Str) (sp : Sp) : Prop where
  len : ∀ vs H Q E, sp vs H Q E → vs.length = ps.length
  run : ∀ (A : Around) (outer : List Env) (s : Shared) (H : Hp) (args : Args) (us : List Value) (vs : List V) (Q : VK) (E : XK), Room k A → Env0 P w K mg base A outer s H → BindsTo s fd args (ps.zip us) → Vals vs us → sp vs H Q E →
    codeAny (model P w) A (.call (.ref f) args) (CR CX outer P w H s Q E) s
theorem FnOk.mono {P : Program} {w : World} {K : PySem.W.Frag} {mg : Str → Option Value} {base : Heap} {CX : CXT} {j k : Nat} {f : Addr} {fd : FuncData} {ps : List Str} {sp : Sp} (F : FnOk P w K mg base CX j f fd ps sp) (h : j ≤ k) :
    FnOk P w K mg base CX k f fd ps sp := ⟨F.len, fun A outer s H args us vs Q E hr => F.run A outer s H args us vs Q E (hr.mono h)⟩
section
variable {X : Cx} {pins : List (Addr × Obj)} {σ : St} {H : Hp} {s s' : Shared}
/-- from a body: what a callee wants -/
theorem Inv.env0 (I : Inv X pins σ H s) : Env0 X.prog X.w X.K X.mg X.base X.A X.stack s H :=
  ⟨I.ok.frames, I.ok.mod, I.bs, Nat.le_trans I.ok.bsz I.sz, I.stack, I.stkFree, I.hok, I.bare⟩
/-- behind a call -/
theorem Inv.after {Q : VK} {u : Value} (I : Inv X pins σ H s) (h : CE X.stack X.prog X.w H s Q u s') : EP X pins σ Q u s' := by
  obtain ⟨v, H', os, bare, un, hok, r, q⟩ := h
  obtain ⟨hh, g, d, t, os'⟩ := s'
  obtain rfl : os' = s.os := os
  exact ⟨v, H', I.call (h' := hh) (g' := g) (d' := d) (t' := t) (ch := []) un hok bare (fun b z => absurd z (by simp)), r, q⟩
end

/-! ### calls -/
/-- f(..): the written arguments, then the defaults dvs; E: what is wanted of an exception -/
def tCall (sp : Sp) (dvs : List V) (E : XK) (t : TA) : TE := fun σ H Q => t σ H fun vs H1 => sp (vs ++ dvs) H1 Q E
/-- o.m(..) of an instance of the class at C -/
def tMeth (C : Addr) (m : Str) (sp : Sp) (dvs : List V) (E : XK) (ta : TE) (t : TA) : TE := fun σ H Q => ta σ H fun x H1 => ∃ a dx fs, x = .ref a ∧ H1 a = some (.ins C dx fs) ∧ fs.lookup m = none ∧
  t σ H1 fun vs H2 => sp (x :: (vs ++ dvs)) H2 Q E
/-- C(..): a new instance and its dict, then __init__ -/
def tMake (C : Addr) (sp : Sp) (dvs : List V) (E : XK) (t : TA) : TE := fun σ H Q => t σ H fun vs H1 => ∀ x dx, H1 x = none → H1 dx = none → dx ≠ x →
  sp (.ref x :: (vs ++ dvs)) (upd (upd H1 dx (.own x)) x (.ins C dx [])) (fun v H2 => v = .non ∧ Q (.ref x) H2) E

/-- how the parameters are bound: us the positional arguments, kw the keywords' values by name, ds the defaults that fill up -/
def Binds (K : PySem.W.Frag) (fd : FuncData) (ps : List Str) (ds : List Value) : Prop :=
  ∀ (s : Shared) (us : List Value), K.In s.heap → (us ++ ds).length = ps.length → BindsTo s fd ⟨us, []⟩ (ps.zip (us ++ ds))
/-- every parameter is given -/
theorem Binds.all {K : PySem.W.Frag} {fd : FuncData} {ps : List Str} (h : ∀ us : List Value, us.length = ps.length → bindArgs fd ⟨us, []⟩ = pure (ps.zip us)) : Binds K fd ps [] := fun s us _ hl => by
  rw [List.append_nil] at hl ⊢
  exact .of_eq (h us hl)

/-- an exception of a callee reaches what this body wants of exceptions -/
def Passes (CX : CXT) (X : Cx) (E : XK) : Prop := ∀ (pins : List (Addr × Obj)) (σ : St) (H : Hp) (s : Shared) (e : Value) (s' : Shared), Inv X pins σ H s → CX X.stack H s E e s' → X.xe e s'

section
variable {X : Cx} {CX : CXT} {k : Nat} {f C : Addr} {fd : FuncData} {ps : List Str} {sp : Sp} {dvs : List V} {ds : List Value} {E : XK} {x m : Str} {p pos apos : Pos} {e o : Expr} {es : List Expr} {ta : TE} {t : TA}

/-- the callee runs -/
theorem run_fn {pins : List (Addr × Obj)} {σ : St} {H : Hp} {s : Shared} {Q : VK} {us : List Value} {vs : List V} (F : FnOk X.prog X.w X.K X.mg X.base CX k f fd ps sp) (hr : Room k X.A) (hb : Binds X.K fd ps ds) (hd : Vals dvs ds) (hx : Passes CX X E)
    (I : Inv X pins σ H s) (r : Vals vs us) (h : sp (vs ++ dvs) H Q E) : wpAny (model X.prog X.w) X.A (call (.ref f) us) (EP X pins σ Q) X.xe s := by
  have r2 : Vals (vs ++ dvs) (us ++ ds) := r.append hd
  have hl : (us ++ ds).length = ps.length := by rw [← r2.length]; exact F.len _ _ _ _ h
  refine wpAny_call (codeAny_mono (F.run X.A X.stack s H ⟨us, []⟩ (us ++ ds) (vs ++ dvs) Q E hr I.env0 (hb s us I.kIn hl) r2 h) fun r s' hq => ?_)
  cases r with
  | error e => exact hx pins σ H s e s' I hq
  | ok fl =>
    cases fl with
    | ret u => exact I.after hq
    | next => exact False.elim hq
    | brk => exact False.elim hq
    | cont => exact False.elim hq

theorem pe_call (F : FnOk X.prog X.w X.K X.mg X.base CX k f fd ps sp) (hr : Room k X.A) (hg : Gl X x) (hm : X.mg x = some (.ref f)) (hk : PySem.W.keepIn X.K (.ref f) = true) (hb : Binds X.K fd ps ds) (hd : Vals dvs ds) (hx : Passes CX X E)
    (ha : PA X (e :: es) t) (hdb : (x == ("__debug__" : Str)) = false := by decide) (he : starEach (e :: es) X.env = (false, eval e X.env) :: starEach es X.env := by rfl) (hpl : (backTo pos (starEach es X.env)).any (·.1) = false := by rfl) :
    PE X (.Call (.Name x p) (e :: es) [] pos) (tCall sp dvs E t) := by
  intro pins s σ H Q I h
  refine wpAny_Call_Name_kw (ld_glob I hg hm ?_ hdb)
  refine PySem.W.callWith_K (h₀ := X.base) I.ok.mod.kin hk (thn (ha pos pins s σ H _ I h) fun us s1 ⟨vs, H1, I1, r, q⟩ => ⟨I1.kIn, ?_⟩) he hpl
  exact run_fn F hr hb hd hx I1 r q
/-- what a class must have to be made -/
structure Mk (K : PySem.W.Frag) (C f : Addr) : Prop where
  makes : PySem.W.makesIn K C = true
  init : PySem.W.findIn K (.ref C) "__init__" = some (some (.ref f))
  fn : PySem.W.isFn K (.ref f) = true
  kp : PySem.W.keepIn K (.ref C) = true

end

/-! ### keywords -/
/-- the values of the keywords, from the left -/
def PK (X : Cx) (kws : List Keyword) (t : TA) : Prop :=
  ∀ (pos : Pos) (pins : List (Addr × Obj)) (s : Shared) (σ : St) (H : Hp) (Q : List V → Hp → Prop), Inv X pins σ H s → t σ H Q → wpAny (model X.prog X.w) X.A (evalAll ((backToKw pos (keywordEach kws X.env)).map (·.2))) (AP X pins σ Q) X.xe s
section
variable {X : Cx} {CX : CXT} {k : Nat} {f C : Addr} {fd : FuncData} {ps ks : List Str} {sp : Sp} {E : XK} {x m : Str} {p pos apos kpos : Pos} {e o : Expr} {es : List Expr} {kws : List Keyword} {te ta : TE} {t tk : TA} {nm : Option Str}
/-- how a call with keywords binds: g puts the positional values us and the keywords' values ws (names ks) in the parameters' order, defaults among them -/
structure KBinds (K : PySem.W.Frag) (fd : FuncData) (ps ks : List Str) (g : List Value → List Value → List Value) (gV : List V → List V → List V) : Prop where
  to : ∀ (s : Shared) (us ws : List Value), K.In s.heap → (g us ws).length = ps.length → BindsTo s fd ⟨us, ks.zip ws⟩ (ps.zip (g us ws))
  rel : ∀ {vs : List V} {us : List Value} {zs : List V} {ws : List Value}, Vals vs us → Vals zs ws → Vals (gV vs zs) (g us ws)
def tCallK (sp : Sp) (gV : List V → List V → List V) (E : XK) (t tk : TA) : TE := fun σ H Q => t σ H fun vs H1 => tk σ H1 fun zs H2 => sp (gV vs zs) H2 Q E
variable {g : List Value → List Value → List Value} {gV : List V → List V → List V}
end

/-! ### a def's body keeps its promise -/
/-- names: the parameters first -/
structure FnScope (N P : List Str) (sc : Scope) : Prop where
  kind : sc.kind = .function
  co : sc.isCoroutine = false
  gen : sc.isGenerator = false
  nd : N.Nodup
  pre : N.take P.length = P
  par : ∀ x ∈ P, sc.names.lookup x = some .local ∨ sc.names.lookup x = some .cell
  nofree : ∀ y ∈ sc.names, y.2 ≠ .free

theorem bindL_out {kindOf : Str → Option NameKind} {x : Str} : ∀ {binds : List (Str × Value)} {m : Str → Option Value}, (∀ v, (x, v) ∉ binds) → bindL kindOf binds m x = m x
  | [], _, _ => rfl
  | (n, v) :: r, m, h => by
    unfold bindL
    rw [bindL_out fun w hw => h w (List.mem_cons_of_mem _ hw)]
    split
    · have : x ≠ n := by rintro rfl; exact h v List.mem_cons_self
      simp [this]
    · rfl
theorem bindC_out {kindOf : Str → Option NameKind} {x : Str} : ∀ {binds : List (Str × Value)} {m : Str → Option Value}, (∀ v, (x, v) ∉ binds) → bindC kindOf binds m x = m x
  | [], _, _ => rfl
  | (n, v) :: r, m, h => by
    unfold bindC
    rw [bindC_out fun w hw => h w (List.mem_cons_of_mem _ hw)]
    split
    · rfl
    · have : x ≠ n := by rintro rfl; exact h v List.mem_cons_self
      simp [this]
theorem bindL_get {kindOf : Str → Option NameKind} {x : Str} {v : Value} : ∀ {P : List Str} {vs : List Value} {i : Nat} {m : Str → Option Value}, P.Nodup → P[i]? = some x → vs[i]? = some v → kindOf x = some .local →
    bindL kindOf (P.zip vs) m x = some v
  | [], _, _, _, _, h, _, _ => by simp at h
  | _ :: _, [], _, _, _, _, h, _ => by simp at h
  | p :: P, w :: vs, 0, m, nd, h1, h2, hk => by
    simp at h1 h2; subst h1; subst h2
    show bindL kindOf ((p, w) :: P.zip vs) m p = _
    unfold bindL
    rw [bindL_out fun v hv => (List.nodup_cons.mp nd).1 (List.of_mem_zip hv).1, if_pos hk]
    simp
  | p :: P, w :: vs, i + 1, m, nd, h1, h2, hk => by
    show bindL kindOf ((p, w) :: P.zip vs) m x = _
    unfold bindL
    exact bindL_get (i := i) (List.nodup_cons.mp nd).2 (by simpa using h1) (by simpa using h2) hk
theorem bindC_get {kindOf : Str → Option NameKind} {x : Str} {v : Value} : ∀ {P : List Str} {vs : List Value} {i : Nat} {m : Str → Option Value}, P.Nodup → P[i]? = some x → vs[i]? = some v → kindOf x ≠ some .local →
    bindC kindOf (P.zip vs) m x = some v
  | [], _, _, _, _, h, _, _ => by simp at h
  | _ :: _, [], _, _, _, _, h, _ => by simp at h
  | p :: P, w :: vs, 0, m, nd, h1, h2, hk => by
    simp at h1 h2; subst h1; subst h2
    show bindC kindOf ((p, w) :: P.zip vs) m p = _
    unfold bindC
    rw [bindC_out fun v hv => (List.nodup_cons.mp nd).1 (List.of_mem_zip hv).1, if_neg hk]
    simp
  | p :: P, w :: vs, i + 1, m, nd, h1, h2, hk => by
    show bindC kindOf ((p, w) :: P.zip vs) m x = _
    unfold bindC
    exact bindC_get (i := i) (List.nodup_cons.mp nd).2 (by simpa using h1) (by simpa using h2) hk

/-- the names' values at the entry -/
def start (N : List Str) (vs : List V) : St := vs.map some ++ List.replicate (N.length - vs.length) none

/-- the context of a def's body, at its entry; an exception leaves the frame, then lies as CX says -/
def cxOf (CX : CXT) (P : Program) (w : World) (K : PySem.W.Frag) (mg : Str → Option Value) (base : Heap) (N : List Str) (qual : Str) (scope : Scope) (f : Addr) (cd : Value) (A : Around) (outer : List Env) (s : Shared) (H : Hp) (E : XK) : Cx where
  prog := P
  w := w
  K := K
  mg := mg
  base := base
  A := A.deeper (envOfC qual scope s.heap.objs.size f cd)
  N := N
  s₀ := s
  H₀ := H
  env := envOfC qual scope s.heap.objs.size f cd
  outer := outer
  stack := envOfC qual scope s.heap.objs.size f cd :: outer
  ex := []
  calm := true
  fn := fun _ => true
  pn := []
  xe := fun e s' => wpAny (model P w) (A.deeper (envOfC qual scope s.heap.objs.size f cd)) (leaving (envOfC qual scope s.heap.objs.size f cd) e) (fun _ s'' => CX outer H s E e s'') (fun e' s'' => CX outer H s E e' s'') s'

theorem cell_has {sc : Scope} {n : Nat} {x : Str} (h : sc.names.lookup x = some .cell) : ∃ c, (cellsFrom n sc.names []).lookup x = some c := by
  have q := PySem.W.cellsFrom_some sc.names n [] (.inl h)
  exact Option.isSome_iff_exists.mp q

theorem inv_start {CX : CXT} {P : Program} {w : World} {K : PySem.W.Frag} {mg : Str → Option Value} {base : Heap} {N ps : List Str} {qual : Str} {scope : Scope} {f : Addr} {cd : Value} {A : Around} {outer : List Env} {s s1 : Shared} {H : Hp} {E : XK} {us : List Value} {vs : List V}
    (S : FnScope N ps scope) (hd : A.handled = none) (e0 : Env0 P w K mg base A outer s H) (hl : vs.length = ps.length) (r : Vals vs us)
    (x : InCallC s s.heap.objs.size (bindL (envOfC qual scope s.heap.objs.size f cd).kindOf (ps.zip us) fun _ => none) (cellsFrom (s.heap.objs.size + 1) scope.names []) (bindC (envOfC qual scope s.heap.objs.size f cd).kindOf (ps.zip us) fun _ => none) s1) :
    Inv (cxOf CX P w K mg base N qual scope f cd A outer s H E) [] (start N vs) H s1 := by
  have hpl : ps.length ≤ N.length := by have := congrArg List.length S.pre; rw [List.length_take] at this; omega
  obtain ⟨h1, tk, rfl, hk⟩ := x.done
  have noA : ∀ b : Addr, b ∉ (cxOf CX P w K mg base N qual scope f cd A outer s H E).ex := fun b z => absurd (show b ∈ ([] : List Addr) from z) (by simp)
  refine ⟨⟨e0.mod, S.kind, rfl, rfl, Nat.le_refl _, fun y z c h1 h2 => ?_, fun y hy => ?_, fun y c _ h => ?_, fun _ => hd, Around.frames_deeper e0.frames, .inr ⟨rfl, rfl⟩, fun b z => absurd z (noA b), e0.bs, e0.bsz, fun b _ _ => noA b, fun b z => absurd z (noA b), e0.funs, e0.frf⟩,
    rfl, e0.bare, Un.kept hk, ⟨_, x.toInCall.ns, fun i y v h1 h2 h3 => ?_⟩, fun y c h => ⟨_, x.cell y c h⟩, e0.hok.fresh (Nat.le_refl _), fun y c h => ?_, fun p hp => absurd (show p ∈ ([] : List (Addr × Obj)) from hp) (by simp), e0.hok.kept hk, ?_⟩
  · exact name_of_addr x.apart (PySem.mem_of_lookup h1) (PySem.mem_of_lookup h2)
  · have hy : scope.names.lookup y = some .cell ∨ scope.names.lookup y = some .free := hy
    rcases hy with hy | hy
    · exact cell_has hy
    · exact absurd rfl (S.nofree _ (PySem.mem_of_lookup hy))
  · exact Nat.le_of_lt (x.above y c (PySem.mem_of_lookup h))
  · have hi : i < vs.length := by
      unfold start at h2
      by_cases hi : i < vs.length
      · exact hi
      · rw [List.getElem?_append_right (by simpa using hi)] at h2
        rw [List.getElem?_replicate] at h2
        split at h2 <;> cases h2
    have ha : vs[i]? = some v := by
      unfold start at h2
      rw [List.getElem?_append_left (by simpa using hi), List.getElem?_map] at h2
      cases e : vs[i]? with
      | none => rw [e] at h2; cases h2
      | some a => rw [e] at h2; cases h2; rfl
    obtain ⟨u, hu, rv⟩ := r.get ha
    have hp : ps[i]? = some y := by
      rw [← S.pre, List.getElem?_take_of_lt (by omega)]; exact h1
    have ndP : ps.Nodup := by rw [← S.pre]; exact S.nd.sublist (List.take_sublist _ _)
    refine ⟨u, rv, ?_⟩
    rcases S.par y (List.mem_of_getElem? hp) with k | k
    · exact .inl ⟨k, bindL_get ndP hp hu k⟩
    · obtain ⟨c, e⟩ := cell_has (n := s.heap.objs.size + 1) k
      refine .inr ⟨.inl k, c, e, ?_⟩
      have q := x.cell y c e
      rw [bindC_get ndP hp hu (by show scope.names.lookup y ≠ _; rw [k]; decide)] at q
      exact q
  · exact e0.hok.fresh (Nat.le_of_lt (x.above y c (PySem.mem_of_lookup h)))
  · unfold start
    show _ = N.length
    rw [List.length_append, List.length_map, List.length_replicate]
    omega

/-- THE RULE: a def (or a method) of the text, by its body. The body's reading t is chosen for each entry; it is run at the parameters' values -/
theorem fn_of {CX : CXT} {P : Program} {w : World} {K : PySem.W.Frag} {mg : Str → Option Value} {base : Heap} {k : Nat} {f : Addr} {name qual : Str} {params : Arguments} {body : List Stmt} {scope : Scope} {dV kV doc pm cdv ct oc : Value} {an od : Option Addr}
    {osl : Array (Option Value)} {N ps : List Str} {sp : Sp} (lk : K.lookup f = some ⟨oc, od, .func (PySem.W.fnOf name qual params body scope dV kV doc pm an cdv ct), osl⟩) (hcd : PySem.W.codeIn K cdv qual = true) (S : FnScope N ps scope)
    (len : ∀ vs H Q E, sp vs H Q E → vs.length = ps.length)
    (hbody : ∀ (A : Around) (outer : List Env) (s : Shared) (H : Hp) (vs : List V) (Q : VK) (E : XK), Room k (A.deeper (envOfC qual scope s.heap.objs.size f cdv)) → sp vs H Q E →
      ∃ t, PSs (cxOf CX P w K mg base N qual scope f cdv A outer s H E) body t ∧ t { nx := fun _ H' => Q .non H', rt := Q } (start N vs) H) :
    FnOk P w K mg base CX (k + 1) f (PySem.W.fnOf name qual params body scope dV kV doc pm an cdv ct) ps sp := by
  refine ⟨len, fun A outer s H args us vs Q E hr e0 hb r hsp => ?_⟩
  have hl := len _ _ _ _ hsp
  have KX : K.In s.heap := e0.mod.kin.keeps fun b o e => (e0.bs b o e).1
  have lim : s.heap.NoLimit := e0.mod.nolimit.keeps fun b o e => (e0.bs b o e).1
  have hkind : ∀ y ∈ ps.zip us, scope.names.lookup y.1 = some .local ∨ (scope.names.lookup y.1 = some .cell ∧ ((cellsFrom (s.heap.objs.size + 1) scope.names []).lookup y.1).isSome = true) := fun ⟨n, v⟩ hy => by
    rcases S.par n (List.of_mem_zip hy).1 with q | q
    · exact .inl q
    · exact .inr ⟨q, PySem.W.cellsFrom_some _ _ _ (.inl q)⟩
  refine codeAny_call_function hr.depth (KX _ _ lk) rfl S.co S.gen rfl (PySem.W.codeRec_of KX hcd) (hb _ _ _ _ ?_)
  refine wpAny_newFunctionEnv_cells S.kind hkind fun env he s1 x => ?_
  subst he
  refine ⟨lim.keeps x.toInCall.keep, codeAny_func ?_⟩
  obtain ⟨t, ht, hq⟩ := hbody A outer s H vs Q E (hr.deeper _) hsp
  have I : Inv (cxOf CX P w K mg base N qual scope f cdv A outer s H E) [] (start N vs) H s1 := inv_start S hr.hd e0 hl r x
  refine wpAny_mono (ht [] s1 (start N vs) H _ I hq) (fun fl s' hs => ?_) fun e s' hs => hs
  have fin : ∀ {σ' : St} {H' : Hp} {v : V} {u : Value}, Inv (cxOf CX P w K mg base N qual scope f cdv A outer s H E) [] σ' H' s' → RelV v u → Q v H' → CE outer P w H s Q u s' :=
    fun {σ' H' v u} J rv q => ⟨v, H', J.os, J.bare, J.base, J.hok, rv, q⟩
  cases fl with
  | ret u =>
    obtain ⟨v, σ', H', J, rv, q⟩ := hs
    exact fin J rv q
  | next =>
    obtain ⟨σ', H', J, q⟩ := hs
    exact fin (v := V.non) (u := Value.none) J rfl q
  | brk =>
    obtain ⟨_, _, _, q⟩ := hs
    exact False.elim q
  | cont =>
    obtain ⟨_, _, _, q⟩ := hs
    exact False.elim q
end L2

namespace L2
open PySem PySem.Spec PyProof.Rows
section
variable {X : Cx} {x : Str} {p pos : Pos} {e : Expr} {es : List Expr} {t : TA} {id T : String} {r : List V → Hp → VK → Prop}

def tCB (r : List V → Hp → VK → Prop) (t : TA) : TE := fun σ H Q => t σ H fun vs H1 => r vs H1 Q
/-- f(e, ..), f a built-in function -/
theorem pe_callB (hc : CallR X (.builtin id) r) (hg : Gl X x) (hm : X.mg x = none) (hv : bootBuiltins x = some (.builtin id)) (ha : PA X (e :: es) t) (hn : x ≠ "__name__" := by decide) (hdb : (x == ("__debug__" : Str)) = false := by decide)
    (he : starEach (e :: es) X.env = (false, eval e X.env) :: starEach es X.env := by rfl) (hpl : (backTo pos (starEach es X.env)).any (·.1) = false := by rfl) : PE X (.Call (.Name x p) (e :: es) [] pos) (tCB r t) := by
  intro pins s σ H Q I h
  refine wpAny_Call_Name_kw (ld_blt I hg hm hv ?_ hn hdb)
  exact PyProof.Rows.callWith_builtin1 (thn (ha pos pins s σ H _ I h) fun us s1 ⟨vs, H1, I1, r1, q1⟩ => hc pins s1 σ H1 vs us Q I1 r1 q1) he hpl
/-- T(e, ..), T a built-in type -/
theorem pe_callTy (hc : CallR X (.type T) r) (hg : Gl X x) (hm : X.mg x = none) (hv : bootBuiltins x = some (.type T)) (ha : PA X (e :: es) t) (hn : x ≠ "__name__" := by decide) (hdb : (x == ("__debug__" : Str)) = false := by decide)
    (he : starEach (e :: es) X.env = (false, eval e X.env) :: starEach es X.env := by rfl) (hpl : (backTo pos (starEach es X.env)).any (·.1) = false := by rfl) : PE X (.Call (.Name x p) (e :: es) [] pos) (tCB r t) := by
  intro pins s σ H Q I h
  refine wpAny_Call_Name_kw (ld_blt I hg hm hv ?_ hn hdb)
  exact PyProof.Rows.callWith_type1 (thn (ha pos pins s σ H _ I h) fun us s1 ⟨vs, H1, I1, r1, q1⟩ => hc pins s1 σ H1 vs us Q I1 r1 q1) he hpl
end
end L2

namespace HT
open PySem PyProof.Rows

/-- t < u of tuples of ints -/
def lexLt : List Int → List Int → Bool
  | [], [] => false
  | [], _ :: _ => true
  | _ :: _, [] => false
  | x :: xs, y :: ys => if x = y then lexLt xs ys else decide (x < y)
section
open PySem.SeqAt
open PySem.AutoSeq1 (wpAny_loadPart')
open PySem.MeetsSeq PySem.MeetsSeq2 PySem.MeetsSeq3

end

section
variable {prog : Program} {w : World} {A : Around} {E : Value → Shared → Prop} {s : Shared}

/-! ### t[a:b], not the whole -/
/-- a slice's bound as a place among n (d where it is left out) -/
def sIx (n d : Nat) : Option Int → Nat
  | none => d
  | some v => if v < 0 then (v + (n : Int)).toNat else min v.toNat n
end
end HT

namespace L2
open PySem PySem.Spec PyProof.Rows

/-! ### the parts of a slice -/
abbrev TO := St → Hp → (Option Int → Hp → Prop) → Prop
/-- a slice's part (left out, or an int) -/
def PO (X : Cx) (e : Option Expr) (t : TO) : Prop :=
  ∀ (pins : List (Addr × Obj)) (s : Shared) (σ : St) (H : Hp) (Q : Option Int → Hp → Prop), Inv X pins σ H s → t σ H Q →
    wpAny (model X.prog X.w) X.A (evalPart e X.env) (fun u s' => ∃ o H', Inv X pins σ H' s' ∧ IsPart u o ∧ Q o H') X.xe s
def tNoPart : TO := fun _ H Q => Q none H
def tPart (t : TE) : TO := fun σ H Q => t σ H fun x H1 => ∃ i, x = .int i ∧ Q (some i) H1

section
variable {X : Cx} {e : Expr} {te : TE} {lo hi : Option Expr} {tl th : TO} {pos p2 : Pos}

/-- what a slice of a value is, by values: the slice object stands at sl -/
def SlR (X : Cx) (r : V → Option Int → Option Int → Hp → VK → Prop) : Prop :=
  ∀ (pins : List (Addr × Obj)) (s : Shared) (σ : St) (H : Hp) (x : V) (v vl vu : Value) (lo hi : Option Int) (sl : Addr) (Q : VK), Inv X pins σ H s → RelV x v → s.heap.IsSliceOf sl vl vu .none → IsPart vl lo → IsPart vu hi → r x lo hi H Q →
    ∃ T id, typeLookup (.type T) "__getitem__" = pure (some (.builtin id)) ∧ s.TypeIs v T ∧ wpAny (model X.prog X.w) X.A (getItem v (.ref sl)) (EP X pins σ Q) X.xe s
theorem SlR.or {r r' : V → Option Int → Option Int → Hp → VK → Prop} (h : SlR X r) (h' : SlR X r') : SlR X (fun x lo hi H Q => r x lo hi H Q ∨ r' x lo hi H Q) := by
  intro pins s σ H x v vl vu lo hi sl Q I rx hs pl pu q
  rcases q with q | q
  · exact h pins s σ H x v vl vu lo hi sl Q I rx hs pl pu q
  · exact h' pins s σ H x v vl vu lo hi sl Q I rx hs pl pu q
def tSl (r : V → Option Int → Option Int → Hp → VK → Prop) (te : TE) (tl th : TO) : TE := fun σ H Q => te σ H fun x H1 => tl σ H1 fun l H2 => th σ H2 fun u H3 => r x l u H3 Q
/-- the items of xs[lo:hi] -/
def cutV (xs : List V) (lo hi : Option Int) : List V := (xs.drop (HT.sIx xs.length 0 lo)).take (HT.sIx xs.length xs.length hi - HT.sIx xs.length 0 lo)
/-- t[lo:hi], not the whole of it (the whole would be t itself) -/
def rSlT (K : PySem.W.Frag) : V → Option Int → Option Int → Hp → VK → Prop := fun x lo hi H Q => ∃ a xs, x = .ref a ∧ SqT K H a xs ∧
  ¬ (HT.sIx xs.length 0 lo = 0 ∧ HT.sIx xs.length xs.length hi = xs.length) ∧ ∀ p, H p = none → Q (.ref p) (upd H p (.tup (cutV xs lo hi)))
/-! ### t < u, t + u -/
def rLtT (K : PySem.W.Frag) : R2 := fun x y H Q => ∃ a b ns ms, x = .ref a ∧ y = .ref b ∧ SqT K H a (ns.map V.int) ∧ SqT K H b (ms.map V.int) ∧ Q (.bl (HT.lexLt ns ms)) H
/-- t + u, t not empty: u empty gives t itself -/
def rCatT (K : PySem.W.Frag) : R2 := fun x y H Q => ∃ a b xs ys, x = .ref a ∧ y = .ref b ∧ SqT K H a xs ∧ SqT K H b ys ∧ xs ≠ [] ∧ xs.length + ys.length ≤ sizeLine ∧
  (ys = [] → Q (.ref a) H) ∧ (ys ≠ [] → ∀ p, H p = none → Q (.ref p) (upd H p (.tup (xs ++ ys))))
end
end L2

namespace L2
open PySem PySem.Spec PyProof.Rows

/-! ### places -/
/-- the place that an index of any sign means -/
def ixN (n : Nat) (i : Int) : Option Nat := if 0 ≤ i then (if i < n then some i.toNat else none) else if -(n : Int) ≤ i then some (i + n).toNat else none
def atI {α : Type} (xs : List α) (i : Int) : Option α := (ixN xs.length i).bind fun j => xs[j]?
theorem ixN_seq {n : Nat} {i : Int} {j : Nat} (h : ixN n i = some j) : seqIndex? i n = some j ∧ j < n ∧ -(n : Int) ≤ i ∧ i < n := by
  unfold ixN at h
  by_cases h0 : 0 ≤ i
  · rw [if_pos h0] at h
    by_cases h1 : i < n
    · rw [if_pos h1] at h
      have e : i.toNat = j := Option.some.inj h
      exact ⟨by rw [seqIndex_of h0 h1, e], by omega, by omega, h1⟩
    · rw [if_neg h1] at h; cases h
  · rw [if_neg h0] at h
    by_cases h1 : -(n : Int) ≤ i
    · rw [if_pos h1] at h
      have e : (i + n).toNat = j := Option.some.inj h
      exact ⟨by rw [seqIndex_neg (by omega) h1, e], by omega, h1, by omega⟩
    · rw [if_neg h1] at h; cases h
theorem atI_get {α : Type} {xs : List α} {i : Int} {v : α} (h : atI xs i = some v) : ∃ j, seqIndex? i xs.length = some j ∧ xs[j]? = some v ∧ j < xs.length ∧ -(xs.length : Int) ≤ i ∧ i < xs.length := by
  unfold atI at h
  cases e : ixN xs.length i with
  | none => rw [e] at h; cases h
  | some j =>
    rw [e] at h
    obtain ⟨h1, h2, h3, h4⟩ := ixN_seq e
    exact ⟨j, h1, h, h2, h3, h4⟩
theorem atI_nat {α : Type} {xs : List α} {j : Nat} {v : α} (h : xs[j]? = some v) : atI xs (j : Int) = some v := by
  have hj : j < xs.length := (List.getElem?_eq_some_iff.mp h).1
  have e : ixN xs.length (j : Int) = some j := by
    unfold ixN
    rw [if_pos (by omega), if_pos (by omega)]; simp
  unfold atI; rw [e]; exact h
/-! ### what may be subscripted -/
/-- what stands as an index of a plain subscript -/
def PlainIx (b : Expr) : Prop := ∀ o i, subscripted b false o i = operate [o, i] (getItem o i)
/-- a subscript by values -/
def IxR (X : Cx) (r : R2) : Prop :=
  ∀ (value slice : Expr) (pins : List (Addr × Obj)) (s : Shared) (σ : St) (H : Hp) (x y : V) (v u : Value) (Q : VK), Inv X pins σ H s → RelV x v → RelV y u → r x y H Q →
    subscripted slice false v u = operate [v, u] (getItem v u) → wpAny (model X.prog X.w) X.A (subscriptTail value slice v u) (EP X pins σ Q) X.xe s
/-- a call of a builtin's method by values: the receiver, the arguments -/
def MtR (X : Cx) (id : String) (r : V → List V → Hp → VK → Prop) : Prop :=
  ∀ (pins : List (Addr × Obj)) (s : Shared) (σ : St) (H : Hp) (x : V) (xs : List V) (v : Value) (us : List Value) (Q : VK), Inv X pins σ H s → RelV x v → Vals xs us → r x xs H Q →
    wpAny (model X.prog X.w) X.A (call (.builtin id) (v :: us)) (EP X pins σ Q) X.xe s
section
variable {X : Cx} {a b : Expr} {ta tb : TE} {pos : Pos}
theorem IxR.or {r r' : R2} (h : IxR X r) (h' : IxR X r') : IxR X (fun x y H Q => r x y H Q ∨ r' x y H Q) := by
  intro value slice pins s σ H x y v u Q I rx ry q hs
  rcases q with q | q
  · exact h value slice pins s σ H x y v u Q I rx ry q hs
  · exact h' value slice pins s σ H x y v u Q I rx ry q hs
theorem MtR.or {id : String} {r r' : V → List V → Hp → VK → Prop} (h : MtR X id r) (h' : MtR X id r') : MtR X id (fun x xs H Q => r x xs H Q ∨ r' x xs H Q) := by
  intro pins s σ H x xs v us Q I rx rs q
  rcases q with q | q
  · exact h pins s σ H x xs v us Q I rx rs q
  · exact h' pins s σ H x xs v us Q I rx rs q
/-- a[b] -/
theorem pe_ix {r : R2} (hr : IxR X r) (ha : PE X a ta) (hb : PE X b tb) (hs : PlainIx b) : PE X (.Subscript a b pos) (tOp r ta tb) := by
  intro pins s σ H Q I h
  exact Subscript_ (binT ha hb I h fun v u s2 x y H2 I2 rx ry q => hr a b pins s2 σ H2 x y v u Q I2 rx ry q (hs _ _))

def rIxL (K : PySem.W.Frag) : R2 := fun x y H Q => ∃ p xs i v, x = .ref p ∧ y = .int i ∧ SqL K H p xs ∧ atI xs i = some v ∧ Q v H
def rIxT (K : PySem.W.Frag) : R2 := fun x y H Q => ∃ p xs i v, x = .ref p ∧ y = .int i ∧ SqT K H p xs ∧ atI xs i = some v ∧ Q v H
def rIxS : R2 := fun x y H Q => ∃ z i c, x = .str z ∧ y = .int i ∧ z.length ≤ sizeLine ∧ atI z.cps.toList i = some c ∧ Q (.str ⟨#[c]⟩) H
theorem ix_list : IxR X (rIxL X.K) := by
  intro value slice pins s σ H x y v u Q I rx ry h hs
  obtain ⟨p, xs, i, z, rfl, rfl, hq, he, q⟩ := h
  cases rx
  obtain ⟨t, rfl⟩ := ry
  obtain ⟨its, r, pl, hz⟩ := I.list hq
  obtain ⟨j, h1, h2, h3, h4, h5⟩ := atI_get he
  obtain ⟨w, ew, rw'⟩ := r.get h2
  have hl := r.length
  have hn := line63
  have fin : EP X pins σ Q w s := ⟨z, H, I, rw', q⟩
  by_cases h0 : 0 ≤ i
  · have hj : i.toNat = j := by
      rw [seqIndex_of h0 h5] at h1
      exact Option.some.inj h1
    exact item_listR pl.isList h0 (by omega) (by rw [hj]; simpa using ew) fin hs
  · have hj : (i + (its.toArray.size : Int)).toNat = j := by
      rw [seqIndex_neg (by omega) h4] at h1
      rw [List.size_toArray, ← hl]
      exact Option.some.inj h1
    exact subscriptTail_builtinR (x := w) pl.isList.typeIs slot_list_getitem.lookup
      (wpAny_getItem_list_neg (Q := fun r s' => r = w ∧ EP X pins σ Q r s') pl.isList (by omega) (by rw [List.size_toArray] <;> omega) (by omega) (by rw [hj]; simpa using ew) ⟨rfl, fin⟩) hs
theorem ix_tup : IxR X (rIxT X.K) := by
  intro value slice pins s σ H x y v u Q I rx ry h hs
  obtain ⟨p, xs, i, z, rfl, rfl, hq, he, q⟩ := h
  cases rx
  obtain ⟨t, rfl⟩ := ry
  obtain ⟨its, r, pl, hz⟩ := I.tuple hq
  obtain ⟨j, h1, h2, h3, h4, h5⟩ := atI_get he
  obtain ⟨w, ew, rw'⟩ := r.get h2
  have hl := r.length
  have hn := line63
  have fin : EP X pins σ Q w s := ⟨z, H, I, rw', q⟩
  exact subscriptTail_builtinR (x := w) pl.typeIs slot_tuple_getitem.lookup
    (getItem_tuple (j := j) (Q := fun r s' => r = w ∧ EP X pins σ Q r s') pl (by omega) (by omega) (by rw [List.size_toArray, ← hl]; exact h1) (by simpa using ew) ⟨rfl, fin⟩) hs
/-- list, tuple or str -/
def rIx (K : PySem.W.Frag) : R2 := fun x y H Q => rIxL K x y H Q ∨ rIxT K x y H Q ∨ rIxS x y H Q
/-! ### xs[i] = v, any sign -/
theorem Inv.lst {pins : List (Addr × Obj)} {σ : St} {H : Hp} {s : Shared} {p : Addr} {xs : List V} (I : Inv X pins σ H s) (h : H p = some (.lst xs)) :
    ∃ (its : List Value) (n : Nat), Vals xs its ∧ s.heap.get? p = some { cls := .type "list", data := .seq its.toArray n } ∧ xs.length ≤ sizeLine := by
  obtain ⟨z, its, n, r, e⟩ := I.hok p _ h
  exact ⟨its, n, r, e, z⟩
def rSetL : V → V → V → Hp → (Hp → Prop) → Prop := fun o i v H Q => ∃ p xs k j, o = .ref p ∧ i = .int k ∧ H p = some (.lst xs) ∧ ixN xs.length k = some j ∧ Q (upd H p (.lst (xs.set j v)))
/-! ### slices -/
/-- xs[lo:hi] of a list: a new list -/
def rSlL (K : PySem.W.Frag) : V → Option Int → Option Int → Hp → VK → Prop := fun x lo hi H Q => ∃ a xs, x = .ref a ∧ SqL K H a xs ∧ ∀ p, H p = none → Q (.ref p) (upd H p (.lst (cutV xs lo hi)))
/-! ### in, not in: flat items -/
def flatV : V → Bool
  | .non => true
  | .bl _ => true
  | .int _ => true
  | .str _ => true
  | _ => false
/-- == of flat values -/
def eqV : V → V → Bool
  | .non, .non => true
  | .bl a, .bl b => a == b
  | .bl a, .int b => (if a then 1 else 0) == b
  | .int a, .bl b => a == (if b then 1 else 0)
  | .int a, .int b => a == b
  | .str a, .str b => a == b
  | _, _ => false
theorem eqAt_V {A : Around} {s : Shared} {y x : V} {u v : Value} (ry : RelV y u) (rx : RelV x v) (fy : flatV y = true) (fx : flatV x = true) : SeqAt.EqAt A s u v (eqV y x) := by
  cases y with
  | non =>
    cases ry
    cases x with
    | non => cases rx; exact SeqAt.EqAt.same _
    | bl b => cases rx; exact SeqAt.EqAt.none_bool b
    | int b => obtain ⟨t, rfl⟩ := rx; exact SeqAt.EqAt.none_int b t
    | str b => obtain ⟨t, rfl⟩ := rx; exact SeqAt.EqAt.none_str b t
    | _ => exact absurd (show false = true from fx) Bool.false_ne_true
  | bl a =>
    cases ry
    cases x with
    | non => cases rx; exact SeqAt.EqAt.bool_none a
    | bl b => cases rx; exact SeqAt.EqAt.bool_bool a b
    | int b => obtain ⟨t, rfl⟩ := rx; exact SeqAt.EqAt.bool_int a b t
    | str b => obtain ⟨t, rfl⟩ := rx; exact SeqAt.EqAt.bool_str a b t
    | _ => exact absurd (show false = true from fx) Bool.false_ne_true
  | int a =>
    obtain ⟨t', rfl⟩ := ry
    cases x with
    | non => cases rx; exact SeqAt.EqAt.int_none a t'
    | bl b => cases rx; exact SeqAt.EqAt.int_bool a t' b
    | int b => obtain ⟨t, rfl⟩ := rx; exact SeqAt.EqAt.int_int a t' b t
    | str b => obtain ⟨t, rfl⟩ := rx; exact SeqAt.EqAt.int_str a t' b t
    | _ => exact absurd (show false = true from fx) Bool.false_ne_true
  | str a =>
    obtain ⟨t', rfl⟩ := ry
    cases x with
    | non => cases rx; exact SeqAt.EqAt.str_none a t'
    | bl b => cases rx; exact SeqAt.EqAt.str_bool a t' b
    | int b => obtain ⟨t, rfl⟩ := rx; exact SeqAt.EqAt.str_int a t' b t
    | str b => obtain ⟨t, rfl⟩ := rx; exact SeqAt.EqAt.str_str a t' b t
    | _ => exact absurd (show false = true from fx) Bool.false_ne_true
  | _ => exact absurd (show false = true from fy) Bool.false_ne_true
/-- the items' answers, read off the values (a value's own answer does not lean on its token) -/
def eqU (x : V) (u : Value) : Bool := match u with
  | .none => eqV .non x
  | .bool b => eqV (.bl b) x
  | .int i _ => eqV (.int i) x
  | .str z _ => eqV (.str z) x
  | _ => false
def inV (x : V) (xs : List V) : Bool := xs.any fun y => eqV y x
/-- x in a list or tuple of flat items -/
def rIn (K : PySem.W.Frag) (neg : Bool) : R2 := fun x y H Q => ∃ p xs, y = .ref p ∧ (SqL K H p xs ∨ SqT K H p xs) ∧ flatV x = true ∧ xs.all flatV = true ∧ Q (.bl (if neg then !inV x xs else inV x xs)) H
/-! ### len, list(x), tuple(x) of any list or tuple that is read -/
theorem call_len_seq : CallR X (.builtin "len") (fun xs H Q => ∃ p ys, xs = [.ref p] ∧ (SqL X.K H p ys ∨ SqT X.K H p ys) ∧ Q (.int ys.length) H) := by
  intro pins s σ H xs us Q I r h
  obtain ⟨p, ys, rfl, hq, q⟩ := h
  obtain ⟨u, rfl, rx⟩ := vals1 r
  cases rx
  have hn := line63
  rcases hq with hq | hq
  · obtain ⟨its, r', pl, hz⟩ := I.list hq
    have hlen := r'.length
    exact Calls.call_len_list pl.isList (by simp only [List.size_toArray] <;> omega) ⟨.int ys.length, H, I.tok _, ⟨s.toks + 1, by rw [List.size_toArray, hlen]⟩, q⟩
  · obtain ⟨its, r', pl, hz⟩ := I.tuple hq
    have hlen := r'.length
    exact len_tuple pl (by simp only [List.size_toArray] <;> omega) ⟨.int ys.length, H, I.tok _, ⟨s.toks + 1, by rw [List.size_toArray, hlen]⟩, q⟩
theorem CallR.or {f : Value} {r r' : List V → Hp → VK → Prop} (h : CallR X f r) (h' : CallR X f r') : CallR X f (fun xs H Q => r xs H Q ∨ r' xs H Q) := by
  intro pins s σ H xs us Q I rs q
  rcases q with q | q
  · exact h pins s σ H xs us Q I rs q
  · exact h' pins s σ H xs us Q I rs q
/-! ### the call of a builtin's method: o.m(..) -/
/-- the value is of that builtin type -/
def tyV (K : PySem.W.Frag) (T : String) (x : V) (H : Hp) : Prop := match x with
  | .str _ => T = "str"
  | .int _ => T = "int"
  | .ref p => (T = "list" ∧ ∃ xs, SqL K H p xs) ∨ (T = "tuple" ∧ ∃ o, K.lookup p = some o ∧ o.cls = .type "tuple" ∧ o.dict = none) ∨
      (T = "dict" ∧ ((∃ kvs, H p = some (.dK kvs)) ∨ ∃ kvs, H p = some (.dT kvs))) ∨ (T = "set" ∧ ∃ S n, H p = some (.set S n))
  | _ => False
def tBM0 (K : PySem.W.Frag) (T : String) (r : V → List V → Hp → VK → Prop) (to : TE) : TE := fun σ H Q => to σ H fun x H1 => tyV K T x H1 ∧ r x [] H1 Q
def tBM (K : PySem.W.Frag) (T : String) (r : V → List V → Hp → VK → Prop) (to : TE) (t : TA) : TE := fun σ H Q => to σ H fun x H1 => tyV K T x H1 ∧ t σ H1 fun xs H2 => r x xs H2 Q
variable {o e : Expr} {es : List Expr} {to : TE} {t : TA} {name : Str} {apos cpos : Pos} {T id : String} {r : V → List V → Hp → VK → Prop}
end
end L2

namespace L2
open PySem PySem.Spec PyProof.Rows

def MtM (X : Cx) (id : String) (r : V → List V → Hp → VK → Prop) : Prop :=
  ∀ (pins : List (Addr × Obj)) (s : Shared) (σ : St) (H : Hp) (x : V) (xs : List V) (v : Value) (us : List Value) (Q : VK), Inv X pins σ H s → RelV x v → Vals xs us → r x xs H Q →
    wpAny (model X.prog X.w) X.A (call (.builtin id) (v :: us)) (EP X pins σ Q) X.xe s

/-! ### lists of values -/
theorem Vals.one : ∀ {x : V} {us : List Value}, Vals [x] us → ∃ u, us = [u] ∧ RelV x u
  | _, _, .cons r .nil => ⟨_, rfl, r⟩
theorem Vals.two : ∀ {x y : V} {us : List Value}, Vals [x, y] us → ∃ u v, us = [u, v] ∧ RelV x u ∧ RelV y v
  | _, _, _, .cons r (.cons q .nil) => ⟨_, _, rfl, r, q⟩
theorem Vals.dropLast {xs : List V} {us : List Value} (h : Vals xs us) : Vals xs.dropLast us.dropLast := by
  induction h with
  | nil => exact .nil
  | cons r t ih =>
    cases t with
    | nil => exact .nil
    | cons q t' => exact .cons r ih
theorem Vals.eraseIdx : ∀ {xs : List V} {us : List Value} (i : Nat), Vals xs us → Vals (xs.eraseIdx i) (us.eraseIdx i)
  | _, _, _, .nil => .nil
  | _, _, 0, .cons _ t => t
  | _, _, i + 1, .cons r t => .cons r (Vals.eraseIdx i t)
theorem Vals.reverse {xs : List V} {us : List Value} (h : Vals xs us) : Vals xs.reverse us.reverse := by
  induction h with
  | nil => exact .nil
  | cons r t ih => rw [List.reverse_cons, List.reverse_cons]; exact Vals.append ih (.cons r .nil)
section
variable {X : Cx} {pins : List (Addr × Obj)} {σ : St} {H : Hp} {s : Shared} {l b : Addr} {xs ys zs : List V}

/-! ### the two steps: a tracked list is rewritten, a new list is laid -/
theorem Inv.lnew {its : List Value} {t' : Nat} (I : Inv X pins σ H s) (hv : Vals ys its) (hz : ys.length ≤ sizeLine) :
    Inv X pins σ (upd H s.heap.objs.size (.lst ys)) { s with heap := s.heap.push { cls := .type "list", data := .seq its.toArray }, toks := t' } :=
  I.laid (fun _ _ q => Heap.get?_push_of_some _ q) (Nat.le_refl _) ⟨hz, its, 0, hv, Heap.get?_push_size _ rfl⟩
theorem Inv.fresh (I : Inv X pins σ H s) : H s.heap.objs.size = none := I.hok.fresh (Nat.le_refl _)
theorem notLongL {n : Nat} (h : n ≤ sizeLine) : Builtin.List.listTooLong n = false := by
  unfold Builtin.List.listTooLong
  exact decide_eq_false (by omega)
end

section
variable {X : Cx}

/-! ### methods -/
def rAppend : V → List V → Hp → VK → Prop := fun x vs H Q => ∃ l xs y, x = .ref l ∧ vs = [y] ∧ H l = some (.lst xs) ∧ xs.length < sizeLine ∧ Q .non (upd H l (.lst (xs ++ [y])))
def rExtend : V → List V → Hp → VK → Prop := fun x vs H Q => ∃ l b xs zs, x = .ref l ∧ vs = [.ref b] ∧ H l = some (.lst xs) ∧ H b = some (.lst zs) ∧ xs.length + zs.length ≤ sizeLine ∧ Q .non (upd H l (.lst (xs ++ zs)))
def rPop : V → List V → Hp → VK → Prop := fun x vs H Q => ∃ l xs y, x = .ref l ∧ vs = [] ∧ H l = some (.lst xs) ∧ xs[xs.length - 1]? = some y ∧ Q y (upd H l (.lst xs.dropLast))
def rPopAt : V → List V → Hp → VK → Prop := fun x vs H Q => ∃ l xs i k y, x = .ref l ∧ vs = [.int i] ∧ H l = some (.lst xs) ∧ -(2 ^ 63) ≤ i ∧ i < 2 ^ 63 ∧ seqIndex? i xs.length = some k ∧ xs[k]? = some y ∧ Q y (upd H l (.lst (xs.eraseIdx k)))
def rReverse : V → List V → Hp → VK → Prop := fun x vs H Q => ∃ l xs, x = .ref l ∧ vs = [] ∧ H l = some (.lst xs) ∧ Q .non (upd H l (.lst xs.reverse))
def rClear : V → List V → Hp → VK → Prop := fun x vs H Q => ∃ l xs, x = .ref l ∧ vs = [] ∧ H l = some (.lst xs) ∧ Q .non (upd H l (.lst []))
/-! ### list + list, list += list, list * int -/
def rCat : R2 := fun x y H Q => ∃ l b xs zs, x = .ref l ∧ y = .ref b ∧ H l = some (.lst xs) ∧ H b = some (.lst zs) ∧ xs.length + zs.length ≤ sizeLine ∧ ∀ p, H p = none → Q (.ref p) (upd H p (.lst (xs ++ zs)))
/-- a list times an int (a negative one is nothing) -/
def rRep : R2 := fun x y H Q => ∃ l k xs, x = .ref l ∧ y = .int k ∧ H l = some (.lst xs) ∧ -(2 ^ 63) ≤ k ∧ k < 2 ^ 63 ∧ xs.length * k.toNat ≤ sizeLine ∧
  ∀ p, H p = none → Q (.ref p) (upd H p (.lst (List.replicate k.toNat xs).flatten))
/-! ### del xs[i] -/
end

/-! ### xs[a:b] = ys -/
section
variable {prog : Program} {w : World} {A : Around} {E : Value → Shared → Prop} {s : Shared}
theorem bounds_run {a c n : Nat} (hac : a ≤ c) (hc : c ≤ n) : sliceBounds (some (a : Int)) (some (c : Int)) none n = ((a : Int), (c : Int), 1) := by
  simp only [sliceBounds, Option.getD_none]
  have h1 : ¬ ((a : Int) < 0) := by omega
  have h2 : ¬ ((c : Int) < 0) := by omega
  simp only [h1, h2, if_false, show (1 : Int) > 0 by decide, if_true]
  congr 1
  · omega
  · congr 1; omega
set_option maxRecDepth 100000 in
/-- list.__setitem__ with a slice of step one and another list -/
theorem setItem_slice {l b sl : Addr} {items new : Array Value} {n n2 : Nat} {vl vu : Value} {a c : Nat} {Q : Unit → Shared → Prop}
    (e : s.heap.get? l = some { cls := .type "list", data := .seq items n }) (e2 : s.heap.get? b = some { cls := .type "list", data := .seq new n2 }) (hne : l ≠ b)
    (hs : s.heap.IsSliceOf sl vl vu .none) (pl : IsPart vl (some (a : Int))) (pu : IsPart vu (some (c : Int))) (hac : a ≤ c) (hc : c ≤ items.size)
    (hsz : items.size + new.size ≤ sizeLine) (h : Q () { s with heap := s.heap.update l (Obj.mapSeq fun xs => xs.extract 0 a ++ new ++ xs.extract c xs.size) }) :
    wpAny (model prog w) A (setItem (.ref l) (.ref sl) (.ref b)) Q E s := by
  have hl : s.heap.IsList l items := PySem.IsL.isList e
  have hb : s.heap.IsList b new := PySem.IsL.isList e2
  obtain ⟨os, hos, hcs, hds⟩ := id hs
  have hTs : s.TypeIs (.ref sl) "slice" := ⟨os, hos, hcs⟩
  have hstep : ¬ ((rawPart none == rawInt 0) = true) := Bool.false_ne_true
  have hsame : Builtin.List.listSameRef (.ref l) (.ref b) = false := by
    unfold Builtin.List.listSameRef
    exact beq_eq_false_iff_ne.mpr hne
  have hmax : (max (a : Int) (c : Int)).toNat = c := by omega
  have hz' : ((fun xs : Array Value => xs.extract 0 a ++ new ++ xs.extract c xs.size) items).size ≤ sizeLine + 1 := by
    simp only [Array.size_append, Array.size_extract]
    omega
  unfold setItem
  try with_reducible refine wpAny_holding ?_
  first | refine wpAny_bind (wpAny_pure ?_) | skip
  refine wpAny_bind (wpAny_sequenceKey hl.typeIs (by decide) ?_)
  refine wpAny_bind (wpAny_callSpecial?_slot (name := Str.ofString "__setitem__") hl.typeIs slot_list_setitem
    (wpAny_call_entry slot_list_setitem hl.typeIs entry_list_setitem ?_ (args_list_setitem _ _ _)))
  show wpAny _ _ (Builtin.List.listSubscript? (.ref sl) >>= _) _ _ s
  refine wpAny_bind ?_
  unfold Builtin.List.listSubscript?
  refine wpAny_bind (wpAny_specialOf hTs slice_no_index ?_)
  simp only [Option.isNone_none, if_true]
  refine wpAny_pure ?_
  show wpAny _ _ (typeOf (.ref sl) >>= _) _ _ s
  refine wpAny_bind (wpAny_typeOf hTs ?_)
  first
    | rw [if_neg (by decide)]
    | refine PySem.W.KFB.if_not (by decide) ?_
  rw [listSliceParts_eq]
  refine wpAny_bind (wpAny_bind (wpAny_field hos hds (x := .none) rfl (wpAny_bind (wpAny_listPart .none ?_))))
  rw [if_neg hstep]
  refine wpAny_bind (wpAny_field hos hds (x := vl) rfl (wpAny_bind (wpAny_listPart pl ?_)))
  refine wpAny_bind (wpAny_field hos hds (x := vu) rfl (wpAny_bind (wpAny_listPart pu (wpAny_pure ?_))))
  first
    | simp only [hsame, Bool.false_eq_true, if_false]
    | refine PySem.W.KFB.if_not hsame ?_
    | (dsimp only
       rw [if_neg (by rw [hsame]; exact Bool.false_ne_true)])
  refine wpAny_bind (m := Builtin.List.listAllItems (.ref b) "must assign iterable to extended slice") ?_
  unfold Builtin.List.listAllItems
  refine wpAny_bind (wpAny_typeOf hb.typeIs ?_)
  first
    | refine PySem.W.KFB.if_so (by decide) ?_
    | rw [if_pos (by decide)]
    | simp only [beq_self_eq_true, Bool.true_or, if_true]
  unfold Builtin.List.listItems
  refine wpAny_bind (wpAny_seqItems e2 rfl (wpAny_pure ?_))
  refine wpAny_bind (wpAny_bind (wpAny_seqItems e rfl (wpAny_pure ?_)))
  refine wpAny_bind (wpAny_of_eq ((sliceIndices_raw (some (a : Int)) (some (c : Int)) none items.size (by simp)).trans (congrArg (pure : Int × Int × Int → Sem (Int × Int × Int)) (bounds_run hac hc))) ?_)
  show wpAny _ _ (if ((1 : Int) == 1) = true then _ else _) _ _ s
  rw [if_pos (by decide)]
  refine wpAny_bind (wpAny_rule ?_)
  first
    | simp only [notLongL hsz, Bool.false_eq_true, if_false]
    | refine PySem.W.KFB.if_not (notLongL hsz) ?_
  first | refine wpAny_bind (wpAny_pure ?_) | skip
  show wpAny _ _ (updateSeq l (fun xs => xs.extract 0 ((a : Int)).toNat ++ new ++ xs.extract (max (a : Int) (c : Int)).toNat xs.size) >>= _) _ _ s
  rw [hmax, Int.toNat_natCast]
  refine wpAny_bind (wpAny_updateSeq (hz := Nat.le_trans (Nat.le_add_right _ _) hsz) (_hz' := hz') e rfl ?_)
  refine wpAny_bind (wpAny_letGo ?_)
  first
    | exact wpAny_bind (wpAny_pure (wpAny_pure ⟨.none, rfl, wpAny_pure h⟩))
    | exact wpAny_pure ⟨.none, rfl, wpAny_pure h⟩
end

section
variable {X : Cx}
end
end L2

namespace Att
open PySem PySem.W PySem.Calls PyProof.Rows

/-! ### the script -/
theorem ints_of_wellAll {P : Params} {h : Heap} : ∀ (ns : List Int) (vs : List Value), WellAll P h vs (ns.map WData.int) → IntsAre vs ns := by
  intro ns
  induction ns with
  | nil =>
    intro vs w
    rw [List.map_nil] at w
    cases w
    exact .nil
  | cons n ns ih =>
    intro vs w
    rw [List.map_cons] at w
    cases w with
    | cons a b =>
      cases a
      exact .cons _ _ (ih _ b)

theorem script_of {l : OpenLaw} {n : Nat} (hn : l.most = some n) {P : Params} {h : Heap} {args : List WData} {vals : List Value}
    (hpre : l.row.toRowW.claim.pre args = true) (hwl : WellAll P h vals args) :
    ∃ a vs ns, vals = [Value.ref a] ∧ args = [WData.list (ns.map WData.int)] ∧ h.get? a = some { cls := .type "list", data := .seq vs.toArray } ∧ IntsAre vs ns ∧ ns.length ≤ n := by
  have hsh : WShape.hasAll [] args [.list .int] = true := (pre_splitW hpre).1
  have hc : l.pre.holds [] { args := args } = true := (pre_splitW hpre).2
  obtain ⟨d, r, rfl, h1, h2⟩ := hasAllW_cons hsh
  obtain rfl := hasAllW_nil h2
  obtain ⟨xs, rfl, h3⟩ := hasW_list h1
  obtain ⟨ns, rfl⟩ := items_int h3
  have hlen : ns.length ≤ n := by
    unfold OpenLaw.pre at hc
    have h4 : (WTm.not (.lt (.lit (.int (n : Int))) (.len (.arg 0)))).holds [] { args := [.list (ns.map .int)] } = true := by
      have h4 := (holds_andW hc).1
      rw [hn] at h4
      exact h4
    have h5 := condW_of h4 (w_not (w_lt w_lit (w_len_list (w_arg rfl))))
    rw [List.length_map] at h5
    refine Nat.le_of_not_lt fun q => ?_
    have q' : (n : Int) < ((ns.length : Nat) : Int) := by omega
    first
      | (rw [decide_eq_true q'] at h5; exact absurd h5 (by decide))
      | (simp at h5; omega)
  cases hwl with
  | cons w1 w2 =>
    cases w2
    cases w1 with
    | list ho hall => exact ⟨_, _, ns, rfl, rfl, ho, ints_of_wellAll ns _ hall, hlen⟩

theorem post_true (l : OpenLaw) (args : List WData) : l.row.toRowW.claim.post args (.bool true) args = true :=
  postW_of (r := l.row.toRowW) (X := (true == true))
    (show WShape.has [] (.bool true) .bool = true by first | rfl | decide | simp [WShape.has, WShape.arms, WShape.armsAll])
    (show (WTm.eq .res (.lit (.bool true))).value [] { args := args, res := some (.bool true), after := args } = some (.bool (true == true)) from w_eq_bool (w_res rfl) w_lit) rfl

/-! ### the attachment: holds_open's last premise (the goal 'hc' behind k_head) from a wpAny of the law's body -/
/-- the same from a codeAny of the CALL (for a layer whose function contracts speak of calls) -/
theorem attach_call {l : OpenLaw} {n : Nat} {q : Program} {loose : List Str} {XP : (Str → Option Value) → Heap → Prop} {YP : World → Heap → Prop} {d : DefRec}
    (hn : l.most = some n) (hdf : d.params.defaults = [])
    (call : ∀ (w : World) (s₀ s₁ : Shared) (mg mb : Str → Option Value) (fa : Addr) (o : Obj) (pm cd doc : Value) (a : Addr) (vs : List Value) (ns : List Int),
      Ground q loose [] XP w s₀ mg mb s₁.heap → YP w s₁.heap →
      s₁.heap.get? fa = some o → o.data = .func (docDef d.name d.params d.body d.scope pm cd doc) → s₁.heap.CodeRec cd d.name → mg d.name = some (.ref fa) →
      s₁.heap.get? a = some { cls := .type "list", data := .seq vs.toArray } → IntsAre vs ns → ns.length ≤ n → s₁.gens = #[] →
      codeAny (model l.prog w) callerA (.call (.ref fa) ⟨[.ref a], []⟩) (fun r s' => r = .ok (.ret (.bool true)) ∧ OldK s₁.heap s'.heap ∧ s'.os = s₁.os ∧ AllBare s'.gens) s₁) :
    WalkO q loose XP YP l.row.toRowW d [] (fun f vs => PySem.call f vs) := by
  intro w s₀ s₁ mg mb G Y fa o pm cd doc dV kV ho hd hcd hD hmg hg args vals as hpre hlay hrd hwl hlo
  obtain rfl : dV = .none := Dflts.none hD hdf
  obtain rfl : kV = .none := Dflts.noKw hD
  obtain ⟨a, vs, ns, rfl, rfl, hobj, hints, hlen⟩ := script_of hn hpre hwl
  refine enter_call (codeAny_mono (call w s₀ s₁ mg mb fa o pm cd doc a vs ns G Y ho (fd_plain hd) hcd hmg hobj hints hlen hg) fun r s' hq => ?_)
  obtain ⟨rfl, h2, h3, h4⟩ := hq
  exact ⟨.inl ⟨.bool true, .bool true, [], rfl, fun _ => rfl, .bool true, post_true l _, fun _ => ⟨List.Pairwise.nil, fun _ hm => (nomatch hm)⟩⟩, h2, h3, h4⟩

/-! ### rules over ANY heap (no ledger) from facts about the written part K: the library's own take a ledger (News) for what they write -/
section
variable {prog : Program} {w : World} {A : Around} {E : Value → Shared → Prop} {s : Shared} {K : Frag}

/-! the whole heap as the ledger: makes every rule that writes through a ledger a rule over any heap -/
def noObjs (h : Heap) : Heap := { h with objs := #[] }
def ledger (h : Heap) (L d : Addr) : List (Addr × Obj) := (List.range h.objs.size).filterMap fun a => if a = L ∨ a = d then none else (h.get? a).map fun o => (a, o)
end
end Att

namespace L2
open PySem PySem.Spec PyProof.Rows

theorem vals_ints : ∀ {vs : List Value} {ns : List Int}, IntsAre vs ns → Vals (ns.map V.int) vs
  | _, _, .nil => .nil
  | _, _, .cons n t h => .cons ⟨t, rfl⟩ (vals_ints h)

/-- nothing is tracked but the script, known to the object (or it is an object of the module) -/
def Only (H : Hp) : Prop := ∀ b, H b = none ∨ ∃ o xs, H b = some (.frz o (.lst xs))

/-- THE HEAD: the law's promise, at the heap behind the top. F, the promise of the law's def, may use that base is part of the heap (so K.In base, base.Ns mainGlobals mg stand in Mod) -/
theorem law_call {P : Program} {w : World} {K : PySem.W.Frag} {mg mb : Str → Option Value} {CX : CXT} {k : Nat} {fa a : Addr} {fd : FuncData} {x : Str} {sp : Sp} {s₁ : Shared} {vs : List Value} {ns : List Int}
    (KX : K.In s₁.heap) (hns : s₁.heap.Ns mainGlobals mg) (hb : s₁.heap.Ns builtinsNs mb) (hbb : ∀ x : Str, x ≠ "__name__" → mb x = bootBuiltins x) (hlim : s₁.heap.NoLimit) (hg : s₁.gens = #[])
    (ha : s₁.heap.get? a = some { cls := .type "list", data := .seq vs.toArray }) (hi : IntsAre vs ns) (hl : ns.length ≤ sizeLine) (hr : Room k callerA)
    (F : ∀ base : Heap, K.In base → base.Ns mainGlobals mg → FnOk P w K mg base CX k fa fd [x] sp) (hbind : ∀ (s : Shared) (u : Value), BindsTo s fd ⟨[u], []⟩ [(x, u)])
    (hsp : ∀ H : Hp, Only H → SqL K H a (ns.map V.int) → sp [.ref a] H (fun v _ => v = .bl true) fun _ _ _ => False)
    (hCX : ∀ H e s', CX [] H s₁ (fun _ _ _ => False) e s' → False) :
    codeAny (model P w) callerA (.call (.ref fa) ⟨[.ref a], []⟩) (fun r s' => r = .ok (.ret (.bool true)) ∧ OldK s₁.heap s'.heap ∧ s'.os = s₁.os ∧ AllBare s'.gens) s₁ := by
  have rv := vals_ints hi
  have lenV := hi.length
  -- from an abstract heap in which nothing but the script may be tracked
  have core : ∀ H : Hp, Only H → SqL K H a (ns.map V.int) → HOk P w H s₁.heap → (∀ b, H b ≠ none → b = a) → (H a ≠ none → K.lookup a = none) →
      codeAny (model P w) callerA (.call (.ref fa) ⟨[.ref a], []⟩) (fun r s' => r = .ok (.ret (.bool true)) ∧ OldK s₁.heap s'.heap ∧ s'.os = s₁.os ∧ AllBare s'.gens) s₁ := by
    intro H hO hS hok hA hK
    have base_of : ∀ {b : Addr} {o : Obj}, s₁.heap.get? b = some o → H b = none → (hidT s₁.heap H).get? b = some o := fun e n => hidT_get e n
    have noA : ∀ {b : Addr} {o : Obj} {es : Array DictEntry} {ep : Nat}, s₁.heap.get? b = some o → o.data = .dict es ep → H b = none := fun {b o es ep} e d => by
      cases q : H b with
      | none => rfl
      | some u =>
        have e' : b = a := hA b (by rw [q]; simp)
        subst e'
        rw [ha] at e; cases e
        have d' : Data.seq vs.toArray _ = Data.dict es ep := d
        cases d'
    have nsK : ∀ {b : Addr} {m : Str → Option Value}, s₁.heap.Ns b m → (hidT s₁.heap H).Ns b m := fun {b m} ⟨o, es, ep, e, d, r⟩ => ⟨o, es, ep, base_of e (noA e d), d, r⟩
    have hKb : K.In (hidT s₁.heap H) := fun b o e => base_of (KX b o e) (by
      cases q : H b with
      | none => rfl
      | some u =>
        have e' : b = a := hA b (by rw [q]; simp)
        subst e'
        rw [hK (by rw [q]; simp)] at e; cases e)
    have hM : Mod K mg (hidT s₁.heap H) := ⟨hKb, nsK hns, ⟨mb, nsK hb, hbb⟩, let ⟨mc, h1, h2⟩ := hlim; ⟨mc, nsK h1, h2⟩⟩
    have e0 : Env0 P w K mg (hidT s₁.heap H) callerA [] s₁ H := ⟨rfl, hM, fun b o e => of_hidT e, Nat.le_of_eq (hidT_size _ _), trivial, fun b hb => absurd (show b ∈ ([] : List Addr) from hb) (by simp), hok, .of_eq hg⟩
    refine codeAny_mono ((F _ hKb (nsK hns)).run callerA [] s₁ H ⟨[.ref a], []⟩ [.ref a] [.ref a] _ _ hr e0 (hbind s₁ (.ref a)) (.cons rfl .nil) (hsp H hO hS)) fun r s' h => ?_
    cases r with
    | error e => exact (hCX H e s' h).elim
    | ok fl =>
      cases fl with
      | next => exact False.elim h
      | brk => exact False.elim h
      | cont => exact False.elim h
      | ret u =>
        obtain ⟨v, H', os, bare, un, hok', r', q⟩ := h
        have q' : v = .bl true := q
        subst q'
        obtain rfl : u = Value.bool true := r'
        refine ⟨rfl, OldK.of_keep fun b o e => ?_, os, bare⟩
        cases q : H b with
        | none => exact un.keep b o e q (by intro z; exact absurd (show b ∈ ([] : List Addr) from z) (by simp)) (by simp)
        | some u =>
          rcases hO b with z | ⟨ob, xs, z⟩
          · rw [q] at z; cases z
          · have z2 := un.frzs b ob _ z
            obtain ⟨e1, _⟩ := hok b _ z
            obtain ⟨e2, _⟩ := hok' b _ z2
            rw [e] at e1; cases e1
            exact e2
  cases hk : K.lookup a with
  | some o =>
    -- the script is one of the module's own objects
    have e := KX a o hk
    rw [ha] at e
    cases e
    refine core (fun _ => none) (fun _ => .inl rfl) (.inr ⟨_, vs.toArray, _, hk, rfl, rfl, rfl, by rw [List.size_toArray, lenV]; exact hl, by simpa using rv⟩) (fun b u z => by have z' : (none : Option HO) = some u := z; cases z') (fun b z => absurd rfl z) fun z => absurd rfl z
  | none =>
    refine core (fun b => if b = a then some (.frz { cls := .type "list", data := .seq vs.toArray } (.lst (ns.map V.int))) else none) (fun b => ?_) (.inl (.inr ⟨{ cls := .type "list", data := .seq vs.toArray }, if_pos rfl⟩)) (fun b u z => ?_) (fun b z => ?_) fun _ => hk
    · by_cases hb : b = a
      · exact .inr ⟨_, _, if_pos hb⟩
      · exact .inl (if_neg hb)
    · by_cases hb : b = a
      · have z' := (if_pos hb).symm.trans z
        cases z'
        subst hb
        exact ⟨ha, by rw [List.length_map]; exact hl, vs, _, rv, ha⟩
      · have z' := (if_neg hb).symm.trans z
        cases z'
    · by_cases hb : b = a
      · exact hb
      · exact absurd (if_neg hb) z
end L2

namespace L2
open PySem PySem.Spec PyProof.Rows

abbrev KOf {K : PySem.W.Frag} {h : Heap} (_ : K.In h) : PySem.W.Frag := K

/-- the goal that k_head leaves (case hc), from the law's promise. F gives the function object fd (K's own) once, then the promise over every base -/
theorem walk_of {l : PySem.W.OpenLaw} {n k : Nat} {q : Program} {loose : List Str} {XP : (Str → Option Value) → Heap → Prop} {YP : World → Heap → Prop} {d : DefRec} {K : Params → PySem.W.Frag} {CX : World → CXT} {sp : World → Sp} {x : Str}
    (hn : l.most = some n) (hn2 : n ≤ sizeLine) (hdf : d.params.defaults = []) (hr : Room k callerA)
    (hY : ∀ (w : World) (h : Heap), YP w h → (K w.params).In h)
    (F : ∀ (w : World) (mg : Str → Option Value) (fa : Addr) (h : Heap), (K w.params).In h → h.Ns mainGlobals mg → mg d.name = some (.ref fa) →
      ∃ fd : FuncData, (∀ (s : Shared) (u : Value), BindsTo s fd ⟨[u], []⟩ [(x, u)]) ∧
        ∀ base : Heap, (K w.params).In base → base.Ns mainGlobals mg → FnOk l.prog w (K w.params) mg base (CX w) k fa fd [x] (sp w))
    (hsp : ∀ (w : World) (H : Hp) (a : Addr) (ns : List Int), ns.length ≤ n → Only H → SqL (K w.params) H a (ns.map V.int) → sp w [.ref a] H (fun v _ => v = .bl true) fun _ _ _ => False)
    (hCX : ∀ (w : World) (H : Hp) (s : Shared) (e : Value) (s' : Shared), CX w [] H s (fun _ _ _ => False) e s' → False) :
    PySem.W.WalkO q loose XP YP l.row.toRowW d [] (fun f vs => PySem.call f vs) := by
  refine Att.attach_call hn hdf fun w s₀ s₁ mg mb fa o pm cd doc a vs ns G Y ho hd hcd hmg hobj hints hlen hg => ?_
  have KX := hY w _ Y
  obtain ⟨fd, hb, hF⟩ := F w mg fa _ KX G.T.g hmg
  exact law_call KX G.T.g G.T.b G.T.builtins G.T.nolimit hg hobj hints (Nat.le_trans hlen hn2) hr hF hb (fun H hO hS => hsp w H a ns hlen hO hS) fun H e s' => hCX w H s₁ e s'
end L2

/- THE LAST THEOREM (shape; LID, My.* are yours):
   My.Adr: a structure of the addresses that your layer names (classes, functions); My.Txt K t: a structure (Prop) of the equations over K;
   My.txt_mk : {K} {implicit addresses ..} (e1 : nsIn K mainGlobals "law" = some (some (.ref f))) (e2 : K.lookup f = some ⟨oc, od, .func (fnOf "law" "law" params body scope dV kV doc pm an cdv ct), sl⟩) (e3 : codeIn K cdv "law" = true) .. : ∃ t, My.Txt K t

set_option maxRecDepth 100000 in
set_option maxHeartbeats 0 in
theorem PySem.Challenge.cw_LID_holds : PySem.Challenge.rw_LID.Holds := by
  w_on; o_law; k_head; (case hw => w_witness2)
  k_fill
  refine L2.walk_of (l := PySem.Challenge.rw_LID) (n := 63) (k := 40) (x := "script") (CX := fun w => ..) (sp := fun _ => My.sp_law) rfl (by decide) rfl ⟨rfl, by decide, by decide⟩ (fun w h Y => PySem.W.kIn_of Y) ?F ?S ?C
  case F =>
    intro w mg fa h KX G hmg
    have T : ∃ t, My.Txt (L2.KOf KX) t := by
      dsimp only [L2.KOf]                          -- K must stand as «<heap const> w.params» for k_is
      refine' My.txt_mk ?e1 ?e2 ?e3 ..
      (case e1 => PySem.W.k_is)                    -- in the order: a name -> its address -> its object -> its parts
      (case e2 => PySem.W.k_is)
      ..
    obtain ⟨t, T⟩ := T
    have e0 := hmg.symm.trans (PySem.W.mg_of KX G T.law)
    cases e0                                       -- fa is the law's own address
    exact ⟨_, fun s u => .of_eq rfl, fun base kb nb => My.law_fn T kb nb⟩     -- if «.of_eq rfl» comes too early: refine' ⟨_, ?b, fun base kb nb => My.law_fn T kb nb⟩; exact fun s u => .of_eq rfl
  case S => exact fun w H a ns hl hO hS => ..
  case C => exact ..
(the tactic k_is has no namespace: write k_is) -/

/-! SHORT WORDS over the layer: a def of the text, its body, what a loop and a test want. -/
namespace L2
open PySem PySem.Spec PyProof.Rows

/-! ### the text by places -/
/-- the j-th statement of a class's body -/
def inClass (s : Stmt) (j : Nat) : Stmt := match s with
  | .ClassDef _ _ _ body _ _ _ _ _ _ _ => body.getD j (.Pass ⟨0, 0, 0, 0⟩)
  | _ => .Pass ⟨0, 0, 0, 0⟩
def defArgs (s : Stmt) : Arguments := match s with
  | .FunctionDef _ a _ _ _ _ _ _ _ _ => a
  | _ => { posonlyargs := [], args := [], vararg := none, kwonlyargs := [], kw_defaults := [], kwarg := none, defaults := [] }
def defBody (s : Stmt) : List Stmt := match s with
  | .FunctionDef _ _ b _ _ _ _ _ _ _ => b
  | _ => []
def defScope (s : Stmt) : Scope := match s with
  | .FunctionDef _ _ _ _ _ _ sc _ _ _ => sc
  | _ => { kind := .function, names := [], isGenerator := false, isCoroutine := false }

/-! ### no exception leaves a def -/
abbrev CX0 : CXT := fun _ _ _ _ _ _ => False
abbrev E0 : XK := fun _ _ _ => False
theorem pass0 {X : Cx} : Passes CX0 X E0 := fun _ _ _ _ _ _ _ h => h.elim

/-! ### a def (or method) of the text as it stands behind the top -/
structure Fun (K : PySem.W.Frag) (x qual : Str) (st : Stmt) (f : Addr) (fd : FuncData) : Prop where
  ex : ∃ (oc : Value) (od : Option Addr) (kV doc pm : Value) (an : Option Addr) (cdv ct : Value) (osl : Array (Option Value)),
    fd = PySem.W.fnOf x qual (defArgs st) (defBody st) (defScope st) .none kV doc pm an cdv ct ∧ K.lookup f = some ⟨oc, od, .func fd, osl⟩ ∧ PySem.W.codeIn K cdv qual = true
  kp : PySem.W.keepIn K (.ref f) = true
section
variable {P : Program} {w : World} {K : PySem.W.Frag} {mg : Str → Option Value} {base : Heap}
/-- THE RULE for a def: its body as a term of rules, and the reading of that term -/
theorem Fun.ok {x qual : Str} {st : Stmt} {f : Addr} {fd : FuncData} {N ps : List Str} {k : Nat} {sp : Sp} (F : Fun K x qual st f fd) (S : FnScope N ps (defScope st)) (len : ∀ vs H Q E, sp vs H Q E → vs.length = ps.length)
    (hbody : ∀ (cdv : Value) (A : Around) (outer : List Env) (s : Shared) (H : Hp) (vs : List V) (Q : VK) (E : XK), Room k (A.deeper (envOfC qual (defScope st) s.heap.objs.size f cdv)) → sp vs H Q E →
      ∃ t, PSs (cxOf CX0 P w K mg base N qual (defScope st) f cdv A outer s H E).nox (defBody st) t ∧ t { nx := fun _ H' => Q .non H', rt := Q } (start N vs) H) : FnOk P w K mg base CX0 (k + 1) f fd ps sp := by
  obtain ⟨oc, od, kV, doc, pm, an, cdv, ct, osl, rfl, lk, hcd⟩ := F.ex
  refine fn_of lk hcd S len fun A outer s H vs Q E hr hsp => ?_
  obtain ⟨t, h, q⟩ := hbody cdv A outer s H vs Q E hr hsp
  exact ⟨t, h.nox, q⟩
/-- how its arguments bind (no defaults): h is «fun _ _ _ _ _ _ us hl => match us, hl with | [_, _], _ => rfl», one _ a parameter -/
theorem Fun.binds {x qual : Str} {st : Stmt} {f : Addr} {fd : FuncData} {ps : List Str} (F : Fun K x qual st f fd)
    (h : ∀ (kV doc pm : Value) (an : Option Addr) (cdv ct : Value) (us : List Value), us.length = ps.length → bindArgs (PySem.W.fnOf x qual (defArgs st) (defBody st) (defScope st) .none kV doc pm an cdv ct) ⟨us, []⟩ = pure (ps.zip us)) : Binds K fd ps [] := by
  obtain ⟨oc, od, kV, doc, pm, an, cdv, ct, osl, rfl, lk, hcd⟩ := F.ex
  exact .all (h kV doc pm an cdv ct)
theorem fun_mk {x qual : Str} {st : Stmt} {f : Addr} {oc : Value} {od an : Option Addr} {osl : Array (Option Value)} {kV doc pm cdv ct : Value} (l : K.lookup f = some ⟨oc, od, .func (PySem.W.fnOf x qual (defArgs st) (defBody st) (defScope st) .none kV doc pm an cdv ct), osl⟩)
    (c : PySem.W.codeIn K cdv qual = true) (k : PySem.W.keepIn K (.ref f) = true) : Fun K x qual st f (PySem.W.fnOf x qual (defArgs st) (defBody st) (defScope st) .none kV doc pm an cdv ct) := ⟨⟨oc, od, kV, doc, pm, an, cdv, ct, osl, rfl, l, c⟩, k⟩
end
/-! ### expressions in short: the name that stands in the i-th slot -/
section
variable {X : Cx}
theorem pv (i : Nat) {x : Str} {pos : Pos} (hN : X.N[i]? = some x := by rfl) (hv : Vis X.env.scope x := by first | exact Or.inl rfl | exact Or.inr (Or.inl rfl) | exact Or.inr (Or.inr rfl)) (hd : (x == ("__debug__" : Str)) = false := by decide)
    (hcd : (x == ("__classdict__" : Str)) = false := by decide) : PE X (.Name x pos) (tVar i) := pe_var hN hv hd hcd
end

/-! ### tests -/
theorem iteF {A B : Prop} (h : B) : if false = true then A else B := by
  rw [if_neg Bool.false_ne_true]
  exact h
theorem iteT {A B : Prop} (h : A) : if true = true then A else B := by
  rw [if_pos rfl]
  exact h
theorem iteNS {c A B : Prop} [Decidable c] (hc : c) (h : B) : if (!decide c) = true then A else B := by
  rw [decide_eq_true hc]
  exact iteF h

/-! ### heaps -/
/-- all that was tracked is as it was -/
def Same (H H' : Hp) : Prop := ∀ b o, H b = some o → H' b = some o
theorem Same.refl (H : Hp) : Same H H := fun _ _ h => h
theorem Same.trans {H H1 H2 : Hp} (a : Same H H1) (b : Same H1 H2) : Same H H2 := fun c o h => b c o (a c o h)
theorem Same.free {H H' : Hp} (e : Same H H') {l : Addr} (h : H' l = Option.none) : H l = Option.none := by
  cases q : H l with
  | none => rfl
  | some o =>
    rw [e l o q] at h
    cases h
theorem Same.seq {K : PySem.W.Frag} {H H' : Hp} {a : Addr} {xs : List V} (e : Same H H') (h : SqL K H a xs) : SqL K H' a xs := by
  rcases h with (h | ⟨o, h⟩) | h
  · exact .inl (.inl (e _ _ h))
  · exact .inl (.inr ⟨o, e _ _ h⟩)
  · exact .inr h

end L2
namespace L2
open PySem PySem.Spec PyProof.Rows

/-! ### great numbers -/
/-- below 2^n in size -/
def Bd (n : Nat) (i : Int) : Prop := i.natAbs < 2 ^ n
theorem Bd.mono {n m : Nat} {i : Int} (h : Bd n i) (k : n ≤ m) : Bd m i := Nat.lt_of_lt_of_le h (Nat.pow_le_pow_right (by decide) k)
theorem Bd.bits {n : Nat} {i : Int} (h : Bd n i) : Builtin.Int.intBits i ≤ n := by
  unfold Builtin.Int.intBits
  split
  · exact Nat.zero_le _
  · rename_i h0
    have hn : i.natAbs ≠ 0 := by
      intro z
      apply h0
      have : i = 0 := by omega
      simp [this]
    have : i.natAbs.log2 < n := (Nat.log2_lt hn).mpr h
    omega
theorem Bd.log {n : Nat} {i : Int} (h : Bd n i) (k : n ≤ 9000) : i.natAbs.log2 < 9000 := by
  rcases Nat.eq_zero_or_pos i.natAbs with h0 | hp
  · rw [h0]; decide +kernel
  · exact (Nat.log2_lt (by omega)).mpr (Nat.lt_of_lt_of_le h (Nat.pow_le_pow_right (by decide) k))
theorem Bd.mul {n m : Nat} {i j : Int} (h : Bd n i) (k : Bd m j) : Bd (n + m) (i * j) := by
  unfold Bd at *
  rw [Int.natAbs_mul, Nat.pow_add]
  exact Nat.mul_lt_mul'' h k
theorem Bd.neg {n : Nat} {i : Int} (h : Bd n i) : Bd n (-i) := by
  unfold Bd at *
  rw [Int.natAbs_neg]
  exact h
theorem Bd.add {n : Nat} {i j : Int} (h : Bd n i) (k : Bd n j) : Bd (n + 1) (i + j) := by
  unfold Bd at *
  have := Int.natAbs_add_le i j
  rw [Nat.pow_succ]
  omega
theorem Bd.of {n : Nat} {i : Int} (a : -(2 ^ n) < i) (b : i < 2 ^ n) : Bd n i := by
  unfold Bd
  have e : ((2 ^ n : Nat) : Int) = 2 ^ n := by norm_cast
  omega
theorem Bd.le {n : Nat} {i j : Int} (h : Bd n i) (k : j.natAbs ≤ i.natAbs) : Bd n j := Nat.lt_of_le_of_lt k h
section
variable {X : Cx} {a b c : Expr} {ta tb tc : TE} {pos : Pos}
def CMulB (i j : Int) : Prop := Bd 100000 i ∧ Bd 100000 j
def CDivB (i j : Int) : Prop := j ≠ 0 ∧ Bd 9000 j
theorem op_fdivB : OpR X (binaryOp .FloorDiv) (rI CDivB fun i j => .int (i.fdiv j)) := opI fun _ _ _ _ _ _ _ hc q =>
  floordiv_int hc.1 q (.inl (PyProof.noPylong_of_log2 (hc.2.log (Nat.le_refl _))))
/-! ### a list that is read and a list: + -/
def rCatL (K : PySem.W.Frag) : R2 := fun x y H Q => ∃ l b xs zs, x = .ref l ∧ y = .ref b ∧ SqL K H l xs ∧ SqL K H b zs ∧ xs.length + zs.length ≤ sizeLine ∧ ∀ p, H p = none → Q (.ref p) (upd H p (.lst (xs ++ zs)))
theorem op_catL : OpR X (binaryOp .Add) (rCatL X.K) := by
  intro pins s σ H x y v u Q I rx ry h
  obtain ⟨l, b, xs, zs, rfl, rfl, hH, hB, hz, q⟩ := h
  cases rx
  cases ry
  obtain ⟨its, r, p, z⟩ := I.list hH
  obtain ⟨its2, r2, p2, z2⟩ := I.list hB
  obtain ⟨⟨cls, dd, data, sl⟩, n, ho, hc, _, hd⟩ := id p
  obtain ⟨⟨cls2, dd2, data2, sl2⟩, n2, ho2, hc2, _, hd2⟩ := id p2
  simp only at hc hd hc2 hd2
  subst hc hd hc2 hd2
  have hl1 := r.length
  have hl2 := r2.length
  refine concat_meets ⟨_, ho, rfl⟩ ⟨_, ho2, rfl⟩ noFill_list_add seq_list_add PySem.F.slot_list_add PySem.F.entry_list_add (PySem.F.args_list_add_2 _ _) (list_addW l b its.toArray its2.toArray n n2 dd dd2 sl sl2 (by rw [List.size_toArray, List.size_toArray]; omega)) ⟨ho, ho2, ?_⟩
  have ea : its.toArray ++ its2.toArray = (its ++ its2).toArray := by simp
  rw [ea]
  exact ⟨.ref _, _, I.lnew (t' := s.toks) (r.append r2) (by rw [List.length_append]; omega), rfl, q _ I.fresh⟩
/-! ### == and != of tuples of flat things -/
theorem eqV_tail {x : V} (h : flatV x = true) : eqV x x = true := by
  cases x <;> simp_all [eqV, flatV]
/-- two lists of flat things are alike -/
def eqVs : List V → List V → Bool
  | [], [] => true
  | x :: xs, y :: ys => eqV x y && eqVs xs ys
  | _, _ => false
/-- the answers place by place -/
def ansV (xs ys : List V) (j : Nat) : Bool := match xs[j]?, ys[j]? with
  | some x, some y => eqV x y
  | _, _ => false
theorem all_ans : ∀ (xs ys : List V), ((List.range (min xs.length ys.length)).all (ansV xs ys) && (xs.length == ys.length)) = eqVs xs ys
  | [], [] => rfl
  | [], _ :: _ => rfl
  | _ :: _, [] => rfl
  | x :: xs, y :: ys => by
    have ih := all_ans xs ys
    have e : min (x :: xs).length (y :: ys).length = min xs.length ys.length + 1 := by simp [Nat.min_def]; split <;> rfl
    have e3 : ((x :: xs).length == (y :: ys).length) = (xs.length == ys.length) := by simp
    rw [e, e3, List.range_succ_eq_map, List.all_cons, List.all_map]
    have e2 : (ansV (x :: xs) (y :: ys)) ∘ Nat.succ = ansV xs ys := by funext j; simp [ansV]
    rw [e2]
    show (eqV x y && _ && _) = (eqV x y && eqVs xs ys)
    rw [← ih, Bool.and_assoc]
theorem eqAt_items {A : Around} {s : Shared} {xs ys : List V} {us ws : List Value} (r : Vals xs us) (q : Vals ys ws) (fx : xs.all flatV = true) (fy : ys.all flatV = true) :
    ∀ j (h1 : j < us.toArray.size) (h2 : j < ws.toArray.size), SeqAt.EqAt A s us.toArray[j] ws.toArray[j] (ansV xs ys j) := by
  intro j h1 h2
  have hl1 := r.length
  have hl2 := q.length
  simp only [List.size_toArray] at h1 h2
  have j1 : j < xs.length := by omega
  have j2 : j < ys.length := by omega
  have e1 : xs[j]? = some xs[j] := List.getElem?_eq_getElem j1
  have e2 : ys[j]? = some ys[j] := List.getElem?_eq_getElem j2
  obtain ⟨u, hu, ru⟩ := r.get e1
  obtain ⟨v, hv, rv⟩ := q.get e2
  have z1 : us[j] = u := by
    rw [List.getElem?_eq_getElem h1] at hu
    exact Option.some.inj hu
  have z2 : ws[j] = v := by
    rw [List.getElem?_eq_getElem h2] at hv
    exact Option.some.inj hv
  have g1 : flatV xs[j] = true := List.all_eq_true.mp fx _ (List.getElem_mem j1)
  have g2 : flatV ys[j] = true := List.all_eq_true.mp fy _ (List.getElem_mem j2)
  have ea : ansV xs ys j = eqV xs[j] ys[j] := by
    unfold ansV
    rw [e1, e2]
  rw [ea]
  have := eqAt_V (A := A) (s := s) ru rv g1 g2
  simp only [List.getElem_toArray]
  rw [z1, z2]
  exact this
def rEqT (K : PySem.W.Frag) : R2 := fun x y H Q => ∃ l b xs ys, x = .ref l ∧ y = .ref b ∧ SqT K H l xs ∧ SqT K H b ys ∧ xs.all flatV = true ∧ ys.all flatV = true ∧ Q (.bl (eqVs xs ys)) H
theorem op_eqT (hu : X.A.units < cLine) : OpR X (compareOp .Eq) (rEqT X.K) := by
  intro pins s σ H x y v u Q I rx ry h
  obtain ⟨l, b, xs, ys, rfl, rfl, ha, hb, fx, fy, q⟩ := h
  cases rx
  cases ry
  obtain ⟨its, r1, p1, _⟩ := I.tuple ha
  obtain ⟨its2, r2, p2, _⟩ := I.tuple hb
  refine SeqAt.eq_tupleAt (show s.heap.IsTuple l its.toArray from p1) (show s.heap.IsTuple b its2.toArray from p2) hu (eqAt_items r1 r2 fx fy) ?_
  have e := all_ans xs ys
  rw [r1.length, r2.length] at e
  rw [List.size_toArray, List.size_toArray, e]
  exact ⟨.bl _, H, I, rfl, q⟩
def rNeT (K : PySem.W.Frag) : R2 := fun x y H Q => ∃ l b xs ys, x = .ref l ∧ y = .ref b ∧ SqT K H l xs ∧ SqT K H b ys ∧ xs.all flatV = true ∧ ys.all flatV = true ∧ Q (.bl (!eqVs xs ys)) H
/-! ### isinstance(x, c) -/
/-- c a class of Python's own, or one of the text's -/
def rIsi (K : PySem.W.Frag) : List V → Hp → VK → Prop := fun xs H Q => ∃ x c cv t b, xs = [x, c] ∧ (∀ u, RelV c u → u = cv) ∧ TyOf K H x t ∧ PySem.W.kitOne K t cv = some b ∧ Q (.bl b) H
theorem call_isi : CallR X (.builtin "isinstance") (rIsi X.K) := by
  intro pins s σ H xs us Q I r h
  obtain ⟨x, c, cv, t, b, rfl, hc, ty, e, q⟩ := h
  obtain ⟨u, w', rfl, r1, r2⟩ := vals2 r
  cases hc _ r2
  exact isinst_ok I r1 ty e fun tk => ⟨.bl b, H, I.tok tk, rfl, q⟩
end
/-! ### enumerate(xs) -/
def Ite (K : PySem.W.Frag) (a : Addr) : It :=
  ⟨fun i H => ∃ xs x, SqL K H a xs ∧ xs[i]? = some x,
   fun i H x H' => ∃ p y, x = .ref p ∧ H p = none ∧ H' = upd H p (.tup [.int i, y]) ∧ ∀ xs, SqL K H a xs → xs[i]? = some y,
   fun i H => ∃ xs, SqL K H a xs ∧ xs.length ≤ i⟩
theorem turn_enum {P : Program} {w : World} {K : PySem.W.Frag} {elts : List Expr} {x1} {tpos : Pos} (a e it : Addr) (hne : e ≠ it) :
    Turn P w K (.Tuple elts x1 tpos) (Ite K a) [e, it] e (fun i h => (∃ old, IsEnum h e it i old) ∧ h.IsListIter it a i) where
  mem := by simp
  obj := fun i h st b hb => by
    obtain ⟨⟨old, h1⟩, o, h2, c, d⟩ := st
    have e : b = e ∨ b = it := by simpa using hb
    rcases e with rfl | rfl
    · exact ⟨_, h1, fun v z => by
        have z' : Data.fields _ = Data.cell v := z
        cases z'⟩
    · exact ⟨o, h2, fun v z => by rw [d] at z; cases z⟩
  keep := fun i h h' st k => by
    obtain ⟨⟨old, h1⟩, h2⟩ := st
    exact ⟨⟨old, k e (by simp) _ h1⟩, h2.at fun o q => k it (by simp) o q⟩
  item := by
    intro X hP hw hK hc i pins s σ H E I hf st hg
    subst hP hw hK
    obtain ⟨⟨old, h1⟩, h2⟩ := st
    obtain ⟨xs, x, hq, hx⟩ := hg
    obtain ⟨its, rv, p, hz⟩ := I.list hq
    obtain ⟨u, hu, ru⟩ := rv.get hx
    obtain ⟨f0, f1, f2, f3, f4, f5⟩ := hf e (by simp)
    obtain ⟨g0, g1, g2, g3, g4, g5⟩ := hf it (by simp)
    refine wpAny_pyNext_enum_item h1 h2 p.isList (x := u) (by simpa using hu) hne fun h' a1 a2 a3 a4 a5 => ?_
    refine ⟨_, rfl, wpAny_letOwnedTupleGo_enum a1 fun h'' b1 b2 => ?_⟩
    have hpe : s.heap.objs.size ≠ e := Nat.ne_of_gt (Heap.lt_size h1)
    have hpi : s.heap.objs.size ≠ it := by
      obtain ⟨o, h2', _⟩ := h2
      exact Nat.ne_of_gt (Heap.lt_size h2')
    have hie : it ≠ e := Ne.symm hne
    have hp0 : H s.heap.objs.size = none := I.fresh
    have kp : ∀ b o, b ≠ e → b ≠ it → s.heap.get? b = some o → h''.get? b = some o := fun b o z1 z2 q => (b2.2 b z1).trans (a5 b o z1 z2 q)
    have tp : h''.get? s.heap.objs.size = some { cls := .type "tuple", data := .seq #[.int i s.toks, u] } := (b2.2 _ hpe).trans a3
    refine ⟨.ref s.heap.objs.size, upd H s.heap.objs.size (.tup [.int i, x]), ?_, rfl, ⟨_, x, rfl, hp0, rfl, fun ys hy => by rw [I.list_inj hy hq]; exact hx⟩, ⟨⟨u, b1⟩, a2.at fun o q => (b2.2 it hie).trans q⟩, fun b hb => ?_⟩
    · -- both records have turned, a tuple is laid
      have nt : ∀ b o, H b = some o → b ≠ e ∧ b ≠ it := fun b o q => ⟨ne_of_none q f0, ne_of_none q g0⟩
      have ok' : HOk X.prog X.w (upd H s.heap.objs.size (.tup [.int i, x])) h'' := fun b o q => by
        by_cases hb : b = s.heap.objs.size
        · subst hb
          rw [upd_same] at q
          cases q
          exact ⟨by show 2 ≤ sizeLine; decide, [.int i s.toks, u], .cons ⟨_, rfl⟩ (.cons ru .nil), _, tp, rfl, 0, rfl⟩
        · rw [upd_ne hb] at q
          refine (I.hok b o q).stay (fun c v hc q' => kp c v ?_ ?_ q') (fun c q' => by rw [upd_ne (ne_of_none q' hp0)]; exact q') fun c zs q' => by rw [upd_ne (ne_of_none q' hp0)]; exact q'
          · rcases hc with rfl | hc
            · exact (nt _ _ q).1
            · exact (nt _ _ hc).1
          · rcases hc with rfl | hc
            · exact (nt _ _ q).2
            · exact (nt _ _ hc).2
      have hL : X.env.locals ≠ s.heap.objs.size := by
        obtain ⟨m, ⟨o, _, _, ho, _⟩, _⟩ := id I.loc
        exact Nat.ne_of_lt (Heap.lt_size ho)
      have I3 : Inv X pins σ (upd H s.heap.objs.size (.tup [.int i, x])) { s with heap := h'', gens := s.gens, drawn := s.drawn, toks := s.toks + 1 } := by
       refine Inv.step (s := s) I (g' := s.gens) (d' := s.drawn) (ch := [e, it]) (fun b hb => ?_) (fun b o _ _ hc q _ => kp b o (fun z => hc (by simp [z])) (fun z => hc (by simp [z])) q)
        (fun b o _ _ hc q _ => ⟨o.slots, kp b o (fun z => hc (by simp [z])) (fun z => hc (by simp [z])) q⟩)
        (fun b o _ q n => by rw [upd_ne (Nat.ne_of_lt (Heap.lt_size q))]; exact n)
        (fun b o hc q => ⟨o, kp b o (fun z => hc (by simp [z])) (fun z => hc (by simp [z])) q⟩)
        (fun b zs q => by rw [upd_ne (ne_of_none q hp0)]; exact q) (fun b ob zs q => by rw [upd_ne (ne_of_none q hp0)]; exact q)
        (fun b ps q => ⟨#[], by rw [upd_ne (ne_of_none q hp0), q]; simp⟩) (fun m hm => ?_) ok' I.bare
       · have z : b = e ∨ b = it := by simpa using hb
         rcases z with rfl | rfl
         · exact ⟨f3, f1, f4, f5⟩
         · exact ⟨g3, g1, g4, g5⟩
       · obtain ⟨o, es, ep, ho, r⟩ := hm
         exact ⟨o, es, ep, kp _ o (Ne.symm f1) (Ne.symm g1) ho, r⟩
      exact I3
    · have z : b = e ∨ b = it := by simpa using hb
      rcases z with rfl | rfl
      · rw [upd_ne (Ne.symm hpe)]; exact f0
      · rw [upd_ne (Ne.symm hpi)]; exact g0
  done := by
    intro X hP hw hK hc i pins s σ H E I hf st hg
    subst hP hw hK
    obtain ⟨⟨old, h1⟩, h2⟩ := st
    obtain ⟨xs, hq, hx⟩ := hg
    obtain ⟨its, rv, p, hz⟩ := I.list hq
    obtain ⟨g0, g1, g2, g3, g4, g5⟩ := hf it (by simp)
    have hl := rv.length
    exact wpAny_pyNext_enum_end (I.ok.hd hc) h1 h2 p.isList (by simp; omega) fun h' eb => ⟨rfl, I.turned (t' := s.toks) (fun b o hb e => eb b o hb e) g0 g1 g3 g4 g5⟩
  self := fun _ _ _ _ _ st h => by
    obtain ⟨⟨old, h1⟩, h2⟩ := st
    exact wpAny_pyIter_enum h1 h
section
variable {X : Cx}
def iEnum (K : PySem.W.Frag) (ta : TA) : TI := fun σ H R => ta σ H fun vs H1 => ∃ a, vs = [.ref a] ∧ (∃ xs, SqL K H1 a xs) ∧ R (Ite K a) H1
theorem pi_enum {a : Expr} {ta : TA} {p pos : Pos} {elts : List Expr} {x1} {tpos : Pos} (hg : Gl X "enumerate") (hm : X.mg "enumerate" = none) (ha : PA X [a] ta) (hs : starEach [a] X.env = [(false, eval a X.env)] := by rfl) :
    PI X (.Tuple elts x1 tpos) (.Call (.Name "enumerate" p) [a] [] pos) (iEnum X.K ta) := by
  intro pins s σ H R I h
  refine Call_ (ld_blt I hg hm boot_enumerate (PyProof.Rows.callWith_type1 (thn (ha pos pins s σ H _ I h) fun us s1 ⟨vs, H1, I1, r1, q1⟩ => ?_) hs rfl))
  obtain ⟨l, e, ⟨xs, hq⟩, q⟩ := q1
  subst e
  obtain ⟨u, rfl, ru⟩ := vals1 r1
  cases ru
  obtain ⟨its, rv, p, hz⟩ := I1.list hq
  refine call_enumerate_list p.isList fun h' c1 c2 c3 c4 => ?_
  refine wpAny_pyIter_enum c1 ?_
  have I2 : Inv X pins σ H1 { s1 with heap := h' } := I1.kept (t' := s1.toks) c4
  refine ⟨_, [s1.heap.objs.size + 1, s1.heap.objs.size], _, _, H1, rfl, I2, turn_enum l _ _ (Nat.succ_ne_self _), ⟨⟨_, c1⟩, c2⟩, fun b hb => ?_, q⟩
  have z : b = s1.heap.objs.size + 1 ∨ b = s1.heap.objs.size := by simpa using hb
  rcases z with rfl | rfl
  · exact I1.fpOk (Nat.le_succ _) (I1.hok.fresh (Nat.le_succ _))
  · exact I1.fpOk (Nat.le_refl _) (I1.hok.fresh (Nat.le_refl _))
/-- over enumerate of a list that the body leaves as it is -/
theorem for_enum {K : PySem.W.Frag} {a : Addr} {xs : List V} {g : TG} {tb : TS} {D : Ends} {σ : St} {H : Hp} (Pv : Nat → St → Hp → Prop) (h0 : Pv 0 σ H) (hl : ∀ i σ H, i ≤ xs.length → Pv i σ H → SqL K H a xs)
    (hs : ∀ i x σ H p, xs[i]? = some x → Pv i σ H → H p = none → g (.ref p) σ (upd H p (.tup [.int i, x])) fun σ2 H2 => tb { D with nx := Pv (i + 1), ct := Pv (i + 1), bk := D.nx } σ2 H2) (hd : ∀ σ H, Pv xs.length σ H → D.nx σ H) :
    ∃ W : Nat → Nat → St → Hp → Prop, (∃ m, W 0 m σ H) ∧ ∀ i m σ H, W i m σ H →
      ((Ite K a).stop i H ∧ D.nx σ H) ∨ ((Ite K a).go i H ∧ ∃ N : St → Hp → Prop, (∀ σ' H', N σ' H' → ∃ m', m' < m ∧ W (i + 1) m' σ' H') ∧ ∀ x H', (Ite K a).yld i H x H' → g x σ H' fun σ2 H2 => tb { D with nx := N, ct := N, bk := D.nx } σ2 H2) := by
  refine ⟨fun i m σ H => Pv i σ H ∧ i ≤ xs.length ∧ m = xs.length - i, ⟨_, h0, Nat.zero_le _, rfl⟩, fun i m σ H ⟨hp, hi, hm⟩ => ?_⟩
  have hq := hl i σ H hi hp
  by_cases e : i = xs.length
  · subst e
    exact .inl ⟨⟨xs, hq, Nat.le_refl _⟩, hd σ H hp⟩
  · have lt : i < xs.length := by omega
    refine .inr ⟨⟨xs, xs[i], hq, List.getElem?_eq_getElem lt⟩, Pv (i + 1), fun σ' H' h' => ⟨xs.length - (i + 1), by omega, h', by omega, rfl⟩, fun x H' hy => ?_⟩
    obtain ⟨p, y, rfl, hn, rfl, hy⟩ := hy
    exact hs i y σ H p (hy xs hq) hp hn
/-! ### a statement's ends meet -/
def tCut (t : TS) : TS := fun D σ H => ∃ M : St → Hp → Prop, t { D with nx := M } σ H ∧ ∀ σ' H', M σ' H' → D.nx σ' H'
theorem ps_cut {st : Stmt} {t : TS} (h : PS X st t) : PS X st (tCut t) := by
  intro pins s σ H D I ⟨M, h1, h2⟩
  refine thn (h pins s σ H _ I h1) fun f s' q => ?_
  cases f with
  | next => obtain ⟨σ', H', I', z⟩ := q; exact ⟨σ', H', I', h2 _ _ z⟩
  | brk => exact q
  | cont => exact q
  | ret u => exact q
/-- an expression's end is forgotten but for what is said of it -/
def tCutE (t : TE) : TE := fun σ H Q => ∃ M : VK, t σ H M ∧ ∀ v H', M v H' → Q v H'
end
end L2
namespace L2
open PySem PySem.Spec PyProof.Rows
section
variable {X : Cx}
def CMulX (i j : Int) : Prop := CMul i j ∨ CMulB i j
theorem op_mulX : OpR X (binaryOp .Mult) (rI CMulX fun i j => .int (i * j)) := opI fun _ _ _ _ _ _ _ hc q => by
  rcases hc with hc | hc
  · exact mul_int q hc.ok
  · exact mul_int q (IntMulOk.of_bits (Nat.le_trans hc.1.bits (by decide)) (Nat.le_trans hc.2.bits (by decide)))
theorem CMulX.l {i j : Int} (a : -(2 ^ 64) < i) (b : i < 2 ^ 64) : CMulX i j := .inl (.inl ⟨a, b⟩)
theorem CMulX.r {i j : Int} (a : -(2 ^ 64) < j) (b : j < 2 ^ 64) : CMulX i j := .inl (.inr ⟨a, b⟩)
theorem CMulX.b {n m : Nat} {i j : Int} (a : Bd n i) (b : Bd m j) (hn : n ≤ 100000 := by decide) (hm : m ≤ 100000 := by decide) : CMulX i j := .inr ⟨a.mono hn, b.mono hm⟩
end
/-- a tuple stands there, written out -/
theorem Same.upd {H : Hp} {p : Addr} {o : HO} (h : H p = none) : Same H (upd H p o) := fun b u e => by rw [upd_ne (ne_of_none e h)]; exact e
theorem Same.tup {K : PySem.W.Frag} {H H' : Hp} {a : Addr} {xs : List V} (e : Same H H') (h : H a = some (.tup xs)) : SqT K H' a xs := SqT.of (e _ _ h)
end L2
namespace L2
open PySem PySem.Spec PyProof.Rows
/-! ### C() of a class without an __init__ of its own -/
structure MkP (K : PySem.W.Frag) (C : Addr) : Prop where
  makes : PySem.W.makesIn K C = true
  init : PySem.W.findIn K (.ref C) "__init__" = some (some (.builtin "object.__init__"))
  kp : PySem.W.keepIn K (.ref C) = true
section
variable {X : Cx} {C : Addr} {x m : Str} {p pos apos : Pos} {e o : Expr} {es : List Expr} {ta : TE} {t : TA} {k : Nat}
def tMakeP (C : Addr) : TE := fun _ H Q => ∀ x dx, H x = none → H dx = none → dx ≠ x → Q (.ref x) (upd (upd H dx (.own x)) x (.ins C dx []))
theorem run_makeP {pins : List (Addr × Obj)} {σ : St} {H : Hp} {s : Shared} {Q : VK} (M : MkP X.K C) (I : Inv X pins σ H s)
    (h : ∀ x dx, H x = none → H dx = none → dx ≠ x → Q (.ref x) (upd (upd H dx (.own x)) x (.ins C dx []))) :
    wpAny (model X.prog X.w) X.A (call (.ref C) []) (EP X pins σ Q) X.xe s := by
  have I2 := Inv.made (C := C) I
  have hq := h (s.heap.objs.size + 1) s.heap.objs.size (I.hok.fresh (Nat.le_succ _)) (I.hok.fresh (Nat.le_refl _)) (Nat.ne_of_lt (Nat.lt_succ_self _))
  refine wpAny_call (make_map0 I.kIn M.makes M.init (fun self => PySem.W.Looks.of_pure (PySem.W.oi_bind self)) ?_)
  obtain ⟨hh, g, d, tk, os⟩ := s
  have Y := PySem.W.makes_of (M := model X.prog X.w) I.kIn M.makes
  have e2 : ((hh.push PySem.W.emptyDict).push (PySem.W.instObj C hh.objs.size)).get? (hh.objs.size + 1) = some (PySem.W.instObj C hh.objs.size) := by
    have := Heap.get?_push_size (hh.push PySem.W.emptyDict) (o := PySem.W.instObj C hh.objs.size) rfl
    rwa [Heap.size_push] at this
  have t1 : PySem.W.Looks (model X.prog X.w) ((hh.push PySem.W.emptyDict).push (PySem.W.instObj C hh.objs.size)) (typeOf (.ref (hh.objs.size + 1))) (.ref C) := (PySem.W.Looks.ld e2).andThen .now
  have t2 : PySem.W.Looks (model X.prog X.w) ((hh.push PySem.W.emptyDict).push (PySem.W.instObj C hh.objs.size)) (isInstance (.ref (hh.objs.size + 1)) (.type "object")) true := t1.andThen (Y.top.keeps fun b o e => Heap.get?_push_of_some _ (Heap.get?_push_of_some _ e))
  refine codeAny_call_builtin PySem.W.oi_plain PySem.W.entry_oi (@PySem.W.check_slot (model X.prog X.w) _ _ _ "object.__init__" "object" "__init__" (.ref (hh.objs.size + 1)) [] [] _ PySem.W.oi_kind PySem.W.oi_split t2 (PySem.W.oi_args (.ref (hh.objs.size + 1))) ?_)
  rw [PySem.W.oi_run]
  exact wpAny_pure (And.intro rfl ⟨V.ref (hh.objs.size + 1), _, I2, rfl, hq⟩)
theorem pe_makeP (M : MkP X.K C) (hg : Gl X x) (hm : X.mg x = some (.ref C)) (hdb : (x == ("__debug__" : Str)) = false := by decide) : PE X (.Call (.Name x p) [] [] pos) (tMakeP C) := by
  intro pins s σ H Q I h
  refine wpAny_Call_Name_kw (ld_glob I hg hm ?_ hdb)
  exact PySem.W.callWith_K0 I.kIn M.kp (run_makeP M I h)
/-! ### o.m(..) by the class that o has -/
structure MOk (P : Program) (w : World) (K : PySem.W.Frag) (mg : Str → Option Value) (base : Heap) (k : Nat) (C : Addr) (m : Str) (sp : Sp) : Prop where
  cl : Cls K C
  ok : ∃ f fd ps, Meth K C m f ∧ FnOk P w K mg base CX0 k f fd ps sp ∧ Binds K fd ps []
def tMethD (X : Cx) (k : Nat) (m : Str) (ta : TE) (t : TA) : TE := fun σ H Q => ta σ H fun x H1 => ∃ a C dx fs sp, x = .ref a ∧ H1 a = some (.ins C dx fs) ∧ MOk X.prog X.w X.K X.mg X.base k C m sp ∧ fs.lookup m = none ∧
  t σ H1 fun vs H2 => sp (x :: vs) H2 Q E0
theorem pe_methD {pl : Sem Bool} (hr : Room k X.A) (he : PE X o ta) (ha : PA X (e :: es) t)
    (hst : starEach (e :: es) X.env = (false, eval e X.env) :: starEach es X.env := by rfl) (hpl : (backTo pos (starEach es X.env)).any (·.1) = false := by rfl)
    (ht : eval (.Call (.Attribute o m apos) (e :: es) [] pos) X.env = (do
      let ov ← eval o X.env
      standAt apos.atName
      let (f, first) ← holding [ov] (getMethod ov m pl)
      callWith pos f first (backTo pos (starEach (e :: es) X.env)) (backToKw pos (keywordEach [] X.env))) := by rfl) :
    PE X (.Call (.Attribute o m apos) (e :: es) [] pos) (tMethD X k m ta t) := by
  intro pins s σ H Q I h
  refine PySem.W.methodCall_KW (pl := pl) (thn (he pins s σ H _ I h) fun u s1 ⟨x, H1, I1, rx, a, C, dx, fs, sp, ex, ea, mo, l, q⟩ => ?_) ht
  obtain ⟨c, f, fd, ps, hm, F, hb⟩ := mo
  subst ex
  obtain rfl : u = Value.ref a := rx
  refine getmeth_ok I1 ea c hm l ?_
  refine PySem.W.callWith_K (first := [.ref a]) (h₀ := X.base) I.ok.mod.kin hm.kp (thn (ha pos pins s1 σ H1 _ I1 q) fun us s2 ⟨vs, H2, I2, r, q2⟩ => ⟨I2.kIn, ?_⟩) hst hpl
  exact run_fn (us := .ref a :: us) (vs := .ref a :: vs) (dvs := []) F hr hb .nil pass0 I2 (.cons rfl r) (by rw [List.append_nil]; exact q2)
theorem pe_methD0 {pl : Sem Bool} (hr : Room k X.A) (he : PE X o ta)
    (ht : eval (.Call (.Attribute o m apos) [] [] pos) X.env = (do
      let ov ← eval o X.env
      standAt apos.atName
      let (f, first) ← holding [ov] (getMethod ov m pl)
      callWith pos f first (backTo pos (starEach [] X.env)) (backToKw pos (keywordEach [] X.env))) := by rfl) :
    PE X (.Call (.Attribute o m apos) [] [] pos) (tMethD X k m ta tNil) := by
  intro pins s σ H Q I h
  refine PySem.W.methodCall_KW (pl := pl) (thn (he pins s σ H _ I h) fun u s1 ⟨x, H1, I1, rx, a, C, dx, fs, sp, ex, ea, mo, l, q⟩ => ?_) ht
  obtain ⟨c, f, fd, ps, hm, F, hb⟩ := mo
  subst ex
  obtain rfl : u = Value.ref a := rx
  refine getmeth_ok I1 ea c hm l ?_
  exact PySem.W.callWith_K0 (first := [.ref a]) I1.kIn hm.kp (run_fn (us := [.ref a]) (vs := [.ref a]) (dvs := []) F hr hb .nil pass0 I1 (.cons rfl .nil) q)
/-- what isinstance asks of an own class -/
structure InsTy (K : PySem.W.Frag) (C : Addr) : Prop where
  ha : PySem.W.findIn K (.ref C) "__class__" = some (some (.builtin "object.__class__"))
  hn : PySem.W.specialIn K (.builtin "object.__class__") "__get__" = some (some (.builtin "getset_descriptor.__get__"))
  htk : PySem.W.takesIn K (.builtin "object.__class__") = some true
  hm : PySem.W.mroIn K C (.type "object") = some true
theorem InsTy.ty {K : PySem.W.Frag} {C a dx : Addr} {H : Hp} {fs : List (Str × V)} (i : InsTy K C) (c : Cls K C) (e : H a = some (.ins C dx fs)) : TyOf K H (.ref a) (.ref C) := .ins e c i.ha i.hn i.htk i.hm
end
/-- isinstance of an own class, by what the text's classes say -/
theorem kit_ref {K : PySem.W.Frag} {C D : Addr} {b : Bool} (hd : PySem.W.hasDictIn K D = true) (ht : PySem.W.typeIn K (.ref D) = some (.type "type")) (hs : PySem.W.subIn K (.ref C) (.ref D) = some b)
    (hr : PySem.W.subIn K (.ref D) (.ref D) = some true) : PySem.W.kitOne K (.ref C) (.ref D) = some b := by
  obtain ⟨cd, hc, _⟩ := PySem.W.any_some hd
  unfold PySem.W.kitOne
  by_cases q : (Value.ref C == Value.ref D) = true
  · rw [if_pos q]
    have e : Value.ref C = Value.ref D := beq_iff_eq.mp q
    rw [e, hr] at hs
    exact hs
  · rw [if_neg q]
    unfold PySem.W.kitCls
    simp only
    rw [if_pos (by rw [hc, ht]; rfl)]
    exact hs
end L2
namespace L2
open PySem PySem.Spec PyProof.Rows
/-! ### exceptions of own classes -/
theorem ObjOk.get {P : Program} {w : World} {H : Hp} {h : Heap} {a : Addr} {o : HO} (x : ObjOk P w H h a o) : ∃ ob, h.get? a = some ob := by
  cases o with
  | lst xs => obtain ⟨_, _, _, _, e⟩ := x; exact ⟨_, e⟩
  | tup xs => obtain ⟨_, _, _, ob, e, _⟩ := x; exact ⟨_, e⟩
  | dK kvs => obtain ⟨_, _, _, _, o, _, _, e, _⟩ := x; exact ⟨_, e⟩
  | dT kvs => obtain ⟨_, _, _, _, o, _, _, e, _⟩ := x; exact ⟨_, e⟩
  | set S n => obtain ⟨o, _, _, _, e, _⟩ := x; exact ⟨_, e⟩
  | ins C dx fs => obtain ⟨_, _, _, e, _⟩ := x; exact ⟨_, e⟩
  | own y => obtain ⟨_, e⟩ := x; exact ⟨_, e⟩
  | xd fs => obtain ⟨_, ⟨_, _, _, e, _⟩, _⟩ := x; exact ⟨_, e⟩
  | rng lo hi => obtain ⟨_, _, _, e⟩ := x; exact ⟨_, e⟩
  | frz ob u => obtain ⟨e, _⟩ := x; exact ⟨_, e⟩
  | tbl ps => exact ⟨_, (show h.get? a = some _ from x)⟩
  | met f y => exact ⟨_, (show h.get? a = some _ from x)⟩
  | ext φ => obtain ⟨_, ⟨_, e⟩, _⟩ := x; exact ⟨_, e⟩
/-- B holds all that is tracked and all that stood at the beginning, but the frames -/
def Cov (fs : List Addr) (H' : Hp) (h0 h B : Heap) : Prop := ∀ b o, h.get? b = some o → b ∉ fs → (H' b ≠ none ∨ ∃ u, h0.get? b = some u) → B.get? b = some o
/-- how an exception lies behind a call -/
def CXE (P : Program) (w : World) : CXT := fun outer H s E e s' => ∃ (ex t : Addr) (cls : Value) (H' : Hp) (B : Heap),
  e = .ref ex ∧ s'.os = s.os ∧ AllBare s'.gens ∧ Un (frs outer) [] H H' s.heap s'.heap ∧ HOk P w H' s'.heap ∧ Heap.FlyingW B outer ex cls (.ref t) s'.heap ∧ Cov (frs outer) H' s.heap s'.heap B ∧ s.heap.get? ex = none ∧ H' ex = none ∧ E cls none H'
section
variable {X : Cx} {pins : List (Addr × Obj)} {σ : St} {H : Hp} {s : Shared}
theorem Inv.frf (I : Inv X pins σ H s) : ∀ b ∈ frs X.stack, H b = none := I.env0.frf
end
section
variable {P : Program} {w : World} {K : PySem.W.Frag} {mg : Str → Option Value} {base : Heap} {N : List Str} {qual : Str} {scope : Scope} {f : Addr} {cdv : Value} {A : Around} {outer : List Env} {s : Shared} {H : Hp} {E : XK}
  {pins : List (Addr × Obj)} {σ : St} {H1 : Hp} {s1 : Shared}
end
/-! ### calls that may raise -/
/-- an exception that lies so reaches what the body wants -/
def PassesX (X : Cx) (XE : St → XK) : Prop := ∀ (pins : List (Addr × Obj)) (σ : St) (H : Hp) (s : Shared) (e : Value) (s' : Shared), Inv X pins σ H s → CXE X.prog X.w X.stack H s (XE σ) e s' → X.xe e s'
def tCallX (sp : Sp) (XE : St → XK) (t : TA) : TE := fun σ H Q => t σ H fun vs H1 => sp vs H1 Q (XE σ)
section
variable {X : Cx} {k : Nat} {f C : Addr} {fd : FuncData} {ps : List Str} {sp : Sp} {XE : St → XK} {x m : Str} {p pos apos np cpos : Pos} {e o : Expr} {es : List Expr} {ta : TE} {t : TA}
end
/-! ### raise C(..) in a def -/
/-- what of the text an exception class must have -/
structure XCls (K : PySem.W.Frag) (C : Addr) : Prop where
  ex : PySem.W.excIn K C [.type "ValueError", .type "Exception", .type "BaseException", .type "object"] "ValueError.__new__" = true
theorem XCls.obj {K : PySem.W.Frag} {C : Addr} (c : XCls K C) : ∃ nm q N bs bm hdct sn sub ab col dd k0 k1 k2 k3 k5, K.lookup C = some (excClassObj nm q C N bs bm hdct sn sub ab col dd k0 k1 k2 k3 k5 "ValueError.__new__") ∧
    PySem.W.tailIn K [.type "ValueError", .type "Exception", .type "BaseException", .type "object"] bm = true ∧ PySem.W.nsOkIn K N = true ∧ PySem.W.nsIn K N "__init__" = some none := by
  have q := c.ex
  unfold PySem.W.excIn at q
  split at q
  · rename_i dd cd sl ho
    split at q
    · rename_i C' bm k0 k1 k2 k3 n k5 hm hs
      simp only [Bool.and_eq_true, beq_iff_eq, Bool.not_eq_true'] at q
      obtain ⟨⟨⟨⟨⟨rfl, rfl⟩, hdel⟩, ht⟩, hok⟩, hni⟩ := q
      obtain ⟨nm, bs, mro, ns, qn, hd, sn, sub, ab, col, del⟩ := cd
      dsimp only at hm hdel hok hni
      subst hm hdel
      have hsl : sl = #[k0, k1, k2, k3, some (.builtin "ValueError.__new__"), k5] := by
        obtain ⟨l⟩ := sl
        simp only at hs
        rw [hs]
      subst hsl
      exact ⟨nm, qn, ns, bs, bm, hd, sn, sub, ab, col, dd, k0, k1, k2, k3, k5, ho, ht, hok, hni⟩
    · cases q
  · cases q
section
variable {P : Program} {w : World} {K : PySem.W.Frag} {mg : Str → Option Value} {base : Heap} {N : List Str} {qual : Str} {scope : Scope} {f C : Addr} {cdv : Value} {A : Around} {outer : List Env} {s : Shared} {H : Hp} {E : XK}
  {x : Str} {np cpos pos : Pos} {e₀ : Expr} {rest : List Expr} {t : TA}
def tRaise (C : Addr) (E : XK) (t : TA) : TS := fun _ σ H => t σ H fun vs H1 => vs.length ≤ sizeLine ∧ E (.ref C) none H1
end
end L2
namespace L2
open PySem PySem.Spec PyProof.Rows
/-! ### try: .. except C as n: .. -/
def tryXe (X : Cx) (XE : St → XK) : Value → Shared → Prop := fun e s' => ∃ pins σ H s, Inv X.nox pins σ H s ∧ CXE X.prog X.w X.stack H s (XE σ) e s'
/-- the body of a try -/
abbrev tryCx (X : Cx) (pins : List (Addr × Obj)) (XE : St → XK) : Cx := { X with pn := X.pn ++ pins, xe := tryXe { X with pn := X.pn ++ pins } XE }
theorem Cx.Ok.pn {X : Cx} (ok : X.Ok) (p : List (Addr × Obj)) (E : Value → Shared → Prop) : Cx.Ok { X with pn := p, xe := E } :=
  ⟨ok.mod, ok.kind, ok.glob, ok.blt, ok.above, ok.inj, ok.has, ok.cab, ok.hd, ok.frames, ok.stk, ok.exf, ok.bs, ok.bsz, ok.noex, ok.exfs, ok.funs, ok.frf⟩
/-- within an except suite -/
abbrev Cx.handling (X : Cx) (e : Value) : Cx := { X with A := X.A.mark (some e), calm := false, xe := fun _ _ => False }
/-- an exception of the class at C, kept -/
def ExcO (ex C : Addr) : HO := .ext fun h => ∃ o vs, h.get? ex = some o ∧ o.cls = .ref C ∧ o.data = .fields vs
section
variable {X : Cx} {pins : List (Addr × Obj)} {σ : St} {H : Hp} {s : Shared}
/-- the frame's own names are rewritten -/
theorem Inv.locals {h' : Heap} {m' : Str → Option Value} {σ' : St} {t' : Nat} (I : Inv X pins σ H s) (hs : Heap.SameBut X.env.locals s.heap h') (hn' : h'.Ns X.env.locals m')
    (hl : ∀ (i : Nat) (x : Str) (v : V), X.N[i]? = some x → σ'[i]? = some (some v) → Vis X.env.scope x → ∃ u, RelV v u ∧ Look X.env h' m' x u) (len : σ'.length = σ.length) : Inv X pins σ' H { s with heap := h', toks := t' } := by
  have cne := I.cne
  obtain ⟨m, ⟨oL, _, _, hoL, _⟩, _⟩ := id I.loc
  refine ⟨I.ok, I.os, I.bare, ⟨fun b o e n hb hx => ?_, fun b o e n hb hx => ?_, I.base.free, fun b o e hx => ?_, I.base.tups, I.base.frzs, I.base.tbls⟩, ⟨_, hn', hl⟩, fun y c e => ?_, I.free, I.freeC, fun p hp => ?_, fun b ob e => ?_, len.trans I.len⟩
  · exact (hs.2 b (Nat.ne_of_lt (Nat.lt_of_lt_of_le (Heap.lt_size e) I.ok.above))).trans (I.base.keep b o e n hb hx)
  · obtain ⟨sl, e1⟩ := I.base.slot b o e n hb hx
    exact ⟨sl, (hs.2 b (Nat.ne_of_lt (Nat.lt_of_lt_of_le (Heap.lt_size e) I.ok.above))).trans e1⟩
  · obtain ⟨o', e1⟩ := I.base.there b o e hx
    exact ⟨o', (hs.2 b (Nat.ne_of_lt (Nat.lt_of_lt_of_le (Heap.lt_size e) I.ok.above))).trans e1⟩
  · obtain ⟨w', z⟩ := I.cell y c e
    exact ⟨w', z.sameBut hs (cne y c e)⟩
  · obtain ⟨e, n, ne, nf, d⟩ := I.pin p hp
    exact ⟨(hs.2 p.1 ne).trans e, n, ne, nf, d⟩
  · refine (I.hok b ob e).stay (fun c w' hc q => (hs.2 c ?_).trans q) (fun _ q => q) fun _ _ q => q
    rintro rfl
    rcases hc with rfl | hc
    · rw [I.free] at e; cases e
    · rw [I.free] at hc; cases hc
end
/-- what a clause's class must have -/
structure WCls (K : PySem.W.Frag) (W : Addr) : Prop where
  ty : PySem.W.typeIn K (.ref W) = some (.type "type")
  cl : PySem.W.isClsIn K W = true
  base : PySem.W.subIn K (.ref W) (.type "BaseException") = some true
def tTryAs (K : PySem.W.Frag) (W : Addr) (j : Nat) (tb : (St → XK) → TS) (ts : TS) : TS := fun D σ H => ∃ XE : St → XK, tb XE D σ H ∧
  ∀ σ' H' cls, XE σ' cls none H' → ∃ C, cls = .ref C ∧ PySem.W.subIn K (.ref C) (.ref W) = some true ∧ ∀ ex, H' ex = none →
    ts { nx := fun σ2 H2 => D.nx (σ2.set j none) H2, rt := D.rt, bk := fun σ2 H2 => D.bk (σ2.set j none) H2, ct := fun σ2 H2 => D.ct (σ2.set j none) H2 } (σ'.set j (some (.ref ex))) (upd H' ex (ExcO ex C))
end L2
namespace L2
open PySem PySem.Spec PyProof.Rows
/-! ### isinstance of an exception -/
/-- what of the text isinstance asks of an exception's class -/
structure XTy (K : PySem.W.Frag) (C : Addr) : Prop where
  ga : PySem.W.findIn K (.ref C) "__getattribute__" = some (some (.builtin "BaseException.__getattribute__"))
  gn : PySem.W.findIn K (.ref C) "__getattr__" = some none
  cl : PySem.W.findIn K (.ref C) "__class__" = some (some (.builtin "object.__class__"))
  ob : PySem.W.mroIn K C (.type "object") = some true
  be : PySem.W.mroIn K C (.type "BaseException") = some true
  ic : PySem.W.isClsIn K C = true
section
variable {prog : Program} {w : World} {A : Around} {E : Value → Shared → Prop} {K : PySem.W.Frag} {h : Heap} {g : Array GenState} {d : Drawn} {t : Nat} {os : OsState} {a C : Addr} {o : Obj}
end
section
variable {X : Cx}
/-- isinstance(x, (C, D, ..)), the tuple written there: a tuple of classes that was just made -/
def rIsiX (K : PySem.W.Frag) : List V → Hp → VK → Prop := fun xs H Q => ∃ a C, xs[0]? = some (.ref a) ∧ H a = some (ExcO a C) ∧ XTy K C ∧
  ((∃ (c : V) (cv : Value) (b : Bool), xs = [.ref a, c] ∧ (∀ u, RelV c u → u = cv) ∧ PySem.W.kitOne K (.ref C) cv = some b ∧ Q (.bl b) H) ∨
   (∃ (tp : Addr) (cs : List Addr) (b : Bool), xs = [.ref a, .ref tp] ∧ H tp = some (.tup (cs.map V.ref)) ∧ PySem.W.kitAny K (.ref C) (cs.map Value.ref) = some b ∧ Q (.bl b) H))
end
end L2
namespace L2
open PySem PySem.Spec PyProof.Rows
/-! ### list comprehensions -/
/-- what is known at the run alone -/
structure CZ where
  cl : List (Str × Addr)
  C : Addr
  s : Shared
  H : Hp
  fp : List Addr
/-- the context of a comprehension's block -/
abbrev cxComp (X : Cx) (scope : Scope) (N : List Str) (z : CZ) : Cx where
  prog := X.prog
  w := X.w
  K := X.K
  mg := X.mg
  base := X.base
  A := X.A
  N := N
  s₀ := z.s
  H₀ := z.H
  env := compEnvC scope z.cl z.C X.env
  outer := X.stack
  stack := X.stack
  ex := z.fp
  fn := fun _ => false
  calm := X.calm
  pn := []
  xe := fun _ _ => False
/-- what the scopes must be: own, the def's; the captured names -/
def compOk (own sc : Scope) (Nc : List Str) : Bool :=
  (own.kind == .function) && (own.names.all fun y => y.2 != .cell && (y.2 != .free || sc.names.lookup y.1 == some .cell || sc.names.lookup y.1 == some .free) && (y.2 != .local || own.names.lookup y.1 == some .local)) &&
  (Nc.all fun x => own.names.lookup x == some .free)
structure CompOk (own sc : Scope) (Nc : List Str) : Prop where
  kind : own.kind = .function
  nocell : ∀ y ∈ own.names, y.2 ≠ .cell
  free : ∀ y ∈ own.names, y.2 = .free → sc.names.lookup y.1 = some .cell ∨ sc.names.lookup y.1 = some .free
  loc : ∀ y ∈ own.names, y.2 = .local → own.names.lookup y.1 = some .local
  cap : ∀ x ∈ Nc, own.names.lookup x = some .free
section
variable {X : Cx}
/-- the block's names at its beginning -/
def pre (n : Nat) (fr : List Nat) (σ : St) : St := List.replicate n none ++ fr.map fun j => (σ[j]?).getD none
/-- the tests of a comprehension -/
def PIf (X : Cx) (ifs : List Expr) (t : TT) : Prop :=
  ∀ (pins : List (Addr × Obj)) (s : Shared) (σ : St) (H : Hp) (Q : Bool → Hp → Prop), Inv X pins σ H s → t σ H Q →
    wpAny (model X.prog X.w) X.A (forIn ifs true fun c r => if r = true then do let ok ← isTrue c X.env (eval c X.env); pure (ForInStep.yield ok) else pure (ForInStep.yield r)) (TP X pins σ Q) X.xe s
def tYes : TT := fun _ H Q => Q true H
end
section
variable {prog : Program} {w : World} {A : Around} {R : Result → Shared → Prop} {s : Shared}
end
section
variable {X : Cx}
/-- a comprehension's turns: D the list that grows -/
def tTurns (J : It) (g : TG) (tf : TT) (te : TE) (D : Addr) (σ : St) (H : Hp) (Q : Hp → Prop) : Prop :=
  ∃ W : Nat → Nat → St → Hp → Prop, (∃ m, W 0 m σ H) ∧ ∀ i m σ H, W i m σ H →
    (J.stop i H ∧ Q H) ∨ (J.go i H ∧ ∃ N : St → Hp → Prop, (∀ σ' H', N σ' H' → ∃ m', m' < m ∧ W (i + 1) m' σ' H') ∧ ∀ x H', J.yld i H x H' → g x σ H' fun σ2 H2 => tf σ2 H2 fun b H3 =>
      if b = true then te σ2 H3 fun y H4 => ∃ ys, H4 D = some (.lst ys) ∧ ys.length < sizeLine ∧ N σ2 (upd H4 D (.lst (ys ++ [y]))) else N σ2 H3)
def tComp (n : Nat) (fr : List Nat) (wi : TI) (g : TG) (tf : TT) (te : TE) : TE := fun σ H Q => wi σ H fun J H1 => ∀ D, H1 D = none → tTurns J g tf te D (pre n fr σ) (upd H1 D (.lst [])) fun H2 => Q (.ref D) H2
end
end L2
namespace L2
open PySem PySem.Spec PyProof.Rows
/-! ### over a text's signs -/
def Its (x : Str) : It := ⟨fun i _ => i < x.cps.size, fun i H v H' => H' = H ∧ ∃ c, x.cps[i]? = some c ∧ v = .str ⟨#[c]⟩, fun i _ => x.cps.size ≤ i⟩
section
variable {X : Cx} {tg : Expr}
def iStr (tl : TE) : TI := fun σ H R => tl σ H fun x H1 => ∃ y, x = .str y ∧ R (Its y) H1
end
/-! ### the forms of a comprehension that one uses: n items, the i-th makes the i-th value -/
/-- all that was tracked is as it was, but for lists -/
def SameB (H H' : Hp) : Prop := ∀ b o, H b = some o → (∀ zs, o ≠ .lst zs) → H' b = some o
theorem Same.b {H H' : Hp} (e : Same H H') : SameB H H' := fun b o q _ => e b o q
section
variable {X : Cx}
/-! ### all(..), any(..) of a list of bools -/
/-! ### texts -/
end
end L2
namespace L2
open PySem PySem.Spec PyProof.Rows
/-! ### the same rules, with what they ask of the text said by its form alone -/
def noStar : Expr → Bool
  | .Starred .. => false
  | _ => true
def noStars : List Expr → Bool
  | [] => true
  | e :: es => noStar e && noStars es
theorem star_of {e : Expr} {es : List Expr} {env : Env} (h : noStar e = true) : starEach (e :: es) env = (false, eval e env) :: starEach es env := by
  cases e <;> first | rfl | cases h
theorem stars_of {env : Env} : ∀ {es : List Expr}, noStars es = true → ∀ pos, (backTo pos (starEach es env)).any (·.1) = false
  | [], _, _ => rfl
  | e :: es, h, pos => by
    unfold noStars at h
    rw [Bool.and_eq_true] at h
    rw [star_of h.1]
    show (false || (backTo pos (starEach es env)).any (·.1)) = false
    rw [stars_of h.2 pos]
    rfl
section
variable {X : Cx} {CX : CXT} {k : Nat} {f : Addr} {fd : FuncData} {ps : List Str} {sp : Sp} {dvs : List V} {ds : List Value} {E : XK} {x : Str} {p pos apos : Pos} {e o : Expr} {es : List Expr} {te to : TE} {t : TA} {id T : String} {r : List V → Hp → VK → Prop}
theorem pa_c (ha : PE X e te) (hr : PA X es t) (h : noStar e = true := by rfl) : PA X (e :: es) (tCons te t) := pa_cons ha hr (star_of h)
theorem pa_i {i : Int} {j : Nat} (hr : PA X es t) : PA X (.Constant (.int i) j pos :: es) (tCons (tC (.int i)) t) := pa_cons pe_int hr (star_of rfl)
theorem pa_s {i : Str} {j : Nat} (hr : PA X es t) : PA X (.Constant (.str i) j pos :: es) (tCons (tC (.str i)) t) := pa_cons pe_str hr (star_of rfl)
theorem pe_f (F : FnOk X.prog X.w X.K X.mg X.base CX k f fd ps sp) (hr : Room k X.A) (hg : Gl X x) (hm : X.mg x = some (.ref f)) (hk : PySem.W.keepIn X.K (.ref f) = true) (hb : Binds X.K fd ps ds) (hd : Vals dvs ds) (hx : Passes CX X E)
    (ha : PA X (e :: es) t) (hst : noStars (e :: es) = true := by rfl) (hdb : (x == ("__debug__" : Str)) = false := by decide) : PE X (.Call (.Name x p) (e :: es) [] pos) (tCall sp dvs E t) := by
  have h := hst
  unfold noStars at h
  rw [Bool.and_eq_true] at h
  exact pe_call F hr hg hm hk hb hd hx ha hdb (star_of h.1) (stars_of h.2 pos)
theorem pe_b (hc : CallR X (.builtin id) r) (hg : Gl X x) (hm : X.mg x = none) (hv : bootBuiltins x = some (.builtin id)) (ha : PA X (e :: es) t) (hst : noStars (e :: es) = true := by rfl) (hn : x ≠ "__name__" := by decide) (hdb : (x == ("__debug__" : Str)) = false := by decide) :
    PE X (.Call (.Name x p) (e :: es) [] pos) (tCB r t) := by
  have h := hst
  unfold noStars at h
  rw [Bool.and_eq_true] at h
  exact pe_callB hc hg hm hv ha hn hdb (star_of h.1) (stars_of h.2 pos)
theorem pe_bt (hc : CallR X (.type T) r) (hg : Gl X x) (hm : X.mg x = none) (hv : bootBuiltins x = some (.type T)) (ha : PA X (e :: es) t) (hst : noStars (e :: es) = true := by rfl) (hn : x ≠ "__name__" := by decide) (hdb : (x == ("__debug__" : Str)) = false := by decide) :
    PE X (.Call (.Name x p) (e :: es) [] pos) (tCB r t) := by
  have h := hst
  unfold noStars at h
  rw [Bool.and_eq_true] at h
  exact pe_callTy hc hg hm hv ha hn hdb (star_of h.1) (stars_of h.2 pos)
end
end L2
namespace L2
open PySem PySem.Spec PyProof.Rows
/-! ### the rules once more, each judgement a structure: so no elaborator looks into it -/
structure QE (X : Cx) (e : Expr) (t : TE) : Prop where
  get : PE X e t
structure QT (X : Cx) (e : Expr) (t : TT) : Prop where
  get : PT X e t
structure QW (X : Cx) (e : Expr) (t : TT) : Prop where
  get : PW X e t
structure QA (X : Cx) (es : List Expr) (t : TA) : Prop where
  get : PA X es t
structure QS (X : Cx) (st : Stmt) (t : TS) : Prop where
  get : PS X st t
structure QSs (X : Cx) (st : List Stmt) (t : TS) : Prop where
  get : PSs X st t
structure QG (X : Cx) (e : Expr) (t : TG) : Prop where
  get : PG X e t
structure QGs (X : Cx) (es : List Expr) (t : TGs) : Prop where
  get : PGs X es t
structure QI (X : Cx) (tg iter : Expr) (wi : TI) : Prop where
  get : PI X tg iter wi
structure QIf (X : Cx) (ifs : List Expr) (t : TT) : Prop where
  get : PIf X ifs t
structure QO (X : Cx) (e : Option Expr) (t : TO) : Prop where
  get : PO X e t
theorem qpa_c {X : Cx} {e : Expr} {es : List Expr} {te : TE} {t : TA} (ha : QE X e te) (hr : QA X es t) (h : noStar e = true := by rfl) : QA X (e :: es) (tCons te t) := ⟨L2.pa_c (ha := ha.get) (hr := hr.get) (h := h)⟩
theorem qpa_i {X : Cx} {pos : Pos} {es : List Expr} {t : TA} {i : Int} {j : Nat} (hr : QA X es t) : QA X (Expr.Constant (Const.int i) j pos :: es) (tCons (tC (V.int i)) t) := ⟨L2.pa_i (hr := hr.get)⟩
theorem qpa_nil {X : Cx} : QA X [] tNil := ⟨L2.pa_nil ⟩
theorem qpa_s {X : Cx} {pos : Pos} {es : List Expr} {t : TA} {i : Str} {j : Nat} (hr : QA X es t) : QA X (Expr.Constant (Const.str i) j pos :: es) (tCons (tC (V.str i)) t) := ⟨L2.pa_s (hr := hr.get)⟩
theorem qpe_and {X : Cx} {a b : Expr} {ta tb : TE} {pos : Pos} {rest : List Expr} (ha : QE X a ta) (hb : QE X (Expr.BoolOp BoolOp.And (b :: rest) pos) tb) : QE X (Expr.BoolOp BoolOp.And (a :: b :: rest) pos) (tAndV ta tb) := ⟨L2.pe_and (ha := ha.get) (hb := hb.get)⟩
theorem qpe_b {X : Cx} {x : Str} {p pos : Pos} {e : Expr} {es : List Expr} {t : TA} {id : String} {r : List V → Hp → VK → Prop} (hc : CallR X (Value.builtin id) r) (hg : Gl X x) (hm : Cx.mg X x = none) (hv : bootBuiltins x = some (Value.builtin id)) (ha : QA X (e :: es) t) (hst : noStars (e :: es) = true := by rfl) (hn : x ≠ Str.ofString "__name__" := by decide) (hdb : (x == Str.ofString "__debug__") = false := by decide) : QE X (Expr.Call (Expr.Name x p) (e :: es) [] pos) (tCB r t) := ⟨L2.pe_b (hc := hc) (hg := hg) (hm := hm) (hv := hv) (ha := ha.get) (hst := hst) (hn := hn) (hdb := hdb)⟩
theorem qpe_bl {X : Cx} {b : Bool} {j : Nat} {pos : Pos} : QE X (Expr.Constant (Const.bool b) j pos) (tC (V.bl b)) := ⟨L2.pe_bl ⟩
theorem qpe_bltn {X : Cx} {x : Str} {v : V} {u : Value} {pos : Pos} (hg : Gl X x) (hm : Cx.mg X x = none) (hv : bootBuiltins x = some u) (r : L2.RelV v u) (hn : x ≠ Str.ofString "__name__" := by decide) (hd : (x == Str.ofString "__debug__") = false := by decide) : QE X (Expr.Name x pos) (tC v) := ⟨L2.pe_bltn (hg := hg) (hm := hm) (hv := hv) (r := r) (hn := hn) (hd := hd)⟩
theorem qpe_bt {X : Cx} {x : Str} {p pos : Pos} {e : Expr} {es : List Expr} {t : TA} {T : String} {r : List V → Hp → VK → Prop} (hc : CallR X (Value.type T) r) (hg : Gl X x) (hm : Cx.mg X x = none) (hv : bootBuiltins x = some (Value.type T)) (ha : QA X (e :: es) t) (hst : noStars (e :: es) = true := by rfl) (hn : x ≠ Str.ofString "__name__" := by decide) (hdb : (x == Str.ofString "__debug__") = false := by decide) : QE X (Expr.Call (Expr.Name x p) (e :: es) [] pos) (tCB r t) := ⟨L2.pe_bt (hc := hc) (hg := hg) (hm := hm) (hv := hv) (ha := ha.get) (hst := hst) (hn := hn) (hdb := hdb)⟩
theorem qpe_cmpR {X : Cx} {a b : Expr} {ta tb : TE} {pos : Pos} {op : CmpOp} {r : R2} (ho : OpR X (compareOp op) r) (ha : QE X a ta) (hb : QE X b tb) (hm : behindInMarks op b = false) : QE X (Expr.Compare a [op] [b] pos) (tOp r ta tb) := ⟨L2.pe_cmpR (ho := ho) (ha := ha.get) (hb := hb.get) (hm := hm)⟩
theorem qpe_f {X : Cx} {CX : CXT} {k : Nat} {f : Addr} {fd : FuncData} {ps : List Str} {sp : Sp} {dvs : List V} {ds : List Value} {E : XK} {x : Str} {p pos : Pos} {e : Expr} {es : List Expr} {t : TA} (F : FnOk (Cx.prog X) (Cx.w X) (Cx.K X) (Cx.mg X) (Cx.base X) CX k f fd ps sp) (hr : Room k (Cx.A X)) (hg : Gl X x) (hm : Cx.mg X x = some (Value.ref f)) (hk : W.keepIn (Cx.K X) (Value.ref f) = true) (hb : L2.Binds (Cx.K X) fd ps ds) (hd : Vals dvs ds) (hx : Passes CX X E) (ha : QA X (e :: es) t) (hst : noStars (e :: es) = true := by rfl) (hdb : (x == Str.ofString "__debug__") = false := by decide) : QE X (Expr.Call (Expr.Name x p) (e :: es) [] pos) (tCall sp dvs E t) := ⟨L2.pe_f (F := F) (hr := hr) (hg := hg) (hm := hm) (hk := hk) (hb := hb) (hd := hd) (hx := hx) (ha := ha.get) (hst := hst) (hdb := hdb)⟩
theorem qpe_glob {X : Cx} {x : Str} {v : V} {u : Value} {pos : Pos} (hg : Gl X x) (hm : Cx.mg X x = some u) (r : L2.RelV v u) (hd : (x == Str.ofString "__debug__") = false := by decide) : QE X (Expr.Name x pos) (tC v) := ⟨L2.pe_glob (hg := hg) (hm := hm) (r := r) (hd := hd)⟩
theorem qpe_int {X : Cx} {i : Int} {j : Nat} {pos : Pos} : QE X (Expr.Constant (Const.int i) j pos) (tC (V.int i)) := ⟨L2.pe_int ⟩
theorem qpe_ix {X : Cx} {a b : Expr} {ta tb : TE} {pos : Pos} {r : R2} (hr : IxR X r) (ha : QE X a ta) (hb : QE X b tb) (hs : PlainIx b) : QE X (Expr.Subscript a b pos) (tOp r ta tb) := ⟨L2.pe_ix (hr := hr) (ha := ha.get) (hb := hb.get) (hs := hs)⟩
theorem qpe_lst {X : Cx} {es : List Expr} {t : TA} {pos : Pos} (h : QA X es t) : QE X (Expr.List es pos) (tLst t) := ⟨L2.pe_lst (h := h.get)⟩
theorem qpe_makeP {X : Cx} {C : Addr} {x : Str} {p pos : Pos} (M : MkP (Cx.K X) C) (hg : Gl X x) (hm : Cx.mg X x = some (Value.ref C)) (hdb : (x == Str.ofString "__debug__") = false := by decide) : QE X (Expr.Call (Expr.Name x p) [] [] pos) (tMakeP C) := ⟨L2.pe_makeP (M := M) (hg := hg) (hm := hm) (hdb := hdb)⟩
theorem qpe_methD {X : Cx} {m : Str} {pos apos : Pos} {e o : Expr} {es : List Expr} {ta : TE} {t : TA} {k : Nat} {pl : Sem Bool} (hr : Room k (Cx.A X)) (he : QE X o ta) (ha : QA X (e :: es) t) (hst : starEach (e :: es) (Cx.env X) = (false, eval e (Cx.env X)) :: starEach es (Cx.env X) := by rfl) (hpl : (List.any (backTo pos (starEach es (Cx.env X))) fun (x : Bool × Sem Value) => Prod.fst x) = false := by rfl) (ht :
    eval (Expr.Call (Expr.Attribute o m apos) (e :: es) [] pos) (Cx.env X) = (do
      let ov ← eval o (Cx.env X)
      standAt (Pos.atName apos)
      let __x ← holding [ov] (getMethod ov m pl)
      match __x with
        | (f, first) =>
          callWith pos f first (backTo pos (starEach (e :: es) (Cx.env X)))
            (backToKw pos (keywordEach [] (Cx.env X)))) := by
    rfl) : QE X (Expr.Call (Expr.Attribute o m apos) (e :: es) [] pos) (tMethD X k m ta t) := ⟨L2.pe_methD (hr := hr) (he := he.get) (ha := ha.get) (hst := hst) (hpl := hpl) (ht := ht)⟩
theorem qpe_methD0 {X : Cx} {m : Str} {pos apos : Pos} {o : Expr} {ta : TE} {k : Nat} {pl : Sem Bool} (hr : Room k (Cx.A X)) (he : QE X o ta) (ht :
    eval (Expr.Call (Expr.Attribute o m apos) [] [] pos) (Cx.env X) = (do
      let ov ← eval o (Cx.env X)
      standAt (Pos.atName apos)
      let __x ← holding [ov] (getMethod ov m pl)
      match __x with
        | (f, first) =>
          callWith pos f first (backTo pos (starEach [] (Cx.env X))) (backToKw pos (keywordEach [] (Cx.env X)))) := by
    rfl) : QE X (Expr.Call (Expr.Attribute o m apos) [] [] pos) (tMethD X k m ta tNil) := ⟨L2.pe_methD0 (hr := hr) (he := he.get) (ht := ht)⟩
theorem qpe_not {X : Cx} {a : Expr} {ta : TE} {pos : Pos} (ha : QE X a ta) : QE X (Expr.UnaryOp UnaryOp.Not a pos) (tNotV ta) := ⟨L2.pe_not (ha := ha.get)⟩
theorem qpe_one {X : Cx} {a : Expr} {pos : Pos} {op : BoolOp} {t : TE} (h : QE X a t) : QE X (Expr.BoolOp op [a] pos) t := ⟨L2.pe_one (h := h.get)⟩
theorem qpe_op {X : Cx} {a b : Expr} {ta tb : TE} {pos : Pos} {op : Operator} {r : R2} (ho : OpR X (binaryOp op) r) (ha : QE X a ta) (hb : QE X b tb) : QE X (Expr.BinOp a op b pos) (tOp r ta tb) := ⟨L2.pe_op (ho := ho) (ha := ha.get) (hb := hb.get)⟩
theorem qpe_or {X : Cx} {a b : Expr} {ta tb : TE} {pos : Pos} {rest : List Expr} (ha : QE X a ta) (hb : QE X (Expr.BoolOp BoolOp.Or (b :: rest) pos) tb) : QE X (Expr.BoolOp BoolOp.Or (a :: b :: rest) pos) (tOrV ta tb) := ⟨L2.pe_or (ha := ha.get) (hb := hb.get)⟩
theorem qpe_str {X : Cx} {x : Str} {j : Nat} {pos : Pos} : QE X (Expr.Constant (Const.str x) j pos) (tC (V.str x)) := ⟨L2.pe_str ⟩
theorem qpe_tup {X : Cx} {es : List Expr} {t : TA} {pos : Pos} {x1 : Nat} (h : QA X es t) : QE X (Expr.Tuple es x1 pos) (tTup t) := ⟨L2.pe_tup (h := h.get)⟩
theorem qpe_un {X : Cx} {a : Expr} {ta : TE} {pos : Pos} {op : UnaryOp} {r : V → Hp → VK → Prop} (ho : UnR X (unaryOp op) r) (ha : QE X a ta) : QE X (Expr.UnaryOp op a pos) (tUn r ta) := ⟨L2.pe_un (ho := ho) (ha := ha.get)⟩
theorem qpg_name {X : Cx} {pos : Pos} {i : Nat} {x : Str} (hN : List.Nodup (Cx.N X)) (hi : (Cx.N X)[i]? = some x) (hx : L2.Loc (Env.scope (Cx.env X)) x) (hf : Cx.fn X x = true ∨ List.lookup x (Scope.names (Env.scope (Cx.env X))) = some NameKind.local := by
    first
    | exact .inl rfl
    | exact .inr rfl
    | assumption) : QG X (Expr.Name x pos) (gName i) := ⟨L2.pg_name (hN := hN) (hi := hi) (hx := hx) (hf := hf)⟩
theorem qpg_tup {X : Cx} {pos : Pos} {es : List Expr} {k : Nat} {t : TGs} {n : Nat} (hc : Cx.calm X = true) (h : QGs X es t) (hn : List.length (assignEach es (Cx.env X)) = n := by rfl) (hst : List.findIdx? (fun (x : Bool × (Value → Sem Unit)) => Prod.fst x) (assignEach es (Cx.env X)) = none := by
    rfl) : QG X (Expr.Tuple es k pos) (gTup (Cx.K X) n t) := ⟨L2.pg_tup (hc := hc) (h := h.get) (hn := hn) (hst := hst)⟩
theorem qpgs_cons {X : Cx} {e : Expr} {es : List Expr} {t : TG} {u : TGs} (h1 : QG X e t) (h2 : QGs X es u) (hs :
    List.map (fun (x : Bool × (Value → Sem Unit)) => Prod.snd x) (assignEach (e :: es) (Cx.env X)) =
      assign e (Cx.env X) ::
        List.map (fun (x : Bool × (Value → Sem Unit)) => Prod.snd x) (assignEach es (Cx.env X)) := by
    rfl) : QGs X (e :: es) (gCons t u) := ⟨L2.pgs_cons (h1 := h1.get) (h2 := h2.get) (hs := hs)⟩
theorem qpgs_nil {X : Cx} : QGs X [] gNil := ⟨L2.pgs_nil ⟩
theorem qpi_enum {X : Cx} {a : Expr} {ta : TA} {p pos : Pos} {elts : List Expr} {x1 : Nat} {tpos : Pos} (hg : Gl X (Str.ofString "enumerate")) (hm : Cx.mg X (Str.ofString "enumerate") = none) (ha : QA X [a] ta) (hs : starEach [a] (Cx.env X) = [(false, eval a (Cx.env X))] := by rfl) : QI X (Expr.Tuple elts x1 tpos) (Expr.Call (Expr.Name (Str.ofString "enumerate") p) [a] [] pos) (iEnum (Cx.K X) ta) := ⟨L2.pi_enum (hg := hg) (hm := hm) (ha := ha.get) (hs := hs)⟩
theorem qps_cut {X : Cx} {st : Stmt} {t : TS} (h : QS X st t) : QS X st (tCut t) := ⟨L2.ps_cut (h := h.get)⟩
theorem qps_for {X : Cx} {tg iter : Expr} {body : List Stmt} {wi : TI} {g : TG} {tb : TS} {pos : Pos} (hp : PassesOwn (model (Cx.prog X) (Cx.w X)) (Cx.A X) (Cx.env X) (Cx.xe X)) (hc : Cx.calm X = true) (hi : QI X tg iter wi) (hg : QG X tg g) (hb : QSs X body tb) (hs : ∀ (x : Value), foldedSetIterable iter (Cx.env X) x = pure x := by intro _; rfl) : QS X (Stmt.For tg iter body [] pos) (tFor wi g tb) := ⟨L2.ps_for (hp := hp) (hc := hc) (hi := hi.get) (hg := hg.get) (hb := hb.get) (hs := hs)⟩
theorem qps_if {X : Cx} {t u : TS} {pos : Pos} {c : Expr} {a b : List Stmt} {tc : TT} (hc : QT X c tc) (ha : QSs X a t) (hb : QSs X b u) : QS X (Stmt.If c a b pos) (tIfS tc t u) := ⟨L2.ps_if (hc := hc.get) (ha := ha.get) (hb := hb.get)⟩
theorem qps_never {X : Cx} {st : Stmt} : QS X st tNever := ⟨L2.ps_never ⟩
theorem qps_par {X : Cx} {pos : Pos} {i j : Nat} {x y : Str} {a b : Expr} {ta : TA} {px py pt : Pos} {kt k2 : Nat} {pt2 : Pos} (hc : Cx.calm X = true) (hN : List.Nodup (Cx.N X)) (hi : (Cx.N X)[i]? = some x) (hj : (Cx.N X)[j]? = some y) (hij : i ≠ j) (hx : List.lookup x (Scope.names (Env.scope (Cx.env X))) = some NameKind.local) (hy : List.lookup y (Scope.names (Env.scope (Cx.env X))) = some NameKind.local) (ha : QA X [a, b] ta) (hw :
    swappedStores [Expr.Tuple [Expr.Name x px, Expr.Name y py] kt pt] (Expr.Tuple [a, b] k2 pt2) (Cx.env X) =
      pure (some [x, y])) (hs :
    swapsWithSole [Expr.Tuple [Expr.Name x px, Expr.Name y py] kt pt] (Expr.Tuple [a, b] k2 pt2) (Pos.line pos)
        (Cx.env X) =
      pure false := by
    rfl) : QS X (Stmt.Assign [Expr.Tuple [Expr.Name x px, Expr.Name y py] kt pt] (Expr.Tuple [a, b] k2 pt2) pos) (tPar i j ta) := ⟨L2.ps_par (hc := hc) (hN := hN) (hi := hi) (hj := hj) (hij := hij) (hx := hx) (hy := hy) (ha := ha.get) (hw := hw) (hs := hs)⟩
theorem qps_ret {X : Cx} {e : Expr} {te : TE} {pos : Pos} (he : QE X e te) : QS X (Stmt.Return (some e) pos) (tRet te) := ⟨L2.ps_ret (he := he.get)⟩
theorem qps_set {X : Cx} {pos : Pos} {i : Nat} {x : Str} {e : Expr} {te : TE} {pos' : Pos} (hN : List.Nodup (Cx.N X)) (hi : (Cx.N X)[i]? = some x) (hx : L2.Loc (Env.scope (Cx.env X)) x) (he : QE X e te) (hs : swapsWith e (some (Expr.Name x pos')) (Pos.line pos) (Cx.env X) = pure false := by rfl) (hf : Cx.fn X x = true ∨ List.lookup x (Scope.names (Env.scope (Cx.env X))) = some NameKind.local := by
    first
    | exact .inl rfl
    | exact .inr rfl
    | assumption) : QS X (Stmt.Assign [Expr.Name x pos'] e pos) (tAsg te (gName i)) := ⟨L2.ps_set (hN := hN) (hi := hi) (hx := hx) (he := he.get) (hs := hs) (hf := hf)⟩
theorem qps_while {X : Cx} {pos : Pos} {c : Expr} {body : List Stmt} {tc : TT} {tb : TS} (hp : PassesOwn (model (Cx.prog X) (Cx.w X)) (Cx.A X) (Cx.env X) (Cx.xe X)) (hc : QT X c tc) (hb : QSs X body tb) : QS X (Stmt.While c body [] pos) (tWhile tc tb) := ⟨L2.ps_while (hp := hp) (hc := hc.get) (hb := hb.get)⟩
theorem qpss_cons {X : Cx} {st : Stmt} {rest : List Stmt} {t u : TS} (h1 : QS X st t) (h2 : QSs X rest u) : QSs X (st :: rest) (tSeq t u) := ⟨L2.pss_cons (h1 := h1.get) (h2 := h2.get)⟩
theorem qpss_nil {X : Cx} : QSs X [] tNext := ⟨L2.pss_nil ⟩
theorem qpss_one {X : Cx} {st : Stmt} {t : TS} (h1 : QS X st t) : QSs X [st] t := ⟨L2.pss_one (h1 := h1.get)⟩
theorem qpt_cmpR {X : Cx} {a b : Expr} {ta tb : TE} {pos : Pos} {op : CmpOp} {r : R2} (ho : OpR X (compareOp op) r) (ha : QE X a ta) (hb : QE X b tb) (hm : behindInMarks op b = false) : QT X (Expr.Compare a [op] [b] pos) (tTest (tOp r ta tb)) := ⟨L2.pt_cmpR (ho := ho) (ha := ha.get) (hb := hb.get) (hm := hm)⟩
theorem qpt_not {X : Cx} {a : Expr} {pos : Pos} {tA : TT} (ha : QT X a tA) : QT X (Expr.UnaryOp UnaryOp.Not a pos) (tNot tA) := ⟨L2.pt_not (ha := ha.get)⟩
theorem qpt_val {X : Cx} {e : Expr} {t : TE} (h : QE X e t) (he :
    ∀ (whole : Sem Value),
      PySem.isTrue e (Cx.env X) whole = (do
        let v ← whole
        standAt (Expr.pos e)
        holding [v] (truthy v)) := by
    intro _; rfl) : QT X e (tB t) := ⟨L2.pt_val (h := h.get) (he := he)⟩
theorem qpv {X : Cx} (i : Nat) {x : Str} {pos : Pos} (hN : (Cx.N X)[i]? = some x := by rfl) (hv : Vis (Env.scope (Cx.env X)) x := by
    first
    | exact Or.inl rfl
    | exact Or.inr (Or.inl rfl)
    | exact Or.inr (Or.inr rfl)) (hd : (x == Str.ofString "__debug__") = false := by decide) (hcd : (x == Str.ofString "__classdict__") = false := by decide) : QE X (Expr.Name x pos) (tVar i) := ⟨L2.pv (i := i) (hN := hN) (hv := hv) (hd := hd) (hcd := hcd)⟩
theorem qpw_or {X : Cx} {a b : Expr} {pos : Pos} {tA tB' : TT} {rest : List Expr} (ha : QT X a tA) (hb : QW X (Expr.BoolOp BoolOp.Or (b :: rest) pos) tB') : QW X (Expr.BoolOp BoolOp.Or (a :: b :: rest) pos) (tOr tA tB') := ⟨L2.pw_or (ha := ha.get) (hb := hb.get)⟩
theorem qpw_or1 {X : Cx} {a : Expr} {pos : Pos} {tA : TT} (ha : QT X a tA) : QW X (Expr.BoolOp BoolOp.Or [a] pos) tA := ⟨L2.pw_or1 (ha := ha.get)⟩
theorem qPWpt {X : Cx} {e : Expr} {t : TT} (h : QW X e t) : QT X e t := ⟨L2.PW.pt (h := h.get)⟩
end L2
namespace L2
open PySem PySem.Spec PyProof.Rows
section
variable {P : Program} {w : World} {K : PySem.W.Frag} {mg : Str → Option Value} {base : Heap}
/-- a def that raises nothing -/
theorem Fun.okQ {x qual : Str} {st : Stmt} {f : Addr} {fd : FuncData} {N ps : List Str} {k : Nat} {sp : Sp} (F : Fun K x qual st f fd) (S : FnScope N ps (defScope st)) (len : ∀ vs H Q E, sp vs H Q E → vs.length = ps.length)
    (hbody : ∀ (cdv : Value) (A : Around) (outer : List Env) (s : Shared) (H : Hp) (vs : List V) (Q : VK) (E : XK), Room k (A.deeper (envOfC qual (defScope st) s.heap.objs.size f cdv)) → sp vs H Q E →
      ∃ t, QSs (cxOf CX0 P w K mg base N qual (defScope st) f cdv A outer s H E).nox (defBody st) t ∧ t { nx := fun _ H' => Q .non H', rt := Q } (start N vs) H) : FnOk P w K mg base CX0 (k + 1) f fd ps sp :=
  F.ok S len fun cdv A outer s H vs Q E hr hsp => let ⟨t, h, q⟩ := hbody cdv A outer s H vs Q E hr hsp; ⟨t, h.get, q⟩
end
end L2
namespace L2
open PySem PySem.Spec PyProof.Rows
/-! ### comprehensions over lists, tuples, ranges, texts, enumerate -/
section
variable {K : PySem.W.Frag} {g : TG} {te : TE} {D : Addr} {σ : St} {H0 : Hp} {Q : Hp → Prop}
end
end L2
namespace L2
open PySem PySem.Spec PyProof.Rows
/-! ### exceptions, by the quick rules -/
section
variable {X : Cx} {k : Nat} {f C : Addr} {fd : FuncData} {ps : List Str} {sp : Sp} {XE : St → XK} {x m : Str} {p pos apos np cpos : Pos} {e o : Expr} {es : List Expr} {ta : TE} {t : TA}
end
section
variable {P : Program} {w : World} {K : PySem.W.Frag} {mg : Str → Option Value} {base : Heap} {N : List Str} {qual : Str} {scope : Scope} {f C : Addr} {cdv : Value} {A : Around} {outer : List Env} {s : Shared} {H : Hp} {E : XK}
  {x : Str} {np cpos pos : Pos} {e₀ : Expr} {rest : List Expr} {t : TA}
end
/-! ### texts once more -/
section
variable {X : Cx}
end
end L2
namespace L2
open PySem PySem.Spec PyProof.Rows
/-! ### == and != of lists and tuples, however deep -/
inductive EqL (R : V → V → Bool → Prop) : List V → List V → Bool → Prop
  | nil : EqL R [] [] true
  | left (y : V) (ys : List V) : EqL R [] (y :: ys) false
  | right (x : V) (xs : List V) : EqL R (x :: xs) [] false
  | cons {x y : V} {xs ys : List V} {b c : Bool} : R x y b → EqL R xs ys c → EqL R (x :: xs) (y :: ys) (b && c)
def EqN (K : PySem.W.Frag) (H : Hp) : Nat → V → V → Bool → Prop
  | 0, x, y, b => (flatV x = true ∧ flatV y = true ∧ b = eqV x y) ∨ ∃ a, x = .ref a ∧ y = .ref a ∧ b = true
  | n + 1, x, y, b => EqN K H n x y b ∨ ∃ a c xs ys, x = .ref a ∧ y = .ref c ∧ ((SqT K H a xs ∧ SqT K H c ys) ∨ (SqL K H a xs ∧ SqL K H c ys)) ∧ EqL (EqN K H n) xs ys b
section
variable {X : Cx} {pins : List (Addr × Obj)} {σ : St} {H : Hp} {s : Shared}
def rEqD (K : PySem.W.Frag) (neg : Bool) : R2 := fun x y H Q => ∃ n a c xs ys b, n ≤ 50 ∧ x = .ref a ∧ y = .ref c ∧ ((SqT K H a xs ∧ SqT K H c ys) ∨ (SqL K H a xs ∧ SqL K H c ys)) ∧ EqL (EqN K H n) xs ys b ∧ Q (.bl (if neg then !b else b)) H
end
section
variable {X : Cx}
end
/-- a list of flat things and of things that are the same -/
theorem EqL.refl {K : PySem.W.Frag} {H : Hp} {xs : List V} (h : ∀ x ∈ xs, flatV x = true ∨ ∃ a, x = .ref a) : EqL (EqN K H 0) xs xs true := by
  induction xs with
  | nil => exact .nil
  | cons x r ih =>
    have h1 : EqN K H 0 x x true := by
      rcases h x List.mem_cons_self with f | ⟨a, rfl⟩
      · exact .inl ⟨f, f, (eqV_tail f).symm⟩
      · exact .inr ⟨a, rfl, rfl, rfl⟩
    exact .cons h1 (ih fun y hy => h y (List.mem_cons_of_mem _ hy))
/-! ### C(..) whose __init__ may raise -/
section
variable {X : Cx} {k : Nat} {f C : Addr} {fd : FuncData} {ps : List Str} {sp : Sp} {dvs : List V} {ds : List Value} {XE : St → XK} {x : Str} {p pos : Pos} {e : Expr} {es : List Expr} {t : TA}
def tMakeX (C : Addr) (sp : Sp) (dvs : List V) (XE : St → XK) (t : TA) : TE := fun σ H Q => t σ H fun vs H1 => ∀ x dx, H1 x = none → H1 dx = none → dx ≠ x →
  sp (.ref x :: (vs ++ dvs)) (upd (upd H1 dx (.own x)) x (.ins C dx [])) (fun v H2 => v = .non ∧ Q (.ref x) H2) (XE σ)
end
end L2
namespace L2
open PySem PySem.Spec PyProof.Rows
section
variable {X : Cx} {a b c d : Expr} {ta tb tc td : TE} {pos : Pos}
/-- a op1 b op2 c op3 d -/
def tChain3 (r r' r2 : R2) (ta tb tc td : TE) : TE := fun σ H Q => ta σ H fun x H1 => tb σ H1 fun y H2 => r x y H2 fun z H3 => ∃ k, z = .bl k ∧
  (if k = true then tc σ H3 fun w' H4 => r' y w' H4 fun z' H5 => ∃ k', z' = .bl k' ∧ (if k' = true then td σ H5 fun w2 H6 => r2 w' w2 H6 Q else Q (.bl false) H5) else Q (.bl false) H3)
end
end L2
namespace L2
open PySem PySem.Spec PyProof.Rows
/-! ### texts by their signs -/
end L2
namespace L2
open PySem PySem.Spec PyProof.Rows
section
variable {X : Cx}
/-! ### where the context hangs on what the block does not know (a comprehension, an except suite), the text's part is named -/
section
variable {K : PySem.W.Frag}
theorem kc_isi (hK : X.K = K) : CallR X (.builtin "isinstance") (rIsi K) := by subst hK; exact call_isi
theorem kc_len (hK : X.K = K) : CallR X (.builtin "len") (fun xs H Q => ∃ p ys, xs = [.ref p] ∧ (SqL K H p ys ∨ SqT K H p ys) ∧ Q (.int ys.length) H) := by subst hK; exact call_len_seq
theorem ki_list (hK : X.K = K) : IxR X (rIxL K) := by subst hK; exact ix_list
theorem ki_tup (hK : X.K = K) : IxR X (rIxT K) := by subst hK; exact ix_tup
theorem ko_catL (hK : X.K = K) : OpR X (binaryOp .Add) (rCatL K) := by subst hK; exact op_catL
end
end
end L2
namespace L2
open PySem PySem.Spec PyProof.Rows
theorem qk_gtup {K : PySem.W.Frag} {X : Cx} {pos : Pos} {es : List Expr} {k : Nat} {t : TGs} {n : Nat} (hK : X.K = K) (hc : Cx.calm X = true) (h : QGs X es t) (hn : List.length (assignEach es (Cx.env X)) = n := by rfl) (hst : List.findIdx? (fun (x : Bool × (Value → Sem Unit)) => Prod.fst x) (assignEach es (Cx.env X)) = none := by
    rfl) : QG X (Expr.Tuple es k pos) (gTup (K) n t) := by
  subst hK
  exact qpg_tup (hc := hc) (h := h) (hn := hn) (hst := hst)
/-! ### try: .. except C: .. except D: .. -/
def tTry2 (K : PySem.W.Frag) (W1 W2 : Addr) (tb : (St → XK) → TS) (ts1 ts2 : TS) : TS := fun D σ H => ∃ XE : St → XK, tb XE D σ H ∧
  ∀ σ' H' cls, XE σ' cls none H' → ∃ C, cls = .ref C ∧ ((PySem.W.subIn K (.ref C) (.ref W1) = some true ∧ ts1 D σ' H') ∨ (PySem.W.subIn K (.ref C) (.ref W1) = some false ∧ PySem.W.subIn K (.ref C) (.ref W2) = some true ∧ ts2 D σ' H'))
end L2
namespace MA
theorem gcd_fmod (a b : Int) : Int.gcd b (a.fmod b) = Int.gcd a b := by
  rw [Int.fmod_def, Int.gcd_sub_mul_left_right, Int.gcd_comm]
theorem fmod_lt (a b : Int) (h : b ≠ 0) : (a.fmod b).natAbs < b.natAbs := by
  rcases Int.lt_or_gt_of_ne h with hn | hp
  · have h1 : (-a).fmod (-b) = -(a.fmod b) := by rw [Int.neg_fmod_neg]
    have h2 := Int.fmod_lt_of_pos (-a) (show 0 < -b by omega)
    have h3 := Int.fmod_nonneg_of_pos (-a) (show 0 < -b by omega)
    omega
  · have h2 := Int.fmod_lt_of_pos a hp
    have h3 := Int.fmod_nonneg_of_pos a hp
    omega
/-- in lowest terms, the bottom above nought -/
structure Low (p q : Int) : Prop where
  pos : 0 < q
  cop : Int.gcd p q = 1
theorem gcd_pos {a b : Int} (h : b ≠ 0) : (0 : Int) < (Int.gcd a b : Int) := by
  have : Int.gcd a b ≠ 0 := fun z => h (Int.gcd_eq_zero_iff.mp z).2
  omega
/-- divided by plus or minus the greatest divisor -/
theorem low_of {a b d : Int} (hb : b ≠ 0) (hd : d = (Int.gcd a b : Int) ∨ d = -(Int.gcd a b : Int)) (hs : 0 < b * d) :
    Low (a.fdiv d) (b.fdiv d) ∧ a.fdiv d * b = a * b.fdiv d ∧ (a.fdiv d).natAbs ≤ a.natAbs ∧ (b.fdiv d).natAbs ≤ b.natAbs := by
  have gp := gcd_pos (a := a) hb
  have hd0 : d ≠ 0 := by rcases hd with h | h <;> omega
  have na : d.natAbs = Int.gcd a b := by rcases hd with h | h <;> omega
  have da : d ∣ a := by
    rcases hd with h | h
    · rw [h]; exact Int.gcd_dvd_left a b
    · rw [h]; exact Int.neg_dvd.mpr (Int.gcd_dvd_left a b)
  have db : d ∣ b := by
    rcases hd with h | h
    · rw [h]; exact Int.gcd_dvd_right a b
    · rw [h]; exact Int.neg_dvd.mpr (Int.gcd_dvd_right a b)
  have ea := Int.fdiv_mul_cancel da
  have eb := Int.fdiv_mul_cancel db
  refine ⟨⟨?_, ?_⟩, ?_, Int.natAbs_fdiv_le_natAbs a d, Int.natAbs_fdiv_le_natAbs b d⟩
  · rw [← eb, Int.mul_assoc] at hs
    have hdd : 0 < d * d := by
      rcases Int.lt_or_gt_of_ne hd0 with h | h
      · exact Int.mul_pos_of_neg_of_neg h h
      · exact Int.mul_pos h h
    exact Int.pos_of_mul_pos_left hs hdd
  · have h := Int.gcd_mul_right (a.fdiv d) d (b.fdiv d)
    rw [ea, eb, na] at h
    have g0 : Int.gcd a b ≠ 0 := by omega
    have h' : 1 * Int.gcd a b = Int.gcd (a.fdiv d) (b.fdiv d) * Int.gcd a b := by rw [Nat.one_mul]; exact h
    exact (Nat.eq_of_mul_eq_mul_right (by omega) h').symm
  · have : a.fdiv d * b = a.fdiv d * (b.fdiv d * d) := by rw [eb]
    rw [this]
    have h2 : a * b.fdiv d = a.fdiv d * d * b.fdiv d := by rw [ea]
    rw [h2, Int.mul_assoc, Int.mul_comm d]
theorem dvd_cop {p q r : Int} (h : Int.gcd p q = 1) (k : q ∣ p * r) : q ∣ r := by
  have h1 : Nat.Coprime q.natAbs p.natAbs := by
    show Nat.gcd q.natAbs p.natAbs = 1
    rw [Nat.gcd_comm]
    exact h
  have k1 : q.natAbs ∣ p.natAbs * r.natAbs := by
    rw [← Int.natAbs_mul]
    exact Int.natAbs_dvd_natAbs.mpr k
  exact Int.natAbs_dvd_natAbs.mp (h1.dvd_of_dvd_mul_left k1)
/-- lowest terms are unique -/
theorem Low.uniq {p q p' q' : Int} (h : Low p q) (h' : Low p' q') (e : p * q' = p' * q) : p = p' ∧ q = q' := by
  have d1 : q ∣ q' := dvd_cop h.cop ⟨p', by rw [e, Int.mul_comm]⟩
  have d2 : q' ∣ q := dvd_cop h'.cop ⟨p, by rw [← e, Int.mul_comm]⟩
  have l1 := Int.le_of_dvd h'.pos d1
  have l2 := Int.le_of_dvd h.pos d2
  have eq : q = q' := by omega
  subst eq
  exact ⟨Int.eq_of_mul_eq_mul_right (by have := h.pos; omega) e, rfl⟩
/-- two that stand for one fraction -/
theorem Low.same {p q p' q' a b : Int} (h : Low p q) (h' : Low p' q') (hb : b ≠ 0) (e : p * b = a * q) (e' : p' * b = a * q') : p = p' ∧ q = q' := by
  refine h.uniq h' (Int.eq_of_mul_eq_mul_right hb ?_)
  rw [Int.mul_assoc, Int.mul_comm q', ← Int.mul_assoc, e, Int.mul_assoc p', Int.mul_comm q b, ← Int.mul_assoc, e', Int.mul_assoc, Int.mul_assoc, Int.mul_comm q]
theorem Low.self {p q : Int} (h : Low p q) : p.fdiv (Int.gcd p q : Int) = p ∧ q.fdiv (Int.gcd p q : Int) = q := by
  rw [h.cop]
  exact ⟨Int.fdiv_one p, Int.fdiv_one q⟩
end MA
namespace MA
theorem cop_mul {a b c : Int} (h1 : Int.gcd a b = 1) (h2 : Int.gcd a c = 1) : Int.gcd a (b * c) = 1 := by
  show Nat.gcd a.natAbs (b * c).natAbs = 1
  rw [Int.natAbs_mul]
  exact Nat.Coprime.mul_right h1 h2
theorem cop_mulL {a b c : Int} (h1 : Int.gcd a c = 1) (h2 : Int.gcd b c = 1) : Int.gcd (a * b) c = 1 := by
  rw [Int.gcd_comm]
  exact cop_mul (by rw [Int.gcd_comm]; exact h1) (by rw [Int.gcd_comm]; exact h2)
theorem cop_dvd {a b c : Int} (h : Int.gcd a b = 1) (k : c ∣ b) : Int.gcd a c = 1 :=
  Nat.Coprime.coprime_dvd_right (Int.natAbs_dvd_natAbs.mpr k) h
theorem cop_dvdL {a b c : Int} (h : Int.gcd a b = 1) (k : c ∣ a) : Int.gcd c b = 1 := by
  rw [Int.gcd_comm] at h ⊢
  exact cop_dvd h k
theorem cop_add {a b c : Int} (k : c ∣ b) : Int.gcd (a + b) c = Int.gcd a c := by
  obtain ⟨d, rfl⟩ := k
  rw [Int.gcd_comm, Int.gcd_add_mul_left_right, Int.gcd_comm]
theorem cop_div {a b : Int} (hb : b ≠ 0) : Int.gcd (a.fdiv (Int.gcd a b : Int)) (b.fdiv (Int.gcd a b : Int)) = 1 := by
  have gp := gcd_pos (a := a) hb
  have h := Int.gcd_mul_right (a.fdiv (Int.gcd a b : Int)) (Int.gcd a b : Int) (b.fdiv (Int.gcd a b : Int))
  rw [Int.fdiv_mul_cancel (Int.gcd_dvd_left a b), Int.fdiv_mul_cancel (Int.gcd_dvd_right a b)] at h
  have h' : 1 * Int.gcd a b = Int.gcd (a.fdiv (Int.gcd a b : Int)) (b.fdiv (Int.gcd a b : Int)) * Int.gcd a b := by
    rw [Nat.one_mul]
    simpa using h
  exact (Nat.eq_of_mul_eq_mul_right (by omega) h').symm
theorem fdiv_pos {a d : Int} (ha : 0 < a) (hd : 0 < d) (k : d ∣ a) : 0 < a.fdiv d := by
  have e := Int.fdiv_mul_cancel k
  rcases Int.lt_trichotomy (a.fdiv d) 0 with h | h | h
  · have := Int.mul_neg_of_neg_of_pos h hd
    omega
  · rw [h, Int.zero_mul] at e
    omega
  · exact h
/-- the top of a sum -/
def sumT (p q p' q' : Int) : Int := p * q'.fdiv (Int.gcd q q' : Int) + p' * q.fdiv (Int.gcd q q' : Int)
theorem sum_low {p q p' q' : Int} (h : Low p q) (h' : Low p' q') :
    Low ((sumT p q p' q').fdiv (Int.gcd (sumT p q p' q') (Int.gcd q q' : Int) : Int)) (q.fdiv (Int.gcd q q' : Int) * q'.fdiv (Int.gcd (sumT p q p' q') (Int.gcd q q' : Int) : Int)) ∧
    (sumT p q p' q').fdiv (Int.gcd (sumT p q p' q') (Int.gcd q q' : Int) : Int) * (q * q') = (p * q' + p' * q) * (q.fdiv (Int.gcd q q' : Int) * q'.fdiv (Int.gcd (sumT p q p' q') (Int.gcd q q' : Int) : Int)) ∧
    ((sumT p q p' q').fdiv (Int.gcd (sumT p q p' q') (Int.gcd q q' : Int) : Int)).natAbs ≤ (p * q' + p' * q).natAbs ∧
    (q.fdiv (Int.gcd q q' : Int) * q'.fdiv (Int.gcd (sumT p q p' q') (Int.gcd q q' : Int) : Int)).natAbs ≤ (q * q').natAbs := by
  have q0 := h.pos
  have q0' := h'.pos
  have sp : (0 : Int) < (Int.gcd q q' : Int) := gcd_pos (by omega)
  have ds := Int.gcd_dvd_left q q'
  have ds' := Int.gcd_dvd_right q q'
  have cuv := cop_div (a := q) (b := q') (by omega)
  have eu := Int.fdiv_mul_cancel ds
  have ev := Int.fdiv_mul_cancel ds'
  have up := fdiv_pos q0 sp ds
  have vp := fdiv_pos q0' sp ds'
  unfold sumT
  generalize (Int.gcd q q' : Int) = s at *
  generalize q.fdiv s = u at *
  generalize hv : q'.fdiv s = v at *
  have dp : (0 : Int) < (Int.gcd (p * v + p' * u) s : Int) := gcd_pos (by omega)
  have dt := Int.gcd_dvd_left (p * v + p' * u) s
  have d2 := Int.gcd_dvd_right (p * v + p' * u) s
  have ctd := cop_div (a := p * v + p' * u) (b := s) (by omega)
  have ctu : Int.gcd (p * v + p' * u) u = 1 := by
    rw [cop_add ⟨p', by rw [Int.mul_comm]⟩]
    exact cop_mulL (cop_dvd h.cop ⟨s, eu.symm⟩) (by rw [Int.gcd_comm]; exact cuv)
  have ctv : Int.gcd (p * v + p' * u) v = 1 := by
    rw [Int.add_comm, cop_add ⟨p, by rw [Int.mul_comm]⟩]
    exact cop_mulL (cop_dvd h'.cop ⟨s, ev.symm⟩) cuv
  generalize ht : p * v + p' * u = t at *
  generalize (Int.gcd t s : Int) = d at *
  have et := Int.fdiv_mul_cancel dt
  have es := Int.fdiv_mul_cancel d2
  have ep := fdiv_pos sp dp d2
  have e2 : q'.fdiv d = v * s.fdiv d := by
    rw [← ev, ← es]
    rw [show v * (s.fdiv d * d) = v * s.fdiv d * d by rw [Int.mul_assoc]]
    rw [Int.mul_fdiv_cancel _ (by omega)]
    rw [es]
  have dxt : t.fdiv d ∣ t := ⟨d, et.symm⟩
  have main : p * q' + p' * q = t * s := by
    rw [← ev, ← eu, ← ht]
    grind
  refine ⟨⟨?_, ?_⟩, ?_, ?_, ?_⟩
  · rw [e2]
    exact Int.mul_pos up (Int.mul_pos vp ep)
  · rw [e2]
    exact cop_mul (cop_dvdL ctu dxt) (cop_mul (cop_dvdL ctv dxt) ctd)
  · rw [main, e2, ← eu, ← ev]
    generalize t.fdiv d = x at *
    generalize s.fdiv d = y at *
    subst et
    subst es
    grind
  · rw [main, Int.natAbs_mul]
    exact Nat.le_trans (Int.natAbs_fdiv_le_natAbs t d) (Nat.le_mul_of_pos_right _ (by omega))
  · rw [Int.natAbs_mul, Int.natAbs_mul]
    refine Nat.mul_le_mul ?_ (Int.natAbs_fdiv_le_natAbs q' d)
    rw [← eu, Int.natAbs_mul]
    exact Nat.le_mul_of_pos_right _ (by omega)
theorem prod_low {p q p' q' : Int} (h : Low p q) (h' : Low p' q') :
    Low (p.fdiv (Int.gcd p q' : Int) * p'.fdiv (Int.gcd p' q : Int)) (q.fdiv (Int.gcd p' q : Int) * q'.fdiv (Int.gcd p q' : Int)) ∧
    p.fdiv (Int.gcd p q' : Int) * p'.fdiv (Int.gcd p' q : Int) * (q * q') = (p * p') * (q.fdiv (Int.gcd p' q : Int) * q'.fdiv (Int.gcd p q' : Int)) ∧
    (p.fdiv (Int.gcd p q' : Int) * p'.fdiv (Int.gcd p' q : Int)).natAbs ≤ (p * p').natAbs ∧
    (q.fdiv (Int.gcd p' q : Int) * q'.fdiv (Int.gcd p q' : Int)).natAbs ≤ (q * q').natAbs := by
  have q0 := h.pos
  have q0' := h'.pos
  have lp : (0 : Int) < (Int.gcd p q' : Int) := gcd_pos (by omega)
  have rp : (0 : Int) < (Int.gcd p' q : Int) := gcd_pos (by omega)
  have l1 := Int.gcd_dvd_left p q'
  have l2 := Int.gcd_dvd_right p q'
  have r1 := Int.gcd_dvd_left p' q
  have r2 := Int.gcd_dvd_right p' q
  have cl := cop_div (a := p) (b := q') (by omega)
  have cr := cop_div (a := p') (b := q) (by omega)
  generalize (Int.gcd p q' : Int) = l at *
  generalize (Int.gcd p' q : Int) = r at *
  have e1 := Int.fdiv_mul_cancel l1
  have e2 := Int.fdiv_mul_cancel l2
  have e3 := Int.fdiv_mul_cancel r1
  have e4 := Int.fdiv_mul_cancel r2
  have y1 := fdiv_pos q0 rp r2
  have y2 := fdiv_pos q0' lp l2
  refine ⟨⟨Int.mul_pos y1 y2, ?_⟩, ?_, ?_, ?_⟩
  · refine cop_mulL (cop_mul ?_ cl) (cop_mul cr ?_)
    · exact cop_dvd (cop_dvdL h.cop ⟨l, e1.symm⟩) ⟨r, e4.symm⟩
    · exact cop_dvd (cop_dvdL h'.cop ⟨r, e3.symm⟩) ⟨l, e2.symm⟩
  · generalize p.fdiv l = a at *
    generalize p'.fdiv r = b at *
    generalize q.fdiv r = c at *
    generalize q'.fdiv l = e at *
    subst e1
    subst e2
    subst e3
    subst e4
    grind
  · rw [Int.natAbs_mul, Int.natAbs_mul]
    exact Nat.mul_le_mul (Int.natAbs_fdiv_le_natAbs _ _) (Int.natAbs_fdiv_le_natAbs _ _)
  · rw [Int.natAbs_mul, Int.natAbs_mul]
    exact Nat.mul_le_mul (Int.natAbs_fdiv_le_natAbs _ _) (Int.natAbs_fdiv_le_natAbs _ _)
end MA
namespace My
open PySem L2 MA
def top (i : Nat) : Stmt := PySem.Challenge.pw_kbestwood_k04_scales.main.body.getD i (.Pass ⟨0, 0, 0, 0⟩)
abbrev s_Cost_word : Stmt := inClass (top 11) 0
theorem sc_Cost_word : FnScope ["self"] ["self"] (defScope s_Cost_word) := ⟨rfl, rfl, rfl, by decide +kernel, rfl, by decide +kernel, by decide +kernel⟩
abbrev s_Cost_empty : Stmt := inClass (top 11) 1
theorem sc_Cost_empty : FnScope ["self"] ["self"] (defScope s_Cost_empty) := ⟨rfl, rfl, rfl, by decide +kernel, rfl, by decide +kernel, by decide +kernel⟩
abbrev s_Cost_takes : Stmt := inClass (top 11) 2
theorem sc_Cost_takes : FnScope ["self", "weight"] ["self", "weight"] (defScope s_Cost_takes) := ⟨rfl, rfl, rfl, by decide +kernel, rfl, by decide +kernel, by decide +kernel⟩
abbrev s_Cost_join : Stmt := inClass (top 11) 3
theorem sc_Cost_join : FnScope ["self", "one", "other"] ["self", "one", "other"] (defScope s_Cost_join) := ⟨rfl, rfl, rfl, by decide +kernel, rfl, by decide +kernel, by decide +kernel⟩
abbrev s_Cost_ahead : Stmt := inClass (top 11) 4
theorem sc_Cost_ahead : FnScope ["self", "one", "other"] ["self", "one", "other"] (defScope s_Cost_ahead) := ⟨rfl, rfl, rfl, by decide +kernel, rfl, by decide +kernel, by decide +kernel⟩
abbrev s_Chance_word : Stmt := inClass (top 12) 0
theorem sc_Chance_word : FnScope ["self"] ["self"] (defScope s_Chance_word) := ⟨rfl, rfl, rfl, by decide +kernel, rfl, by decide +kernel, by decide +kernel⟩
abbrev s_Chance_empty : Stmt := inClass (top 12) 1
theorem sc_Chance_empty : FnScope ["self"] ["self"] (defScope s_Chance_empty) := ⟨rfl, rfl, rfl, by decide +kernel, rfl, by decide +kernel, by decide +kernel⟩
abbrev s_Chance_takes : Stmt := inClass (top 12) 2
theorem sc_Chance_takes : FnScope ["self", "weight"] ["self", "weight"] (defScope s_Chance_takes) := ⟨rfl, rfl, rfl, by decide +kernel, rfl, by decide +kernel, by decide +kernel⟩
abbrev s_Chance_join : Stmt := inClass (top 12) 3
theorem sc_Chance_join : FnScope ["self", "one", "other"] ["self", "one", "other"] (defScope s_Chance_join) := ⟨rfl, rfl, rfl, by decide +kernel, rfl, by decide +kernel, by decide +kernel⟩
abbrev s_Chance_ahead : Stmt := inClass (top 12) 4
theorem sc_Chance_ahead : FnScope ["self", "one", "other"] ["self", "one", "other"] (defScope s_Chance_ahead) := ⟨rfl, rfl, rfl, by decide +kernel, rfl, by decide +kernel, by decide +kernel⟩
abbrev s_common_divisor : Stmt := top 5
theorem sc_common_divisor : FnScope ["one", "other"] ["one", "other"] (defScope s_common_divisor) := ⟨rfl, rfl, rfl, by decide +kernel, rfl, by decide +kernel, by decide +kernel⟩
abbrev s_sum_of : Stmt := top 6
theorem sc_sum_of : FnScope ["one", "other", "shared", "top", "divisor"] ["one", "other"] (defScope s_sum_of) := ⟨rfl, rfl, rfl, by decide +kernel, rfl, by decide +kernel, by decide +kernel⟩
abbrev s_product_of : Stmt := top 7
theorem sc_product_of : FnScope ["one", "other", "left", "right"] ["one", "other"] (defScope s_product_of) := ⟨rfl, rfl, rfl, by decide +kernel, rfl, by decide +kernel, by decide +kernel⟩
abbrev s_compared : Stmt := top 8
theorem sc_compared : FnScope ["one", "other", "left", "right"] ["one", "other"] (defScope s_compared) := ⟨rfl, rfl, rfl, by decide +kernel, rfl, by decide +kernel, by decide +kernel⟩
abbrev s_scale_of : Stmt := top 13
theorem sc_scale_of : FnScope ["word"] ["word"] (defScope s_scale_of) := ⟨rfl, rfl, rfl, by decide +kernel, rfl, by decide +kernel, by decide +kernel⟩
abbrev s_l_mix : Stmt := top 15
theorem sc_l_mix : FnScope ["_law_cell", "_law_k", "_law_factor", "_law_number"] ["_law_cell", "_law_k"] (defScope s_l_mix) := ⟨rfl, rfl, rfl, by decide +kernel, rfl, by decide +kernel, by decide +kernel⟩
abbrev s_l_lowest : Stmt := top 16
theorem sc_l_lowest : FnScope ["_law_top", "_law_bottom", "_law_one", "_law_other", "_law_kept"] ["_law_top", "_law_bottom"] (defScope s_l_lowest) := ⟨rfl, rfl, rfl, by decide +kernel, rfl, by decide +kernel, by decide +kernel⟩
abbrev s_l_whole : Stmt := top 17
theorem sc_l_whole : FnScope ["_law_found"] ["_law_found"] (defScope s_l_whole) := ⟨rfl, rfl, rfl, by decide +kernel, rfl, by decide +kernel, by decide +kernel⟩
abbrev s_l_fraction : Stmt := top 18
theorem sc_l_fraction : FnScope ["_law_found", "_law_top", "_law_bottom"] ["_law_found", "_law_top", "_law_bottom"] (defScope s_l_fraction) := ⟨rfl, rfl, rfl, by decide +kernel, rfl, by decide +kernel, by decide +kernel⟩
abbrev s_l_some : Stmt := top 19
theorem sc_l_some : FnScope ["_law_cell", "_law_kept", "_law_k", "_law_m", "_law_top", "_law_bottom"] ["_law_cell", "_law_kept", "_law_k"] (defScope s_l_some) := ⟨rfl, rfl, rfl, by decide +kernel, rfl, by decide +kernel, by decide +kernel⟩
abbrev s_l_weight : Stmt := top 20
theorem sc_l_weight : FnScope ["_law_cell", "_law_kept", "_law_k", "_law_chance", "_law_one"] ["_law_cell", "_law_kept", "_law_k", "_law_chance"] (defScope s_l_weight) := ⟨rfl, rfl, rfl, by decide +kernel, rfl, by decide +kernel, by decide +kernel⟩
abbrev s_l_sort : Stmt := top 21
theorem sc_l_sort : FnScope ["_law_scale", "_law_chance"] ["_law_scale", "_law_chance"] (defScope s_l_sort) := ⟨rfl, rfl, rfl, by decide +kernel, rfl, by decide +kernel, by decide +kernel⟩
abbrev s_l_bool : Stmt := top 22
theorem sc_l_bool : FnScope ["_law_found", "_law_due"] ["_law_found", "_law_due"] (defScope s_l_bool) := ⟨rfl, rfl, rfl, by decide +kernel, rfl, by decide +kernel, by decide +kernel⟩
abbrev s_law : Stmt := top 23
theorem sc_law : FnScope ["_law_script", "_law_kept", "_law_k", "_law_cell", "_law_chance", "_law_scale", "_law_one", "_law_other", "_law_some_here", "_law_top", "_law_apart"] ["_law_script"] (defScope s_law) := ⟨rfl, rfl, rfl, by decide +kernel, rfl, by decide +kernel, by decide +kernel⟩
structure Adr where
  C_Scale : Addr
  C_Cost : Addr
  C_Chance : Addr
  f_Cost_word : Addr
  d_Cost_word : FuncData
  f_Cost_empty : Addr
  d_Cost_empty : FuncData
  f_Cost_takes : Addr
  d_Cost_takes : FuncData
  f_Cost_join : Addr
  d_Cost_join : FuncData
  f_Cost_ahead : Addr
  d_Cost_ahead : FuncData
  f_Chance_word : Addr
  d_Chance_word : FuncData
  f_Chance_empty : Addr
  d_Chance_empty : FuncData
  f_Chance_takes : Addr
  d_Chance_takes : FuncData
  f_Chance_join : Addr
  d_Chance_join : FuncData
  f_Chance_ahead : Addr
  d_Chance_ahead : FuncData
  f_common_divisor : Addr
  d_common_divisor : FuncData
  f_sum_of : Addr
  d_sum_of : FuncData
  f_product_of : Addr
  d_product_of : FuncData
  f_compared : Addr
  d_compared : FuncData
  f_scale_of : Addr
  d_scale_of : FuncData
  f_l_mix : Addr
  d_l_mix : FuncData
  f_l_lowest : Addr
  d_l_lowest : FuncData
  f_l_whole : Addr
  d_l_whole : FuncData
  f_l_fraction : Addr
  d_l_fraction : FuncData
  f_l_some : Addr
  d_l_some : FuncData
  f_l_weight : Addr
  d_l_weight : FuncData
  f_l_sort : Addr
  d_l_sort : FuncData
  f_l_bool : Addr
  d_l_bool : FuncData
  f_law : Addr
  d_law : FuncData
structure Txt (K : PySem.W.Frag) (mg : Str → Option Value) (A : Adr) : Prop where
  cl_Scale : Cls K A.C_Scale
  M_Scale : mg "Scale" = some (.ref A.C_Scale)
  cl_Cost : Cls K A.C_Cost
  M_Cost : mg "Cost" = some (.ref A.C_Cost)
  mk_Cost : MkP K A.C_Cost
  ty_Cost : InsTy K A.C_Cost
  cl_Chance : Cls K A.C_Chance
  M_Chance : mg "Chance" = some (.ref A.C_Chance)
  mk_Chance : MkP K A.C_Chance
  ty_Chance : InsTy K A.C_Chance
  i_Cost_Scale : PySem.W.kitOne K (.ref A.C_Cost) (.ref A.C_Scale) = some true
  i_Chance_Scale : PySem.W.kitOne K (.ref A.C_Chance) (.ref A.C_Scale) = some true
  i_Cost_Chance : PySem.W.kitOne K (.ref A.C_Cost) (.ref A.C_Chance) = some false
  i_Chance_Chance : PySem.W.kitOne K (.ref A.C_Chance) (.ref A.C_Chance) = some true
  i_Cost_Cost : PySem.W.kitOne K (.ref A.C_Cost) (.ref A.C_Cost) = some true
  i_Chance_Cost : PySem.W.kitOne K (.ref A.C_Chance) (.ref A.C_Cost) = some false
  F_Cost_word : Fun K "word" "Cost.word" s_Cost_word A.f_Cost_word A.d_Cost_word
  me_Cost_word : Meth K A.C_Cost "word" A.f_Cost_word
  a_Cost_word : Binds K A.d_Cost_word ["self"] []
  F_Cost_empty : Fun K "empty" "Cost.empty" s_Cost_empty A.f_Cost_empty A.d_Cost_empty
  me_Cost_empty : Meth K A.C_Cost "empty" A.f_Cost_empty
  a_Cost_empty : Binds K A.d_Cost_empty ["self"] []
  F_Cost_takes : Fun K "takes" "Cost.takes" s_Cost_takes A.f_Cost_takes A.d_Cost_takes
  me_Cost_takes : Meth K A.C_Cost "takes" A.f_Cost_takes
  a_Cost_takes : Binds K A.d_Cost_takes ["self", "weight"] []
  F_Cost_join : Fun K "join" "Cost.join" s_Cost_join A.f_Cost_join A.d_Cost_join
  me_Cost_join : Meth K A.C_Cost "join" A.f_Cost_join
  a_Cost_join : Binds K A.d_Cost_join ["self", "one", "other"] []
  F_Cost_ahead : Fun K "ahead" "Cost.ahead" s_Cost_ahead A.f_Cost_ahead A.d_Cost_ahead
  me_Cost_ahead : Meth K A.C_Cost "ahead" A.f_Cost_ahead
  a_Cost_ahead : Binds K A.d_Cost_ahead ["self", "one", "other"] []
  F_Chance_word : Fun K "word" "Chance.word" s_Chance_word A.f_Chance_word A.d_Chance_word
  me_Chance_word : Meth K A.C_Chance "word" A.f_Chance_word
  a_Chance_word : Binds K A.d_Chance_word ["self"] []
  F_Chance_empty : Fun K "empty" "Chance.empty" s_Chance_empty A.f_Chance_empty A.d_Chance_empty
  me_Chance_empty : Meth K A.C_Chance "empty" A.f_Chance_empty
  a_Chance_empty : Binds K A.d_Chance_empty ["self"] []
  F_Chance_takes : Fun K "takes" "Chance.takes" s_Chance_takes A.f_Chance_takes A.d_Chance_takes
  me_Chance_takes : Meth K A.C_Chance "takes" A.f_Chance_takes
  a_Chance_takes : Binds K A.d_Chance_takes ["self", "weight"] []
  F_Chance_join : Fun K "join" "Chance.join" s_Chance_join A.f_Chance_join A.d_Chance_join
  me_Chance_join : Meth K A.C_Chance "join" A.f_Chance_join
  a_Chance_join : Binds K A.d_Chance_join ["self", "one", "other"] []
  F_Chance_ahead : Fun K "ahead" "Chance.ahead" s_Chance_ahead A.f_Chance_ahead A.d_Chance_ahead
  me_Chance_ahead : Meth K A.C_Chance "ahead" A.f_Chance_ahead
  a_Chance_ahead : Binds K A.d_Chance_ahead ["self", "one", "other"] []
  F_common_divisor : Fun K "common_divisor" "common_divisor" s_common_divisor A.f_common_divisor A.d_common_divisor
  m_common_divisor : mg "common_divisor" = some (.ref A.f_common_divisor)
  k_common_divisor : PySem.W.keepIn K (.ref A.f_common_divisor) = true
  a_common_divisor : Binds K A.d_common_divisor ["one", "other"] []
  F_sum_of : Fun K "sum_of" "sum_of" s_sum_of A.f_sum_of A.d_sum_of
  m_sum_of : mg "sum_of" = some (.ref A.f_sum_of)
  k_sum_of : PySem.W.keepIn K (.ref A.f_sum_of) = true
  a_sum_of : Binds K A.d_sum_of ["one", "other"] []
  F_product_of : Fun K "product_of" "product_of" s_product_of A.f_product_of A.d_product_of
  m_product_of : mg "product_of" = some (.ref A.f_product_of)
  k_product_of : PySem.W.keepIn K (.ref A.f_product_of) = true
  a_product_of : Binds K A.d_product_of ["one", "other"] []
  F_compared : Fun K "compared" "compared" s_compared A.f_compared A.d_compared
  m_compared : mg "compared" = some (.ref A.f_compared)
  k_compared : PySem.W.keepIn K (.ref A.f_compared) = true
  a_compared : Binds K A.d_compared ["one", "other"] []
  F_scale_of : Fun K "scale_of" "scale_of" s_scale_of A.f_scale_of A.d_scale_of
  m_scale_of : mg "scale_of" = some (.ref A.f_scale_of)
  k_scale_of : PySem.W.keepIn K (.ref A.f_scale_of) = true
  a_scale_of : Binds K A.d_scale_of ["word"] []
  F_l_mix : Fun K "_law_mix" "_law_mix" s_l_mix A.f_l_mix A.d_l_mix
  m_l_mix : mg "_law_mix" = some (.ref A.f_l_mix)
  k_l_mix : PySem.W.keepIn K (.ref A.f_l_mix) = true
  a_l_mix : Binds K A.d_l_mix ["_law_cell", "_law_k"] []
  F_l_lowest : Fun K "_law_lowest" "_law_lowest" s_l_lowest A.f_l_lowest A.d_l_lowest
  m_l_lowest : mg "_law_lowest" = some (.ref A.f_l_lowest)
  k_l_lowest : PySem.W.keepIn K (.ref A.f_l_lowest) = true
  a_l_lowest : Binds K A.d_l_lowest ["_law_top", "_law_bottom"] []
  F_l_whole : Fun K "_law_whole" "_law_whole" s_l_whole A.f_l_whole A.d_l_whole
  m_l_whole : mg "_law_whole" = some (.ref A.f_l_whole)
  k_l_whole : PySem.W.keepIn K (.ref A.f_l_whole) = true
  a_l_whole : Binds K A.d_l_whole ["_law_found"] []
  F_l_fraction : Fun K "_law_fraction" "_law_fraction" s_l_fraction A.f_l_fraction A.d_l_fraction
  m_l_fraction : mg "_law_fraction" = some (.ref A.f_l_fraction)
  k_l_fraction : PySem.W.keepIn K (.ref A.f_l_fraction) = true
  a_l_fraction : Binds K A.d_l_fraction ["_law_found", "_law_top", "_law_bottom"] []
  F_l_some : Fun K "_law_some" "_law_some" s_l_some A.f_l_some A.d_l_some
  m_l_some : mg "_law_some" = some (.ref A.f_l_some)
  k_l_some : PySem.W.keepIn K (.ref A.f_l_some) = true
  a_l_some : Binds K A.d_l_some ["_law_cell", "_law_kept", "_law_k"] []
  F_l_weight : Fun K "_law_weight" "_law_weight" s_l_weight A.f_l_weight A.d_l_weight
  m_l_weight : mg "_law_weight" = some (.ref A.f_l_weight)
  k_l_weight : PySem.W.keepIn K (.ref A.f_l_weight) = true
  a_l_weight : Binds K A.d_l_weight ["_law_cell", "_law_kept", "_law_k", "_law_chance"] []
  F_l_sort : Fun K "_law_sort" "_law_sort" s_l_sort A.f_l_sort A.d_l_sort
  m_l_sort : mg "_law_sort" = some (.ref A.f_l_sort)
  k_l_sort : PySem.W.keepIn K (.ref A.f_l_sort) = true
  a_l_sort : Binds K A.d_l_sort ["_law_scale", "_law_chance"] []
  F_l_bool : Fun K "_law_bool" "_law_bool" s_l_bool A.f_l_bool A.d_l_bool
  m_l_bool : mg "_law_bool" = some (.ref A.f_l_bool)
  k_l_bool : PySem.W.keepIn K (.ref A.f_l_bool) = true
  a_l_bool : Binds K A.d_l_bool ["_law_found", "_law_due"] []
  F_law : Fun K "law" "law" s_law A.f_law A.d_law
  m_law : mg "law" = some (.ref A.f_law)
  k_law : PySem.W.keepIn K (.ref A.f_law) = true
  a_law : Binds K A.d_law ["_law_script"] []
  b_abs : mg "abs" = none
  b_isinstance : mg "isinstance" = none
  b_int : mg "int" = none
  b_bool : mg "bool" = none
  b_tuple : mg "tuple" = none
  b_len : mg "len" = none
  b_enumerate : mg "enumerate" = none
section
variable {P : Program} {w : World} {K : PySem.W.Frag} {mg : Str → Option Value} {base : Heap}
theorem iteNT {c A B : Prop} [Decidable c] (hc : ¬ c) (h : A) : if (!decide c) = true then A else B := by
  rw [if_pos (by simp [hc])]
  exact h
theorem iteDT {c A B : Prop} [Decidable c] (hc : c) (h : A) : if decide c = true then A else B := by
  rw [if_pos (decide_eq_true hc)]
  exact h
theorem iteDF {c A B : Prop} [Decidable c] (hc : ¬ c) (h : B) : if decide c = true then A else B := by
  rw [if_neg (by simp [hc])]
  exact h
theorem iteD {c A B : Prop} [Decidable c] (h1 : c → A) (h2 : ¬ c → B) : if decide c = true then A else B := by
  by_cases hc : c
  · exact iteDT hc (h1 hc)
  · exact iteDF hc (h2 hc)
theorem iteVI {i j : Int} {A B : Prop} (h1 : i = j → A) (h2 : ¬ i = j → B) : if decide (V.int i = V.int j) = true then A else B :=
  iteD (fun z => h1 (V.int.inj z)) (fun z => h2 fun y => z (congrArg V.int y))
theorem iteB {b : Bool} {c A B : Prop} (e : b = true) (h : A) : if b = true then A else B := by rw [if_pos e]; exact h
/-- a promise's value: a new pair -/
abbrev NewPair (H : Hp) (Q : VK) (p q : Int) : Prop := ∀ r H', Same H H' → H' r = some (.tup [.int p, .int q]) → Q (.ref r) H'
theorem small64 {i : Int} (a : -(2 ^ 64) < i) (b : i < 2 ^ 64) {n : Nat} (h : 64 ≤ n := by decide) : Bd n i := (Bd.of a b).mono h
/-- a while's turn -/
def WTurn (Pv : St → Hp → Prop) (μ : St → Hp → Nat) (D : Ends) (tb : TS) (σ : St) (H H1 : Hp) : Prop :=
  ∃ N : St → Hp → Prop, (∀ σ' H', N σ' H' → ∃ m', m' < μ σ H ∧ Pv σ' H' ∧ m' = μ σ' H') ∧ tb { D with nx := N, ct := N, bk := D.nx } σ H1
theorem WTurn.mk {Pv : St → Hp → Prop} {μ : St → Hp → Nat} {D : Ends} {tb : TS} {σ : St} {H H1 : Hp}
    (h : tb { D with nx := fun σ' H' => Pv σ' H' ∧ μ σ' H' < μ σ H, ct := fun σ' H' => Pv σ' H' ∧ μ σ' H' < μ σ H, bk := D.nx } σ H1) : WTurn Pv μ D tb σ H H1 :=
  ⟨_, fun σ' H' z => ⟨_, z.2, z.1, rfl⟩, h⟩
theorem while_raw {c : TT} {tb : TS} {D : Ends} {σ : St} {H : Hp} (Pv : St → Hp → Prop) (μ : St → Hp → Nat) (h0 : Pv σ H)
    (hs : ∀ σ H, Pv σ H → c σ H fun b H1 => if b = true then WTurn Pv μ D tb σ H H1 else D.nx σ H1) : tWhile c tb D σ H :=
  ⟨fun m σ H => Pv σ H ∧ m = μ σ H, ⟨_, h0, rfl⟩, fun m σ H ⟨hp, hm⟩ => by subst hm; exact hs σ H hp⟩
local macro_rules | `(tactic| walk_at "side") => `(tactic| first | (show (0 : Int) < _; decide) | exact ⟨by decide, by decide⟩ | exact ⟨by decide, by decide, by decide⟩ | exact CMulX.l (by omega) (by omega) | exact CMulX.r (by omega) (by omega) | exact CMulX.b (by assumption) (by assumption))
local macro_rules | `(tactic| walk_at "go") => `(tactic| repeat (first | refine ⟨_, rfl, ?_⟩ | refine ⟨_, _, rfl, rfl, (by walk_at "side"), ?_⟩ | refine ⟨_, _, rfl, rfl, ?_⟩ | refine ⟨_, _, _, _, rfl, rfl, SqT.of (by assumption), rfl, ?_⟩ | refine ⟨rfl, ?_⟩))
def sp_common_divisor (_K : PySem.W.Frag) : Sp := fun vs H Q _ => ∃ a b : Int, vs = [.int a, .int b] ∧ Q (.int (Int.gcd a b : Int)) H
theorem ok_common_divisor {A : Adr} (T : Txt K mg A) : FnOk P w K mg base CX0 1 A.f_common_divisor A.d_common_divisor ["one", "other"] (sp_common_divisor K) := by
  refine T.F_common_divisor.okQ sc_common_divisor (fun vs H Q E h => ?_) (fun cdv Ar outer s H vs Q E hr h => ?_)
  · obtain ⟨a, b, rfl, _⟩ := h
    rfl
  · have hu := hr.units0
    obtain ⟨a, b, rfl, k⟩ := h
    refine ⟨_, (qpss_cons (qps_while PassesOwn.never (qpt_cmpR op_ne (qpv 1) qpe_int (nomark _)) (qpss_one (qps_par (i := 0) (j := 1) rfl sc_common_divisor.nd rfl rfl (by decide) rfl rfl (qpa_c (qpv 1) (qpa_c (qpe_op op_modN (qpv 0) (qpv 1)) qpa_nil)) rfl)))
      (qpss_one (qps_ret (qpe_b call_abs (by rfl) T.b_abs PyProof.Rows.boot_abs (qpa_c (qpv 0) qpa_nil))))), ?_⟩
    refine while_raw (fun σ' H' => H' = H ∧ ∃ x y : Int, σ' = [some (.int x), some (.int y)] ∧ Int.gcd x y = Int.gcd a b) (fun σ' _ => match σ' with | [_, some (.int y)] => y.natAbs | _ => 0) ⟨rfl, a, b, rfl, rfl⟩ ?_
    rintro σ' H' ⟨rfl, x, y, rfl, e⟩
    refine ⟨_, rfl, rfl, _, rfl, ?_⟩
    by_cases hy : y = 0
    · subst hy
      refine iteNS rfl ?_
      refine ⟨_, rfl, _, rfl, ?_⟩
      have e2 : (if x < 0 then -x else x) = (Int.gcd a b : Int) := by
        rw [← e, Int.gcd_zero_right]
        split <;> omega
      rw [e2]
      exact k
    · refine iteNT (fun z => hy (V.int.inj z)) (WTurn.mk ?_)
      refine ⟨_, rfl, _, rfl, _, rfl, _, _, rfl, rfl, hy, _, _, rfl, ?_⟩
      exact ⟨⟨rfl, y, x.fmod y, rfl, (gcd_fmod x y).trans e⟩, fmod_lt x y hy⟩
/-- two pairs are handed in -/
structure Two (H : Hp) (r1 r2 : Addr) (p q p' q' : Int) : Prop where
  h1 : H r1 = some (.tup [.int p, .int q])
  h2 : H r2 = some (.tup [.int p', .int q'])
  l1 : Low p q
  l2 : Low p' q'
  b1 : Bd 4000 p
  b2 : Bd 4000 q
  b3 : Bd 4000 p'
  b4 : Bd 4000 q'
theorem gcd_bd {a b : Int} {n : Nat} (hb : b ≠ 0) (B : Bd n b) : Bd n (Int.gcd a b : Int) := B.le (by
  have := Int.le_of_dvd (show (0 : Int) < (b.natAbs : Int) by omega) (Int.dvd_natAbs.mpr (Int.gcd_dvd_right a b))
  omega)
theorem fdiv_bd {a d : Int} {n : Nat} (B : Bd n a) : Bd n (a.fdiv d) := B.le (Int.natAbs_fdiv_le_natAbs a d)
def sp_sum_of (_K : PySem.W.Frag) : Sp := fun vs H Q _ => ∃ (r1 r2 : Addr) (p q p' q' : Int), vs = [.ref r1, .ref r2] ∧ Two H r1 r2 p q p' q' ∧
  ∀ x y, Low x y → x * (q * q') = (p * q' + p' * q) * y → x.natAbs ≤ (p * q' + p' * q).natAbs → y.natAbs ≤ (q * q').natAbs → NewPair H Q x y
theorem ok_sum_of {A : Adr} (T : Txt K mg A) : FnOk P w K mg base CX0 2 A.f_sum_of A.d_sum_of ["one", "other"] (sp_sum_of K) := by
  have G_common_divisor := ok_common_divisor (P := P) (w := w) (base := base) T
  refine T.F_sum_of.okQ sc_sum_of (fun vs H Q E h => ?_) (fun cdv Ar outer s H vs Q E hr h => ?_)
  · obtain ⟨r1, r2, p, q, p', q', rfl, _⟩ := h
    rfl
  · have hu := hr.units0
    obtain ⟨r1, r2, p, q, p', q', rfl, ⟨h1, h2, l1, l2, b1, b2, b3, b4⟩, k⟩ := h
    refine ⟨_, (qpss_cons (qps_set (i := 2) sc_sum_of.nd rfl (Or.inl rfl) (qpe_f G_common_divisor (hr.mono (by decide)) (by rfl) T.m_common_divisor T.k_common_divisor T.a_common_divisor .nil pass0 (qpa_c (qpe_ix (ki_tup (K := K) rfl) (qpv 0) qpe_int (fun _ _ => rfl)) (qpa_c (qpe_ix (ki_tup (K := K) rfl) (qpv 1) qpe_int (fun _ _ => rfl)) qpa_nil))))
      (qpss_cons (qps_set (i := 3) sc_sum_of.nd rfl (Or.inl rfl) (qpe_op op_add (qpe_op op_mulX (qpe_ix (ki_tup (K := K) rfl) (qpv 0) qpe_int (fun _ _ => rfl)) (qpe_op op_fdivB (qpe_ix (ki_tup (K := K) rfl) (qpv 1) qpe_int (fun _ _ => rfl)) (qpv 2))) (qpe_op op_mulX (qpe_ix (ki_tup (K := K) rfl) (qpv 1) qpe_int (fun _ _ => rfl)) (qpe_op op_fdivB (qpe_ix (ki_tup (K := K) rfl) (qpv 0) qpe_int (fun _ _ => rfl)) (qpv 2)))))
      (qpss_cons (qps_set (i := 4) sc_sum_of.nd rfl (Or.inl rfl) (qpe_f G_common_divisor (hr.mono (by decide)) (by rfl) T.m_common_divisor T.k_common_divisor T.a_common_divisor .nil pass0 (qpa_c (qpv 3) (qpa_c (qpv 2) qpa_nil))))
      (qpss_one (qps_ret (qpe_tup (qpa_c (qpe_op op_fdivB (qpv 3) (qpv 4)) (qpa_c (qpe_op op_mulX (qpe_op op_fdivB (qpe_ix (ki_tup (K := K) rfl) (qpv 0) qpe_int (fun _ _ => rfl)) (qpv 2)) (qpe_op op_fdivB (qpe_ix (ki_tup (K := K) rfl) (qpv 1) qpe_int (fun _ _ => rfl)) (qpv 4))) qpa_nil)))))))), ?_⟩
    have q0 : q' ≠ 0 := by have := l2.pos; omega
    have sp : (0 : Int) < (Int.gcd q q' : Int) := gcd_pos q0
    have sB : Bd 4000 (Int.gcd q q' : Int) := gcd_bd q0 b4
    have z := sum_low l1 l2
    have dp : (0 : Int) < (Int.gcd (sumT p q p' q') (Int.gcd q q' : Int) : Int) := gcd_pos (by omega)
    have dB : Bd 9000 (Int.gcd (sumT p q p' q') (Int.gcd q q' : Int) : Int) := (gcd_bd (by omega) sB).mono (by decide)
    have sB' : Bd 9000 (Int.gcd q q' : Int) := sB.mono (by decide)
    have c1 : CMulX p (q'.fdiv (Int.gcd q q' : Int)) := CMulX.b b1 (fdiv_bd b4)
    have c2 : CMulX p' (q.fdiv (Int.gcd q q' : Int)) := CMulX.b b3 (fdiv_bd b2)
    have c3 : CMulX (q.fdiv (Int.gcd q q' : Int)) (q'.fdiv (Int.gcd (sumT p q p' q') (Int.gcd q q' : Int) : Int)) := CMulX.b (fdiv_bd b2) (fdiv_bd b4)
    walk_at "go"
    refine ⟨_, _, rfl, ?_⟩
    walk_at "go"
    refine ⟨⟨by omega, sB'⟩, ?_⟩
    walk_at "go"
    refine ⟨c1, ?_⟩
    walk_at "go"
    refine ⟨⟨by omega, sB'⟩, ?_⟩
    walk_at "go"
    refine ⟨c2, ?_⟩
    walk_at "go"
    refine ⟨_, _, rfl, ?_⟩
    walk_at "go"
    refine ⟨⟨by show (Int.gcd (sumT p q p' q') _ : Int) ≠ _; omega, dB⟩, ?_⟩
    walk_at "go"
    refine ⟨⟨by omega, sB'⟩, ?_⟩
    walk_at "go"
    refine ⟨⟨by show (Int.gcd (sumT p q p' q') _ : Int) ≠ _; omega, dB⟩, ?_⟩
    walk_at "go"
    refine ⟨c3, by show 2 ≤ sizeLine; decide, fun r hr => ?_⟩
    exact k _ _ z.1 z.2.1 z.2.2.1 z.2.2.2 _ _ (Same.upd hr) upd_same
def sp_product_of (_K : PySem.W.Frag) : Sp := fun vs H Q _ => ∃ (r1 r2 : Addr) (p q p' q' : Int), vs = [.ref r1, .ref r2] ∧ Two H r1 r2 p q p' q' ∧
  ∀ x y, Low x y → x * (q * q') = (p * p') * y → x.natAbs ≤ (p * p').natAbs → y.natAbs ≤ (q * q').natAbs → NewPair H Q x y
theorem ok_product_of {A : Adr} (T : Txt K mg A) : FnOk P w K mg base CX0 2 A.f_product_of A.d_product_of ["one", "other"] (sp_product_of K) := by
  have G_common_divisor := ok_common_divisor (P := P) (w := w) (base := base) T
  refine T.F_product_of.okQ sc_product_of (fun vs H Q E h => ?_) (fun cdv Ar outer s H vs Q E hr h => ?_)
  · obtain ⟨r1, r2, p, q, p', q', rfl, _⟩ := h
    rfl
  · have hu := hr.units0
    obtain ⟨r1, r2, p, q, p', q', rfl, ⟨h1, h2, l1, l2, b1, b2, b3, b4⟩, k⟩ := h
    refine ⟨_, (qpss_cons (qps_set (i := 2) sc_product_of.nd rfl (Or.inl rfl) (qpe_f G_common_divisor (hr.mono (by decide)) (by rfl) T.m_common_divisor T.k_common_divisor T.a_common_divisor .nil pass0 (qpa_c (qpe_ix (ki_tup (K := K) rfl) (qpv 0) qpe_int (fun _ _ => rfl)) (qpa_c (qpe_ix (ki_tup (K := K) rfl) (qpv 1) qpe_int (fun _ _ => rfl)) qpa_nil))))
      (qpss_cons (qps_set (i := 3) sc_product_of.nd rfl (Or.inl rfl) (qpe_f G_common_divisor (hr.mono (by decide)) (by rfl) T.m_common_divisor T.k_common_divisor T.a_common_divisor .nil pass0 (qpa_c (qpe_ix (ki_tup (K := K) rfl) (qpv 1) qpe_int (fun _ _ => rfl)) (qpa_c (qpe_ix (ki_tup (K := K) rfl) (qpv 0) qpe_int (fun _ _ => rfl)) qpa_nil))))
      (qpss_one (qps_ret (qpe_tup (qpa_c (qpe_op op_mulX (qpe_op op_fdivB (qpe_ix (ki_tup (K := K) rfl) (qpv 0) qpe_int (fun _ _ => rfl)) (qpv 2)) (qpe_op op_fdivB (qpe_ix (ki_tup (K := K) rfl) (qpv 1) qpe_int (fun _ _ => rfl)) (qpv 3))) (qpa_c (qpe_op op_mulX (qpe_op op_fdivB (qpe_ix (ki_tup (K := K) rfl) (qpv 0) qpe_int (fun _ _ => rfl)) (qpv 3)) (qpe_op op_fdivB (qpe_ix (ki_tup (K := K) rfl) (qpv 1) qpe_int (fun _ _ => rfl)) (qpv 2))) qpa_nil))))))), ?_⟩
    have q0' : q' ≠ 0 := by have := l2.pos; omega
    have q0 : q ≠ 0 := by have := l1.pos; omega
    have lp : (0 : Int) < (Int.gcd p q' : Int) := gcd_pos q0'
    have rp : (0 : Int) < (Int.gcd p' q : Int) := gcd_pos q0
    have lB : Bd 9000 (Int.gcd p q' : Int) := (gcd_bd q0' b4).mono (by decide)
    have rB : Bd 9000 (Int.gcd p' q : Int) := (gcd_bd q0 b2).mono (by decide)
    have z := prod_low l1 l2
    have c1 : CMulX (p.fdiv (Int.gcd p q' : Int)) (p'.fdiv (Int.gcd p' q : Int)) := CMulX.b (fdiv_bd b1) (fdiv_bd b3)
    have c2 : CMulX (q.fdiv (Int.gcd p' q : Int)) (q'.fdiv (Int.gcd p q' : Int)) := CMulX.b (fdiv_bd b2) (fdiv_bd b4)
    walk_at "go"
    refine ⟨_, _, rfl, ?_⟩
    walk_at "go"
    refine ⟨_, _, rfl, ?_⟩
    walk_at "go"
    refine ⟨⟨by omega, lB⟩, ?_⟩
    walk_at "go"
    refine ⟨⟨by omega, rB⟩, ?_⟩
    walk_at "go"
    refine ⟨c1, ?_⟩
    walk_at "go"
    refine ⟨⟨by omega, rB⟩, ?_⟩
    walk_at "go"
    refine ⟨⟨by omega, lB⟩, ?_⟩
    walk_at "go"
    refine ⟨c2, by show 2 ≤ sizeLine; decide, fun r hr => ?_⟩
    exact k _ _ z.1 z.2.1 z.2.2.1 z.2.2.2 _ _ (Same.upd hr) upd_same
/-- -1, 0, 1 -/
def cmpI (x y : Int) : Int := if x < y then -1 else if y < x then 1 else 0
def sp_compared (_K : PySem.W.Frag) : Sp := fun vs H Q _ => ∃ (r1 r2 : Addr) (p q p' q' : Int), vs = [.ref r1, .ref r2] ∧ Two H r1 r2 p q p' q' ∧ Q (.int (cmpI (p * q') (p' * q))) H
theorem ok_compared {A : Adr} (T : Txt K mg A) : FnOk P w K mg base CX0 1 A.f_compared A.d_compared ["one", "other"] (sp_compared K) := by
  refine T.F_compared.okQ sc_compared (fun vs H Q E h => ?_) (fun cdv Ar outer s H vs Q E hr h => ?_)
  · obtain ⟨r1, r2, p, q, p', q', rfl, _⟩ := h
    rfl
  · have hu := hr.units0
    obtain ⟨r1, r2, p, q, p', q', rfl, ⟨h1, h2, _, _, b1, b2, b3, b4⟩, k⟩ := h
    refine ⟨_, (qpss_cons (qps_set (i := 2) sc_compared.nd rfl (Or.inl rfl) (qpe_op op_mulX (qpe_ix (ki_tup (K := K) rfl) (qpv 0) qpe_int (fun _ _ => rfl)) (qpe_ix (ki_tup (K := K) rfl) (qpv 1) qpe_int (fun _ _ => rfl))))
      (qpss_cons (qps_set (i := 3) sc_compared.nd rfl (Or.inl rfl) (qpe_op op_mulX (qpe_ix (ki_tup (K := K) rfl) (qpv 1) qpe_int (fun _ _ => rfl)) (qpe_ix (ki_tup (K := K) rfl) (qpv 0) qpe_int (fun _ _ => rfl))))
      (qpss_cons (qps_if (qpt_cmpR op_lt (qpv 2) (qpv 3) (nomark _)) (qpss_one (qps_ret (qpe_un un_neg qpe_int))) qpss_nil)
      (qpss_cons (qps_if (qpt_cmpR op_gt (qpv 2) (qpv 3) (nomark _)) (qpss_one (qps_ret qpe_int)) qpss_nil)
      (qpss_one (qps_ret qpe_int)))))), ?_⟩
    walk_at "go"
    unfold cmpI at k
    refine iteD (fun hn => ?_) (fun hn => ?_)
    · walk_at "go"
      rw [if_pos hn] at k
      exact k
    · rw [if_neg hn] at k
      walk_at "go"
      refine iteD (fun hn => ?_) (fun hn => ?_)
      · rw [if_pos hn] at k
        exact k
      · rw [if_neg hn] at k
        exact k
def Cof (A : Adr) (b : Bool) : Addr := if b then A.C_Chance else A.C_Cost
def wordS (b : Bool) : Str := if b then "chance" else "cost"
def spWord (b : Bool) : Sp := fun vs H Q _ => ∃ x, vs = [x] ∧ Q (.str (wordS b)) H
def spEmpty (b : Bool) : Sp := fun vs H Q _ => ∃ x, vs = [x] ∧ NewPair H Q (if b then 1 else 0) 1
def spTakes (b : Bool) : Sp := fun vs H Q _ => ∃ (x : V) (r : Addr) (p q : Int), vs = [x, .ref r] ∧ H r = some (.tup [.int p, .int q]) ∧ Q (.bl (!b || decide (0 < p))) H
def joinTop (b : Bool) (p q p' q' : Int) : Int := if b then p * p' else p * q' + p' * q
def spJoin (b : Bool) : Sp := fun vs H Q _ => ∃ (x : V) (r1 r2 : Addr) (p q p' q' : Int), vs = [x, .ref r1, .ref r2] ∧ Two H r1 r2 p q p' q' ∧
  ∀ X Y, Low X Y → X * (q * q') = joinTop b p q p' q' * Y → X.natAbs ≤ (joinTop b p q p' q').natAbs → Y.natAbs ≤ (q * q').natAbs → NewPair H Q X Y
def aheadB (b : Bool) (p q p' q' : Int) : Bool := if b then decide (p' * q < p * q') else decide (p * q' < p' * q)
def spAhead (b : Bool) : Sp := fun vs H Q _ => ∃ (x : V) (r1 r2 : Addr) (p q p' q' : Int), vs = [x, .ref r1, .ref r2] ∧ Two H r1 r2 p q p' q' ∧ Q (.bl (aheadB b p q p' q')) H
theorem cmp_lt (x y : Int) : decide (cmpI x y < 0) = decide (x < y) := by
  unfold cmpI
  by_cases h : x < y
  · simp [h]
  · by_cases h2 : y < x
    · simp [h, h2]
    · simp [h, h2]
theorem cmp_gt (x y : Int) : decide (0 < cmpI x y) = decide (y < x) := by
  unfold cmpI
  by_cases h : x < y
  · have h2 : ¬ y < x := by omega
    simp [h, h2]
  · by_cases h2 : y < x
    · simp [h, h2]
    · simp [h, h2]
abbrev sp_Cost_word (_K : PySem.W.Frag) : Sp := spWord false
theorem ok_Cost_word {A : Adr} (T : Txt K mg A) : FnOk P w K mg base CX0 1 A.f_Cost_word A.d_Cost_word ["self"] (sp_Cost_word K) := by
  refine T.F_Cost_word.okQ sc_Cost_word (fun vs H Q E h => ?_) (fun cdv Ar outer s H vs Q E hr h => ?_)
  · obtain ⟨x, rfl, _⟩ := h
    rfl
  · have hu := hr.units0
    obtain ⟨x, rfl, k⟩ := h
    refine ⟨_, (qpss_one (qps_ret qpe_str)), ?_⟩
    exact k
abbrev sp_Chance_word (_K : PySem.W.Frag) : Sp := spWord true
theorem ok_Chance_word {A : Adr} (T : Txt K mg A) : FnOk P w K mg base CX0 1 A.f_Chance_word A.d_Chance_word ["self"] (sp_Chance_word K) := by
  refine T.F_Chance_word.okQ sc_Chance_word (fun vs H Q E h => ?_) (fun cdv Ar outer s H vs Q E hr h => ?_)
  · obtain ⟨x, rfl, _⟩ := h
    rfl
  · have hu := hr.units0
    obtain ⟨x, rfl, k⟩ := h
    refine ⟨_, (qpss_one (qps_ret qpe_str)), ?_⟩
    exact k
abbrev sp_Cost_empty (_K : PySem.W.Frag) : Sp := spEmpty false
theorem ok_Cost_empty {A : Adr} (T : Txt K mg A) : FnOk P w K mg base CX0 1 A.f_Cost_empty A.d_Cost_empty ["self"] (sp_Cost_empty K) := by
  refine T.F_Cost_empty.okQ sc_Cost_empty (fun vs H Q E h => ?_) (fun cdv Ar outer s H vs Q E hr h => ?_)
  · obtain ⟨x, rfl, _⟩ := h
    rfl
  · have hu := hr.units0
    obtain ⟨x, rfl, k⟩ := h
    refine ⟨_, (qpss_one (qps_ret (qpe_tup (qpa_i (qpa_i qpa_nil))))), ?_⟩
    exact ⟨by show 2 ≤ sizeLine; decide, fun r hr => k r _ (Same.upd hr) upd_same⟩
abbrev sp_Chance_empty (_K : PySem.W.Frag) : Sp := spEmpty true
theorem ok_Chance_empty {A : Adr} (T : Txt K mg A) : FnOk P w K mg base CX0 1 A.f_Chance_empty A.d_Chance_empty ["self"] (sp_Chance_empty K) := by
  refine T.F_Chance_empty.okQ sc_Chance_empty (fun vs H Q E h => ?_) (fun cdv Ar outer s H vs Q E hr h => ?_)
  · obtain ⟨x, rfl, _⟩ := h
    rfl
  · have hu := hr.units0
    obtain ⟨x, rfl, k⟩ := h
    refine ⟨_, (qpss_one (qps_ret (qpe_tup (qpa_i (qpa_i qpa_nil))))), ?_⟩
    exact ⟨by show 2 ≤ sizeLine; decide, fun r hr => k r _ (Same.upd hr) upd_same⟩
abbrev sp_Cost_takes (_K : PySem.W.Frag) : Sp := spTakes false
theorem ok_Cost_takes {A : Adr} (T : Txt K mg A) : FnOk P w K mg base CX0 1 A.f_Cost_takes A.d_Cost_takes ["self", "weight"] (sp_Cost_takes K) := by
  refine T.F_Cost_takes.okQ sc_Cost_takes (fun vs H Q E h => ?_) (fun cdv Ar outer s H vs Q E hr h => ?_)
  · obtain ⟨x, r, p, q, rfl, _⟩ := h
    rfl
  · have hu := hr.units0
    obtain ⟨x, r, p, q, rfl, hr1, k⟩ := h
    refine ⟨_, (qpss_one (qps_ret qpe_bl)), ?_⟩
    exact k
abbrev sp_Chance_takes (_K : PySem.W.Frag) : Sp := spTakes true
theorem ok_Chance_takes {A : Adr} (T : Txt K mg A) : FnOk P w K mg base CX0 1 A.f_Chance_takes A.d_Chance_takes ["self", "weight"] (sp_Chance_takes K) := by
  refine T.F_Chance_takes.okQ sc_Chance_takes (fun vs H Q E h => ?_) (fun cdv Ar outer s H vs Q E hr h => ?_)
  · obtain ⟨x, r, p, q, rfl, _⟩ := h
    rfl
  · have hu := hr.units0
    obtain ⟨x, r, p, q, rfl, hr1, k⟩ := h
    refine ⟨_, (qpss_one (qps_ret (qpe_cmpR op_gt (qpe_ix (ki_tup (K := K) rfl) (qpv 1) qpe_int (fun _ _ => rfl)) qpe_int (nomark _)))), ?_⟩
    walk_at "go"
    exact k
abbrev sp_Cost_join (_K : PySem.W.Frag) : Sp := spJoin false
theorem ok_Cost_join {A : Adr} (T : Txt K mg A) : FnOk P w K mg base CX0 3 A.f_Cost_join A.d_Cost_join ["self", "one", "other"] (sp_Cost_join K) := by
  have G_sum_of := ok_sum_of (P := P) (w := w) (base := base) T
  refine T.F_Cost_join.okQ sc_Cost_join (fun vs H Q E h => ?_) (fun cdv Ar outer s H vs Q E hr h => ?_)
  · obtain ⟨x, r1, r2, p, q, p', q', rfl, _⟩ := h
    rfl
  · have hu := hr.units0
    obtain ⟨x, r1, r2, p, q, p', q', rfl, t, k⟩ := h
    refine ⟨_, (qpss_one (qps_ret (qpe_f G_sum_of (hr.mono (by decide)) (by rfl) T.m_sum_of T.k_sum_of T.a_sum_of .nil pass0 (qpa_c (qpv 1) (qpa_c (qpv 2) qpa_nil))))), ?_⟩
    exact ⟨_, rfl, _, rfl, r1, r2, p, q, p', q', rfl, t, k⟩
abbrev sp_Chance_join (_K : PySem.W.Frag) : Sp := spJoin true
theorem ok_Chance_join {A : Adr} (T : Txt K mg A) : FnOk P w K mg base CX0 3 A.f_Chance_join A.d_Chance_join ["self", "one", "other"] (sp_Chance_join K) := by
  have G_product_of := ok_product_of (P := P) (w := w) (base := base) T
  refine T.F_Chance_join.okQ sc_Chance_join (fun vs H Q E h => ?_) (fun cdv Ar outer s H vs Q E hr h => ?_)
  · obtain ⟨x, r1, r2, p, q, p', q', rfl, _⟩ := h
    rfl
  · have hu := hr.units0
    obtain ⟨x, r1, r2, p, q, p', q', rfl, t, k⟩ := h
    refine ⟨_, (qpss_one (qps_ret (qpe_f G_product_of (hr.mono (by decide)) (by rfl) T.m_product_of T.k_product_of T.a_product_of .nil pass0 (qpa_c (qpv 1) (qpa_c (qpv 2) qpa_nil))))), ?_⟩
    exact ⟨_, rfl, _, rfl, r1, r2, p, q, p', q', rfl, t, k⟩
abbrev sp_Cost_ahead (_K : PySem.W.Frag) : Sp := spAhead false
theorem ok_Cost_ahead {A : Adr} (T : Txt K mg A) : FnOk P w K mg base CX0 2 A.f_Cost_ahead A.d_Cost_ahead ["self", "one", "other"] (sp_Cost_ahead K) := by
  have G_compared := ok_compared (P := P) (w := w) (base := base) T
  refine T.F_Cost_ahead.okQ sc_Cost_ahead (fun vs H Q E h => ?_) (fun cdv Ar outer s H vs Q E hr h => ?_)
  · obtain ⟨x, r1, r2, p, q, p', q', rfl, _⟩ := h
    rfl
  · have hu := hr.units0
    obtain ⟨x, r1, r2, p, q, p', q', rfl, t, k⟩ := h
    refine ⟨_, (qpss_one (qps_ret (qpe_cmpR op_lt (qpe_f G_compared (hr.mono (by decide)) (by rfl) T.m_compared T.k_compared T.a_compared .nil pass0 (qpa_c (qpv 1) (qpa_c (qpv 2) qpa_nil))) qpe_int (nomark _)))), ?_⟩
    refine ⟨_, rfl, _, rfl, r1, r2, p, q, p', q', rfl, t, _, _, rfl, rfl, ?_⟩
    dsimp only
    rw [cmp_lt]
    exact k
abbrev sp_Chance_ahead (_K : PySem.W.Frag) : Sp := spAhead true
theorem ok_Chance_ahead {A : Adr} (T : Txt K mg A) : FnOk P w K mg base CX0 2 A.f_Chance_ahead A.d_Chance_ahead ["self", "one", "other"] (sp_Chance_ahead K) := by
  have G_compared := ok_compared (P := P) (w := w) (base := base) T
  refine T.F_Chance_ahead.okQ sc_Chance_ahead (fun vs H Q E h => ?_) (fun cdv Ar outer s H vs Q E hr h => ?_)
  · obtain ⟨x, r1, r2, p, q, p', q', rfl, _⟩ := h
    rfl
  · have hu := hr.units0
    obtain ⟨x, r1, r2, p, q, p', q', rfl, t, k⟩ := h
    refine ⟨_, (qpss_one (qps_ret (qpe_cmpR op_gt (qpe_f G_compared (hr.mono (by decide)) (by rfl) T.m_compared T.k_compared T.a_compared .nil pass0 (qpa_c (qpv 1) (qpa_c (qpv 2) qpa_nil))) qpe_int (nomark _)))), ?_⟩
    refine ⟨_, rfl, _, rfl, r1, r2, p, q, p', q', rfl, t, _, _, rfl, rfl, ?_⟩
    dsimp only
    rw [cmp_gt]
    exact k
theorem mok_word {A : Adr} (T : Txt K mg A) (b : Bool) : MOk P w K mg base 1 (Cof A b) "word" (spWord b) := by
  cases b
  · exact ⟨T.cl_Cost, _, _, _, T.me_Cost_word, ok_Cost_word T, T.a_Cost_word⟩
  · exact ⟨T.cl_Chance, _, _, _, T.me_Chance_word, ok_Chance_word T, T.a_Chance_word⟩
theorem mok_empty {A : Adr} (T : Txt K mg A) (b : Bool) : MOk P w K mg base 1 (Cof A b) "empty" (spEmpty b) := by
  cases b
  · exact ⟨T.cl_Cost, _, _, _, T.me_Cost_empty, ok_Cost_empty T, T.a_Cost_empty⟩
  · exact ⟨T.cl_Chance, _, _, _, T.me_Chance_empty, ok_Chance_empty T, T.a_Chance_empty⟩
theorem mok_takes {A : Adr} (T : Txt K mg A) (b : Bool) : MOk P w K mg base 1 (Cof A b) "takes" (spTakes b) := by
  cases b
  · exact ⟨T.cl_Cost, _, _, _, T.me_Cost_takes, ok_Cost_takes T, T.a_Cost_takes⟩
  · exact ⟨T.cl_Chance, _, _, _, T.me_Chance_takes, ok_Chance_takes T, T.a_Chance_takes⟩
theorem mok_join {A : Adr} (T : Txt K mg A) (b : Bool) : MOk P w K mg base 3 (Cof A b) "join" (spJoin b) := by
  cases b
  · exact ⟨T.cl_Cost, _, _, _, T.me_Cost_join, ok_Cost_join T, T.a_Cost_join⟩
  · exact ⟨T.cl_Chance, _, _, _, T.me_Chance_join, ok_Chance_join T, T.a_Chance_join⟩
theorem mok_ahead {A : Adr} (T : Txt K mg A) (b : Bool) : MOk P w K mg base 2 (Cof A b) "ahead" (spAhead b) := by
  cases b
  · exact ⟨T.cl_Cost, _, _, _, T.me_Cost_ahead, ok_Cost_ahead T, T.a_Cost_ahead⟩
  · exact ⟨T.cl_Chance, _, _, _, T.me_Chance_ahead, ok_Chance_ahead T, T.a_Chance_ahead⟩
theorem same_made {H : Hp} {x dx : Addr} {o u : HO} (hx : H x = none) (hd : H dx = none) (ne : dx ≠ x) : Same H (upd (upd H dx u) x o) :=
  (Same.upd hd).trans (Same.upd (by rw [upd_ne ne.symm]; exact hx))
theorem str_cc : ¬ ("chance" : Str) = "cost" := by decide +kernel
def sp_scale_of (_K : PySem.W.Frag) (A : Adr) : Sp := fun vs H Q _ => ∃ b : Bool, vs = [.str (wordS b)] ∧ ∀ x dx H', Same H H' → H' x = some (.ins (Cof A b) dx []) → Q (.ref x) H'
theorem ok_scale_of {A : Adr} (T : Txt K mg A) : FnOk P w K mg base CX0 1 A.f_scale_of A.d_scale_of ["word"] (sp_scale_of K A) := by
  refine T.F_scale_of.okQ sc_scale_of (fun vs H Q E h => ?_) (fun cdv Ar outer s H vs Q E hr h => ?_)
  · obtain ⟨b, rfl, _⟩ := h
    rfl
  · have hu := hr.units0
    obtain ⟨b, rfl, k⟩ := h
    refine ⟨_, (qpss_cons (qps_if (qpt_cmpR op_eq (qpv 0) qpe_str (nomark _)) (qpss_one (qps_ret (qpe_makeP T.mk_Cost (by rfl) T.M_Cost))) qpss_nil)
      (qpss_cons (qps_if (qpt_cmpR op_eq (qpv 0) qpe_str (nomark _)) (qpss_one (qps_ret (qpe_makeP T.mk_Chance (by rfl) T.M_Chance))) qpss_nil)
      (qpss_one qps_never))), ?_⟩
    refine ⟨_, rfl, rfl, _, rfl, ?_⟩
    cases b with
    | false =>
      refine iteDT rfl ?_
      intro x dx hx hd ne
      exact k x dx _ (same_made hx hd ne) upd_same
    | true =>
      refine iteDF (fun z => str_cc (V.str.inj z)) ?_
      refine ⟨_, rfl, rfl, _, rfl, ?_⟩
      refine iteDT rfl ?_
      intro x dx hx hd ne
      exact k x dx _ (same_made hx hd ne) upd_same
def sp_l_mix (_K : PySem.W.Frag) : Sp := fun vs H Q _ => ∃ c k : Int, vs = [.int c, .int k] ∧ -(2 ^ 60) < k ∧ k < 2 ^ 60 ∧ ∀ m H', 0 ≤ m → m < 1999999973 → Same H H' → Q (.int m) H'
theorem ok_l_mix {A : Adr} (T : Txt K mg A) : FnOk P w K mg base CX0 1 A.f_l_mix A.d_l_mix ["_law_cell", "_law_k"] (sp_l_mix K) := by
  refine T.F_l_mix.okQ sc_l_mix (fun vs H Q E h => ?_) (fun cdv Ar outer s H vs Q E hr h => ?_)
  · obtain ⟨c, k, rfl, _⟩ := h
    rfl
  · have hu := hr.units0
    obtain ⟨c, k, rfl, k1, k2, kk⟩ := h
    refine ⟨_, (qpss_cons (qps_set (i := 2) sc_l_mix.nd rfl (Or.inl rfl) (qpe_ix (ki_list (K := K) rfl) (qpe_lst (qpa_i (qpa_i (qpa_i (qpa_i (qpa_i (qpa_i (qpa_i qpa_nil)))))))) (qpe_op op_mod (qpv 1) qpe_int) (fun _ _ => rfl)))
      (qpss_cons (qps_set (i := 3) sc_l_mix.nd rfl (Or.inl rfl) (qpe_op op_mod (qpe_op op_mulX (qpe_op op_add (qpe_op op_add (qpe_op op_mod (qpv 0) qpe_int) (qpe_op op_mulX (qpe_op op_mulX qpe_int (qpv 1)) (qpv 1))) qpe_int) (qpv 2)) qpe_int))
      (qpss_one (qps_ret (qpe_op op_mod (qpe_op op_mulX (qpv 3) (qpv 3)) qpe_int))))), ?_⟩
    refine ⟨by show 7 ≤ sizeLine; decide, fun l hl => ?_⟩
    have a1 := Int.emod_nonneg k (show (7 : Int) ≠ 0 by decide)
    have a2 := Int.emod_lt_of_pos k (show (0 : Int) < 7 by decide)
    obtain ⟨j, ej⟩ : ∃ j : Nat, k % 7 = (j : Int) := ⟨(k % 7).toNat, by omega⟩
    obtain ⟨f, hf, hb⟩ : ∃ f : Int, ([V.int 48271, .int 69621, .int 16807, .int 40692, .int 30269, .int 62089, .int 45991] : List V)[j]? = some (.int f) ∧ 0 < f ∧ f < 100000 := by
      have hj : j < 7 := by omega
      match j, hj with
      | 0, _ => exact ⟨_, rfl, by decide, by decide⟩
      | 1, _ => exact ⟨_, rfl, by decide, by decide⟩
      | 2, _ => exact ⟨_, rfl, by decide, by decide⟩
      | 3, _ => exact ⟨_, rfl, by decide, by decide⟩
      | 4, _ => exact ⟨_, rfl, by decide, by decide⟩
      | 5, _ => exact ⟨_, rfl, by decide, by decide⟩
      | 6, _ => exact ⟨_, rfl, by decide, by decide⟩
    refine ⟨_, rfl, _, _, rfl, rfl, (by show (0 : Int) < 7; decide), l, _, _, _, rfl, rfl, SqL.of upd_same, by rw [ej]; exact atI_nat hf, ?_⟩
    refine ⟨_, rfl, _, _, rfl, rfl, (by show (0 : Int) < 2147483647; decide), _, rfl, _, _, rfl, rfl, .l (by decide) (by decide), _, rfl, _, _, rfl, rfl, .r (by omega) (by omega), _, _, rfl, rfl, _, _, rfl, rfl, _, rfl, _, _, rfl, rfl, .r (by omega) (by omega), _, _, rfl, rfl, (by show (0 : Int) < 2147483629; decide), ?_⟩
    generalize hn : ((c % 2147483647 + 97 * k * k + 11) * f) % 2147483629 = n
    have n1 : 0 ≤ n := hn ▸ Int.emod_nonneg _ (by decide)
    have n2 : n < 2147483629 := hn ▸ Int.emod_lt_of_pos _ (by decide)
    refine ⟨_, rfl, _, rfl, _, _, rfl, rfl, .l (by omega) (by omega), _, _, rfl, rfl, (by show (0 : Int) < 1999999973; decide), ?_⟩
    exact kk _ _ (Int.emod_nonneg _ (by decide)) (Int.emod_lt_of_pos _ (by decide)) (Same.upd hl)
/-- top // g and bottom // g -/
def sp_l_lowest (_K : PySem.W.Frag) : Sp := fun vs H Q _ => ∃ a b : Int, vs = [.int a, .int b] ∧ 0 < b ∧ Bd 9000 b ∧
  ∀ p q, p = a.fdiv (Int.gcd a b : Int) → q = b.fdiv (Int.gcd a b : Int) → Low p q → p * b = a * q → p.natAbs ≤ a.natAbs → q.natAbs ≤ b.natAbs → NewPair H Q p q
theorem ok_l_lowest {A : Adr} (T : Txt K mg A) : FnOk P w K mg base CX0 1 A.f_l_lowest A.d_l_lowest ["_law_top", "_law_bottom"] (sp_l_lowest K) := by
  refine T.F_l_lowest.okQ sc_l_lowest (fun vs H Q E h => ?_) (fun cdv Ar outer s H vs Q E hr h => ?_)
  · obtain ⟨a, b, rfl, _⟩ := h
    rfl
  · have hu := hr.units0
    obtain ⟨a, b, rfl, hb, hB, k⟩ := h
    refine ⟨_, (qpss_cons (qps_set (i := 2) sc_l_lowest.nd rfl (Or.inl rfl) (qpe_b call_abs (by rfl) T.b_abs PyProof.Rows.boot_abs (qpa_c (qpv 0) qpa_nil)))
      (qpss_cons (qps_set (i := 3) sc_l_lowest.nd rfl (Or.inl rfl) (qpv 1))
      (qpss_cons (qps_while PassesOwn.never (qpt_cmpR op_gt (qpv 3) qpe_int (nomark _)) (qpss_cons (qps_set (i := 4) sc_l_lowest.nd rfl (Or.inl rfl) (qpe_op op_modN (qpv 2) (qpv 3)))
      (qpss_cons (qps_set (i := 2) sc_l_lowest.nd rfl (Or.inl rfl) (qpv 3))
      (qpss_one (qps_set (i := 3) sc_l_lowest.nd rfl (Or.inl rfl) (qpv 4))))))
      (qpss_one (qps_ret (qpe_tup (qpa_c (qpe_op op_fdivB (qpv 0) (qpv 2)) (qpa_c (qpe_op op_fdivB (qpv 1) (qpv 2)) qpa_nil)))))))), ?_⟩
    have gp := gcd_pos (a := a) (b := b) (by omega)
    have gB : Bd 9000 (Int.gcd a b : Int) := hB.le (by
      have := Int.le_of_dvd hb (Int.gcd_dvd_right a b)
      omega)
    refine ⟨_, rfl, _, rfl, ?_⟩
    refine ⟨_, rfl, ?_⟩
    refine while_raw (fun σ' H' => H' = H ∧ ∃ (x y : Int) (v : Option V), σ' = [some (.int a), some (.int b), some (.int x), some (.int y), v] ∧ 0 ≤ x ∧ 0 ≤ y ∧ Int.gcd x y = Int.gcd a b) (fun σ' _ => match σ' with | [_, _, _, some (.int y), _] => y.natAbs | _ => 0)
      ⟨rfl, (if a < 0 then -a else a), b, none, rfl, by split <;> omega, by omega, by split <;> simp [Int.neg_gcd]⟩ ?_
    rintro σ' H' ⟨rfl, x, y, v, rfl, hx, hy, e⟩
    refine ⟨_, rfl, _, _, rfl, rfl, _, rfl, ?_⟩
    refine iteD (fun hp => WTurn.mk ?_) (fun hp => ?_)
    · refine ⟨_, rfl, _, rfl, _, _, rfl, rfl, (show y ≠ 0 by omega), _, rfl, _, rfl, ?_⟩
      refine ⟨⟨rfl, y, x.fmod y, _, rfl, by omega, Int.fmod_nonneg hx hy, (gcd_fmod x y).trans e⟩, fmod_lt x y (by omega)⟩
    · have ey : y = 0 := by omega
      subst ey
      have ex : x = (Int.gcd a b : Int) := by
        rw [← e, Int.gcd_zero_right]
        omega
      subst ex
      have z := low_of (a := a) (b := b) (d := (Int.gcd a b : Int)) (by omega) (.inl rfl) (Int.mul_pos hb gp)
      refine ⟨_, rfl, _, rfl, _, _, rfl, rfl, ⟨by omega, gB⟩, _, rfl, _, rfl, _, _, rfl, rfl, ⟨by omega, gB⟩, by show 2 ≤ sizeLine; decide, fun r hr => ?_⟩
      exact k _ _ rfl rfl z.1 z.2.1 z.2.2.1 z.2.2.2 _ _ (Same.upd hr) upd_same
/-- of a whole number True -/
def sp_l_whole (_K : PySem.W.Frag) : Sp := fun vs H Q _ => ∃ a : Int, vs = [.int a] ∧ Q (.bl true) H
theorem ok_l_whole {A : Adr} (T : Txt K mg A) : FnOk P w K mg base CX0 1 A.f_l_whole A.d_l_whole ["_law_found"] (sp_l_whole K) := by
  refine T.F_l_whole.okQ sc_l_whole (fun vs H Q E h => ?_) (fun cdv Ar outer s H vs Q E hr h => ?_)
  · obtain ⟨a, rfl, _⟩ := h
    rfl
  · have hu := hr.units0
    obtain ⟨a, rfl, k⟩ := h
    refine ⟨_, (qpss_one (qps_ret (qpe_and (qpe_b (kc_isi (K := K) rfl) (by rfl) T.b_isinstance PyProof.Rows.boot_isinstance (qpa_c (qpv 0) (qpa_c (qpe_bltn (by rfl) T.b_int PyProof.Rows.boot_int (show RelV (.ty "int") _ from rfl)) qpa_nil))) (qpe_one (qpe_not (qpe_b (kc_isi (K := K) rfl) (by rfl) T.b_isinstance PyProof.Rows.boot_isinstance (qpa_c (qpv 0) (qpa_c (qpe_bltn (by rfl) T.b_bool PyProof.Rows.boot_bool (show RelV (.ty "bool") _ from rfl)) qpa_nil)))))))), ?_⟩
    refine ⟨_, rfl, _, _, _, _, true, rfl, fun u r => r, TyOf.int a, (by with_unfolding_all rfl), _, rfl, ?_⟩
    refine iteT ?_
    refine ⟨_, rfl, _, _, _, _, false, rfl, fun u r => r, TyOf.int a, (by with_unfolding_all rfl), _, rfl, ?_⟩
    exact k
/-- of the fraction due True -/
def sp_l_fraction (_K : PySem.W.Frag) : Sp := fun vs H Q _ => ∃ (r : Addr) (p q a b : Int), vs = [.ref r, .int a, .int b] ∧ H r = some (.tup [.int p, .int q]) ∧ Low p q ∧ p * b = a * q ∧ Bd 9000 p ∧ Bd 9000 q ∧ Bd 9000 a ∧ Bd 9000 b ∧ ∀ H', Same H H' → Q (.bl true) H'
theorem ok_l_fraction {A : Adr} (T : Txt K mg A) : FnOk P w K mg base CX0 2 A.f_l_fraction A.d_l_fraction ["_law_found", "_law_top", "_law_bottom"] (sp_l_fraction K) := by
  have G_l_whole := ok_l_whole (P := P) (w := w) (base := base) T
  have G_l_lowest := ok_l_lowest (P := P) (w := w) (base := base) T
  refine T.F_l_fraction.okQ sc_l_fraction (fun vs H Q E h => ?_) (fun cdv Ar outer s H vs Q E hr h => ?_)
  · obtain ⟨r, p, q, a, b, rfl, _⟩ := h
    rfl
  · have hu := hr.units0
    obtain ⟨r, p, q, a, b, rfl, hR, lw, e, Bp, Bq, Ba, Bb, k⟩ := h
    refine ⟨_, (qpss_cons (qps_if (qPWpt (qpw_or (qpt_not (qpt_val (qpe_b (kc_isi (K := K) rfl) (by rfl) T.b_isinstance PyProof.Rows.boot_isinstance (qpa_c (qpv 0) (qpa_c (qpe_bltn (by rfl) T.b_tuple PyProof.Rows.boot_tuple (show RelV (.ty "tuple") _ from rfl)) qpa_nil))))) (qpw_or (qpt_cmpR op_ne (qpe_b (kc_len (K := K) rfl) (by rfl) T.b_len PySem.boot_len (qpa_c (qpv 0) qpa_nil)) qpe_int (nomark _)) (qpw_or (qpt_not (qpt_val (qpe_f G_l_whole (hr.mono (by decide)) (by rfl) T.m_l_whole T.k_l_whole T.a_l_whole .nil pass0 (qpa_c (qpe_ix (ki_tup (K := K) rfl) (qpv 0) qpe_int (fun _ _ => rfl)) qpa_nil)))) (qpw_or1 (qpt_not (qpt_val (qpe_f G_l_whole (hr.mono (by decide)) (by rfl) T.m_l_whole T.k_l_whole T.a_l_whole .nil pass0 (qpa_c (qpe_ix (ki_tup (K := K) rfl) (qpv 0) qpe_int (fun _ _ => rfl)) qpa_nil))))))))) (qpss_one (qps_ret qpe_bl)) qpss_nil)
      (qpss_one (qps_ret (qpe_and (qpe_cmpR op_gt (qpe_ix (ki_tup (K := K) rfl) (qpv 0) qpe_int (fun _ _ => rfl)) qpe_int (nomark _)) (qpe_and (qpe_cmpR (op_eqT hu) (qpe_f G_l_lowest (hr.mono (by decide)) (by rfl) T.m_l_lowest T.k_l_lowest T.a_l_lowest .nil pass0 (qpa_c (qpe_ix (ki_tup (K := K) rfl) (qpv 0) qpe_int (fun _ _ => rfl)) (qpa_c (qpe_ix (ki_tup (K := K) rfl) (qpv 0) qpe_int (fun _ _ => rfl)) qpa_nil))) (qpv 0) (nomark _)) (qpe_one (qpe_cmpR op_eq (qpe_op op_mulX (qpe_ix (ki_tup (K := K) rfl) (qpv 0) qpe_int (fun _ _ => rfl)) (qpv 2)) (qpe_op op_mulX (qpv 1) (qpe_ix (ki_tup (K := K) rfl) (qpv 0) qpe_int (fun _ _ => rfl))) (nomark _)))))))), ?_⟩
    have i0 : atI [V.int p, V.int q] 0 = some (.int p) := rfl
    have i1 : atI [V.int p, V.int q] 1 = some (.int q) := rfl
    refine ⟨_, rfl, _, _, _, _, true, rfl, fun u r => r, TyOf.tup hR, (by with_unfolding_all rfl), _, rfl, ?_⟩
    refine iteF ?_
    refine ⟨_, rfl, r, _, rfl, .inr (SqT.of hR), rfl, _, rfl, ?_⟩
    refine iteNS rfl ?_
    refine ⟨_, rfl, r, _, _, _, rfl, rfl, SqT.of hR, i0, p, rfl, _, rfl, ?_⟩
    refine iteF ?_
    refine ⟨_, rfl, r, _, _, _, rfl, rfl, SqT.of hR, i1, q, rfl, _, rfl, ?_⟩
    refine iteF ?_
    refine ⟨_, rfl, r, _, _, _, rfl, rfl, SqT.of hR, i1, _, _, rfl, rfl, _, rfl, ?_⟩
    refine iteDT lw.pos ?_
    refine ⟨_, rfl, r, _, _, _, rfl, rfl, SqT.of hR, i0, _, rfl, r, _, _, _, rfl, rfl, SqT.of hR, i1, p, q, rfl, lw.pos, Bq, ?_⟩
    intro p' q' ep eq lw' e' _ _ r' H' sm hr'
    rw [lw.self.1] at ep
    rw [lw.self.2] at eq
    subst ep eq
    have hR' := sm _ _ hR
    refine ⟨_, rfl, r', r, _, _, rfl, rfl, SqT.of hr', SqT.of hR', rfl, rfl, _, rfl, ?_⟩
    refine iteB (c := True) (by simp [eqVs, eqV]) ?_
    refine ⟨_, rfl, r, _, _, _, rfl, rfl, SqT.of hR', i0, _, rfl, _, _, rfl, rfl, .b Bp Bb, _, rfl, _, rfl, r, _, _, _, rfl, rfl, SqT.of hR', i1, _, _, rfl, rfl, .b Ba Bq, rfl, ?_⟩
    have e3 : decide (V.int (p' * b) = V.int (a * q')) = true := by rw [e]; simp
    rw [e3]
    exact k H' sm
/-- a fraction in lowest terms -/
def sp_l_some (_K : PySem.W.Frag) : Sp := fun vs H Q _ => ∃ c e k : Int, vs = [.int c, .int e, .int k] ∧ -(2 ^ 60) < k ∧ k < 2 ^ 60 ∧ ∀ p q, Low p q → Bd 150 p → Bd 150 q → NewPair H Q p q
theorem ok_l_some {A : Adr} (T : Txt K mg A) : FnOk P w K mg base CX0 2 A.f_l_some A.d_l_some ["_law_cell", "_law_kept", "_law_k"] (sp_l_some K) := by
  have G_l_mix := ok_l_mix (P := P) (w := w) (base := base) T
  have G_l_lowest := ok_l_lowest (P := P) (w := w) (base := base) T
  refine T.F_l_some.okQ sc_l_some (fun vs H Q E h => ?_) (fun cdv Ar outer s H vs Q E hr h => ?_)
  · obtain ⟨c, e, k, rfl, _⟩ := h
    rfl
  · have hu := hr.units0
    obtain ⟨c, e, k, rfl, k1, k2, kk⟩ := h
    refine ⟨_, (qpss_cons (qps_set (i := 3) sc_l_some.nd rfl (Or.inl rfl) (qpe_f G_l_mix (hr.mono (by decide)) (by rfl) T.m_l_mix T.k_l_mix T.a_l_mix .nil pass0 (qpa_c (qpv 0) (qpa_c (qpv 2) qpa_nil))))
      (qpss_cons (qps_set (i := 4) sc_l_some.nd rfl (Or.inl rfl) (qpe_op op_mod (qpv 0) (qpe_op op_pow qpe_int qpe_int)))
      (qpss_cons (qps_set (i := 5) sc_l_some.nd rfl (Or.inl rfl) (qpe_op op_add qpe_int (qpe_op op_mod (qpv 1) (qpe_op op_pow qpe_int qpe_int))))
      (qpss_cons (qps_cut (qps_if (qpt_cmpR op_eq (qpe_op op_mod (qpv 3) qpe_int) qpe_int (nomark _)) (qpss_one (qps_set (i := 4) sc_l_some.nd rfl (Or.inl rfl) (qpe_op op_mod (qpe_op op_fdiv (qpv 3) qpe_int) qpe_int))) qpss_nil))
      (qpss_cons (qps_cut (qps_if (qpt_cmpR op_gt (qpe_op op_mod (qpv 3) qpe_int) qpe_int (nomark _)) (qpss_one (qps_set (i := 5) sc_l_some.nd rfl (Or.inl rfl) (qpe_op op_add qpe_int (qpe_op op_mod (qpe_op op_fdiv (qpv 3) qpe_int) qpe_int)))) qpss_nil))
      (qpss_cons (qps_cut (qps_if (qpt_cmpR op_eq (qpe_op op_mod (qpe_op op_fdiv (qpv 3) qpe_int) qpe_int) qpe_int (nomark _)) (qpss_one (qps_set (i := 4) sc_l_some.nd rfl (Or.inl rfl) (qpe_un un_neg (qpv 4)))) qpss_nil))
      (qpss_one (qps_ret (qpe_f G_l_lowest (hr.mono (by decide)) (by rfl) T.m_l_lowest T.k_l_lowest T.a_l_lowest .nil pass0 (qpa_c (qpv 4) (qpa_c (qpv 5) qpa_nil))))))))))), ?_⟩
    refine ⟨_, rfl, _, rfl, c, k, rfl, k1, k2, fun m H1 m1 m2 s1 => ?_⟩
    walk_at "go"
    have c1 := Int.emod_nonneg c (show (10 : Int) ^ (40 : Int).toNat ≠ 0 by decide)
    have c2 := Int.emod_lt_of_pos c (show (0 : Int) < 10 ^ (40 : Int).toNat by decide)
    have d1 := Int.emod_nonneg e (show (10 : Int) ^ (39 : Int).toNat ≠ 0 by decide)
    have d2 := Int.emod_lt_of_pos e (show (0 : Int) < 10 ^ (39 : Int).toNat by decide)
    dsimp only
    generalize c % (10 : Int) ^ (40 : Int).toNat = tp at c1 c2 ⊢
    generalize e % (10 : Int) ^ (39 : Int).toNat = bt at d1 d2 ⊢
    have B4 : Bd 150 tp := Bd.of (by omega) (Int.lt_of_lt_of_le c2 (by decide))
    have B5 : Bd 150 (1 + bt) := Bd.of (by omega) (Int.lt_of_le_of_lt (Int.add_le_add_left (Int.le_of_lt d2) 1) (by decide))
    let Mid : St → Hp → Prop := fun σ' H' => ∃ t b, σ' = [some (.int c), some (.int e), some (.int k), some (.int m), some (.int t), some (.int b)] ∧ Same H H' ∧ Bd 150 t ∧ 0 < b ∧ Bd 150 b
    refine ⟨Mid, ?_, ?_⟩
    · walk_at "go"
      refine iteVI (fun _ => ?_) (fun _ => ⟨_, _, rfl, s1, B4, by omega, B5⟩)
      walk_at "go"
      exact ⟨_, _, rfl, s1, small64 (by omega) (by omega), by omega, B5⟩
    rintro σ2 H2 ⟨t2, b2, rfl, s2, T2, P2, U2⟩
    refine ⟨Mid, ?_, ?_⟩
    · walk_at "go"
      refine iteD (fun _ => ?_) (fun _ => ⟨_, _, rfl, s2, T2, P2, U2⟩)
      walk_at "go"
      exact ⟨_, _, rfl, s2, T2, by omega, small64 (by omega) (by omega)⟩
    rintro σ3 H3 ⟨t3, b3, rfl, s3, T3, P3, U3⟩
    refine ⟨Mid, ?_, ?_⟩
    · walk_at "go"
      refine iteVI (fun _ => ?_) (fun _ => ⟨_, _, rfl, s3, T3, P3, U3⟩)
      walk_at "go"
      exact ⟨_, _, rfl, s3, T3.neg, P3, U3⟩
    rintro σ4 H4 ⟨t4, b4, rfl, s4, T4, P4, U4⟩
    walk_at "go"
    refine ⟨t4, b4, rfl, P4, U4.mono (by decide), fun p q _ _ lw _ l1 l2 r5 H5 s5 h5 => ?_⟩
    exact kk p q lw (T4.le l1) (U4.le l2) r5 H5 (s4.trans s5) h5
theorem pos_of {p q p' q' : Int} (h : p' * q = p * q') (hp : 0 < p) (hq : 0 < q) (hq' : 0 < q') : 0 < p' := by
  have : 0 < p' * q := by rw [h]; exact Int.mul_pos hp hq'
  exact Int.pos_of_mul_pos_left this hq
def sp_l_weight (_K : PySem.W.Frag) : Sp := fun vs H Q _ => ∃ (c e k : Int) (b : Bool), vs = [.int c, .int e, .int k, .bl b] ∧ -(2 ^ 60) < k ∧ k < 2 ^ 60 ∧ ∀ p q, Low p q → Bd 160 p → Bd 160 q → (b = true → 0 < p) → NewPair H Q p q
theorem ok_l_weight {A : Adr} (T : Txt K mg A) : FnOk P w K mg base CX0 3 A.f_l_weight A.d_l_weight ["_law_cell", "_law_kept", "_law_k", "_law_chance"] (sp_l_weight K) := by
  have G_l_some := ok_l_some (P := P) (w := w) (base := base) T
  have G_l_lowest := ok_l_lowest (P := P) (w := w) (base := base) T
  refine T.F_l_weight.okQ sc_l_weight (fun vs H Q E h => ?_) (fun cdv Ar outer s H vs Q E hr h => ?_)
  · obtain ⟨c, e, k, b, rfl, _⟩ := h
    rfl
  · have hu := hr.units0
    obtain ⟨c, e, k, b, rfl, k1, k2, kk⟩ := h
    refine ⟨_, (qpss_cons (qps_set (i := 4) sc_l_weight.nd rfl (Or.inl rfl) (qpe_f G_l_some (hr.mono (by decide)) (by rfl) T.m_l_some T.k_l_some T.a_l_some .nil pass0 (qpa_c (qpv 0) (qpa_c (qpv 1) (qpa_c (qpv 2) qpa_nil)))))
      (qpss_cons (qps_if (qpt_val (qpv 3)) (qpss_one (qps_ret (qpe_f G_l_lowest (hr.mono (by decide)) (by rfl) T.m_l_lowest T.k_l_lowest T.a_l_lowest .nil pass0 (qpa_c (qpe_op op_add (qpe_b call_abs (by rfl) T.b_abs PyProof.Rows.boot_abs (qpa_c (qpe_ix (ki_tup (K := K) rfl) (qpv 4) qpe_int (fun _ _ => rfl)) qpa_nil)) (qpe_bt call_int1 (by rfl) T.b_int PyProof.Rows.boot_int (qpa_c (qpe_cmpR op_eq (qpe_ix (ki_tup (K := K) rfl) (qpv 4) qpe_int (fun _ _ => rfl)) qpe_int (nomark _)) qpa_nil))) (qpa_c (qpe_ix (ki_tup (K := K) rfl) (qpv 4) qpe_int (fun _ _ => rfl)) qpa_nil))))) qpss_nil)
      (qpss_one (qps_ret (qpv 4))))), ?_⟩
    refine ⟨_, rfl, _, rfl, _, rfl, c, e, k, rfl, k1, k2, fun p q lw B C r H1 s1 h1 => ?_⟩
    refine ⟨_, rfl, b, rfl, ?_⟩
    cases b with
    | false => exact iteF ⟨_, rfl, kk p q lw (B.mono (by decide)) (C.mono (by decide)) (fun z => nomatch z) r H1 s1 h1⟩
    | true =>
      refine iteT ?_
      walk_at "go"
      refine .inr ⟨_, rfl, ?_⟩
      walk_at "go"
      dsimp only
      generalize ht : (if p < 0 then -p else p) + (if decide (V.int p = V.int 0) = true then 1 else 0) = t
      have t1 : 0 < t ∧ t.natAbs ≤ p.natAbs + 1 := by
        rw [← ht]
        by_cases z : p = 0
        · subst z; simp
        · have : ¬ V.int p = V.int 0 := fun y => z (V.int.inj y)
          simp only [this, decide_false, Bool.false_eq_true, if_false]
          split <;> omega
      have T1 : Bd 160 t := by
        have := B
        unfold Bd at *
        have e1 : (2 : Nat) ^ 160 = 2 ^ 10 * 2 ^ 150 := by decide
        have e2 : (2 : Nat) ^ 10 = 1024 := by decide
        omega
      refine ⟨t, q, rfl, lw.pos, C.mono (by decide), fun p' q' _ _ lw' e' l1 l2 r2 H2 s2 h2 => ?_⟩
      exact kk p' q' lw' (T1.le l1) ((C.le l2).mono (by decide)) (fun _ => pos_of e' t1.1 lw.pos lw'.pos) r2 H2 (s1.trans s2) h2
theorem at_word (b : Bool) : atI [V.str "cost", V.str "chance"] (if b = true then 1 else 0) = some (.str (wordS b)) := by cases b <;> rfl
def sp_l_sort (_K : PySem.W.Frag) (A : Adr) : Sp := fun vs H Q _ => ∃ (x dx : Addr) (b : Bool), vs = [.ref x, .bl b] ∧ H x = some (.ins (Cof A b) dx []) ∧ ∀ H', Same H H' → Q (.bl true) H'
theorem ok_l_sort {A : Adr} (T : Txt K mg A) : FnOk P w K mg base CX0 2 A.f_l_sort A.d_l_sort ["_law_scale", "_law_chance"] (sp_l_sort K A) := by
  refine T.F_l_sort.okQ sc_l_sort (fun vs H Q E h => ?_) (fun cdv Ar outer s H vs Q E hr h => ?_)
  · obtain ⟨x, dx, b, rfl, _⟩ := h
    rfl
  · have hu := hr.units0
    obtain ⟨x, dx, b, rfl, hx, k⟩ := h
    refine ⟨_, (qpss_cons (qps_if (qPWpt (qpw_or (qpt_not (qpt_val (qpe_b (kc_isi (K := K) rfl) (by rfl) T.b_isinstance PyProof.Rows.boot_isinstance (qpa_c (qpv 0) (qpa_c (qpe_glob (by rfl) T.M_Scale (show RelV (.ref _) _ from rfl)) qpa_nil))))) (qpw_or (qpt_cmpR op_ne (qpe_b (kc_isi (K := K) rfl) (by rfl) T.b_isinstance PyProof.Rows.boot_isinstance (qpa_c (qpv 0) (qpa_c (qpe_glob (by rfl) T.M_Chance (show RelV (.ref _) _ from rfl)) qpa_nil))) (qpv 1) (nomark _)) (qpw_or1 (qpt_cmpR op_eq (qpe_b (kc_isi (K := K) rfl) (by rfl) T.b_isinstance PyProof.Rows.boot_isinstance (qpa_c (qpv 0) (qpa_c (qpe_glob (by rfl) T.M_Cost (show RelV (.ref _) _ from rfl)) qpa_nil))) (qpv 1) (nomark _)))))) (qpss_one (qps_ret qpe_bl)) qpss_nil)
      (qpss_one (qps_ret (qpe_and (qpe_cmpR op_eq (qpe_methD0 (k := 1) (hr.mono (by decide)) (qpv 0)) (qpe_ix (ki_list (K := K) rfl) (qpe_lst (qpa_s (qpa_s qpa_nil))) (qpe_bt call_int1 (by rfl) T.b_int PyProof.Rows.boot_int (qpa_c (qpv 1) qpa_nil)) (fun _ _ => rfl)) (nomark _)) (qpe_one (qpe_cmpR (op_eqT hu) (qpe_methD0 (k := 1) (hr.mono (by decide)) (qpv 0)) (qpe_tup (qpa_c (qpe_bt call_int1 (by rfl) T.b_int PyProof.Rows.boot_int (qpa_c (qpv 1) qpa_nil)) (qpa_i qpa_nil))) (nomark _))))))), ?_⟩
    have ty : TyOf K H (.ref x) (.ref (Cof A b)) := by
      cases b
      · exact T.ty_Cost.ty T.cl_Cost hx
      · exact T.ty_Chance.ty T.cl_Chance hx
    have e1 : PySem.W.kitOne K (.ref (Cof A b)) (.ref A.C_Scale) = some true := match b with | false => T.i_Cost_Scale | true => T.i_Chance_Scale
    have e2 : PySem.W.kitOne K (.ref (Cof A b)) (.ref A.C_Chance) = some b := match b with | false => T.i_Cost_Chance | true => T.i_Chance_Chance
    have e3 : PySem.W.kitOne K (.ref (Cof A b)) (.ref A.C_Cost) = some (!b) := match b with | false => T.i_Cost_Cost | true => T.i_Chance_Cost
    refine ⟨_, rfl, _, _, _, _, true, rfl, fun u r => r, ty, e1, _, rfl, ?_⟩
    refine iteF ?_
    refine ⟨_, rfl, _, _, _, _, b, rfl, fun u r => r, ty, e2, _, rfl, rfl, _, rfl, ?_⟩
    refine iteNS rfl ?_
    refine ⟨_, rfl, _, _, _, _, !b, rfl, fun u r => r, ty, e3, _, rfl, rfl, _, rfl, ?_⟩
    refine iteDF (fun z => by cases b <;> cases z) ?_
    refine ⟨_, rfl, x, Cof A b, dx, [], spWord b, rfl, hx, mok_word T b, rfl, _, rfl, by show 2 ≤ sizeLine; decide, fun l hl => ?_⟩
    refine ⟨_, rfl, .inr ⟨b, rfl, l, _, _, _, rfl, rfl, SqL.of upd_same, at_word b, rfl, _, rfl, ?_⟩⟩
    refine iteDT rfl ?_
    refine ⟨_, rfl, x, Cof A b, dx, [], spEmpty b, rfl, Same.upd hl _ _ hx, mok_empty T b, rfl, _, rfl, fun r H' s' h' => ?_⟩
    refine ⟨_, rfl, .inr ⟨b, rfl, by show 2 ≤ sizeLine; decide, fun p hp => ?_⟩⟩
    refine ⟨r, p, _, _, rfl, rfl, SqT.of (Same.upd hp _ _ h'), SqT.of upd_same, rfl, rfl, ?_⟩
    have e4 : eqVs [V.int (if b = true then 1 else 0), V.int 1] [V.int (if b = true then 1 else 0), V.int 1] = true := by cases b <;> rfl
    rw [e4]
    exact k _ (((Same.upd hl).trans s').trans (Same.upd hp))
def sp_l_bool (_K : PySem.W.Frag) : Sp := fun vs H Q _ => ∃ b d : Bool, vs = [.bl b, .bl d] ∧ b = d ∧ Q (.bl true) H
theorem ok_l_bool {A : Adr} (T : Txt K mg A) : FnOk P w K mg base CX0 1 A.f_l_bool A.d_l_bool ["_law_found", "_law_due"] (sp_l_bool K) := by
  refine T.F_l_bool.okQ sc_l_bool (fun vs H Q E h => ?_) (fun cdv Ar outer s H vs Q E hr h => ?_)
  · obtain ⟨b, d, rfl, _⟩ := h
    rfl
  · have hu := hr.units0
    obtain ⟨b, d, rfl, e, k⟩ := h
    refine ⟨_, (qpss_one (qps_ret (qpe_and (qpe_b (kc_isi (K := K) rfl) (by rfl) T.b_isinstance PyProof.Rows.boot_isinstance (qpa_c (qpv 0) (qpa_c (qpe_bltn (by rfl) T.b_bool PyProof.Rows.boot_bool (show RelV (.ty "bool") _ from rfl)) qpa_nil))) (qpe_one (qpe_cmpR op_eq (qpv 0) (qpv 1) (nomark _)))))), ?_⟩
    subst e
    refine ⟨_, rfl, _, _, _, _, true, rfl, fun u r => r, TyOf.bl b, (by with_unfolding_all rfl), _, rfl, ?_⟩
    refine iteT ?_
    refine ⟨_, rfl, _, rfl, by cases b <;> rfl, ?_⟩
    rw [decide_eq_true rfl]
    exact k
def sp_law (K : PySem.W.Frag) : Sp := fun vs H Q _ => ∃ (a : Addr) (ns : List Int), vs = [.ref a] ∧ SqL K H a (ns.map V.int) ∧ ns.length ≤ 63 ∧ ∀ H', Q (.bl true) H'
theorem ok_law {A : Adr} (T : Txt K mg A) : FnOk P w K mg base CX0 4 A.f_law A.d_law ["_law_script"] (sp_law K) := by
  have G_scale_of := ok_scale_of (P := P) (w := w) (base := base) T
  have G_l_weight := ok_l_weight (P := P) (w := w) (base := base) T
  have G_l_some := ok_l_some (P := P) (w := w) (base := base) T
  have G_l_bool := ok_l_bool (P := P) (w := w) (base := base) T
  have G_l_sort := ok_l_sort (P := P) (w := w) (base := base) T
  have G_l_fraction := ok_l_fraction (P := P) (w := w) (base := base) T
  refine T.F_law.okQ sc_law (fun vs H Q E h => ?_) (fun cdv Ar outer s H vs Q E hr h => ?_)
  · obtain ⟨a, ns, rfl, _⟩ := h
    rfl
  · have hu := hr.units0
    obtain ⟨a, ns, rfl, hS, hlen, k⟩ := h
    refine ⟨_, (qpss_cons (qps_set (i := 1) sc_law.nd rfl (Or.inl rfl) qpe_int)
      (qpss_cons (qps_for PassesOwn.never rfl (qpi_enum (by rfl) T.b_enumerate (qpa_c (qpe_op (ko_catL (K := K) rfl) (qpe_op (ko_catL (K := K) rfl) (qpe_lst (qpa_i qpa_nil)) (qpv 0)) (qpe_lst (qpa_i qpa_nil))) qpa_nil)) (qk_gtup (K := K) (n := 2) rfl rfl (qpgs_cons (qpg_name (i := 2) sc_law.nd rfl (Or.inl rfl)) (qpgs_cons (qpg_name (i := 3) sc_law.nd rfl (Or.inl rfl)) qpgs_nil))) (qpss_cons (qps_set (i := 4) sc_law.nd rfl (Or.inl rfl) (qpe_cmpR op_eq (qpe_op op_mod (qpv 3) qpe_int) qpe_int (nomark _)))
      (qpss_cons (qps_set (i := 5) sc_law.nd rfl (Or.inl rfl) (qpe_f G_scale_of (hr.mono (by decide)) (by rfl) T.m_scale_of T.k_scale_of T.a_scale_of .nil pass0 (qpa_c (qpe_ix (ki_list (K := K) rfl) (qpe_lst (qpa_s (qpa_s qpa_nil))) (qpe_op op_mod (qpv 3) qpe_int) (fun _ _ => rfl)) qpa_nil)))
      (qpss_cons (qps_set (i := 6) sc_law.nd rfl (Or.inl rfl) (qpe_f G_l_weight (hr.mono (by decide)) (by rfl) T.m_l_weight T.k_l_weight T.a_l_weight .nil pass0 (qpa_c (qpv 3) (qpa_c (qpv 1) (qpa_c (qpv 2) (qpa_c (qpv 4) qpa_nil))))))
      (qpss_cons (qps_set (i := 7) sc_law.nd rfl (Or.inl rfl) (qpe_f G_l_weight (hr.mono (by decide)) (by rfl) T.m_l_weight T.k_l_weight T.a_l_weight .nil pass0 (qpa_c (qpv 1) (qpa_c (qpv 3) (qpa_c (qpe_op op_add (qpv 2) qpe_int) (qpa_c (qpv 4) qpa_nil))))))
      (qpss_cons (qps_cut (qps_if (qpt_cmpR op_eq (qpe_op op_mod (qpv 1) qpe_int) qpe_int (nomark _)) (qpss_one (qps_set (i := 7) sc_law.nd rfl (Or.inl rfl) (qpv 6))) qpss_nil))
      (qpss_cons (qps_set (i := 8) sc_law.nd rfl (Or.inl rfl) (qpe_f G_l_some (hr.mono (by decide)) (by rfl) T.m_l_some T.k_l_some T.a_l_some .nil pass0 (qpa_c (qpv 1) (qpa_c (qpv 3) (qpa_c (qpe_op op_add (qpv 2) qpe_int) qpa_nil)))))
      (qpss_cons (qps_cut (qps_if (qPWpt (qpw_or (qpt_not (qpt_val (qpe_f G_l_sort (hr.mono (by decide)) (by rfl) T.m_l_sort T.k_l_sort T.a_l_sort .nil pass0 (qpa_c (qpv 5) (qpa_c (qpv 4) qpa_nil))))) (qpw_or1 (qpt_not (qpt_val (qpe_f G_l_bool (hr.mono (by decide)) (by rfl) T.m_l_bool T.k_l_bool T.a_l_bool .nil pass0 (qpa_c (qpe_methD (k := 1) (hr.mono (by decide)) (qpv 5) (qpa_c (qpv 8) qpa_nil)) (qpa_c (qpe_or (qpe_cmpR op_gt (qpe_ix (ki_tup (K := K) rfl) (qpv 8) qpe_int (fun _ _ => rfl)) qpe_int (nomark _)) (qpe_one (qpe_not (qpv 4)))) qpa_nil)))))))) (qpss_one (qps_ret qpe_bl)) qpss_nil))
      (qpss_cons (qps_set (i := 9) sc_law.nd rfl (Or.inl rfl) (qpe_op op_add (qpe_op op_mulX (qpe_ix (ki_tup (K := K) rfl) (qpv 6) qpe_int (fun _ _ => rfl)) (qpe_ix (ki_tup (K := K) rfl) (qpv 7) qpe_int (fun _ _ => rfl))) (qpe_op op_mulX (qpe_ix (ki_tup (K := K) rfl) (qpv 7) qpe_int (fun _ _ => rfl)) (qpe_ix (ki_tup (K := K) rfl) (qpv 6) qpe_int (fun _ _ => rfl)))))
      (qpss_cons (qps_set (i := 10) sc_law.nd rfl (Or.inl rfl) (qpe_op op_sub (qpe_op op_mulX (qpe_ix (ki_tup (K := K) rfl) (qpv 6) qpe_int (fun _ _ => rfl)) (qpe_ix (ki_tup (K := K) rfl) (qpv 7) qpe_int (fun _ _ => rfl))) (qpe_op op_mulX (qpe_ix (ki_tup (K := K) rfl) (qpv 7) qpe_int (fun _ _ => rfl)) (qpe_ix (ki_tup (K := K) rfl) (qpv 6) qpe_int (fun _ _ => rfl)))))
      (qpss_cons (qps_cut (qps_if (qpt_val (qpv 4)) (qpss_cons (qps_set (i := 9) sc_law.nd rfl (Or.inl rfl) (qpe_op op_mulX (qpe_ix (ki_tup (K := K) rfl) (qpv 6) qpe_int (fun _ _ => rfl)) (qpe_ix (ki_tup (K := K) rfl) (qpv 7) qpe_int (fun _ _ => rfl))))
      (qpss_one (qps_set (i := 10) sc_law.nd rfl (Or.inl rfl) (qpe_un un_neg (qpv 10))))) qpss_nil))
      (qpss_cons (qps_cut (qps_if (qPWpt (qpw_or (qpt_not (qpt_val (qpe_f G_l_fraction (hr.mono (by decide)) (by rfl) T.m_l_fraction T.k_l_fraction T.a_l_fraction .nil pass0 (qpa_c (qpe_methD (k := 3) (hr.mono (by decide)) (qpv 5) (qpa_c (qpv 6) (qpa_c (qpv 7) qpa_nil))) (qpa_c (qpv 9) (qpa_c (qpe_op op_mulX (qpe_ix (ki_tup (K := K) rfl) (qpv 6) qpe_int (fun _ _ => rfl)) (qpe_ix (ki_tup (K := K) rfl) (qpv 7) qpe_int (fun _ _ => rfl))) qpa_nil)))))) (qpw_or1 (qpt_not (qpt_val (qpe_methD (k := 1) (hr.mono (by decide)) (qpv 5) (qpa_c (qpv 6) qpa_nil))))))) (qpss_one (qps_ret qpe_bl)) qpss_nil))
      (qpss_cons (qps_cut (qps_if (qPWpt (qpw_or (qpt_not (qpt_val (qpe_f G_l_bool (hr.mono (by decide)) (by rfl) T.m_l_bool T.k_l_bool T.a_l_bool .nil pass0 (qpa_c (qpe_methD (k := 2) (hr.mono (by decide)) (qpv 5) (qpa_c (qpv 6) (qpa_c (qpv 7) qpa_nil))) (qpa_c (qpe_cmpR op_lt (qpv 10) qpe_int (nomark _)) qpa_nil))))) (qpw_or1 (qpt_not (qpt_val (qpe_f G_l_bool (hr.mono (by decide)) (by rfl) T.m_l_bool T.k_l_bool T.a_l_bool .nil pass0 (qpa_c (qpe_methD (k := 2) (hr.mono (by decide)) (qpv 5) (qpa_c (qpv 7) (qpa_c (qpv 6) qpa_nil))) (qpa_c (qpe_cmpR op_gt (qpv 10) qpe_int (nomark _)) qpa_nil)))))))) (qpss_one (qps_ret qpe_bl)) qpss_nil))
      (qpss_cons (qps_cut (qps_if (qpt_not (qpt_val (qpe_f G_l_bool (hr.mono (by decide)) (by rfl) T.m_l_bool T.k_l_bool T.a_l_bool .nil pass0 (qpa_c (qpe_methD (k := 2) (hr.mono (by decide)) (qpv 5) (qpa_c (qpv 6) (qpa_c (qpv 6) qpa_nil))) (qpa_c qpe_bl qpa_nil))))) (qpss_one (qps_ret qpe_bl)) qpss_nil))
      (qpss_one (qps_set (i := 1) sc_law.nd rfl (Or.inl rfl) (qpv 3)))))))))))))))))
      (qpss_one (qps_ret qpe_bl)))), ?_⟩
    have hz : ([V.int 3] ++ ns.map V.int ++ [V.int 4]).length ≤ 65 := by rw [List.length_append, List.length_append, List.length_map]; simp; omega
    refine ⟨by show 1 ≤ sizeLine; decide, fun l1 n1 => ⟨_, rfl, l1, a, [.int 3], ns.map V.int, rfl, rfl, SqL.of upd_same, (Same.upd n1).seq hS, by rw [List.length_map]; exact Nat.le_trans (Nat.add_le_add_left hlen 1) (by decide), fun l2 n2 => ?_⟩⟩
    refine ⟨by show 1 ≤ sizeLine; decide, fun l3 n3 => ⟨l2, l3, [.int 3] ++ ns.map V.int, [.int 4], rfl, rfl, SqL.of (Same.upd n3 _ _ upd_same), SqL.of upd_same, by rw [List.length_append, List.length_map]; exact Nat.le_trans (Nat.add_le_add_right (Nat.add_le_add_left hlen 1) 1) (by decide), fun p hp => ⟨p, rfl, ⟨_, SqL.of upd_same⟩, ?_⟩⟩⟩
    refine for_enum (xs := [.int 3] ++ ns.map V.int ++ [.int 4]) (fun i σ' H' => ∃ (kept : Int) (v2 v3 v4 v5 v6 v7 v8 v9 v10 : Option V), σ' = [some (.ref a), some (.int kept), v2, v3, v4, v5, v6, v7, v8, v9, v10] ∧ H' p = some (.lst ([.int 3] ++ ns.map V.int ++ [.int 4])))
      ⟨8, _, _, _, _, _, _, _, _, _, rfl, upd_same⟩ (fun i σ' H' _ ⟨_, _, _, _, _, _, _, _, _, _, _, z⟩ => SqL.of z) ?_ (fun _ _ _ => k _)
    rintro i x σ' H1 r hx ⟨kept, v2, v3, v4, v5, v6, v7, v8, v9, v10, rfl, hL⟩ hr0
    have hi : i < 65 := Nat.lt_of_lt_of_le (List.getElem?_eq_some_iff.mp hx).1 hz
    obtain ⟨cell, rfl⟩ : ∃ cell, x = V.int cell := by
      have hm := List.mem_of_getElem? hx
      rw [List.mem_append, List.mem_append, List.mem_map] at hm
      rcases hm with (hm | ⟨z, _, rfl⟩) | hm
      · exact ⟨3, List.mem_singleton.mp hm⟩
      · exact ⟨z, rfl⟩
      · exact ⟨4, List.mem_singleton.mp hm⟩
    have hL1 := Same.upd (o := .tup [.int i, .int cell]) hr0 _ _ hL
    refine ⟨r, _, rfl, SqT.of upd_same, rfl, _, _, rfl, _, _, rfl, rfl, ?_⟩
    refine ⟨_, rfl, _, _, rfl, rfl, (by show (0 : Int) < 2; decide), rfl, ?_⟩
    have hw : atI [V.str "cost", V.str "chance"] (cell % 2) = some (.str (wordS (decide (V.int (cell % 2) = V.int 1)))) := by
      rcases (show cell % 2 = 0 ∨ cell % 2 = 1 by omega) with z | z <;> rw [z] <;> rfl
    generalize hb : decide (V.int (cell % 2) = V.int 1) = b at hw ⊢
    refine ⟨by show 2 ≤ sizeLine; decide, fun l hl => ⟨_, rfl, _, _, rfl, rfl, (by show (0 : Int) < 2; decide), l, _, _, _, rfl, rfl, SqL.of upd_same, hw, b, rfl, fun x dx H2 s2 hx => ?_⟩⟩
    refine ⟨_, rfl, _, rfl, _, rfl, _, rfl, cell, kept, _, b, rfl, by omega, by omega, fun p1 q1 lw1 B1 C1 pos1 r1 H3 s3 h1 => ?_⟩
    refine ⟨_, rfl, _, rfl, _, rfl, _, _, rfl, rfl, _, rfl, kept, cell, _, b, rfl, by omega, by omega, fun p2 q2 lw2 B2 C2 pos2 r2 H4 s4 h2 => ?_⟩
    have h1 := s4 _ _ h1
    have hx := s4 _ _ (s3 _ _ hx)
    have hL4 := s4 _ _ (s3 _ _ (s2 _ _ (Same.upd hl _ _ hL1)))
    refine ⟨fun σ' H' => ∃ r2 p2 q2, σ' = [some (.ref a), some (.int kept), some (.int i), some (.int cell), some (.bl b), some (.ref x), some (.ref r1), some (.ref r2), v8, v9, v10] ∧ H4 = H' ∧ H' r2 = some (.tup [.int p2, .int q2]) ∧ Low p2 q2 ∧ Bd 160 p2 ∧ Bd 160 q2, ?_, ?_⟩
    · walk_at "go"
      refine iteVI (fun _ => ?_) (fun _ => ⟨r2, p2, q2, rfl, rfl, h2, lw2, B2, C2⟩)
      exact ⟨_, rfl, r1, p1, q1, rfl, rfl, h1, lw1, B1, C1⟩
    clear h2 lw2 B2 C2 pos2 p2 q2 r2
    rintro _ _ ⟨r2, p2, q2, rfl, rfl, h2, lw2, B2, C2⟩
    refine ⟨_, rfl, _, rfl, _, rfl, _, _, rfl, rfl, kept, cell, _, rfl, by omega, by omega, fun p5 q5 lw5 B5 C5 r5 H5 s5 h5 => ?_⟩
    have h1 := s5 _ _ h1
    have h2 := s5 _ _ h2
    have hx := s5 _ _ hx
    have hL5 := s5 _ _ hL4
    let σ5 : St := [some (.ref a), some (.int kept), some (.int i), some (.int cell), some (.bl b), some (.ref x), some (.ref r1), some (.ref r2), some (.ref r5), v9, v10]
    refine ⟨fun σ' H' => σ' = σ5 ∧ Same H5 H', ?_, ?_⟩
    · refine ⟨_, rfl, _, rfl, x, dx, b, rfl, hx, fun H6 s6 => ⟨true, rfl, ?_⟩⟩
      refine iteF ?_
      refine ⟨_, rfl, x, Cof A b, dx, [], spTakes b, rfl, s6 _ _ hx, mok_takes T b, rfl, _, rfl, _, r5, p5, q5, rfl, s6 _ _ h5, ?_⟩
      refine ⟨_, rfl, r5, _, _, _, rfl, rfl, SqT.of (s6 _ _ h5), rfl, _, _, rfl, rfl, _, rfl, ?_⟩
      refine iteD (fun z => ?_) (fun z => ?_)
      · exact ⟨_, _, rfl, by simp [z], true, rfl, iteF ⟨rfl, s6⟩⟩
      · exact ⟨_, rfl, _, rfl, _, _, rfl, by simp [z], true, rfl, iteF ⟨rfl, s6⟩⟩
    rintro _ H6 ⟨rfl, s6⟩
    have h1 := s6 _ _ h1
    have h2 := s6 _ _ h2
    have hx := s6 _ _ hx
    have hL6 := s6 _ _ hL5
    walk_at "go"
    dsimp only
    have W1 : Bd 400 (p1 * q2 + p2 * q1) := ((B1.mul C2).add (B2.mul C1)).mono (by decide)
    have W2 : Bd 400 (q1 * q2) := (C1.mul C2).mono (by decide)
    have W3 : Bd 400 (p1 * p2) := (B1.mul B2).mono (by decide)
    let ap : Int := if b then -(p1 * q2 - p2 * q1) else p1 * q2 - p2 * q1
    let σ6 : St := [some (.ref a), some (.int kept), some (.int i), some (.int cell), some (.bl b), some (.ref x), some (.ref r1), some (.ref r2), some (.ref r5), some (.int (joinTop b p1 q1 p2 q2)), some (.int ap)]
    refine ⟨fun σ' H' => σ' = σ6 ∧ H6 = H', ?_, ?_⟩
    · refine ⟨_, rfl, b, rfl, ?_⟩
      cases b with
      | false => exact iteF ⟨rfl, rfl⟩
      | true =>
        refine iteT ?_
        walk_at "go"
        rfl
    rintro _ _ ⟨rfl, rfl⟩
    have WJ : Bd 400 (joinTop b p1 q1 p2 q2) := by cases b; exact W1; exact W3
    have two : ∀ {H' : Hp}, H' r1 = some (.tup [.int p1, .int q1]) → H' r2 = some (.tup [.int p2, .int q2]) → Two H' r1 r2 p1 q1 p2 q2 := fun z1 z2 => ⟨z1, z2, lw1, lw2, B1.mono (by decide), C1.mono (by decide), B2.mono (by decide), C2.mono (by decide)⟩
    have wto : ∀ {H' : Hp}, H' r1 = some (.tup [.int p1, .int q1]) → H' r2 = some (.tup [.int p2, .int q2]) → Two H' r2 r1 p2 q2 p1 q1 := fun z1 z2 => ⟨z2, z1, lw2, lw1, B2.mono (by decide), C2.mono (by decide), B1.mono (by decide), C1.mono (by decide)⟩
    have one : ∀ {H' : Hp}, H' r1 = some (.tup [.int p1, .int q1]) → Two H' r1 r1 p1 q1 p1 q1 := fun z1 => ⟨z1, z1, lw1, lw1, B1.mono (by decide), C1.mono (by decide), B1.mono (by decide), C1.mono (by decide)⟩
    refine ⟨fun σ' H' => σ' = σ6 ∧ Same H6 H', ?_, ?_⟩
    · refine ⟨_, rfl, x, Cof A b, dx, [], spJoin b, rfl, hx, mok_join T b, rfl, _, rfl, _, rfl, _, r1, r2, p1, q1, p2, q2, rfl, two h1 h2, fun X Y lw e l1 l2 r7 H7 s7 h7 => ?_⟩
      have h1 := s7 _ _ h1
      have h2 := s7 _ _ h2
      walk_at "go"
      refine ⟨r7, X, Y, _, _, rfl, h7, lw, e, (WJ.le l1).mono (by decide), (W2.le l2).mono (by decide), WJ.mono (by decide), W2.mono (by decide), fun H8 s8 => ⟨true, rfl, ?_⟩⟩
      refine iteF ?_
      refine ⟨_, rfl, x, Cof A b, dx, [], spTakes b, rfl, s8 _ _ (s7 _ _ hx), mok_takes T b, rfl, _, rfl, _, r1, p1, q1, rfl, s8 _ _ h1, _, rfl, ?_⟩
      have e5 : (!b || decide (0 < p1)) = true := by
        cases b with
        | false => rfl
        | true => simpa using pos1 rfl
      rw [e5]
      exact iteF ⟨rfl, s7.trans s8⟩
    rintro _ H7 ⟨rfl, s7⟩
    have h1 := s7 _ _ h1
    have h2 := s7 _ _ h2
    have hx := s7 _ _ hx
    have hL7 := s7 _ _ hL6
    have a1 : aheadB b p1 q1 p2 q2 = decide (ap < 0) := by
      cases b
      · show decide (p1 * q2 < p2 * q1) = decide (p1 * q2 - p2 * q1 < 0)
        exact decide_eq_decide.mpr (by omega)
      · show decide (p2 * q1 < p1 * q2) = decide (-(p1 * q2 - p2 * q1) < 0)
        exact decide_eq_decide.mpr (by omega)
    have a2 : aheadB b p2 q2 p1 q1 = decide (0 < ap) := by
      cases b
      · show decide (p2 * q1 < p1 * q2) = decide (0 < p1 * q2 - p2 * q1)
        exact decide_eq_decide.mpr (by omega)
      · show decide (p1 * q2 < p2 * q1) = decide (0 < -(p1 * q2 - p2 * q1))
        exact decide_eq_decide.mpr (by omega)
    have a3 : aheadB b p1 q1 p1 q1 = false := by cases b <;> simp [aheadB]
    refine ⟨fun σ' H' => σ' = σ6 ∧ H7 = H', ?_, ?_⟩
    · refine ⟨_, rfl, x, Cof A b, dx, [], spAhead b, rfl, hx, mok_ahead T b, rfl, _, rfl, _, rfl, _, r1, r2, p1, q1, p2, q2, rfl, two h1 h2, ?_⟩
      refine ⟨_, rfl, _, _, rfl, rfl, _, _, rfl, a1, true, rfl, ?_⟩
      refine iteF ?_
      refine ⟨_, rfl, x, Cof A b, dx, [], spAhead b, rfl, hx, mok_ahead T b, rfl, _, rfl, _, rfl, _, r2, r1, p2, q2, p1, q1, rfl, wto h1 h2, ?_⟩
      refine ⟨_, rfl, _, _, rfl, rfl, _, _, rfl, a2, true, rfl, ?_⟩
      exact iteF ⟨rfl, rfl⟩
    rintro _ _ ⟨rfl, rfl⟩
    refine ⟨fun σ' H' => σ' = σ6 ∧ H7 = H', ?_, ?_⟩
    · refine ⟨_, rfl, x, Cof A b, dx, [], spAhead b, rfl, hx, mok_ahead T b, rfl, _, rfl, _, rfl, _, r1, r1, p1, q1, p1, q1, rfl, one h1, ?_⟩
      refine ⟨_, _, rfl, a3, true, rfl, ?_⟩
      exact iteF ⟨rfl, rfl⟩
    rintro _ _ ⟨rfl, rfl⟩
    exact ⟨_, rfl, cell, _, _, _, _, _, _, _, _, _, rfl, hL7⟩
end

theorem all_mk {l : PySem.W.OpenLaw} {w : World} {K : PySem.W.Frag} {h : Heap} {mg : Str → Option Value} {fa : Addr} (X : K.In h) (G : h.Ns mainGlobals mg) (hfa : mg "law" = some (.ref fa))
    {C_Scale : Addr}
    {C_Cost : Addr}
    {C_Chance : Addr}
    {f_Cost_word : Addr} {od_Cost_word an_Cost_word : Option Addr} {sl_Cost_word : Array (Option Value)} {oc_Cost_word kV_Cost_word dc_Cost_word pm_Cost_word cd_Cost_word ct_Cost_word : Value}
    {f_Cost_empty : Addr} {od_Cost_empty an_Cost_empty : Option Addr} {sl_Cost_empty : Array (Option Value)} {oc_Cost_empty kV_Cost_empty dc_Cost_empty pm_Cost_empty cd_Cost_empty ct_Cost_empty : Value}
    {f_Cost_takes : Addr} {od_Cost_takes an_Cost_takes : Option Addr} {sl_Cost_takes : Array (Option Value)} {oc_Cost_takes kV_Cost_takes dc_Cost_takes pm_Cost_takes cd_Cost_takes ct_Cost_takes : Value}
    {f_Cost_join : Addr} {od_Cost_join an_Cost_join : Option Addr} {sl_Cost_join : Array (Option Value)} {oc_Cost_join kV_Cost_join dc_Cost_join pm_Cost_join cd_Cost_join ct_Cost_join : Value}
    {f_Cost_ahead : Addr} {od_Cost_ahead an_Cost_ahead : Option Addr} {sl_Cost_ahead : Array (Option Value)} {oc_Cost_ahead kV_Cost_ahead dc_Cost_ahead pm_Cost_ahead cd_Cost_ahead ct_Cost_ahead : Value}
    {f_Chance_word : Addr} {od_Chance_word an_Chance_word : Option Addr} {sl_Chance_word : Array (Option Value)} {oc_Chance_word kV_Chance_word dc_Chance_word pm_Chance_word cd_Chance_word ct_Chance_word : Value}
    {f_Chance_empty : Addr} {od_Chance_empty an_Chance_empty : Option Addr} {sl_Chance_empty : Array (Option Value)} {oc_Chance_empty kV_Chance_empty dc_Chance_empty pm_Chance_empty cd_Chance_empty ct_Chance_empty : Value}
    {f_Chance_takes : Addr} {od_Chance_takes an_Chance_takes : Option Addr} {sl_Chance_takes : Array (Option Value)} {oc_Chance_takes kV_Chance_takes dc_Chance_takes pm_Chance_takes cd_Chance_takes ct_Chance_takes : Value}
    {f_Chance_join : Addr} {od_Chance_join an_Chance_join : Option Addr} {sl_Chance_join : Array (Option Value)} {oc_Chance_join kV_Chance_join dc_Chance_join pm_Chance_join cd_Chance_join ct_Chance_join : Value}
    {f_Chance_ahead : Addr} {od_Chance_ahead an_Chance_ahead : Option Addr} {sl_Chance_ahead : Array (Option Value)} {oc_Chance_ahead kV_Chance_ahead dc_Chance_ahead pm_Chance_ahead cd_Chance_ahead ct_Chance_ahead : Value}
    {f_common_divisor : Addr} {od_common_divisor an_common_divisor : Option Addr} {sl_common_divisor : Array (Option Value)} {oc_common_divisor kV_common_divisor dc_common_divisor pm_common_divisor cd_common_divisor ct_common_divisor : Value}
    {f_sum_of : Addr} {od_sum_of an_sum_of : Option Addr} {sl_sum_of : Array (Option Value)} {oc_sum_of kV_sum_of dc_sum_of pm_sum_of cd_sum_of ct_sum_of : Value}
    {f_product_of : Addr} {od_product_of an_product_of : Option Addr} {sl_product_of : Array (Option Value)} {oc_product_of kV_product_of dc_product_of pm_product_of cd_product_of ct_product_of : Value}
    {f_compared : Addr} {od_compared an_compared : Option Addr} {sl_compared : Array (Option Value)} {oc_compared kV_compared dc_compared pm_compared cd_compared ct_compared : Value}
    {f_scale_of : Addr} {od_scale_of an_scale_of : Option Addr} {sl_scale_of : Array (Option Value)} {oc_scale_of kV_scale_of dc_scale_of pm_scale_of cd_scale_of ct_scale_of : Value}
    {f_l_mix : Addr} {od_l_mix an_l_mix : Option Addr} {sl_l_mix : Array (Option Value)} {oc_l_mix kV_l_mix dc_l_mix pm_l_mix cd_l_mix ct_l_mix : Value}
    {f_l_lowest : Addr} {od_l_lowest an_l_lowest : Option Addr} {sl_l_lowest : Array (Option Value)} {oc_l_lowest kV_l_lowest dc_l_lowest pm_l_lowest cd_l_lowest ct_l_lowest : Value}
    {f_l_whole : Addr} {od_l_whole an_l_whole : Option Addr} {sl_l_whole : Array (Option Value)} {oc_l_whole kV_l_whole dc_l_whole pm_l_whole cd_l_whole ct_l_whole : Value}
    {f_l_fraction : Addr} {od_l_fraction an_l_fraction : Option Addr} {sl_l_fraction : Array (Option Value)} {oc_l_fraction kV_l_fraction dc_l_fraction pm_l_fraction cd_l_fraction ct_l_fraction : Value}
    {f_l_some : Addr} {od_l_some an_l_some : Option Addr} {sl_l_some : Array (Option Value)} {oc_l_some kV_l_some dc_l_some pm_l_some cd_l_some ct_l_some : Value}
    {f_l_weight : Addr} {od_l_weight an_l_weight : Option Addr} {sl_l_weight : Array (Option Value)} {oc_l_weight kV_l_weight dc_l_weight pm_l_weight cd_l_weight ct_l_weight : Value}
    {f_l_sort : Addr} {od_l_sort an_l_sort : Option Addr} {sl_l_sort : Array (Option Value)} {oc_l_sort kV_l_sort dc_l_sort pm_l_sort cd_l_sort ct_l_sort : Value}
    {f_l_bool : Addr} {od_l_bool an_l_bool : Option Addr} {sl_l_bool : Array (Option Value)} {oc_l_bool kV_l_bool dc_l_bool pm_l_bool cd_l_bool ct_l_bool : Value}
    {f_law : Addr} {od_law an_law : Option Addr} {sl_law : Array (Option Value)} {oc_law kV_law dc_law pm_law cd_law ct_law : Value}
    (aC_Scale : PySem.W.nsIn K mainGlobals "Scale" = some (some (.ref C_Scale))) (pg_Scale : PySem.W.plainGet K C_Scale Str.empty = true) (hd_Scale : PySem.W.hasDictIn K C_Scale = true) (po_Scale : PySem.W.plainOver K C_Scale = true) (sa_Scale : PySem.W.findIn K (.ref C_Scale) "__setattr__" = some (some (.builtin "object.__setattr__")))
    (aC_Cost : PySem.W.nsIn K mainGlobals "Cost" = some (some (.ref C_Cost))) (pg_Cost : PySem.W.plainGet K C_Cost Str.empty = true) (hd_Cost : PySem.W.hasDictIn K C_Cost = true) (po_Cost : PySem.W.plainOver K C_Cost = true) (sa_Cost : PySem.W.findIn K (.ref C_Cost) "__setattr__" = some (some (.builtin "object.__setattr__"))) (mk_Cost : PySem.W.makesIn K C_Cost = true) (in_Cost : PySem.W.findIn K (.ref C_Cost) "__init__" = some (some (.builtin "object.__init__"))) (kc_Cost : PySem.W.keepIn K (.ref C_Cost) = true) (ha_Cost : PySem.W.findIn K (.ref C_Cost) "__class__" = some (some (.builtin "object.__class__"))) (hn_Cost : PySem.W.specialIn K (.builtin "object.__class__") "__get__" = some (some (.builtin "getset_descriptor.__get__"))) (tk_Cost : PySem.W.takesIn K (.builtin "object.__class__") = some true) (hm_Cost : PySem.W.mroIn K C_Cost (.type "object") = some true)
    (aC_Chance : PySem.W.nsIn K mainGlobals "Chance" = some (some (.ref C_Chance))) (pg_Chance : PySem.W.plainGet K C_Chance Str.empty = true) (hd_Chance : PySem.W.hasDictIn K C_Chance = true) (po_Chance : PySem.W.plainOver K C_Chance = true) (sa_Chance : PySem.W.findIn K (.ref C_Chance) "__setattr__" = some (some (.builtin "object.__setattr__"))) (mk_Chance : PySem.W.makesIn K C_Chance = true) (in_Chance : PySem.W.findIn K (.ref C_Chance) "__init__" = some (some (.builtin "object.__init__"))) (kc_Chance : PySem.W.keepIn K (.ref C_Chance) = true) (ha_Chance : PySem.W.findIn K (.ref C_Chance) "__class__" = some (some (.builtin "object.__class__"))) (hn_Chance : PySem.W.specialIn K (.builtin "object.__class__") "__get__" = some (some (.builtin "getset_descriptor.__get__"))) (tk_Chance : PySem.W.takesIn K (.builtin "object.__class__") = some true) (hm_Chance : PySem.W.mroIn K C_Chance (.type "object") = some true)
    (tt_Scale : PySem.W.typeIn K (.ref C_Scale) = some (.type "type")) (rr_Scale : PySem.W.subIn K (.ref C_Scale) (.ref C_Scale) = some true)
    (tt_Chance : PySem.W.typeIn K (.ref C_Chance) = some (.type "type")) (rr_Chance : PySem.W.subIn K (.ref C_Chance) (.ref C_Chance) = some true)
    (tt_Cost : PySem.W.typeIn K (.ref C_Cost) = some (.type "type")) (rr_Cost : PySem.W.subIn K (.ref C_Cost) (.ref C_Cost) = some true)
    (su_Cost_Scale : PySem.W.subIn K (.ref C_Cost) (.ref C_Scale) = some true)
    (su_Chance_Scale : PySem.W.subIn K (.ref C_Chance) (.ref C_Scale) = some true)
    (su_Cost_Chance : PySem.W.subIn K (.ref C_Cost) (.ref C_Chance) = some false)
    (su_Chance_Chance : PySem.W.subIn K (.ref C_Chance) (.ref C_Chance) = some true)
    (su_Cost_Cost : PySem.W.subIn K (.ref C_Cost) (.ref C_Cost) = some true)
    (su_Chance_Cost : PySem.W.subIn K (.ref C_Chance) (.ref C_Cost) = some false)
    (a_Cost_word : PySem.W.findIn K (.ref C_Cost) "word" = some (some (.ref f_Cost_word))) (i_Cost_word : PySem.W.isFn K (.ref f_Cost_word) = true) (l_Cost_word : K.lookup f_Cost_word = some ⟨oc_Cost_word, od_Cost_word, .func (PySem.W.fnOf "word" "Cost.word" (defArgs s_Cost_word) (defBody s_Cost_word) (defScope s_Cost_word) .none kV_Cost_word dc_Cost_word pm_Cost_word an_Cost_word cd_Cost_word ct_Cost_word), sl_Cost_word⟩) (c_Cost_word : PySem.W.codeIn K cd_Cost_word "Cost.word" = true) (k_Cost_word : PySem.W.keepIn K (.ref f_Cost_word) = true)
    (a_Cost_empty : PySem.W.findIn K (.ref C_Cost) "empty" = some (some (.ref f_Cost_empty))) (i_Cost_empty : PySem.W.isFn K (.ref f_Cost_empty) = true) (l_Cost_empty : K.lookup f_Cost_empty = some ⟨oc_Cost_empty, od_Cost_empty, .func (PySem.W.fnOf "empty" "Cost.empty" (defArgs s_Cost_empty) (defBody s_Cost_empty) (defScope s_Cost_empty) .none kV_Cost_empty dc_Cost_empty pm_Cost_empty an_Cost_empty cd_Cost_empty ct_Cost_empty), sl_Cost_empty⟩) (c_Cost_empty : PySem.W.codeIn K cd_Cost_empty "Cost.empty" = true) (k_Cost_empty : PySem.W.keepIn K (.ref f_Cost_empty) = true)
    (a_Cost_takes : PySem.W.findIn K (.ref C_Cost) "takes" = some (some (.ref f_Cost_takes))) (i_Cost_takes : PySem.W.isFn K (.ref f_Cost_takes) = true) (l_Cost_takes : K.lookup f_Cost_takes = some ⟨oc_Cost_takes, od_Cost_takes, .func (PySem.W.fnOf "takes" "Cost.takes" (defArgs s_Cost_takes) (defBody s_Cost_takes) (defScope s_Cost_takes) .none kV_Cost_takes dc_Cost_takes pm_Cost_takes an_Cost_takes cd_Cost_takes ct_Cost_takes), sl_Cost_takes⟩) (c_Cost_takes : PySem.W.codeIn K cd_Cost_takes "Cost.takes" = true) (k_Cost_takes : PySem.W.keepIn K (.ref f_Cost_takes) = true)
    (a_Cost_join : PySem.W.findIn K (.ref C_Cost) "join" = some (some (.ref f_Cost_join))) (i_Cost_join : PySem.W.isFn K (.ref f_Cost_join) = true) (l_Cost_join : K.lookup f_Cost_join = some ⟨oc_Cost_join, od_Cost_join, .func (PySem.W.fnOf "join" "Cost.join" (defArgs s_Cost_join) (defBody s_Cost_join) (defScope s_Cost_join) .none kV_Cost_join dc_Cost_join pm_Cost_join an_Cost_join cd_Cost_join ct_Cost_join), sl_Cost_join⟩) (c_Cost_join : PySem.W.codeIn K cd_Cost_join "Cost.join" = true) (k_Cost_join : PySem.W.keepIn K (.ref f_Cost_join) = true)
    (a_Cost_ahead : PySem.W.findIn K (.ref C_Cost) "ahead" = some (some (.ref f_Cost_ahead))) (i_Cost_ahead : PySem.W.isFn K (.ref f_Cost_ahead) = true) (l_Cost_ahead : K.lookup f_Cost_ahead = some ⟨oc_Cost_ahead, od_Cost_ahead, .func (PySem.W.fnOf "ahead" "Cost.ahead" (defArgs s_Cost_ahead) (defBody s_Cost_ahead) (defScope s_Cost_ahead) .none kV_Cost_ahead dc_Cost_ahead pm_Cost_ahead an_Cost_ahead cd_Cost_ahead ct_Cost_ahead), sl_Cost_ahead⟩) (c_Cost_ahead : PySem.W.codeIn K cd_Cost_ahead "Cost.ahead" = true) (k_Cost_ahead : PySem.W.keepIn K (.ref f_Cost_ahead) = true)
    (a_Chance_word : PySem.W.findIn K (.ref C_Chance) "word" = some (some (.ref f_Chance_word))) (i_Chance_word : PySem.W.isFn K (.ref f_Chance_word) = true) (l_Chance_word : K.lookup f_Chance_word = some ⟨oc_Chance_word, od_Chance_word, .func (PySem.W.fnOf "word" "Chance.word" (defArgs s_Chance_word) (defBody s_Chance_word) (defScope s_Chance_word) .none kV_Chance_word dc_Chance_word pm_Chance_word an_Chance_word cd_Chance_word ct_Chance_word), sl_Chance_word⟩) (c_Chance_word : PySem.W.codeIn K cd_Chance_word "Chance.word" = true) (k_Chance_word : PySem.W.keepIn K (.ref f_Chance_word) = true)
    (a_Chance_empty : PySem.W.findIn K (.ref C_Chance) "empty" = some (some (.ref f_Chance_empty))) (i_Chance_empty : PySem.W.isFn K (.ref f_Chance_empty) = true) (l_Chance_empty : K.lookup f_Chance_empty = some ⟨oc_Chance_empty, od_Chance_empty, .func (PySem.W.fnOf "empty" "Chance.empty" (defArgs s_Chance_empty) (defBody s_Chance_empty) (defScope s_Chance_empty) .none kV_Chance_empty dc_Chance_empty pm_Chance_empty an_Chance_empty cd_Chance_empty ct_Chance_empty), sl_Chance_empty⟩) (c_Chance_empty : PySem.W.codeIn K cd_Chance_empty "Chance.empty" = true) (k_Chance_empty : PySem.W.keepIn K (.ref f_Chance_empty) = true)
    (a_Chance_takes : PySem.W.findIn K (.ref C_Chance) "takes" = some (some (.ref f_Chance_takes))) (i_Chance_takes : PySem.W.isFn K (.ref f_Chance_takes) = true) (l_Chance_takes : K.lookup f_Chance_takes = some ⟨oc_Chance_takes, od_Chance_takes, .func (PySem.W.fnOf "takes" "Chance.takes" (defArgs s_Chance_takes) (defBody s_Chance_takes) (defScope s_Chance_takes) .none kV_Chance_takes dc_Chance_takes pm_Chance_takes an_Chance_takes cd_Chance_takes ct_Chance_takes), sl_Chance_takes⟩) (c_Chance_takes : PySem.W.codeIn K cd_Chance_takes "Chance.takes" = true) (k_Chance_takes : PySem.W.keepIn K (.ref f_Chance_takes) = true)
    (a_Chance_join : PySem.W.findIn K (.ref C_Chance) "join" = some (some (.ref f_Chance_join))) (i_Chance_join : PySem.W.isFn K (.ref f_Chance_join) = true) (l_Chance_join : K.lookup f_Chance_join = some ⟨oc_Chance_join, od_Chance_join, .func (PySem.W.fnOf "join" "Chance.join" (defArgs s_Chance_join) (defBody s_Chance_join) (defScope s_Chance_join) .none kV_Chance_join dc_Chance_join pm_Chance_join an_Chance_join cd_Chance_join ct_Chance_join), sl_Chance_join⟩) (c_Chance_join : PySem.W.codeIn K cd_Chance_join "Chance.join" = true) (k_Chance_join : PySem.W.keepIn K (.ref f_Chance_join) = true)
    (a_Chance_ahead : PySem.W.findIn K (.ref C_Chance) "ahead" = some (some (.ref f_Chance_ahead))) (i_Chance_ahead : PySem.W.isFn K (.ref f_Chance_ahead) = true) (l_Chance_ahead : K.lookup f_Chance_ahead = some ⟨oc_Chance_ahead, od_Chance_ahead, .func (PySem.W.fnOf "ahead" "Chance.ahead" (defArgs s_Chance_ahead) (defBody s_Chance_ahead) (defScope s_Chance_ahead) .none kV_Chance_ahead dc_Chance_ahead pm_Chance_ahead an_Chance_ahead cd_Chance_ahead ct_Chance_ahead), sl_Chance_ahead⟩) (c_Chance_ahead : PySem.W.codeIn K cd_Chance_ahead "Chance.ahead" = true) (k_Chance_ahead : PySem.W.keepIn K (.ref f_Chance_ahead) = true)
    (a_common_divisor : PySem.W.nsIn K mainGlobals "common_divisor" = some (some (.ref f_common_divisor))) (l_common_divisor : K.lookup f_common_divisor = some ⟨oc_common_divisor, od_common_divisor, .func (PySem.W.fnOf "common_divisor" "common_divisor" (defArgs s_common_divisor) (defBody s_common_divisor) (defScope s_common_divisor) .none kV_common_divisor dc_common_divisor pm_common_divisor an_common_divisor cd_common_divisor ct_common_divisor), sl_common_divisor⟩) (c_common_divisor : PySem.W.codeIn K cd_common_divisor "common_divisor" = true) (k_common_divisor : PySem.W.keepIn K (.ref f_common_divisor) = true)
    (a_sum_of : PySem.W.nsIn K mainGlobals "sum_of" = some (some (.ref f_sum_of))) (l_sum_of : K.lookup f_sum_of = some ⟨oc_sum_of, od_sum_of, .func (PySem.W.fnOf "sum_of" "sum_of" (defArgs s_sum_of) (defBody s_sum_of) (defScope s_sum_of) .none kV_sum_of dc_sum_of pm_sum_of an_sum_of cd_sum_of ct_sum_of), sl_sum_of⟩) (c_sum_of : PySem.W.codeIn K cd_sum_of "sum_of" = true) (k_sum_of : PySem.W.keepIn K (.ref f_sum_of) = true)
    (a_product_of : PySem.W.nsIn K mainGlobals "product_of" = some (some (.ref f_product_of))) (l_product_of : K.lookup f_product_of = some ⟨oc_product_of, od_product_of, .func (PySem.W.fnOf "product_of" "product_of" (defArgs s_product_of) (defBody s_product_of) (defScope s_product_of) .none kV_product_of dc_product_of pm_product_of an_product_of cd_product_of ct_product_of), sl_product_of⟩) (c_product_of : PySem.W.codeIn K cd_product_of "product_of" = true) (k_product_of : PySem.W.keepIn K (.ref f_product_of) = true)
    (a_compared : PySem.W.nsIn K mainGlobals "compared" = some (some (.ref f_compared))) (l_compared : K.lookup f_compared = some ⟨oc_compared, od_compared, .func (PySem.W.fnOf "compared" "compared" (defArgs s_compared) (defBody s_compared) (defScope s_compared) .none kV_compared dc_compared pm_compared an_compared cd_compared ct_compared), sl_compared⟩) (c_compared : PySem.W.codeIn K cd_compared "compared" = true) (k_compared : PySem.W.keepIn K (.ref f_compared) = true)
    (a_scale_of : PySem.W.nsIn K mainGlobals "scale_of" = some (some (.ref f_scale_of))) (l_scale_of : K.lookup f_scale_of = some ⟨oc_scale_of, od_scale_of, .func (PySem.W.fnOf "scale_of" "scale_of" (defArgs s_scale_of) (defBody s_scale_of) (defScope s_scale_of) .none kV_scale_of dc_scale_of pm_scale_of an_scale_of cd_scale_of ct_scale_of), sl_scale_of⟩) (c_scale_of : PySem.W.codeIn K cd_scale_of "scale_of" = true) (k_scale_of : PySem.W.keepIn K (.ref f_scale_of) = true)
    (a_l_mix : PySem.W.nsIn K mainGlobals "_law_mix" = some (some (.ref f_l_mix))) (l_l_mix : K.lookup f_l_mix = some ⟨oc_l_mix, od_l_mix, .func (PySem.W.fnOf "_law_mix" "_law_mix" (defArgs s_l_mix) (defBody s_l_mix) (defScope s_l_mix) .none kV_l_mix dc_l_mix pm_l_mix an_l_mix cd_l_mix ct_l_mix), sl_l_mix⟩) (c_l_mix : PySem.W.codeIn K cd_l_mix "_law_mix" = true) (k_l_mix : PySem.W.keepIn K (.ref f_l_mix) = true)
    (a_l_lowest : PySem.W.nsIn K mainGlobals "_law_lowest" = some (some (.ref f_l_lowest))) (l_l_lowest : K.lookup f_l_lowest = some ⟨oc_l_lowest, od_l_lowest, .func (PySem.W.fnOf "_law_lowest" "_law_lowest" (defArgs s_l_lowest) (defBody s_l_lowest) (defScope s_l_lowest) .none kV_l_lowest dc_l_lowest pm_l_lowest an_l_lowest cd_l_lowest ct_l_lowest), sl_l_lowest⟩) (c_l_lowest : PySem.W.codeIn K cd_l_lowest "_law_lowest" = true) (k_l_lowest : PySem.W.keepIn K (.ref f_l_lowest) = true)
    (a_l_whole : PySem.W.nsIn K mainGlobals "_law_whole" = some (some (.ref f_l_whole))) (l_l_whole : K.lookup f_l_whole = some ⟨oc_l_whole, od_l_whole, .func (PySem.W.fnOf "_law_whole" "_law_whole" (defArgs s_l_whole) (defBody s_l_whole) (defScope s_l_whole) .none kV_l_whole dc_l_whole pm_l_whole an_l_whole cd_l_whole ct_l_whole), sl_l_whole⟩) (c_l_whole : PySem.W.codeIn K cd_l_whole "_law_whole" = true) (k_l_whole : PySem.W.keepIn K (.ref f_l_whole) = true)
    (a_l_fraction : PySem.W.nsIn K mainGlobals "_law_fraction" = some (some (.ref f_l_fraction))) (l_l_fraction : K.lookup f_l_fraction = some ⟨oc_l_fraction, od_l_fraction, .func (PySem.W.fnOf "_law_fraction" "_law_fraction" (defArgs s_l_fraction) (defBody s_l_fraction) (defScope s_l_fraction) .none kV_l_fraction dc_l_fraction pm_l_fraction an_l_fraction cd_l_fraction ct_l_fraction), sl_l_fraction⟩) (c_l_fraction : PySem.W.codeIn K cd_l_fraction "_law_fraction" = true) (k_l_fraction : PySem.W.keepIn K (.ref f_l_fraction) = true)
    (a_l_some : PySem.W.nsIn K mainGlobals "_law_some" = some (some (.ref f_l_some))) (l_l_some : K.lookup f_l_some = some ⟨oc_l_some, od_l_some, .func (PySem.W.fnOf "_law_some" "_law_some" (defArgs s_l_some) (defBody s_l_some) (defScope s_l_some) .none kV_l_some dc_l_some pm_l_some an_l_some cd_l_some ct_l_some), sl_l_some⟩) (c_l_some : PySem.W.codeIn K cd_l_some "_law_some" = true) (k_l_some : PySem.W.keepIn K (.ref f_l_some) = true)
    (a_l_weight : PySem.W.nsIn K mainGlobals "_law_weight" = some (some (.ref f_l_weight))) (l_l_weight : K.lookup f_l_weight = some ⟨oc_l_weight, od_l_weight, .func (PySem.W.fnOf "_law_weight" "_law_weight" (defArgs s_l_weight) (defBody s_l_weight) (defScope s_l_weight) .none kV_l_weight dc_l_weight pm_l_weight an_l_weight cd_l_weight ct_l_weight), sl_l_weight⟩) (c_l_weight : PySem.W.codeIn K cd_l_weight "_law_weight" = true) (k_l_weight : PySem.W.keepIn K (.ref f_l_weight) = true)
    (a_l_sort : PySem.W.nsIn K mainGlobals "_law_sort" = some (some (.ref f_l_sort))) (l_l_sort : K.lookup f_l_sort = some ⟨oc_l_sort, od_l_sort, .func (PySem.W.fnOf "_law_sort" "_law_sort" (defArgs s_l_sort) (defBody s_l_sort) (defScope s_l_sort) .none kV_l_sort dc_l_sort pm_l_sort an_l_sort cd_l_sort ct_l_sort), sl_l_sort⟩) (c_l_sort : PySem.W.codeIn K cd_l_sort "_law_sort" = true) (k_l_sort : PySem.W.keepIn K (.ref f_l_sort) = true)
    (a_l_bool : PySem.W.nsIn K mainGlobals "_law_bool" = some (some (.ref f_l_bool))) (l_l_bool : K.lookup f_l_bool = some ⟨oc_l_bool, od_l_bool, .func (PySem.W.fnOf "_law_bool" "_law_bool" (defArgs s_l_bool) (defBody s_l_bool) (defScope s_l_bool) .none kV_l_bool dc_l_bool pm_l_bool an_l_bool cd_l_bool ct_l_bool), sl_l_bool⟩) (c_l_bool : PySem.W.codeIn K cd_l_bool "_law_bool" = true) (k_l_bool : PySem.W.keepIn K (.ref f_l_bool) = true)
    (a_law : PySem.W.nsIn K mainGlobals "law" = some (some (.ref f_law))) (l_law : K.lookup f_law = some ⟨oc_law, od_law, .func (PySem.W.fnOf "law" "law" (defArgs s_law) (defBody s_law) (defScope s_law) .none kV_law dc_law pm_law an_law cd_law ct_law), sl_law⟩) (c_law : PySem.W.codeIn K cd_law "law" = true) (k_law : PySem.W.keepIn K (.ref f_law) = true)
    (z_abs : PySem.W.nsIn K mainGlobals "abs" = some none) (z_isinstance : PySem.W.nsIn K mainGlobals "isinstance" = some none) (z_int : PySem.W.nsIn K mainGlobals "int" = some none) (z_bool : PySem.W.nsIn K mainGlobals "bool" = some none) (z_tuple : PySem.W.nsIn K mainGlobals "tuple" = some none) (z_len : PySem.W.nsIn K mainGlobals "len" = some none) (z_enumerate : PySem.W.nsIn K mainGlobals "enumerate" = some none) :
    ∃ fd : FuncData, (∀ (s : Shared) (v : Value), BindsTo s fd ⟨[v], []⟩ [("_law_script", v)]) ∧ ∀ base : Heap, K.In base → base.Ns mainGlobals mg → FnOk l.prog w K mg base CX0 4 fa fd ["_law_script"] (sp_law K) := by
  have e := hfa.symm.trans (PySem.W.mg_of X G a_law)
  cases e
  have F_Cost_word := fun_mk (st := s_Cost_word) l_Cost_word c_Cost_word k_Cost_word
  have b_Cost_word := F_Cost_word.binds (ps := ["self"]) fun _ _ _ _ _ _ us hl => match us, hl with | [_], _ => rfl
  have F_Cost_empty := fun_mk (st := s_Cost_empty) l_Cost_empty c_Cost_empty k_Cost_empty
  have b_Cost_empty := F_Cost_empty.binds (ps := ["self"]) fun _ _ _ _ _ _ us hl => match us, hl with | [_], _ => rfl
  have F_Cost_takes := fun_mk (st := s_Cost_takes) l_Cost_takes c_Cost_takes k_Cost_takes
  have b_Cost_takes := F_Cost_takes.binds (ps := ["self", "weight"]) fun _ _ _ _ _ _ us hl => match us, hl with | [_, _], _ => rfl
  have F_Cost_join := fun_mk (st := s_Cost_join) l_Cost_join c_Cost_join k_Cost_join
  have b_Cost_join := F_Cost_join.binds (ps := ["self", "one", "other"]) fun _ _ _ _ _ _ us hl => match us, hl with | [_, _, _], _ => rfl
  have F_Cost_ahead := fun_mk (st := s_Cost_ahead) l_Cost_ahead c_Cost_ahead k_Cost_ahead
  have b_Cost_ahead := F_Cost_ahead.binds (ps := ["self", "one", "other"]) fun _ _ _ _ _ _ us hl => match us, hl with | [_, _, _], _ => rfl
  have F_Chance_word := fun_mk (st := s_Chance_word) l_Chance_word c_Chance_word k_Chance_word
  have b_Chance_word := F_Chance_word.binds (ps := ["self"]) fun _ _ _ _ _ _ us hl => match us, hl with | [_], _ => rfl
  have F_Chance_empty := fun_mk (st := s_Chance_empty) l_Chance_empty c_Chance_empty k_Chance_empty
  have b_Chance_empty := F_Chance_empty.binds (ps := ["self"]) fun _ _ _ _ _ _ us hl => match us, hl with | [_], _ => rfl
  have F_Chance_takes := fun_mk (st := s_Chance_takes) l_Chance_takes c_Chance_takes k_Chance_takes
  have b_Chance_takes := F_Chance_takes.binds (ps := ["self", "weight"]) fun _ _ _ _ _ _ us hl => match us, hl with | [_, _], _ => rfl
  have F_Chance_join := fun_mk (st := s_Chance_join) l_Chance_join c_Chance_join k_Chance_join
  have b_Chance_join := F_Chance_join.binds (ps := ["self", "one", "other"]) fun _ _ _ _ _ _ us hl => match us, hl with | [_, _, _], _ => rfl
  have F_Chance_ahead := fun_mk (st := s_Chance_ahead) l_Chance_ahead c_Chance_ahead k_Chance_ahead
  have b_Chance_ahead := F_Chance_ahead.binds (ps := ["self", "one", "other"]) fun _ _ _ _ _ _ us hl => match us, hl with | [_, _, _], _ => rfl
  have F_common_divisor := fun_mk (st := s_common_divisor) l_common_divisor c_common_divisor k_common_divisor
  have b_common_divisor := F_common_divisor.binds (ps := ["one", "other"]) fun _ _ _ _ _ _ us hl => match us, hl with | [_, _], _ => rfl
  have F_sum_of := fun_mk (st := s_sum_of) l_sum_of c_sum_of k_sum_of
  have b_sum_of := F_sum_of.binds (ps := ["one", "other"]) fun _ _ _ _ _ _ us hl => match us, hl with | [_, _], _ => rfl
  have F_product_of := fun_mk (st := s_product_of) l_product_of c_product_of k_product_of
  have b_product_of := F_product_of.binds (ps := ["one", "other"]) fun _ _ _ _ _ _ us hl => match us, hl with | [_, _], _ => rfl
  have F_compared := fun_mk (st := s_compared) l_compared c_compared k_compared
  have b_compared := F_compared.binds (ps := ["one", "other"]) fun _ _ _ _ _ _ us hl => match us, hl with | [_, _], _ => rfl
  have F_scale_of := fun_mk (st := s_scale_of) l_scale_of c_scale_of k_scale_of
  have b_scale_of := F_scale_of.binds (ps := ["word"]) fun _ _ _ _ _ _ us hl => match us, hl with | [_], _ => rfl
  have F_l_mix := fun_mk (st := s_l_mix) l_l_mix c_l_mix k_l_mix
  have b_l_mix := F_l_mix.binds (ps := ["_law_cell", "_law_k"]) fun _ _ _ _ _ _ us hl => match us, hl with | [_, _], _ => rfl
  have F_l_lowest := fun_mk (st := s_l_lowest) l_l_lowest c_l_lowest k_l_lowest
  have b_l_lowest := F_l_lowest.binds (ps := ["_law_top", "_law_bottom"]) fun _ _ _ _ _ _ us hl => match us, hl with | [_, _], _ => rfl
  have F_l_whole := fun_mk (st := s_l_whole) l_l_whole c_l_whole k_l_whole
  have b_l_whole := F_l_whole.binds (ps := ["_law_found"]) fun _ _ _ _ _ _ us hl => match us, hl with | [_], _ => rfl
  have F_l_fraction := fun_mk (st := s_l_fraction) l_l_fraction c_l_fraction k_l_fraction
  have b_l_fraction := F_l_fraction.binds (ps := ["_law_found", "_law_top", "_law_bottom"]) fun _ _ _ _ _ _ us hl => match us, hl with | [_, _, _], _ => rfl
  have F_l_some := fun_mk (st := s_l_some) l_l_some c_l_some k_l_some
  have b_l_some := F_l_some.binds (ps := ["_law_cell", "_law_kept", "_law_k"]) fun _ _ _ _ _ _ us hl => match us, hl with | [_, _, _], _ => rfl
  have F_l_weight := fun_mk (st := s_l_weight) l_l_weight c_l_weight k_l_weight
  have b_l_weight := F_l_weight.binds (ps := ["_law_cell", "_law_kept", "_law_k", "_law_chance"]) fun _ _ _ _ _ _ us hl => match us, hl with | [_, _, _, _], _ => rfl
  have F_l_sort := fun_mk (st := s_l_sort) l_l_sort c_l_sort k_l_sort
  have b_l_sort := F_l_sort.binds (ps := ["_law_scale", "_law_chance"]) fun _ _ _ _ _ _ us hl => match us, hl with | [_, _], _ => rfl
  have F_l_bool := fun_mk (st := s_l_bool) l_l_bool c_l_bool k_l_bool
  have b_l_bool := F_l_bool.binds (ps := ["_law_found", "_law_due"]) fun _ _ _ _ _ _ us hl => match us, hl with | [_, _], _ => rfl
  have F_law := fun_mk (st := s_law) l_law c_law k_law
  have b_law := F_law.binds (ps := ["_law_script"]) fun _ _ _ _ _ _ us hl => match us, hl with | [_], _ => rfl
  have T : Txt K mg ⟨C_Scale, C_Cost, C_Chance, f_Cost_word, _, f_Cost_empty, _, f_Cost_takes, _, f_Cost_join, _, f_Cost_ahead, _, f_Chance_word, _, f_Chance_empty, _, f_Chance_takes, _, f_Chance_join, _, f_Chance_ahead, _, f_common_divisor, _, f_sum_of, _, f_product_of, _, f_compared, _, f_scale_of, _, f_l_mix, _, f_l_lowest, _, f_l_whole, _, f_l_fraction, _, f_l_some, _, f_l_weight, _, f_l_sort, _, f_l_bool, _, fa, _⟩ := ⟨⟨pg_Scale, hd_Scale, po_Scale, sa_Scale⟩, PySem.W.mg_of X G aC_Scale, ⟨pg_Cost, hd_Cost, po_Cost, sa_Cost⟩, PySem.W.mg_of X G aC_Cost, ⟨mk_Cost, in_Cost, kc_Cost⟩, ⟨ha_Cost, hn_Cost, tk_Cost, hm_Cost⟩, ⟨pg_Chance, hd_Chance, po_Chance, sa_Chance⟩, PySem.W.mg_of X G aC_Chance, ⟨mk_Chance, in_Chance, kc_Chance⟩, ⟨ha_Chance, hn_Chance, tk_Chance, hm_Chance⟩, kit_ref hd_Scale tt_Scale su_Cost_Scale rr_Scale, kit_ref hd_Scale tt_Scale su_Chance_Scale rr_Scale, kit_ref hd_Chance tt_Chance su_Cost_Chance rr_Chance, kit_ref hd_Chance tt_Chance su_Chance_Chance rr_Chance, kit_ref hd_Cost tt_Cost su_Cost_Cost rr_Cost, kit_ref hd_Cost tt_Cost su_Chance_Cost rr_Cost, F_Cost_word, ⟨a_Cost_word, i_Cost_word, k_Cost_word⟩, b_Cost_word, F_Cost_empty, ⟨a_Cost_empty, i_Cost_empty, k_Cost_empty⟩, b_Cost_empty, F_Cost_takes, ⟨a_Cost_takes, i_Cost_takes, k_Cost_takes⟩, b_Cost_takes, F_Cost_join, ⟨a_Cost_join, i_Cost_join, k_Cost_join⟩, b_Cost_join, F_Cost_ahead, ⟨a_Cost_ahead, i_Cost_ahead, k_Cost_ahead⟩, b_Cost_ahead, F_Chance_word, ⟨a_Chance_word, i_Chance_word, k_Chance_word⟩, b_Chance_word, F_Chance_empty, ⟨a_Chance_empty, i_Chance_empty, k_Chance_empty⟩, b_Chance_empty, F_Chance_takes, ⟨a_Chance_takes, i_Chance_takes, k_Chance_takes⟩, b_Chance_takes, F_Chance_join, ⟨a_Chance_join, i_Chance_join, k_Chance_join⟩, b_Chance_join, F_Chance_ahead, ⟨a_Chance_ahead, i_Chance_ahead, k_Chance_ahead⟩, b_Chance_ahead, F_common_divisor, PySem.W.mg_of X G a_common_divisor, k_common_divisor, b_common_divisor, F_sum_of, PySem.W.mg_of X G a_sum_of, k_sum_of, b_sum_of, F_product_of, PySem.W.mg_of X G a_product_of, k_product_of, b_product_of, F_compared, PySem.W.mg_of X G a_compared, k_compared, b_compared, F_scale_of, PySem.W.mg_of X G a_scale_of, k_scale_of, b_scale_of, F_l_mix, PySem.W.mg_of X G a_l_mix, k_l_mix, b_l_mix, F_l_lowest, PySem.W.mg_of X G a_l_lowest, k_l_lowest, b_l_lowest, F_l_whole, PySem.W.mg_of X G a_l_whole, k_l_whole, b_l_whole, F_l_fraction, PySem.W.mg_of X G a_l_fraction, k_l_fraction, b_l_fraction, F_l_some, PySem.W.mg_of X G a_l_some, k_l_some, b_l_some, F_l_weight, PySem.W.mg_of X G a_l_weight, k_l_weight, b_l_weight, F_l_sort, PySem.W.mg_of X G a_l_sort, k_l_sort, b_l_sort, F_l_bool, PySem.W.mg_of X G a_l_bool, k_l_bool, b_l_bool, F_law, PySem.W.mg_of X G a_law, k_law, b_law, PySem.W.mg_none_of X G z_abs, PySem.W.mg_none_of X G z_isinstance, PySem.W.mg_none_of X G z_int, PySem.W.mg_none_of X G z_bool, PySem.W.mg_none_of X G z_tuple, PySem.W.mg_none_of X G z_len, PySem.W.mg_none_of X G z_enumerate⟩
  exact ⟨PySem.W.fnOf "law" "law" (defArgs s_law) (defBody s_law) (defScope s_law) .none kV_law dc_law pm_law an_law cd_law ct_law, fun s v => .of_eq rfl, fun base _ _ => ok_law T⟩
theorem walk {l : PySem.W.OpenLaw} {q : Program} {loose : List Str} {XP : (Str → Option Value) → Heap → Prop} {YP : World → Heap → Prop} {d : DefRec} {K : Params → PySem.W.Frag} (hn : l.most = some 63) (hdf : d.params.defaults = [])
    (hY : ∀ (w : World) (h : Heap), YP w h → (K w.params).In h)
    (F : ∀ (w : World) (mg : Str → Option Value) (fa : Addr) (h : Heap), (K w.params).In h → h.Ns mainGlobals mg → mg d.name = some (.ref fa) →
      ∃ fd : FuncData, (∀ (s : Shared) (u : Value), BindsTo s fd ⟨[u], []⟩ [("_law_script", u)]) ∧ ∀ base : Heap, (K w.params).In base → base.Ns mainGlobals mg → FnOk l.prog w (K w.params) mg base CX0 4 fa fd ["_law_script"] (sp_law (K w.params))) :
    PySem.W.WalkO q loose XP YP l.row.toRowW d [] (fun f vs => PySem.call f vs) :=
  L2.walk_of (n := 63) (k := 4) (x := "_law_script") (CX := fun _ => CX0) (sp := fun w => sp_law (K w.params)) hn (by decide) hdf ⟨rfl, by decide, by decide⟩ hY F (fun _ _ a ns hl _ hS => ⟨a, ns, rfl, hS, hl, fun _ => rfl⟩) fun _ _ _ _ _ z => z
end My
open PySem PySem.W PyProof.Rows
set_option maxRecDepth 100000 in
set_option maxHeartbeats 0 in
theorem PySem.Challenge.cw_kbestwood_k04_scales_holds : PySem.Challenge.rw_kbestwood_k04_scales.Holds := by
  w_on; o_law; k_head; (case hw => w_witness2)
  k_fill
  refine My.walk (l := PySem.Challenge.rw_kbestwood_k04_scales) rfl rfl (fun w h Y => PySem.W.kIn_of Y) ?F
  case F =>
    intro w mg fa h KX G hmg
    refine' My.all_mk KX G hmg ?aC_Scale ?pg_Scale ?hd_Scale ?po_Scale ?sa_Scale ?aC_Cost ?pg_Cost ?hd_Cost ?po_Cost ?sa_Cost ?mk_Cost ?in_Cost ?kc_Cost ?ha_Cost ?hn_Cost ?tk_Cost ?hm_Cost ?aC_Chance ?pg_Chance ?hd_Chance ?po_Chance ?sa_Chance ?mk_Chance ?in_Chance ?kc_Chance ?ha_Chance ?hn_Chance ?tk_Chance ?hm_Chance ?tt_Scale ?rr_Scale ?tt_Chance ?rr_Chance ?tt_Cost ?rr_Cost ?su_Cost_Scale ?su_Chance_Scale ?su_Cost_Chance ?su_Chance_Chance ?su_Cost_Cost ?su_Chance_Cost ?a_Cost_word ?i_Cost_word ?l_Cost_word ?c_Cost_word ?k_Cost_word ?a_Cost_empty ?i_Cost_empty ?l_Cost_empty ?c_Cost_empty ?k_Cost_empty ?a_Cost_takes ?i_Cost_takes ?l_Cost_takes ?c_Cost_takes ?k_Cost_takes ?a_Cost_join ?i_Cost_join ?l_Cost_join ?c_Cost_join ?k_Cost_join ?a_Cost_ahead ?i_Cost_ahead ?l_Cost_ahead ?c_Cost_ahead ?k_Cost_ahead ?a_Chance_word ?i_Chance_word ?l_Chance_word ?c_Chance_word ?k_Chance_word ?a_Chance_empty ?i_Chance_empty ?l_Chance_empty ?c_Chance_empty ?k_Chance_empty ?a_Chance_takes ?i_Chance_takes ?l_Chance_takes ?c_Chance_takes ?k_Chance_takes ?a_Chance_join ?i_Chance_join ?l_Chance_join ?c_Chance_join ?k_Chance_join ?a_Chance_ahead ?i_Chance_ahead ?l_Chance_ahead ?c_Chance_ahead ?k_Chance_ahead ?a_common_divisor ?l_common_divisor ?c_common_divisor ?k_common_divisor ?a_sum_of ?l_sum_of ?c_sum_of ?k_sum_of ?a_product_of ?l_product_of ?c_product_of ?k_product_of ?a_compared ?l_compared ?c_compared ?k_compared ?a_scale_of ?l_scale_of ?c_scale_of ?k_scale_of ?a_l_mix ?l_l_mix ?c_l_mix ?k_l_mix ?a_l_lowest ?l_l_lowest ?c_l_lowest ?k_l_lowest ?a_l_whole ?l_l_whole ?c_l_whole ?k_l_whole ?a_l_fraction ?l_l_fraction ?c_l_fraction ?k_l_fraction ?a_l_some ?l_l_some ?c_l_some ?k_l_some ?a_l_weight ?l_l_weight ?c_l_weight ?k_l_weight ?a_l_sort ?l_l_sort ?c_l_sort ?k_l_sort ?a_l_bool ?l_l_bool ?c_l_bool ?k_l_bool ?a_law ?l_law ?c_law ?k_law ?z_abs ?z_isinstance ?z_int ?z_bool ?z_tuple ?z_len ?z_enumerate
    (case aC_Scale => k_is)
    (case pg_Scale => k_is)
    (case hd_Scale => k_is)
    (case po_Scale => k_is)
    (case sa_Scale => k_is)
    (case aC_Cost => k_is)
    (case pg_Cost => k_is)
    (case hd_Cost => k_is)
    (case po_Cost => k_is)
    (case sa_Cost => k_is)
    (case mk_Cost => k_is)
    (case in_Cost => k_is)
    (case kc_Cost => k_is)
    (case ha_Cost => k_is)
    (case hn_Cost => k_is)
    (case tk_Cost => k_is)
    (case hm_Cost => k_is)
    (case aC_Chance => k_is)
    (case pg_Chance => k_is)
    (case hd_Chance => k_is)
    (case po_Chance => k_is)
    (case sa_Chance => k_is)
    (case mk_Chance => k_is)
    (case in_Chance => k_is)
    (case kc_Chance => k_is)
    (case ha_Chance => k_is)
    (case hn_Chance => k_is)
    (case tk_Chance => k_is)
    (case hm_Chance => k_is)
    (case tt_Scale => k_is)
    (case rr_Scale => k_is)
    (case tt_Chance => k_is)
    (case rr_Chance => k_is)
    (case tt_Cost => k_is)
    (case rr_Cost => k_is)
    (case su_Cost_Scale => k_is)
    (case su_Chance_Scale => k_is)
    (case su_Cost_Chance => k_is)
    (case su_Chance_Chance => k_is)
    (case su_Cost_Cost => k_is)
    (case su_Chance_Cost => k_is)
    (case a_Cost_word => k_is)
    (case i_Cost_word => k_is)
    (case l_Cost_word => k_is)
    (case c_Cost_word => k_is)
    (case k_Cost_word => k_is)
    (case a_Cost_empty => k_is)
    (case i_Cost_empty => k_is)
    (case l_Cost_empty => k_is)
    (case c_Cost_empty => k_is)
    (case k_Cost_empty => k_is)
    (case a_Cost_takes => k_is)
    (case i_Cost_takes => k_is)
    (case l_Cost_takes => k_is)
    (case c_Cost_takes => k_is)
    (case k_Cost_takes => k_is)
    (case a_Cost_join => k_is)
    (case i_Cost_join => k_is)
    (case l_Cost_join => k_is)
    (case c_Cost_join => k_is)
    (case k_Cost_join => k_is)
    (case a_Cost_ahead => k_is)
    (case i_Cost_ahead => k_is)
    (case l_Cost_ahead => k_is)
    (case c_Cost_ahead => k_is)
    (case k_Cost_ahead => k_is)
    (case a_Chance_word => k_is)
    (case i_Chance_word => k_is)
    (case l_Chance_word => k_is)
    (case c_Chance_word => k_is)
    (case k_Chance_word => k_is)
    (case a_Chance_empty => k_is)
    (case i_Chance_empty => k_is)
    (case l_Chance_empty => k_is)
    (case c_Chance_empty => k_is)
    (case k_Chance_empty => k_is)
    (case a_Chance_takes => k_is)
    (case i_Chance_takes => k_is)
    (case l_Chance_takes => k_is)
    (case c_Chance_takes => k_is)
    (case k_Chance_takes => k_is)
    (case a_Chance_join => k_is)
    (case i_Chance_join => k_is)
    (case l_Chance_join => k_is)
    (case c_Chance_join => k_is)
    (case k_Chance_join => k_is)
    (case a_Chance_ahead => k_is)
    (case i_Chance_ahead => k_is)
    (case l_Chance_ahead => k_is)
    (case c_Chance_ahead => k_is)
    (case k_Chance_ahead => k_is)
    (case a_common_divisor => k_is)
    (case l_common_divisor => k_is)
    (case c_common_divisor => k_is)
    (case k_common_divisor => k_is)
    (case a_sum_of => k_is)
    (case l_sum_of => k_is)
    (case c_sum_of => k_is)
    (case k_sum_of => k_is)
    (case a_product_of => k_is)
    (case l_product_of => k_is)
    (case c_product_of => k_is)
    (case k_product_of => k_is)
    (case a_compared => k_is)
    (case l_compared => k_is)
    (case c_compared => k_is)
    (case k_compared => k_is)
    (case a_scale_of => k_is)
    (case l_scale_of => k_is)
    (case c_scale_of => k_is)
    (case k_scale_of => k_is)
    (case a_l_mix => k_is)
    (case l_l_mix => k_is)
    (case c_l_mix => k_is)
    (case k_l_mix => k_is)
    (case a_l_lowest => k_is)
    (case l_l_lowest => k_is)
    (case c_l_lowest => k_is)
    (case k_l_lowest => k_is)
    (case a_l_whole => k_is)
    (case l_l_whole => k_is)
    (case c_l_whole => k_is)
    (case k_l_whole => k_is)
    (case a_l_fraction => k_is)
    (case l_l_fraction => k_is)
    (case c_l_fraction => k_is)
    (case k_l_fraction => k_is)
    (case a_l_some => k_is)
    (case l_l_some => k_is)
    (case c_l_some => k_is)
    (case k_l_some => k_is)
    (case a_l_weight => k_is)
    (case l_l_weight => k_is)
    (case c_l_weight => k_is)
    (case k_l_weight => k_is)
    (case a_l_sort => k_is)
    (case l_l_sort => k_is)
    (case c_l_sort => k_is)
    (case k_l_sort => k_is)
    (case a_l_bool => k_is)
    (case l_l_bool => k_is)
    (case c_l_bool => k_is)
    (case k_l_bool => k_is)
    (case a_law => k_is)
    (case l_law => k_is)
    (case c_law => k_is)
    (case k_law => k_is)
    (case z_abs => k_is)
    (case z_isinstance => k_is)
    (case z_int => k_is)
    (case z_bool => k_is)
    (case z_tuple => k_is)
    (case z_len => k_is)
    (case z_enumerate => k_is)
