import PyProof.Rows.All
import Wide.All
import OpenK.AllK
import Wide.FinOn
import Lean
import PyProof.EqAt
import PyProof.EqKinds
import PyProof.TupleCall
import PyProof.NeKinds
import PyProof.EnumFor
import PyProof.EnumMake
import PyProof.NsDelKeeps
import OpenK.KOwn
import KE.KIsBytes
import PyProof.CompFree
import PyProof.StrWalks
import PyProof.ConsumeWalk
import PyProof.StrBlockI
import KE.KRevIter
import KE.KDictList
import KE.KIntText
import PySem.Challenge.RW_kbestwood_k03_fractions_written_and_read
set_option Elab.async false
set_option linter.all false
set_option maxRecDepth 100000
set_option maxHeartbeats 4000000
/-! THE HAND LAYER, for ints, bools, texts, own classes, LISTS and tuples (index, slices, in, append, pop ..), calls, loops. Paste it whole ahead of your own text; what your proof does not reach may be deleted. -/
namespace L2
open PySem PySem.Spec PyProof.Rows

/-- a key: an int or a str -/
abbrev Key := Sum Int Str
def keyIs : Key → Value → Bool
  | .inl k, v => Value.isInt k v
  | .inr x, v => Value.isStrOf x v
def keyH (w : World) : Key → Int
  | .inl k => hashInt k
  | .inr x => hashStr w x
theorem keyIs_shape : ∀ {k : Key} {v : Value}, keyIs k v = true → (∃ i t, k = Sum.inl i ∧ v = Value.int i t) ∨ (∃ x t, k = Sum.inr x ∧ v = Value.str x t)
  | .inl i, v, h => by
    obtain ⟨t, e⟩ := Value.isInt_shape (k := i) (v := v) h
    exact .inl ⟨i, t, rfl, e⟩
  | .inr x, v, h => by
    obtain ⟨t, e⟩ := Value.isStrOf_shape (x := x) (v := v) h
    exact .inr ⟨x, t, rfl, e⟩
theorem key_ll (a b : Int) : decide ((Sum.inl a : Key) = Sum.inl b) = (a == b) := by
  by_cases e : a = b
  · subst e; simp
  · have h : ¬ (Sum.inl a : Key) = Sum.inl b := fun q => e (Sum.inl.inj q)
    rw [decide_eq_false h]
    exact (beq_eq_false_iff_ne.mpr e).symm
theorem key_rr (a b : Str) : decide ((Sum.inr a : Key) = Sum.inr b) = decide (a = b) := by
  by_cases e : a = b
  · subst e; simp
  · have h : ¬ (Sum.inr a : Key) = Sum.inr b := fun q => e (Sum.inr.inj q)
    rw [decide_eq_false h, decide_eq_false e]
theorem key_lr (a : Int) (b : Str) : decide ((Sum.inl a : Key) = Sum.inr b) = false := decide_eq_false (fun q => nomatch q)
theorem key_rl (a : Str) (b : Int) : decide ((Sum.inr a : Key) = Sum.inl b) = false := decide_eq_false (fun q => nomatch q)

def mixKind (prog : Program) (w : World) : PySem.KeyKind prog w Key where
  is := keyIs
  hash := keyH w
  inj := fun v a b ha hb => by
    rcases keyIs_shape ha with ⟨i, t, rfl, rfl⟩ | ⟨x, t, rfl, rfl⟩
    · rcases keyIs_shape hb with ⟨j, u, rfl, e⟩ | ⟨y, u, rfl, e⟩
      · injection e with e1 _; rw [e1]
      · exact nomatch e
    · rcases keyIs_shape hb with ⟨j, u, rfl, e⟩ | ⟨y, u, rfl, e⟩
      · exact nomatch e
      · injection e with e1 _; rw [e1]
  byValue := fun k v h => by
    rcases keyIs_shape h with ⟨i, t, rfl, rfl⟩ | ⟨x, t, rfl, rfl⟩ <;> rfl
  pyHash := fun hv h => by
    rcases keyIs_shape hv with ⟨i, t, rfl, rfl⟩ | ⟨x, t, rfl, rfl⟩
    · exact wpAny_pyHash_int h
    · exact wpAny_pyHash_str h
  eqBool := fun hu hv h => by
    rcases keyIs_shape hu with ⟨i, t, rfl, rfl⟩ | ⟨x, t, rfl, rfl⟩
    · rcases keyIs_shape hv with ⟨j, u, rfl, rfl⟩ | ⟨y, u, rfl, rfl⟩
      · rw [key_ll] at h; exact wpAny_eqBool_int h
      · rw [key_lr] at h; exact SeqAt.EqAt.int_str i t y u _ _ _ _ h
    · rcases keyIs_shape hv with ⟨j, u, rfl, rfl⟩ | ⟨y, u, rfl, rfl⟩
      · rw [key_rl] at h; exact SeqAt.EqAt.str_int x t j u _ _ _ _ h
      · rw [key_rr] at h; exact wpAny_eqBool_str h
  «strs» := fun k x t v h => by
    rcases keyIs_shape h with ⟨i, u, rfl, e⟩ | ⟨y, u, rfl, e⟩
    · exact nomatch e
    · injection e with e1 _
      subst e1
      cases v <;> rfl

end L2

namespace L2
open PySem PySem.Spec PyProof.Rows

/-- a value, without the heap -/
inductive V where
  | non | bl (b : Bool) | int (i : Int) | str (x : Str) | byt (b : Array UInt8) | flt (b : UInt64) | ref (a : Addr) | ty (n : String)
  deriving DecidableEq

def RelV : V → Value → Prop
  | .non, u => u = Value.none
  | .bl b, u => u = Value.bool b
  | .int i, u => ∃ t, u = Value.int i t
  | .str x, u => ∃ t, u = Value.str x t
  | .byt b, u => ∃ t, u = Value.bytes b t
  | .flt b, u => ∃ t, u = Value.float b t
  | .ref a, u => u = Value.ref a
  | .ty n, u => u = Value.type n

abbrev Vals : List V → List Value → Prop := Paired RelV
theorem Vals.length {xs : List V} {us : List Value} (r : Vals xs us) : xs.length = us.length := Paired.length r
theorem Vals.get : ∀ {xs : List V} {us : List Value} {i : Nat} {x : V}, Vals xs us → xs[i]? = some x → ∃ u, us[i]? = some u ∧ RelV x u
  | _, _, _, _, .nil, e => by simp at e
  | _, _, 0, _, .cons r _, e => by simp at e; subst e; exact ⟨_, rfl, r⟩
  | _, _, i + 1, x, .cons _ t, e => by
    obtain ⟨u, h1, h2⟩ := Vals.get (i := i) (x := x) t (by simpa using e)
    exact ⟨u, by simpa using h1, h2⟩
theorem Vals.set {x : V} {u : Value} (r : RelV x u) : ∀ {xs : List V} {us : List Value} (i : Nat), Vals xs us → Vals (xs.set i x) (us.set i u)
  | _, _, _, .nil => .nil
  | _, _, 0, .cons _ t => .cons r t
  | _, _, i + 1, .cons q t => .cons q (Vals.set r i t)
theorem Vals.append : ∀ {xs ys : List V} {us ws : List Value}, Vals xs us → Vals ys ws → Vals (xs ++ ys) (us ++ ws)
  | _, _, _, _, .nil, s => s
  | _, _, _, _, .cons r t, s => .cons r (Vals.append t s)
theorem Vals.take : ∀ {xs : List V} {us : List Value} (n : Nat), Vals xs us → Vals (xs.take n) (us.take n)
  | _, _, 0, _ => .nil
  | _, _, _ + 1, .nil => .nil
  | _, _, n + 1, .cons r t => .cons r (Vals.take n t)
theorem Vals.drop : ∀ {xs : List V} {us : List Value} (n : Nat), Vals xs us → Vals (xs.drop n) (us.drop n)
  | _, _, 0, r => r
  | _, _, _ + 1, .nil => .nil
  | _, _, n + 1, .cons _ t => Vals.drop n t
def RelO : Option V → Option Value → Prop
  | some v, some u => RelV v u
  | none, none => True
  | _, _ => False
def KV {κ : Type} : List (κ × V) → List (κ × Value) → Prop := Paired fun (p : κ × V) (q : κ × Value) => p.1 = q.1 ∧ RelV p.2 q.2

/-- a key of a dict (00_mix): an int or a text -/
def kV : Key → V
  | .inl i => .int i
  | .inr x => .str x

/-- what stands at a tracked address -/
inductive HO where
  /-- a list -/
  | lst (xs : List V)
  /-- a tuple (never changes) -/
  | tup (xs : List V)
  /-- a dict whose keys are ints and texts; one whose keys are tuples of ints and texts (the empty one is both) -/
  | dK (kvs : List (Key × V)) | dT (kvs : List (List Key × V))
  /-- a set of ints: its members, its size -/
  | set (S : Int → Bool) (n : Nat)
  /-- an instance of the class at C, its dict at dx, its attributes -/
  | ins (C dx : Addr) (fs : List (Str × V))
  /-- the dict of the instance at x -/
  | own (x : Addr)
  /-- the dict of an exception -/
  | xd (fs : List (Str × V))
  /-- a bound method, f of x -/
  | met (f x : Addr)
  /-- a range object lo, lo + 1, .. below hi -/
  | rng (lo hi : Int)
  /-- a thing that is known to the object (the script; a dict while a loop walks it): read, never written while it is so -/
  | frz (o : Obj) (u : HO)
  /-- a code object's table -/
  | tbl (ps : Array Value)
  /-- any other thing, by what is true of its one object (a def of one's own: SetO a S n := HO.ext fun h => ..) -/
  | ext (φ : Heap → Prop)

abbrev Hp := Addr → Option HO
def upd (H : Hp) (a : Addr) (o : HO) : Hp := fun b => if b = a then some o else H b
theorem upd_same {H : Hp} {a : Addr} {o : HO} : upd H a o a = some o := by unfold upd; rw [if_pos rfl]
theorem upd_ne {H : Hp} {a b : Addr} {o : HO} (h : b ≠ a) : upd H a o b = H b := by unfold upd; rw [if_neg h]
theorem ne_of_none {H : Hp} {a b : Addr} {o : HO} (h : H a = some o) (h' : H b = none) : a ≠ b := by
  intro e; subst e; rw [h] at h'; cases h'

section
variable (P : Program) (w : World)
def ObjOk (H : Hp) (h : Heap) (a : Addr) : HO → Prop
  | .lst xs => xs.length ≤ sizeLine ∧ ∃ (its : List Value) (n : Nat), Vals xs its ∧ h.get? a = some { cls := .type "list", data := .seq its.toArray n }
  | .tup xs => xs.length ≤ sizeLine ∧ ∃ its : List Value, Vals xs its ∧ IsTup h a its.toArray
  | .dK kvs => kvs.length ≤ sizeLine ∧ (a == sysModules) = false ∧ ∃ vs, KV kvs vs ∧ h.DictOf (mixKind P w) a vs
  | .dT kvs => kvs.length ≤ sizeLine ∧ (a == sysModules) = false ∧ ∃ xs : List (List Key × Addr × Value),
      Paired (fun (p : List Key × V) (q : List Key × Addr × Value) => p.1 = q.1 ∧ H q.2.1 = some (.tup (p.1.map kV)) ∧ RelV p.2 q.2.2) kvs xs ∧
      ∃ o es ep, h.get? a = some o ∧ o.ExactDict ∧ o.data = .dict es ep ∧ es.toList = xs.map (entryOfKey (tupleKind (mixKind P w))) ∧ (xs.map (·.1)).Nodup
  | .set S n => h.SetOf (intKind P w) a S n
  | .ins C dx fs => H dx = some (.own a) ∧ fs.length ≤ 1000 ∧ dx ≠ a ∧ h.get? a = some (PySem.W.instObj C dx) ∧
      ∃ mA, h.Ns1 dx mA ∧ (∀ f, RelO (fs.lookup f) (mA f)) ∧ PySem.Within mA (fs.map (·.1))
  | .own _ => ∃ o, h.get? a = some o
  | .xd fs => ∃ mA, h.Ns1 a mA ∧ ∀ f, RelO (fs.lookup f) (mA f)
  | .rng lo hi => ∃ t u v, h.get? a = some { cls := .type "range", data := .fields #[.int lo t, .int hi u, .int 1 v] }
  | .frz o u => h.get? a = some o ∧ ObjOk H h a u
  | .tbl ps => h.get? a = some { cls := .none, data := .fields ps }
  | .met f x => h.get? a = some (PySem.W.methodObj (.ref f) (.ref x))
  | .ext φ => φ h ∧ (∃ o, h.get? a = some o) ∧ ∀ h1 h2 : Heap, φ h1 → (∀ o, h1.get? a = some o → h2.get? a = some o) → φ h2
/-- the abstract heap is held -/
def HOk (H : Hp) (h : Heap) : Prop := ∀ a o, H a = some o → ObjOk P w H h a o
end

section
variable {P : Program} {w : World} {H H' : Hp} {h h' : Heap} {a : Addr} {o : HO}
theorem ObjOk.lt (x : ObjOk P w H h a o) : a < h.objs.size := by
  cases o with
  | lst xs => obtain ⟨_, _, _, _, e⟩ := x; exact Heap.lt_size e
  | tup xs => obtain ⟨_, _, _, p⟩ := x; exact p.lt
  | dK kvs => obtain ⟨_, _, _, _, o, _, _, e, _⟩ := x; exact Heap.lt_size e
  | dT kvs => obtain ⟨_, _, _, _, o, _, _, e, _⟩ := x; exact Heap.lt_size e
  | set S n => obtain ⟨o, _, _, _, e, _⟩ := x; exact Heap.lt_size e
  | ins C dx fs => obtain ⟨_, _, _, e, _⟩ := x; exact Heap.lt_size e
  | own y => obtain ⟨_, e⟩ := x; exact Heap.lt_size e
  | xd fs => obtain ⟨_, ⟨_, _, _, e, _⟩, _⟩ := x; exact Heap.lt_size e
  | rng lo hi => obtain ⟨_, _, _, e⟩ := x; exact Heap.lt_size e
  | frz ob u => obtain ⟨e, _⟩ := x; exact Heap.lt_size e
  | tbl ps => exact Heap.lt_size (show h.get? a = some _ from x)
  | met f y => exact Heap.lt_size (show h.get? a = some _ from x)
  | ext φ => obtain ⟨_, ⟨_, e⟩, _⟩ := x; exact Heap.lt_size e
theorem Paired.mapP {α β : Type} {F G : α → β → Prop} : ∀ {l₁ : List α} {l₂ : List β}, Paired F l₁ l₂ → (∀ a b, F a b → G a b) → Paired G l₁ l₂
  | _, _, .nil, _ => .nil
  | _, _, .cons r t, f => .cons (f _ _ r) (Paired.mapP t f)
/-- what an object's description leans on: its own object, its own dict, the tuples -/
theorem ObjOk.stay (x : ObjOk P w H h a o) (k : ∀ b u, (b = a ∨ H b = some (.own a)) → h.get? b = some u → h'.get? b = some u)
    (ho : ∀ b, H b = some (.own a) → H' b = some (.own a)) (ht : ∀ b xs, H b = some (.tup xs) → H' b = some (.tup xs)) : ObjOk P w H' h' a o := by
  induction o with
  | lst xs => obtain ⟨z, its, n, r, e⟩ := x; exact ⟨z, its, n, r, k _ _ (.inl rfl) e⟩
  | tup xs => obtain ⟨z, its, r, ob, e, c⟩ := x; exact ⟨z, its, r, ob, k _ _ (.inl rfl) e, c⟩
  | dK kvs => obtain ⟨z, y, vs, r, ob, es, ep, e, c⟩ := x; exact ⟨z, y, vs, r, ob, es, ep, k _ _ (.inl rfl) e, c⟩
  | dT kvs =>
    obtain ⟨z, y, xs, r, ob, es, ep, e, c⟩ := x
    exact ⟨z, y, xs, Paired.mapP r fun p q z => ⟨z.1, ht _ _ z.2.1, z.2.2⟩, ob, es, ep, k _ _ (.inl rfl) e, c⟩
  | set S n => obtain ⟨ob, es, ep, t, e, c⟩ := x; exact ⟨ob, es, ep, t, k _ _ (.inl rfl) e, c⟩
  | ins C dx fs =>
    obtain ⟨d, z, ne, e, mA, ⟨od, es, ep, e2, c⟩, r⟩ := x
    exact ⟨ho _ d, z, ne, k _ _ (.inl rfl) e, mA, ⟨od, es, ep, k _ _ (.inr d) e2, c⟩, r⟩
  | own y => obtain ⟨ob, e⟩ := x; exact ⟨ob, k _ _ (.inl rfl) e⟩
  | xd fs => obtain ⟨mA, ⟨od, es, ep, e, c⟩, r⟩ := x; exact ⟨mA, ⟨od, es, ep, k _ _ (.inl rfl) e, c⟩, r⟩
  | rng lo hi => obtain ⟨t, u, v, e⟩ := x; exact ⟨t, u, v, k _ _ (.inl rfl) e⟩
  | frz ob u ih => obtain ⟨e, q⟩ := x; exact ⟨k _ _ (.inl rfl) e, ih q⟩
  | tbl ps =>
    have e : h.get? a = some { cls := .none, data := .fields ps } := x
    show h'.get? a = some { cls := .none, data := .fields ps }
    exact k a _ (.inl rfl) e
  | met f y =>
    have e : h.get? a = some (PySem.W.methodObj (.ref f) (.ref y)) := x
    show h'.get? a = some (PySem.W.methodObj (.ref f) (.ref y))
    exact k a _ (.inl rfl) e
  | ext φ => obtain ⟨p, ⟨o, e⟩, st⟩ := x; exact ⟨st _ _ p fun o q => k _ _ (.inl rfl) q, ⟨o, k _ _ (.inl rfl) e⟩, st⟩
theorem HOk.lt (x : HOk P w H h) (e : H a = some o) : a < h.objs.size := (x a o e).lt
theorem HOk.fresh (x : HOk P w H h) (e : h.objs.size ≤ a) : H a = none := by
  cases q : H a with
  | none => rfl
  | some u => exact absurd (Nat.lt_of_lt_of_le (x.lt q) e) (Nat.lt_irrefl _)
/-- every object of the heap is kept -/
theorem HOk.kept (x : HOk P w H h) (k : ∀ b u, h.get? b = some u → h'.get? b = some u) : HOk P w H h' := fun a o e =>
  (x a o e).stay (fun b u _ q => k b u q) (fun _ q => q) fun _ _ q => q
/-- a new object is laid and tracked -/
theorem HOk.laid (x : HOk P w H h) (k : ∀ b u, h.get? b = some u → h'.get? b = some u) (hp : h.objs.size ≤ a) (new : ObjOk P w (upd H a o) h' a o) : HOk P w (upd H a o) h' := fun b u e => by
  have hn := x.fresh hp
  by_cases hb : b = a
  · subst hb; rw [upd_same] at e; cases e; exact new
  · rw [upd_ne hb] at e
    exact (x b u e).stay (fun c v _ q => k c v q) (fun c q => by rw [upd_ne (ne_of_none q hn)]; exact q) fun c xs q => by rw [upd_ne (ne_of_none q hn)]; exact q
end

/-- what may be read as u: it is u, or a known u -/
def Rd (H : Hp) (a : Addr) (u : HO) : Prop := H a = some u ∨ ∃ o, H a = some (.frz o u)
theorem Rd.of {H : Hp} {a : Addr} {u : HO} (h : H a = some u) : Rd H a u := .inl h
theorem Rd.ok {P : Program} {w : World} {H : Hp} {h : Heap} {a : Addr} {u : HO} (r : Rd H a u) (x : HOk P w H h) : ObjOk P w H h a u := by
  rcases r with r | ⟨o, r⟩
  · exact x a u r
  · obtain ⟨_, q⟩ := x a _ r
    exact q
/-- what may be written -/
def Mut : Option HO → Prop
  | some (.lst _) => True
  | some (.dK _) => True
  | some (.dT _) => True
  | some (.set _ _) => True
  | some (.ins _ _ _) => True
  | some (.ext _) => True
  | _ => False
section
variable {P : Program} {w : World} {H : Hp} {h h' : Heap} {x e : Addr} {o' : HO}
/-- the object at e is changed: x itself, or the dict of the instance x -/
theorem HOk.write (ok : HOk P w H h) (mu : Mut (H x)) (he : e = x ∨ H e = some (.own x)) (k : ∀ b u, b ≠ e → h.get? b = some u → h'.get? b = some u) (heo : ∃ u, h'.get? e = some u)
    (new : ObjOk P w (upd H x o') h' x o') : HOk P w (upd H x o') h' := fun b u q => by
  have nown : ∀ c y, H c = some (.own y) → c ≠ x := fun c y r z => by subst z; rw [r] at mu; exact mu
  have ntup : ∀ c xs, H c = some (.tup xs) → c ≠ x := fun c xs r z => by subst z; rw [r] at mu; exact mu
  by_cases hb : b = x
  · subst hb; rw [upd_same] at q; cases q; exact new
  · rw [upd_ne hb] at q
    by_cases hbe : b = e
    · have q' : H b = some (.own x) := by
        rcases he with z | z
        · exact absurd (hbe.trans z) hb
        · rw [hbe]; exact z
      rw [q] at q'; cases q'
      obtain ⟨v, hv⟩ := heo
      exact ⟨v, by rw [hbe]; exact hv⟩
    · refine (ok b u q).stay (fun c v hc r => k c v ?_ r) (fun c r => by rw [upd_ne (nown c b r)]; exact r) fun c xs r => by rw [upd_ne (ntup c xs r)]; exact r
      rcases hc with rfl | hc
      · exact hbe
      · rintro rfl
        rcases he with z | z
        · exact nown c b hc z
        · rw [hc] at z; cases z; exact hb rfl
end

/-! ### kept unless tracked; of the frames at fs (the callers') the slots may change (an exception that passes writes there); of the records at ex (iterators) nothing is said -/
structure Un (fs ex : List Addr) (H H' : Hp) (h h' : Heap) : Prop where
  keep : ∀ b o, h.get? b = some o → H b = none → b ∉ fs → b ∉ ex → h'.get? b = some o
  slot : ∀ b o, h.get? b = some o → H b = none → b ∈ fs → b ∉ ex → ∃ sl, h'.get? b = some { o with slots := sl }
  free : ∀ b o, h.get? b = some o → H b = none → b ∉ ex → H' b = none
  there : ∀ b o, h.get? b = some o → b ∉ ex → ∃ o', h'.get? b = some o'
  tups : ∀ b xs, H b = some (.tup xs) → H' b = some (.tup xs)
  frzs : ∀ b o u, H b = some (.frz o u) → H' b = some (.frz o u)
  tbls : ∀ b ps, H b = some (.tbl ps) → ∃ more, H' b = some (.tbl (ps ++ more))
section
variable {fs fs' ex ex' : List Addr} {H H1 H2 : Hp} {h h1 h2 h' : Heap} {a x e : Addr} {o : HO}
theorem Un.any (u : Un fs ex H H1 h h1) {b : Addr} {ob : Obj} (q : h.get? b = some ob) (n : H b = none) (hx : b ∉ ex) : ∃ sl, h1.get? b = some { ob with slots := sl } := by
  by_cases hb : b ∈ fs
  · exact u.slot b ob q n hb hx
  · exact ⟨ob.slots, u.keep b ob q n hb hx⟩
theorem Un.trans (a : Un fs ex H H1 h h1) (b : Un fs ex H1 H2 h1 h2) : Un fs ex H H2 h h2 where
  keep := fun c ob q n hc hx => b.keep c ob (a.keep c ob q n hc hx) (a.free c ob q n hx) hc hx
  slot := fun c ob q n hc hx => by
    obtain ⟨sl, e1⟩ := a.slot c ob q n hc hx
    obtain ⟨sl', e2⟩ := b.slot c _ e1 (a.free c ob q n hx) hc hx
    exact ⟨sl', e2⟩
  free := fun c ob q n hx => by
    obtain ⟨o', e1⟩ := a.there c ob q hx
    exact b.free c o' e1 (a.free c ob q n hx) hx
  there := fun c ob q hx => by
    obtain ⟨o', e1⟩ := a.there c ob q hx
    exact b.there c o' e1 hx
  tups := fun c xs q => b.tups c xs (a.tups c xs q)
  frzs := fun c ob xs q => b.frzs c ob xs (a.frzs c ob xs q)
  tbls := fun c ps q => by
    obtain ⟨m1, e1⟩ := a.tbls c ps q
    obtain ⟨m2, e2⟩ := b.tbls c _ e1
    exact ⟨m1 ++ m2, by rw [e2, Array.append_assoc]⟩
theorem Un.kept (k : ∀ b u, h.get? b = some u → h'.get? b = some u) : Un fs ex H H h h' :=
  ⟨fun b ob q _ _ _ => k b ob q, fun b ob q _ _ _ => ⟨ob.slots, k b ob q⟩, fun _ _ _ n _ => n, fun b ob q _ => ⟨ob, k b ob q⟩, fun _ _ q => q, fun _ _ _ q => q, fun _ ps q => ⟨#[], by rw [q]; simp⟩⟩
theorem Un.refl : Un fs ex H H h h := Un.kept fun _ _ q => q
theorem Un.laid (k : ∀ b u, h.get? b = some u → h'.get? b = some u) (hp : h.objs.size ≤ a) (hn : H a = none) : Un fs ex H (upd H a o) h h' where
  keep := fun b u q _ _ _ => k b u q
  slot := fun b u q _ _ _ => ⟨u.slots, k b u q⟩
  free := fun b u q n _ => by rw [upd_ne (Nat.ne_of_lt (Nat.lt_of_lt_of_le (Heap.lt_size q) hp))]; exact n
  there := fun b u q _ => ⟨u, k b u q⟩
  tups := fun b xs q => by rw [upd_ne (ne_of_none q hn)]; exact q
  frzs := fun b u xs q => by rw [upd_ne (ne_of_none q hn)]; exact q
  tbls := fun b ps q => ⟨#[], by rw [upd_ne (ne_of_none q hn), q]; simp⟩
theorem Un.write (mu : Mut (H x)) (he : e = x ∨ H e = some (.own x)) (k : ∀ b u, b ≠ e → h.get? b = some u → h'.get? b = some u) (heo : ∃ u, h'.get? e = some u) : Un fs ex H (upd H x o) h h' := by
  have hx : ∀ b, H b = none → b ≠ x := fun b n z => by subst z; rw [n] at mu; exact mu
  have hb : ∀ b, H b = none → b ≠ e := fun b n z => by
    subst z
    rcases he with r | r
    · exact hx b n r
    · rw [n] at r; cases r
  have hm : ∀ b u, H b = some u → ¬ Mut (some u) → b ≠ x := fun b u q nm z => by subst z; rw [q] at mu; exact nm mu
  refine ⟨fun b u q n _ _ => k b u (hb b n) q, fun b u q n _ _ => ⟨u.slots, k b u (hb b n) q⟩, fun b u q n _ => by rw [upd_ne (hx b n)]; exact n, fun b u q _ => ?_,
    fun b xs q => by rw [upd_ne (hm b _ q fun z => z)]; exact q, fun b u xs q => by rw [upd_ne (hm b _ q fun z => z)]; exact q, fun b ps q => ⟨#[], by rw [upd_ne (hm b _ q fun z => z), q]; simp⟩⟩
  by_cases hbe : b = e
  · subst hbe; exact heo
  · exact ⟨u, k b u hbe q⟩
theorem Un.mono (u : Un fs ex H H1 h h1) (hs : ∀ b ∈ fs, b ∈ fs') (hx : ∀ b ∈ ex, b ∈ ex') : Un fs' ex' H H1 h h1 :=
  ⟨fun b ob q n hb he => u.keep b ob q n (fun z => hb (hs b z)) fun z => he (hx b z), fun _ _ q n _ he => u.any q n fun z => he (hx _ z), fun b ob q n he => u.free b ob q n fun z => he (hx b z), fun b ob q he => u.there b ob q fun z => he (hx b z), u.tups, u.frzs, u.tbls⟩
end

/-! ### the heap without what is tracked -/
def trk (h : Heap) (H : Hp) : List Addr := (List.range h.objs.size).filter fun a => (H a).isSome
def hidT (h : Heap) (H : Hp) : Heap := PySem.W.hideAll h (trk h H)
theorem hidT_size (h : Heap) (H : Hp) : (hidT h H).objs.size = h.objs.size := PySem.W.hideAll_size _ _
theorem hidT_get {h : Heap} {H : Hp} {b : Addr} {o : Obj} (e : h.get? b = some o) (n : H b = none) : (hidT h H).get? b = some o :=
  PySem.W.hideAll_get _ e fun hm => by
    have q : (H b).isSome = true := (List.mem_filter.mp hm).2
    rw [n] at q; simp at q
theorem of_hidT {h : Heap} {H : Hp} {b : Addr} {o : Obj} (e : (hidT h H).get? b = some o) : h.get? b = some o ∧ H b = none := by
  have e' : h.get? b = some o := PySem.W.of_hideAll (trk h H) e
  refine ⟨e', ?_⟩
  cases q : H b with
  | none => rfl
  | some x =>
    have hm : b ∈ trk h H := List.mem_filter.mpr ⟨List.mem_range.mpr (Heap.lt_size e'), by simp [q]⟩
    have z : (hidT h H).get? b = none := PySem.W.hideAll_none (trk h H) hm
    rw [z] at e; cases e

/-! ### OpenK's ledger, filled with every new object but one -/
def allNews (g h : Heap) (L : Addr) : List (Addr × Obj) := (List.range h.objs.size).filterMap fun a => if a = L ∨ (g.get? a).isSome = true then none else (h.get? a).map fun o => (a, o)
def rest (g h : Heap) (L d : Addr) : List (Addr × Obj) := (allNews g h L).filter fun p => decide (p.1 ≠ d)
end L2

namespace L2
open PySem PySem.Spec PyProof.Rows

/-- the module's facts, over the base: the heap at the law's entry without what is tracked there -/
structure Mod (K : PySem.W.Frag) (mg : Str → Option Value) (base : Heap) : Prop where
  kin : K.In base
  glob : base.Ns mainGlobals mg
  blt : ∃ mb, base.Ns builtinsNs mb ∧ ∀ x : Str, x ≠ "__name__" → mb x = bootBuiltins x
  nolimit : base.NoLimit

/-- the context: a def's body (or a comprehension's block) running. base: fixed through the whole law; s₀, H₀: the entry; outer: the frames whose slots others may change (a def's callers); stack: all frames that run;
   ex: iterators that were made ahead of the entry and are walked here (a comprehension's); fn: the names whose cells were made at the entry (a def: all; a comprehension's block: its own); calm: not within an except suite; pn: pins that every state bears; xe: what is wanted of an exception that leaves the code -/
structure Cx where
  prog : Program
  w : World
  K : PySem.W.Frag
  mg : Str → Option Value
  base : Heap
  A : Around
  N : List Str
  s₀ : Shared
  H₀ : Hp
  env : Env
  outer : List Env
  stack : List Env
  ex : List Addr
  fn : Str → Bool
  calm : Bool
  pn : List (Addr × Obj)
  xe : Value → Shared → Prop
/-- the callers' frames -/
def frs (l : List Env) : List Addr := l.filterMap (·.frame)
abbrev Cx.fs (X : Cx) : List Addr := frs X.outer

def Vis (sc : Scope) (x : Str) : Prop := sc.names.lookup x = some .local ∨ sc.names.lookup x = some .cell ∨ sc.names.lookup x = some .free
def Loc (sc : Scope) (x : Str) : Prop := sc.names.lookup x = some .local ∨ sc.names.lookup x = some .cell
def Look (env : Env) (h : Heap) (m : Str → Option Value) (x : Str) (u : Value) : Prop :=
  (env.kindOf x = some .local ∧ m x = some u) ∨ ((env.kindOf x = some .cell ∨ env.kindOf x = some .free) ∧ ∃ c, env.cells.lookup x = some c ∧ h.IsCell c (some u))

structure Cx.Ok (X : Cx) : Prop where
  mod : Mod X.K X.mg X.base
  kind : X.env.scope.kind = .function
  glob : X.env.globals = mainGlobals
  blt : X.env.builtins = builtinsNs
  above : X.s₀.heap.objs.size ≤ X.env.locals
  inj : ∀ x y c, X.env.cells.lookup x = some c → X.env.cells.lookup y = some c → x = y
  has : ∀ x, (X.env.kindOf x = some .cell ∨ X.env.kindOf x = some .free) → ∃ c, X.env.cells.lookup x = some c
  cab : ∀ x c, X.fn x = true → X.env.cells.lookup x = some c → X.s₀.heap.objs.size ≤ c
  hd : X.calm = true → X.A.handled = none
  frames : X.A.frames = some X.stack
  stk : X.stack = X.outer ∨ (X.stack = X.env :: X.outer ∧ X.env.frame = some X.env.locals)
  exf : ∀ b ∈ X.ex, b ≠ X.env.locals ∧ ∀ x c, X.env.cells.lookup x = some c → c ≠ b
  bs : ∀ b o, X.base.get? b = some o → X.s₀.heap.get? b = some o ∧ X.H₀ b = none
  bsz : X.base.objs.size ≤ X.s₀.heap.objs.size
  noex : ∀ b o, X.base.get? b = some o → b ∉ X.ex
  exfs : ∀ b ∈ X.ex, b ∉ X.fs
  funs : X.s₀.heap.FunFrames X.base X.outer
  frf : ∀ b ∈ X.fs, X.H₀ b = none

structure Inv (X : Cx) (pins : List (Addr × Obj)) (σ : List (Option V)) (H : Hp) (s : Shared) : Prop where
  ok : X.Ok
  os : s.os = X.s₀.os
  bare : AllBare s.gens
  base : Un X.fs X.ex X.H₀ H X.s₀.heap s.heap
  loc : ∃ m, s.heap.Ns X.env.locals m ∧ ∀ (i : Nat) (x : Str) (v : V), X.N[i]? = some x → σ[i]? = some (some v) → Vis X.env.scope x → ∃ u, RelV v u ∧ Look X.env s.heap m x u
  cell : ∀ x c, X.env.cells.lookup x = some c → ∃ v, s.heap.IsCell c v
  free : H X.env.locals = none
  freeC : ∀ x c, X.env.cells.lookup x = some c → H c = none
  pin : ∀ p ∈ X.pn ++ pins, s.heap.get? p.1 = some p.2 ∧ H p.1 = none ∧ p.1 ≠ X.env.locals ∧ p.1 ∉ X.fs ∧ ∀ v, p.2.data ≠ .cell v
  hok : HOk X.prog X.w H s.heap
  len : σ.length = X.N.length

section
variable {X : Cx} {pins : List (Addr × Obj)} {σ : List (Option V)} {H H' : Hp} {s : Shared} {h' : Heap}

theorem Cx.Ok.nofr (ok : X.Ok) {b : Addr} {o : Obj} (e : X.base.get? b = some o) : b ∉ X.fs := fun hb => by
  have := (ok.funs.mem hb).1
  rw [e] at this; cases this
theorem Inv.bs (I : Inv X pins σ H s) : ∀ b o, X.base.get? b = some o → s.heap.get? b = some o ∧ H b = none := fun b o e =>
  ⟨I.base.keep b o (I.ok.bs b o e).1 (I.ok.bs b o e).2 (I.ok.nofr e) (I.ok.noex b o e), I.base.free b o (I.ok.bs b o e).1 (I.ok.bs b o e).2 (I.ok.noex b o e)⟩
theorem Inv.bk (I : Inv X pins σ H s) : ∀ b o, X.base.get? b = some o → s.heap.get? b = some o := fun b o e => (I.bs b o e).1
theorem Inv.mod (I : Inv X pins σ H s) : Mod X.K X.mg X.base := I.ok.mod
theorem Inv.kIn (I : Inv X pins σ H s) : X.K.In s.heap := I.ok.mod.kin.keeps I.bk
theorem Inv.nolimit (I : Inv X pins σ H s) : s.heap.NoLimit := I.ok.mod.nolimit.keeps I.bk
/-- the frame over the base: for OpenK's rules (K.In X.base is I.mod.kin) -/
theorem Inv.fr (I : Inv X pins σ H s) : ∃ m, Fr X.base X.env.locals s.heap m :=
  let ⟨m, hn, _⟩ := I.loc
  ⟨m, hn, I.bk, Nat.le_trans I.ok.bsz I.ok.above⟩
theorem Inv.lt (I : Inv X pins σ H s) : X.env.locals < s.heap.objs.size := let ⟨_, hn, _⟩ := I.loc; hn.lt
theorem Inv.sz (I : Inv X pins σ H s) : X.s₀.heap.objs.size ≤ s.heap.objs.size := Nat.le_trans I.ok.above (Nat.le_of_lt I.lt)
theorem Inv.nofs (I : Inv X pins σ H s) {a : Addr} (h : s.heap.objs.size ≤ a) : a ∉ X.fs := fun hb => by
  obtain ⟨_, o, ho, _⟩ := I.ok.funs.mem hb
  exact absurd (Nat.lt_of_lt_of_le (Heap.lt_size ho) (Nat.le_trans I.sz h)) (Nat.lt_irrefl _)
theorem Inv.cne (I : Inv X pins σ H s) : ∀ x c, X.env.cells.lookup x = some c → c ≠ X.env.locals := fun x c e z => by
  obtain ⟨v, o, ho, hd⟩ := I.cell x c e
  obtain ⟨m, ⟨o', es, ep, ho', hd', _⟩, _⟩ := I.loc
  rw [z, ho'] at ho; cases ho; rw [hd'] at hd; cases hd
theorem Inv.funs (I : Inv X pins σ H s) : s.heap.FunFrames X.base X.outer := by
  have all : ∀ (l : List Env), (∀ b ∈ frs l, b ∈ X.fs) → X.s₀.heap.FunFrames X.base l → s.heap.FunFrames X.base l := by
    intro l
    induction l with
    | nil => intro _ _; trivial
    | cons env r ih =>
      intro hs hl
      obtain ⟨hk, ⟨L, o, hf, hn, ho, hd⟩, hr⟩ := hl
      have hL : L ∈ X.fs := hs L (by unfold frs; rw [List.filterMap_cons, hf]; exact List.mem_cons_self)
      obtain ⟨sl, e⟩ := I.base.slot L o ho (I.ok.frf L hL) hL fun z => I.ok.exfs L z hL
      exact ⟨hk, ⟨L, _, hf, hn, e, hd⟩, ih (fun b hb => hs b (by unfold frs; rw [List.filterMap_cons, hf]; exact List.mem_cons_of_mem _ hb)) hr⟩
  exact all X.outer (fun _ hb => hb) I.ok.funs

/-- the frames that run, for a call -/
theorem Inv.stack (I : Inv X pins σ H s) : s.heap.FunFrames X.base X.stack := by
  rcases I.ok.stk with e | ⟨e, hf⟩
  · rw [e]; exact I.funs
  · rw [e]
    obtain ⟨m, hn, _⟩ := I.loc
    refine .cons (by rw [I.ok.kind]; decide) hf hn ?_ I.funs
    exact Heap.get?_none_of_le (Nat.le_trans I.ok.bsz I.ok.above)
theorem Inv.stkSub (I : Inv X pins σ H s) : ∀ b ∈ frs X.stack, b ∈ X.env.locals :: X.fs := fun b hb => by
  rcases I.ok.stk with e | ⟨e, hf⟩
  · rw [e] at hb; exact List.mem_cons_of_mem _ hb
  · rw [e] at hb
    unfold frs at hb
    rw [List.filterMap_cons, hf] at hb
    exact hb
theorem Inv.stkFree (I : Inv X pins σ H s) : ∀ b ∈ frs X.stack, H b = none := fun b hb => by
  rcases List.mem_cons.mp (I.stkSub b hb) with e | hb
  · rw [e]; exact I.free
  · obtain ⟨_, o, ho, _⟩ := I.ok.funs.mem hb
    exact I.base.free b o ho (I.ok.frf b hb) fun z => I.ok.exfs b z hb

/-- THE STEP: the untracked objects but the frame and the records at ch are kept (the callers' frames up to slots), the frame's map is kept, the new abstract heap is held -/
theorem Inv.step {g' : Array GenState} {t' : Nat} {d' : Drawn} {ch : List Addr} (I : Inv X pins σ H s)
    (hch : ∀ b ∈ ch, (b ∈ X.ex ∨ X.s₀.heap.objs.size ≤ b) ∧ b ≠ X.env.locals ∧ (∀ x c, X.env.cells.lookup x = some c → c ≠ b) ∧ ∀ p ∈ X.pn ++ pins, p.1 ≠ b)
    (keep : ∀ b o, b ≠ X.env.locals → b ∉ X.fs → b ∉ ch → s.heap.get? b = some o → H b = none → h'.get? b = some o)
    (slot : ∀ b o, b ≠ X.env.locals → b ∈ X.fs → b ∉ ch → s.heap.get? b = some o → H b = none → ∃ sl, h'.get? b = some { o with slots := sl }) (free : ∀ b o, b ∉ ch → s.heap.get? b = some o → H b = none → H' b = none)
    (there : ∀ b o, b ∉ ch → s.heap.get? b = some o → ∃ o', h'.get? b = some o')
    (tups : ∀ b xs, H b = some (.tup xs) → H' b = some (.tup xs)) (frzs : ∀ b o u, H b = some (.frz o u) → H' b = some (.frz o u)) (tbls : ∀ b ps, H b = some (.tbl ps) → ∃ more, H' b = some (.tbl (ps ++ more)))
    (ns : ∀ m, s.heap.Ns X.env.locals m → h'.Ns X.env.locals m) (hok : HOk X.prog X.w H' h') (hg : AllBare g') :
    Inv X pins σ H' { s with heap := h', gens := g', drawn := d', toks := t' } := by
  have neL : ∀ b o, X.s₀.heap.get? b = some o → b ≠ X.env.locals := fun b o e => Nat.ne_of_lt (Nat.lt_of_lt_of_le (Heap.lt_size e) I.ok.above)
  have neC : ∀ b o, X.s₀.heap.get? b = some o → b ∉ X.ex → b ∉ ch := fun b o e hx hb => by
    rcases (hch b hb).1 with z | z
    · exact hx z
    · exact absurd (Nat.lt_of_lt_of_le (Heap.lt_size e) z) (Nat.lt_irrefl _)
  have cellK : ∀ x c, X.env.cells.lookup x = some c → ∀ v, s.heap.IsCell c v → h'.IsCell c v := fun x c e v ⟨o, ho, hd⟩ => by
    have nch : c ∉ ch := fun z => (hch c z).2.2.1 x c e rfl
    by_cases hc : c ∈ X.fs
    · obtain ⟨sl, q⟩ := slot c o (I.cne x c e) hc nch ho (I.freeC x c e)
      exact ⟨_, q, hd⟩
    · exact ⟨o, keep c o (I.cne x c e) hc nch ho (I.freeC x c e), hd⟩
  refine ⟨I.ok, I.os, hg, ⟨fun b o e n hb hx => ?_, fun b o e n hb hx => ?_, fun b o e n hx => ?_, fun b o e hx => ?_, fun b xs e => tups b xs (I.base.tups b xs e), fun b o xs e => frzs b o xs (I.base.frzs b o xs e), fun b ps e => ?_⟩, ?_, fun x c e => ?_, ?_, fun x c e => ?_, fun p hp => ?_, hok, I.len⟩
  · exact keep b o (neL b o e) hb (neC b o e hx) (I.base.keep b o e n hb hx) (I.base.free b o e n hx)
  · obtain ⟨sl, e1⟩ := I.base.slot b o e n hb hx
    obtain ⟨sl', e2⟩ := slot b _ (neL b o e) hb (neC b o e hx) e1 (I.base.free b o e n hx)
    exact ⟨sl', e2⟩
  · obtain ⟨o', e1⟩ := I.base.there b o e hx
    exact free b o' (neC b o e hx) e1 (I.base.free b o e n hx)
  · obtain ⟨o', e1⟩ := I.base.there b o e hx
    exact there b o' (neC b o e hx) e1
  · obtain ⟨m1, e1⟩ := I.base.tbls b ps e
    obtain ⟨m2, e2⟩ := tbls b _ e1
    exact ⟨m1 ++ m2, by rw [e2, Array.append_assoc]⟩
  · obtain ⟨m, hn, hl⟩ := I.loc
    refine ⟨m, ns m hn, fun i x v e1 e2 e3 => ?_⟩
    obtain ⟨u, r, l⟩ := hl i x v e1 e2 e3
    refine ⟨u, r, ?_⟩
    rcases l with l | ⟨k, c, e, z⟩
    · exact .inl l
    · exact .inr ⟨k, c, e, cellK x c e _ z⟩
  · obtain ⟨v, z⟩ := I.cell x c e
    exact ⟨v, cellK x c e v z⟩
  · obtain ⟨m, ⟨o, _, _, ho, _⟩, _⟩ := I.loc
    exact free _ o (fun z => (hch _ z).2.1 rfl) ho I.free
  · obtain ⟨v, o, ho, hd⟩ := I.cell x c e
    exact free c o (fun z => (hch c z).2.2.1 x c e rfl) ho (I.freeC x c e)
  · obtain ⟨e, n, ne, nf, d⟩ := I.pin p hp
    have nch : p.1 ∉ ch := fun z => (hch p.1 z).2.2.2 p hp rfl
    exact ⟨keep p.1 p.2 ne nf nch e n, free p.1 p.2 nch e n, ne, nf, d⟩
/-- .. where the frame's own object is kept too -/
theorem Inv.un {t' : Nat} (I : Inv X pins σ H s) (u : Un X.fs [] H H' s.heap h') (hok : HOk X.prog X.w H' h') : Inv X pins σ H' { s with heap := h', toks := t' } := by
  obtain ⟨m, ⟨o, es, ep, ho, r⟩, _⟩ := id I.loc
  obtain ⟨sl, hL⟩ := u.any ho I.free (by simp)
  exact I.step (g' := s.gens) (d' := s.drawn) (ch := []) (fun _ z => nomatch z) (fun b o _ hb _ e n => u.keep b o e n hb (by simp)) (fun b o _ hb _ e n => u.slot b o e n hb (by simp)) (fun b o _ e n => u.free b o e n (by simp)) (fun b o _ e => u.there b o e (by simp)) u.tups u.frzs u.tbls (fun m' hm => by
    obtain ⟨o', es', ep', ho', r'⟩ := hm
    rw [ho] at ho'; cases ho'
    exact ⟨_, es', ep', hL, r'⟩) hok I.bare
/-- behind a call (or a comprehension's block): the slots of this frame may have changed too, the records at ch may have turned -/
theorem Inv.call {g' : Array GenState} {t' : Nat} {d' : Drawn} {ch : List Addr} (I : Inv X pins σ H s) (u : Un (frs X.stack) ch H H' s.heap h') (hok : HOk X.prog X.w H' h') (hg : AllBare g')
    (hch : ∀ b ∈ ch, (b ∈ X.ex ∨ X.s₀.heap.objs.size ≤ b) ∧ b ≠ X.env.locals ∧ (∀ x c, X.env.cells.lookup x = some c → c ≠ b) ∧ ∀ p ∈ X.pn ++ pins, p.1 ≠ b) :
    Inv X pins σ H' { s with heap := h', gens := g', drawn := d', toks := t' } := by
  obtain ⟨m, ⟨o, es, ep, ho, r⟩, _⟩ := id I.loc
  obtain ⟨sl, hL⟩ := u.any ho I.free fun z => (hch _ z).2.1 rfl
  exact I.step (ch := ch) hch (fun b o hL hb hc e n => u.keep b o e n (fun z => (List.mem_cons.mp (I.stkSub b z)).elim hL hb) hc) (fun b o _ _ hc e n => u.any e n hc) (fun b o hc e n => u.free b o e n hc) (fun b o hc e => u.there b o e hc) u.tups u.frzs u.tbls (fun m' hm => by
    obtain ⟨o', es', ep', ho', r'⟩ := hm
    rw [ho] at ho'; cases ho'
    exact ⟨_, es', ep', hL, r'⟩) hok hg
/-- an untracked record of ours (an iterator) has turned -/
theorem Inv.turned {t' : Nat} {it : Addr} (I : Inv X pins σ H s) (k : ∀ b o, b ≠ it → s.heap.get? b = some o → h'.get? b = some o) (hn : H it = none) (hL : it ≠ X.env.locals)
    (h1 : it ∈ X.ex ∨ X.s₀.heap.objs.size ≤ it) (h2 : ∀ x c, X.env.cells.lookup x = some c → c ≠ it) (h3 : ∀ p ∈ X.pn ++ pins, p.1 ≠ it) : Inv X pins σ H { s with heap := h', toks := t' } := by
  have nit : ∀ b u, H b = some u → b ≠ it := fun b u e z => by rw [z, hn] at e; cases e
  refine I.step (g' := s.gens) (d' := s.drawn) (ch := [it]) (fun b hb => ?_) (fun b o _ _ hc e _ => k b o (fun z => hc (by simp [z])) e) (fun b o _ _ hc e _ => ⟨o.slots, k b o (fun z => hc (by simp [z])) e⟩) (fun _ _ _ _ n => n)
    (fun b o hc e => ⟨o, k b o (fun z => hc (by simp [z])) e⟩) (fun _ _ e => e) (fun _ _ _ e => e) (fun b ps e => ⟨#[], by rw [e]; simp⟩) (fun m hm => ?_) (fun b u e => ?_) I.bare
  · have e : b = it := by simpa using hb
    subst e
    exact ⟨h1, hL, h2, h3⟩
  · obtain ⟨o, es, ep, ho, r⟩ := hm
    exact ⟨o, es, ep, k _ o (Ne.symm hL) ho, r⟩
  · refine (I.hok b u e).stay (fun c v hc q => k c v ?_ q) (fun _ q => q) fun _ _ q => q
    rcases hc with z | z
    · rw [z]; exact nit b u e
    · exact nit c _ z
theorem Inv.tok (I : Inv X pins σ H s) (t : Nat) : Inv X pins σ H { s with toks := t } := I.un (h' := s.heap) (t' := t) Un.refl I.hok
/-- all objects kept -/
theorem Inv.kept {t' : Nat} (I : Inv X pins σ H s) (k : ∀ b u, s.heap.get? b = some u → h'.get? b = some u) : Inv X pins σ H { s with heap := h', toks := t' } := I.un (Un.kept k) (I.hok.kept k)
/-- a new object laid and tracked -/
theorem Inv.laid {a : Addr} {o : HO} {t' : Nat} (I : Inv X pins σ H s) (k : ∀ b u, s.heap.get? b = some u → h'.get? b = some u) (hp : s.heap.objs.size ≤ a) (new : ObjOk X.prog X.w (upd H a o) h' a o) :
    Inv X pins σ (upd H a o) { s with heap := h', toks := t' } := I.un (Un.laid k hp (I.hok.fresh hp)) (I.hok.laid k hp new)
/-- an object written -/
theorem Inv.write {x e : Addr} {o : HO} {t' : Nat} (I : Inv X pins σ H s) (mu : Mut (H x)) (he : e = x ∨ H e = some (.own x)) (k : ∀ b u, b ≠ e → s.heap.get? b = some u → h'.get? b = some u) (heo : ∃ u, h'.get? e = some u)
    (new : ObjOk X.prog X.w (upd H x o) h' x o) : Inv X pins σ (upd H x o) { s with heap := h', toks := t' } := I.un (Un.write mu he k heo) (I.hok.write mu he k heo new)
theorem Inv.pins_of {pins' : List (Addr × Obj)} (I : Inv X pins σ H s) (h : ∀ p ∈ pins', s.heap.get? p.1 = some p.2 ∧ H p.1 = none ∧ p.1 ≠ X.env.locals ∧ p.1 ∉ X.fs ∧ ∀ v, p.2.data ≠ .cell v) : Inv X pins' σ H s :=
  ⟨I.ok, I.os, I.bare, I.base, I.loc, I.cell, I.free, I.freeC, fun p hp => (List.mem_append.mp hp).elim (fun z => I.pin p (List.mem_append_left _ z)) (h p), I.hok, I.len⟩

theorem nodup_ix {N : List Str} (hN : N.Nodup) {i j : Nat} {x : Str} (a : N[i]? = some x) (b : N[j]? = some x) : i = j := by
  obtain ⟨h1, e1⟩ := List.getElem?_eq_some_iff.mp a
  obtain ⟨h2, e2⟩ := List.getElem?_eq_some_iff.mp b
  exact (List.getElem_inj hN).mp (e1.trans e2.symm)

/-- a name is stored; what changed -/
theorem store_ok2 {M : Model} {A : Around} {E : Value → Shared → Prop} {i : Nat} {x : Str} {v : V} {u : Value} {Q : Unit → Shared → Prop} (I : Inv X pins σ H s) (hN : X.N.Nodup) (hi : X.N[i]? = some x) (hx : Loc X.env.scope x) (r : RelV v u)
    (h : ∀ s', Inv X pins (σ.set i (some v)) H s' → (∃ a, Heap.SameBut a s.heap s'.heap ∧ (a = X.env.locals ∨ X.env.cells.lookup x = some a)) → Q () s') (hf : X.fn x = true ∨ X.env.scope.names.lookup x = some .local := by first | exact .inl rfl | exact .inr rfl | assumption) : wpAny M A (storeName X.env x u) Q E s := by
  obtain ⟨m, hn, hl⟩ := id I.loc
  have hcls : (X.env.scope.kind == .class || (X.env.scope.kind == .module && X.env.locals != X.env.globals)) = false := by rw [I.ok.kind]; rfl
  have hiσ : i < σ.length := by rw [I.len]; exact (List.getElem?_eq_some_iff.mp hi).1
  have cne := I.cne
  have tracked : ∀ {a : Addr} {h' : Heap}, (∃ o, s.heap.get? a = some o ∧ H a = none) → Heap.SameBut a s.heap h' → HOk X.prog X.w H h' := fun {a h'} ha hs b ob e => by
    obtain ⟨_, _, hfree⟩ := ha
    refine (I.hok b ob e).stay (fun c w' hc q => (hs.2 c ?_).trans q) (fun _ q => q) fun _ _ q => q
    rintro rfl
    rcases hc with rfl | hc
    · rw [hfree] at e; cases e
    · rw [hfree] at hc; cases hc
  rcases hx with hk | hk
  · refine wpAny_storeName_local hk hn (fun h' hn' hs => ?_) hcls
    obtain ⟨oL, _, _, hoL, _⟩ := id hn
    refine h _ ⟨I.ok, I.os, I.bare, ⟨fun b o e n hb hx => ?_, fun b o e n hb hx => ?_, I.base.free, fun b o e hx => ?_, I.base.tups, I.base.frzs, I.base.tbls⟩, ⟨_, hn', fun j y v' e1 e2 e3 => ?_⟩, fun y c e => ?_, I.free, I.freeC, fun p hp => ?_, tracked ⟨oL, hoL, I.free⟩ hs, by simpa using I.len⟩ ⟨_, hs, .inl rfl⟩
    · exact (hs.2 b (Nat.ne_of_lt (Nat.lt_of_lt_of_le (Heap.lt_size e) I.ok.above))).trans (I.base.keep b o e n hb hx)
    · obtain ⟨sl, e1⟩ := I.base.slot b o e n hb hx
      exact ⟨sl, (hs.2 b (Nat.ne_of_lt (Nat.lt_of_lt_of_le (Heap.lt_size e) I.ok.above))).trans e1⟩
    · obtain ⟨o', e1⟩ := I.base.there b o e hx
      exact ⟨o', (hs.2 b (Nat.ne_of_lt (Nat.lt_of_lt_of_le (Heap.lt_size e) I.ok.above))).trans e1⟩
    · by_cases hj : j = i
      · subst hj
        rw [hi] at e1; cases e1
        rw [List.getElem?_set_self hiσ] at e2
        cases e2
        exact ⟨u, r, .inl ⟨hk, by simp⟩⟩
      · rw [List.getElem?_set_ne (Ne.symm hj)] at e2
        obtain ⟨u', r', q⟩ := hl j y v' e1 e2 e3
        refine ⟨u', r', ?_⟩
        rcases q with ⟨k, e⟩ | ⟨k, c, e, z⟩
        · refine .inl ⟨k, ?_⟩
          have : y ≠ x := fun e => hj (nodup_ix hN e1 (e ▸ hi))
          simp [this, e]
        · exact .inr ⟨k, c, e, z.sameBut hs (cne y c e)⟩
    · obtain ⟨w', z⟩ := I.cell y c e
      exact ⟨w', z.sameBut hs (cne y c e)⟩
    · obtain ⟨e, n, ne, nf, d⟩ := I.pin p hp
      exact ⟨(hs.2 p.1 ne).trans e, n, ne, nf, d⟩
  · have hfn : X.fn x = true := by
      rcases hf with z | z
      · exact z
      · rw [z] at hk; cases hk
    obtain ⟨c, hc⟩ := I.ok.has x (.inl hk)
    obtain ⟨w', z⟩ := I.cell x c hc
    refine wpAny_storeName_cell I.ok.kind hk hc z (fun h' hc' hs => ?_)
    obtain ⟨oc, hoc, hocd⟩ := id z
    refine h { s with heap := h' } ⟨I.ok, I.os, I.bare, ⟨fun b o e n hb hx => ?_, fun b o e n hb hx => ?_, I.base.free, fun b o e hx => ?_, I.base.tups, I.base.frzs, I.base.tbls⟩, ⟨m, hn.sameBut hs (Ne.symm (cne x c hc)), fun j y v' e1 e2 e3 => ?_⟩, fun y c' e => ?_, I.free, I.freeC, fun p hp => ?_, tracked ⟨oc, hoc, I.freeC x c hc⟩ hs, by simpa using I.len⟩ ⟨c, hs, .inr hc⟩
    · exact (hs.2 b (Nat.ne_of_lt (Nat.lt_of_lt_of_le (Heap.lt_size e) (I.ok.cab x c hfn hc)))).trans (I.base.keep b o e n hb hx)
    · obtain ⟨sl, e1⟩ := I.base.slot b o e n hb hx
      exact ⟨sl, (hs.2 b (Nat.ne_of_lt (Nat.lt_of_lt_of_le (Heap.lt_size e) (I.ok.cab x c hfn hc)))).trans e1⟩
    · obtain ⟨o', e1⟩ := I.base.there b o e hx
      exact ⟨o', (hs.2 b (Nat.ne_of_lt (Nat.lt_of_lt_of_le (Heap.lt_size e) (I.ok.cab x c hfn hc)))).trans e1⟩
    · by_cases hj : j = i
      · subst hj
        rw [hi] at e1; cases e1
        rw [List.getElem?_set_self hiσ] at e2
        cases e2
        exact ⟨u, r, .inr ⟨.inl hk, c, hc, hc'⟩⟩
      · rw [List.getElem?_set_ne (Ne.symm hj)] at e2
        obtain ⟨u', r', q⟩ := hl j y v' e1 e2 e3
        refine ⟨u', r', ?_⟩
        rcases q with q | ⟨k, c', e, z'⟩
        · exact .inl q
        · refine .inr ⟨k, c', e, z'.sameBut hs ?_⟩
          rintro rfl
          exact hj (nodup_ix hN e1 (I.ok.inj _ _ _ e hc ▸ hi))
    · by_cases hcc : c' = c
      · subst hcc; exact ⟨_, hc'⟩
      · obtain ⟨w2, z2⟩ := I.cell y c' e
        exact ⟨w2, z2.sameBut hs hcc⟩
    · obtain ⟨e, n, ne, nf, d⟩ := I.pin p hp
      refine ⟨(hs.2 p.1 ?_).trans e, n, ne, nf, d⟩
      intro q
      rw [q, hoc] at e
      have q' : oc = p.2 := Option.some.inj e
      exact d w' (by rw [← q']; exact hocd)
theorem store_ok {M : Model} {A : Around} {E : Value → Shared → Prop} {i : Nat} {x : Str} {v : V} {u : Value} {Q : Unit → Shared → Prop} (I : Inv X pins σ H s) (hN : X.N.Nodup) (hi : X.N[i]? = some x) (hx : Loc X.env.scope x) (r : RelV v u)
    (h : ∀ s', Inv X pins (σ.set i (some v)) H s' → Q () s') (hf : X.fn x = true ∨ X.env.scope.names.lookup x = some .local := by first | exact .inl rfl | exact .inr rfl | assumption) : wpAny M A (storeName X.env x u) Q E s :=
  store_ok2 I hN hi hx r (fun s' I' _ => h s' I') hf
/-- behind a call or a block, the state as it is -/
theorem Inv.call' {s' : Shared} {ch : List Addr} (I : Inv X pins σ H s) (ho : s'.os = s.os) (u : Un (frs X.stack) ch H H' s.heap s'.heap) (hok : HOk X.prog X.w H' s'.heap) (hg : AllBare s'.gens)
    (hch : ∀ b ∈ ch, (b ∈ X.ex ∨ X.s₀.heap.objs.size ≤ b) ∧ b ≠ X.env.locals ∧ (∀ x c, X.env.cells.lookup x = some c → c ≠ b) ∧ ∀ p ∈ X.pn ++ pins, p.1 ≠ b) : Inv X pins σ H' s' := by
  obtain ⟨h', g', d', t', o'⟩ := s'
  have e : o' = s.os := ho
  subst e
  exact I.call (g' := g') (t' := t') (d' := d') u hok hg hch
end

/-! ### the judgements -/
/-- an exception: its class, its own dict's address (where it has one), the abstract heap behind it -/
abbrev XK := Value → Option Addr → Hp → Prop
abbrev St := List (Option V)
abbrev VK := V → Hp → Prop
/-- an expression's reading; a test's; an argument list's -/
abbrev TE := St → Hp → VK → Prop
abbrev TT := St → Hp → (Bool → Hp → Prop) → Prop
abbrev TA := St → Hp → (List V → Hp → Prop) → Prop
/-- what is wanted behind a statement -/
structure Ends where
  nx : St → Hp → Prop
  rt : VK
  bk : St → Hp → Prop := fun _ _ => False
  ct : St → Hp → Prop := fun _ _ => False
abbrev TS := Ends → St → Hp → Prop

def EP (X : Cx) (pins : List (Addr × Obj)) (σ : St) (Q : VK) (u : Value) (s' : Shared) : Prop := ∃ v H', Inv X pins σ H' s' ∧ RelV v u ∧ Q v H'
def TP (X : Cx) (pins : List (Addr × Obj)) (σ : St) (Q : Bool → Hp → Prop) (b : Bool) (s' : Shared) : Prop := ∃ H', Inv X pins σ H' s' ∧ Q b H'
def AP (X : Cx) (pins : List (Addr × Obj)) (σ : St) (Q : List V → Hp → Prop) (us : List Value) (s' : Shared) : Prop := ∃ vs H', Inv X pins σ H' s' ∧ Vals vs us ∧ Q vs H'
def SP (X : Cx) (pins : List (Addr × Obj)) (D : Ends) (f : Flow) (s' : Shared) : Prop :=
  match f with
  | .next => ∃ σ' H', Inv X pins σ' H' s' ∧ D.nx σ' H'
  | .brk => ∃ σ' H', Inv X pins σ' H' s' ∧ D.bk σ' H'
  | .cont => ∃ σ' H', Inv X pins σ' H' s' ∧ D.ct σ' H'
  | .ret u => ∃ v σ' H', Inv X pins σ' H' s' ∧ RelV v u ∧ D.rt v H'

def PE (X : Cx) (e : Expr) (t : TE) : Prop :=
  ∀ (pins : List (Addr × Obj)) (s : Shared) (σ : St) (H : Hp) (Q : VK), Inv X pins σ H s → t σ H Q → wpAny (model X.prog X.w) X.A (eval e X.env) (EP X pins σ Q) X.xe s
def PT (X : Cx) (e : Expr) (t : TT) : Prop :=
  ∀ (pins : List (Addr × Obj)) (s : Shared) (σ : St) (H : Hp) (Q : Bool → Hp → Prop), Inv X pins σ H s → t σ H Q → wpAny (model X.prog X.w) X.A (isTrue e X.env (eval e X.env)) (TP X pins σ Q) X.xe s
/-- a test whatever its 'whole' is (and, or) -/
def PW (X : Cx) (e : Expr) (t : TT) : Prop :=
  ∀ (whole : Sem Value) (pins : List (Addr × Obj)) (s : Shared) (σ : St) (H : Hp) (Q : Bool → Hp → Prop), Inv X pins σ H s → t σ H Q → wpAny (model X.prog X.w) X.A (isTrue e X.env whole) (TP X pins σ Q) X.xe s
theorem PW.pt {X : Cx} {e : Expr} {t : TT} (h : PW X e t) : PT X e t := h _
/-- an argument list (no star), from the left -/
def PA (X : Cx) (es : List Expr) (t : TA) : Prop :=
  ∀ (pos : Pos) (pins : List (Addr × Obj)) (s : Shared) (σ : St) (H : Hp) (Q : List V → Hp → Prop), Inv X pins σ H s → t σ H Q → wpAny (model X.prog X.w) X.A (spliced (backTo pos (starEach es X.env))) (AP X pins σ Q) X.xe s
def PS (X : Cx) (st : Stmt) (t : TS) : Prop :=
  ∀ (pins : List (Addr × Obj)) (s : Shared) (σ : St) (H : Hp) (D : Ends), Inv X pins σ H s → t D σ H → wpAny (model X.prog X.w) X.A (exec st X.env) (SP X pins D) X.xe s
def PSs (X : Cx) (st : List Stmt) (t : TS) : Prop :=
  ∀ (pins : List (Addr × Obj)) (s : Shared) (σ : St) (H : Hp) (D : Ends), Inv X pins σ H s → t D σ H → wpAny (model X.prog X.w) X.A (execs st X.env) (SP X pins D) X.xe s
/-- weaken the end -/
theorem thn {α : Type} {t : Sem α} {Q Q' : α → Shared → Prop} {M : Model} {A : Around} {E : Value → Shared → Prop} {s : Shared} (h : wpAny M A t Q E s) (hQ : ∀ a s, Q a s → Q' a s) : wpAny M A t Q' E s := wpAny_mono h hQ fun _ _ x => x
end L2

namespace L2
open PySem PySem.Spec PyProof.Rows
section
variable {X : Cx}

/-! ### names and constants -/
def tVar (i : Nat) : TE := fun σ H Q => ∃ v, σ[i]? = some (some v) ∧ Q v H
def tC (v : V) : TE := fun _ H Q => Q v H
theorem pe_var {i : Nat} {x : Str} {pos : Pos} (hN : X.N[i]? = some x) (hv : Vis X.env.scope x) (hd : (x == ("__debug__" : Str)) = false := by decide) (hcd : (x == ("__classdict__" : Str)) = false := by decide) : PE X (.Name x pos) (tVar i) := by
  intro pins s σ H Q I h
  obtain ⟨v, e, h⟩ := h
  obtain ⟨m, hn, hl⟩ := I.loc
  obtain ⟨u, r, l⟩ := hl i x v hN e hv
  have fin : EP X pins σ Q u s := ⟨v, H, I, r, h⟩
  rcases l with ⟨hk, hm⟩ | ⟨hk, c, hc, hcell⟩
  · exact wpAny_Name (wpAny_loadName_local I.ok.kind hk hn hm fin) hd
  · rcases hk with hk | hk
    · exact wpAny_Name (wpAny_loadName_cell I.ok.kind hk hc hcell fin) hd
    · exact wpAny_Name (wpAny_loadName_free I.ok.kind hk hc hcell fin hcd) hd
theorem pe_int {i j pos} : PE X (.Constant (.int i) j pos) (tC (.int i)) := fun _ _ _ H _ I h => wpAny_Constant_int ⟨.int i, H, I.tok _, ⟨_, rfl⟩, h⟩
theorem pe_bl {b j pos} : PE X (.Constant (.bool b) j pos) (tC (.bl b)) := fun _ _ _ H _ I h => Constant_bool ⟨.bl b, H, I, rfl, h⟩
theorem pe_non {j pos} : PE X (.Constant .none j pos) (tC .non) := fun _ _ _ H _ I h => Constant_none ⟨.non, H, I, rfl, h⟩
theorem pe_str {x j pos} : PE X (.Constant (.str x) j pos) (tC (.str x)) := fun _ _ _ H _ I h => Calls.Constant_str ⟨.str x, H, I.tok _, ⟨_, rfl⟩, h⟩

/-- a global name of the def -/
def Gl (X : Cx) (x : Str) : Prop := X.env.kindOf x = some .globalImplicit
theorem ld_glob {E : Value → Shared → Prop} {pins : List (Addr × Obj)} {s : Shared} {σ : St} {H : Hp} {x : Str} {u : Value} {pos : Pos} {Q : Value → Shared → Prop} (I : Inv X pins σ H s) (hg : Gl X x) (hm : X.mg x = some u) (h : Q u s)
    (hd : (x == ("__debug__" : Str)) = false := by decide) : wpAny (model X.prog X.w) X.A (eval (.Name x pos) X.env) Q E s :=
  Calls.Name_function_global I.ok.kind hg (Calls.loadGlobal_global (by rw [I.ok.glob]; exact I.mod.glob.keeps I.bk) hm h) hd
theorem ld_blt {E : Value → Shared → Prop} {pins : List (Addr × Obj)} {s : Shared} {σ : St} {H : Hp} {x : Str} {u : Value} {pos : Pos} {Q : Value → Shared → Prop} (I : Inv X pins σ H s) (hg : Gl X x) (hm : X.mg x = none) (hv : bootBuiltins x = some u) (h : Q u s)
    (hn : x ≠ "__name__" := by decide) (hd : (x == ("__debug__" : Str)) = false := by decide) : wpAny (model X.prog X.w) X.A (eval (.Name x pos) X.env) Q E s := by
  obtain ⟨mb, h1, h2⟩ := I.mod.blt
  exact Calls.Name_function_global I.ok.kind hg (Calls.loadGlobal_builtin (by rw [I.ok.glob]; exact I.mod.glob.keeps I.bk) hm (by rw [I.ok.blt]; exact h1.keeps I.bk) ((h2 x hn).trans hv) h) hd
/-- a module's constant, a class, a function, as a value -/
theorem pe_glob {x : Str} {v : V} {u : Value} {pos : Pos} (hg : Gl X x) (hm : X.mg x = some u) (r : RelV v u) (hd : (x == ("__debug__" : Str)) = false := by decide) : PE X (.Name x pos) (tC v) :=
  fun _ _ _ H _ I h => ld_glob I hg hm ⟨v, H, I, r, h⟩ hd
theorem pe_bltn {x : Str} {v : V} {u : Value} {pos : Pos} (hg : Gl X x) (hm : X.mg x = none) (hv : bootBuiltins x = some u) (r : RelV v u) (hn : x ≠ "__name__" := by decide) (hd : (x == ("__debug__" : Str)) = false := by decide) : PE X (.Name x pos) (tC v) :=
  fun _ _ _ H _ I h => ld_blt I hg hm hv ⟨v, H, I, r, h⟩ hn hd

/-! ### arithmetic -/
/-- two ints -/
def t2I (ta tb : TE) (k : Int → Int → Hp → Prop) : St → Hp → Prop := fun σ H => ta σ H fun x H1 => tb σ H1 fun y H2 => ∃ i j, x = .int i ∧ y = .int j ∧ k i j H2
def tAdd (ta tb : TE) : TE := fun σ H Q => t2I ta tb (fun i j H2 => Q (.int (i + j)) H2) σ H
def tSub (ta tb : TE) : TE := fun σ H Q => t2I ta tb (fun i j H2 => Q (.int (i - j)) H2) σ H
/-- the left factor below 2^64 -/
def tMul (ta tb : TE) : TE := fun σ H Q => t2I ta tb (fun i j H2 => (-(2 ^ 64) < i ∧ i < 2 ^ 64) ∧ Q (.int (i * j)) H2) σ H
variable {a b : Expr} {ta tb : TE} {pos : Pos}
/-! ### comparisons -/
def PC (X : Cx) (op : CmpOp) (a b : Expr) (t : TE) : Prop :=
  ∀ (pins : List (Addr × Obj)) (s : Shared) (σ : St) (H : Hp) (Q : VK), Inv X pins σ H s → t σ H Q →
    wpAny (model X.prog X.w) X.A (eval a X.env) (fun v s₁ => wpAny (model X.prog X.w) X.A (eval b X.env) (fun u s₂ => wpAny (model X.prog X.w) X.A (compareOp op v u) (EP X pins σ Q) X.xe s₂) X.xe s₁) X.xe s
def tCmp (p : Int → Int → Bool) (ta tb : TE) : TE := fun σ H Q => t2I ta tb (fun i j H2 => Q (.bl (p i j)) H2) σ H
abbrev tLt : TE → TE → TE := tCmp fun i j => decide (i < j)
abbrev tLe : TE → TE → TE := tCmp fun i j => decide (i ≤ j)
abbrev tGt : TE → TE → TE := tCmp fun i j => decide (j < i)
abbrev tGe : TE → TE → TE := tCmp fun i j => decide (j ≤ i)
abbrev tEqI : TE → TE → TE := tCmp fun i j => decide (i = j)
abbrev tNeI : TE → TE → TE := tCmp fun i j => !decide (i = j)
/-- is None -/
def tIsN (ta : TE) : TE := fun σ H Q => ta σ H fun x H1 => Q (.bl (decide (x = .non))) H1
def tNotN (ta : TE) : TE := fun σ H Q => ta σ H fun x H1 => Q (.bl (!decide (x = .non))) H1
/-- a comparison as a value, as a test -/
def tB (t : TE) : TT := fun σ H Q => t σ H fun x H1 => ∃ c, x = .bl c ∧ Q c H1
/-! ### and, or, not -/
variable {tA tB' : TT} {rest : List Expr}
def tAnd (t u : TT) : TT := fun σ H Q => t σ H fun c H1 => if c = true then u σ H1 Q else Q false H1
def tOr (t u : TT) : TT := fun σ H Q => t σ H fun c H1 => if c = true then Q true H1 else u σ H1 Q
def tNot (t : TT) : TT := fun σ H Q => t σ H fun c H1 => Q (!c) H1
theorem pw_and1 (ha : PT X a tA) : PW X (.BoolOp .And [a] pos) tA := by
  intro wh pins s σ H Q I h
  refine isTrue_and (thn (ha pins s σ H Q I h) fun c s1 e => ?_)
  cases c with
  | true => exact isTrue_and_nil e
  | false => exact e
theorem pw_or1 (ha : PT X a tA) : PW X (.BoolOp .Or [a] pos) tA := by
  intro wh pins s σ H Q I h
  refine isTrue_or (thn (ha pins s σ H Q I h) fun c s1 e => ?_)
  cases c with
  | false => exact isTrue_or_nil e
  | true => exact e
theorem pw_and (ha : PT X a tA) (hb : PW X (.BoolOp .And (b :: rest) pos) tB') : PW X (.BoolOp .And (a :: b :: rest) pos) (tAnd tA tB') := by
  intro wh pins s σ H Q I h
  refine isTrue_and (thn (ha pins s σ H _ I h) fun c s1 ⟨H1, I1, q1⟩ => ?_)
  cases c with
  | true => exact hb wh pins s1 σ H1 Q I1 q1
  | false => exact ⟨H1, I1, q1⟩
theorem pw_or (ha : PT X a tA) (hb : PW X (.BoolOp .Or (b :: rest) pos) tB') : PW X (.BoolOp .Or (a :: b :: rest) pos) (tOr tA tB') := by
  intro wh pins s σ H Q I h
  refine isTrue_or (thn (ha pins s σ H _ I h) fun c s1 ⟨H1, I1, q1⟩ => ?_)
  cases c with
  | true => exact ⟨H1, I1, q1⟩
  | false => exact hb wh pins s1 σ H1 Q I1 q1
theorem pt_not (ha : PT X a tA) : PT X (.UnaryOp .Not a pos) (tNot tA) := by
  intro pins s σ H Q I h
  exact isTrue_not (ha pins s σ H (fun c H1 => Q (!c) H1) I h)
/-- .. as values (bools) -/
def tAndV (ta tb : TE) : TE := fun σ H Q => ta σ H fun x H1 => ∃ c, x = .bl c ∧ if c = true then tb σ H1 Q else Q (.bl false) H1
def tOrV (ta tb : TE) : TE := fun σ H Q => ta σ H fun x H1 => ∃ c, x = .bl c ∧ if c = true then Q (.bl true) H1 else tb σ H1 Q
def tNotV (ta : TE) : TE := fun σ H Q => ta σ H fun x H1 => ∃ c, x = .bl c ∧ Q (.bl (!c)) H1
theorem pe_one {op} {t : TE} (h : PE X a t) : PE X (.BoolOp op [a] pos) t := fun pins s σ H Q I hw => BoolOp_one (h pins s σ H Q I hw)
theorem pe_and (ha : PE X a ta) (hb : PE X (.BoolOp .And (b :: rest) pos) tb) : PE X (.BoolOp .And (a :: b :: rest) pos) (tAndV ta tb) := by
  intro pins s σ H Q I h
  refine BoolOp_and (thn (ha pins s σ H _ I h) fun v s1 ⟨x, H1, I1, r1, q1⟩ => ?_)
  obtain ⟨c, rfl, q1⟩ := q1
  cases r1
  refine wpAny_truthy_bool ?_
  cases c with
  | true => exact hb pins s1 σ H1 Q I1 q1
  | false => exact ⟨.bl false, H1, I1, rfl, q1⟩
theorem pe_or (ha : PE X a ta) (hb : PE X (.BoolOp .Or (b :: rest) pos) tb) : PE X (.BoolOp .Or (a :: b :: rest) pos) (tOrV ta tb) := by
  intro pins s σ H Q I h
  refine BoolOp_or (thn (ha pins s σ H _ I h) fun v s1 ⟨x, H1, I1, r1, q1⟩ => ?_)
  obtain ⟨c, rfl, q1⟩ := q1
  cases r1
  refine wpAny_truthy_bool ?_
  cases c with
  | false => exact hb pins s1 σ H1 Q I1 q1
  | true => exact ⟨.bl true, H1, I1, rfl, q1⟩
theorem pe_not (ha : PE X a ta) : PE X (.UnaryOp .Not a pos) (tNotV ta) := by
  intro pins s σ H Q I h
  refine UnaryOp_ (thn (ha pins s σ H _ I h) fun v s1 ⟨x, H1, I1, r1, q1⟩ => ?_)
  obtain ⟨c, rfl, q1⟩ := q1
  cases r1
  exact not_of (wpAny_truthy_bool ⟨.bl (!c), H1, I1, rfl, q1⟩)
/-- a if t else b -/
def tIf (t : TT) (ta tb : TE) : TE := fun σ H Q => t σ H fun c H1 => if c = true then ta σ H1 Q else tb σ H1 Q
end
end L2

namespace L2
open PySem PySem.Spec PyProof.Rows

/-! ### a list, a tuple that is read: tracked, frozen, or an object of the module -/
def SqL (K : PySem.W.Frag) (H : Hp) (a : Addr) (xs : List V) : Prop :=
  Rd H a (.lst xs) ∨
    ∃ (o : Obj) (its : Array Value) (n : Nat), K.lookup a = some o ∧ o.cls = .type "list" ∧ o.dict = none ∧ o.data = .seq its n ∧ its.size ≤ sizeLine ∧ Vals xs its.toList
def SqT (K : PySem.W.Frag) (H : Hp) (a : Addr) (xs : List V) : Prop :=
  Rd H a (.tup xs) ∨
    ∃ (o : Obj) (its : Array Value) (n : Nat), K.lookup a = some o ∧ o.cls = .type "tuple" ∧ o.data = .seq its n ∧ its.size ≤ sizeLine ∧ Vals xs its.toList
def absV : Value → Option V
  | .none => some .non
  | .bool b => some (.bl b)
  | .int i _ => some (.int i)
  | .str x _ => some (.str x)
  | .bytes b _ => some (.byt b)
  | .float b _ => some (.flt b)
  | .ref a => some (.ref a)
  | .type n => some (.ty n)
  | _ => none
theorem RelV.abs {x : V} {u : Value} (r : RelV x u) : absV u = some x := by
  cases x with
  | non => cases r; rfl
  | bl _ => cases r; rfl
  | int _ => obtain ⟨t, rfl⟩ := r; rfl
  | str _ => obtain ⟨t, rfl⟩ := r; rfl
  | byt _ => obtain ⟨t, rfl⟩ := r; rfl
  | flt _ => obtain ⟨t, rfl⟩ := r; rfl
  | ref _ => cases r; rfl
  | ty _ => cases r; rfl
theorem RelV.inj {x y : V} {u : Value} (r : RelV x u) (q : RelV y u) : x = y := Option.some.inj (r.abs.symm.trans q.abs)
theorem Vals.inj : ∀ {xs ys : List V} {us : List Value}, Vals xs us → Vals ys us → xs = ys
  | _, _, _, .nil, .nil => rfl
  | _, _, _, .cons r t, .cons r' t' => by rw [r.inj r', Vals.inj t t']
section
variable {X : Cx} {pins : List (Addr × Obj)} {σ : St} {H : Hp} {s : Shared} {a : Addr} {xs ys : List V}
theorem SqL.of {K : PySem.W.Frag} (h : H a = some (.lst xs)) : SqL K H a xs := .inl (.inl h)
theorem SqT.of {K : PySem.W.Frag} (h : H a = some (.tup xs)) : SqT K H a xs := .inl (.inl h)
theorem Inv.list (I : Inv X pins σ H s) (h : SqL X.K H a xs) : ∃ its : List Value, Vals xs its ∧ PlainL s.heap a its.toArray ∧ xs.length ≤ sizeLine := by
  rcases h with h | ⟨o, its, n, hk, hc, hd, hs, hz, r⟩
  · obtain ⟨z, its, n, r, e⟩ := h.ok I.hok
    exact ⟨its, r, ⟨_, n, e, rfl, rfl, rfl⟩, z⟩
  · refine ⟨its.toList, r, ⟨o, n, I.kIn a o hk, hc, hd, by simpa using hs⟩, ?_⟩
    have e := r.length
    simp only [Array.length_toList] at e
    omega
theorem Inv.tuple (I : Inv X pins σ H s) (h : SqT X.K H a xs) : ∃ its : List Value, Vals xs its ∧ IsTup s.heap a its.toArray ∧ xs.length ≤ sizeLine := by
  rcases h with h | ⟨o, its, n, hk, hc, hs, hz, r⟩
  · obtain ⟨z, its, r, p⟩ := h.ok I.hok
    exact ⟨its, r, p, z⟩
  · refine ⟨its.toList, r, ⟨o, I.kIn a o hk, hc, n, by simpa using hs⟩, ?_⟩
    have e := r.length
    simp only [Array.length_toList] at e
    omega
theorem Inv.list_inj (I : Inv X pins σ H s) (h : SqL X.K H a xs) (h' : SqL X.K H a ys) : xs = ys := by
  obtain ⟨its, r, ⟨o, n, e, _, _, d⟩, _⟩ := I.list h
  obtain ⟨its', r', ⟨o', n', e', _, _, d'⟩, _⟩ := I.list h'
  rw [e] at e'; cases e'
  rw [d] at d'
  injection d' with d1 _
  have : its = its' := by simpa using congrArg Array.toList d1
  subst this
  exact r.inj r'
theorem Inv.tuple_inj (I : Inv X pins σ H s) (h : SqT X.K H a xs) (h' : SqT X.K H a ys) : xs = ys := by
  obtain ⟨its, r, ⟨o, e, _, n, d⟩, _⟩ := I.tuple h
  obtain ⟨its', r', ⟨o', e', _, n', d'⟩, _⟩ := I.tuple h'
  rw [e] at e'; cases e'
  rw [d] at d'
  injection d' with d1 _
  have : its = its' := by simpa using congrArg Array.toList d1
  subst this
  exact r.inj r'
end

/-! ### another wish about exceptions -/
abbrev Cx.wish (X : Cx) (E : Value → Shared → Prop) : Cx := { X with xe := E }
/-- no exception leaves -/
abbrev Cx.nox (X : Cx) : Cx := X.wish fun _ _ => False
theorem Cx.Ok.wish {X : Cx} (ok : X.Ok) (E : Value → Shared → Prop) : (X.wish E).Ok :=
  ⟨ok.mod, ok.kind, ok.glob, ok.blt, ok.above, ok.inj, ok.has, ok.cab, ok.hd, ok.frames, ok.stk, ok.exf, ok.bs, ok.bsz, ok.noex, ok.exfs, ok.funs, ok.frf⟩
theorem Cx.Ok.unwish {X : Cx} {E : Value → Shared → Prop} (ok : (X.wish E).Ok) : X.Ok :=
  ⟨ok.mod, ok.kind, ok.glob, ok.blt, ok.above, ok.inj, ok.has, ok.cab, ok.hd, ok.frames, ok.stk, ok.exf, ok.bs, ok.bsz, ok.noex, ok.exfs, ok.funs, ok.frf⟩
section
variable {X : Cx} {pins : List (Addr × Obj)} {σ : St} {H : Hp} {s : Shared} {E : Value → Shared → Prop}
theorem Inv.wish (I : Inv X pins σ H s) (E : Value → Shared → Prop) : Inv (X.wish E) pins σ H s := ⟨I.ok.wish E, I.os, I.bare, I.base, I.loc, I.cell, I.free, I.freeC, I.pin, I.hok, I.len⟩
theorem Inv.unwish (I : Inv (X.wish E) pins σ H s) : Inv X pins σ H s := ⟨I.ok.unwish, I.os, I.bare, I.base, I.loc, I.cell, I.free, I.freeC, I.pin, I.hok, I.len⟩
theorem SP.unwish {D : Ends} {f : Flow} {s' : Shared} (h : SP (X.wish E) pins D f s') : SP X pins D f s' := by
  cases f with
  | next => obtain ⟨σ', H', I, q⟩ := h; exact ⟨σ', H', I.unwish, q⟩
  | brk => obtain ⟨σ', H', I, q⟩ := h; exact ⟨σ', H', I.unwish, q⟩
  | cont => obtain ⟨σ', H', I, q⟩ := h; exact ⟨σ', H', I.unwish, q⟩
  | ret u => obtain ⟨v, σ', H', I, r, q⟩ := h; exact ⟨v, σ', H', I.unwish, r, q⟩
theorem PE.nox {e : Expr} {t : TE} (h : PE X.nox e t) : PE X e t := fun pins s σ H Q I hw =>
  wpAny_mono (h pins s σ H Q (I.wish _) hw) (fun _ _ ⟨v, H', I', r, q⟩ => ⟨v, H', I'.unwish, r, q⟩) fun _ _ z => False.elim z
theorem PT.nox {e : Expr} {t : TT} (h : PT X.nox e t) : PT X e t := fun pins s σ H Q I hw =>
  wpAny_mono (h pins s σ H Q (I.wish _) hw) (fun _ _ ⟨H', I', q⟩ => ⟨H', I'.unwish, q⟩) fun _ _ z => False.elim z
theorem PSs.nox {st : List Stmt} {t : TS} (h : PSs X.nox st t) : PSs X st t := fun pins s σ H D I hw =>
  wpAny_mono (h pins s σ H D (I.wish _) hw) (fun _ _ q => q.unwish) fun _ _ z => False.elim z
end

/-! ### blocks and small statements -/
section
variable {X : Cx} {st : Stmt} {rest : List Stmt} {t u : TS} {e : Expr} {te : TE} {pos : Pos}
def tNext : TS := fun D σ H => D.nx σ H
def tSeq (t u : TS) : TS := fun D σ H => t { D with nx := u D } σ H
theorem pss_nil : PSs X [] tNext := fun _ _ σ H _ I h => wpAny_execs_nil ⟨σ, H, I, h⟩
theorem pss_cons (h1 : PS X st t) (h2 : PSs X rest u) : PSs X (st :: rest) (tSeq t u) := by
  intro pins s σ H D I h
  refine wpAny_execs_cons (thn (h1 pins s σ H { D with nx := u D } I h) fun f s1 q => ?_)
  cases f with
  | next =>
    obtain ⟨σ', H', I', q⟩ := q
    exact h2 pins s1 σ' H' D I' q
  | ret v => exact q
  | brk => exact q
  | cont => exact q
theorem pss_one (h1 : PS X st t) : PSs X [st] t := by
  intro pins s σ H D I h
  refine wpAny_execs_cons (thn (h1 pins s σ H D I h) fun f s1 q => ?_)
  cases f with
  | next => exact wpAny_execs_nil q
  | ret v => exact q
  | brk => exact q
  | cont => exact q
def tBreak : TS := fun D σ H => D.bk σ H
def tCont : TS := fun D σ H => D.ct σ H
/-- in a def's body nothing is shown -/
theorem Inv.quiet {pins : List (Addr × Obj)} {σ : St} {H : Hp} {s : Shared} (I : Inv X pins σ H s) : interactive X.env = false := by simp [interactive, I.ok.kind]
/-- an expression whose value is dropped -/
def tDrop (te : TE) : TS := fun D σ H => te σ H fun _ H1 => D.nx σ H1
theorem ps_expr (he : PE X e te) (hs : swapsWith e none pos.line X.env = pure false := by rfl) : PS X (.Expr e pos) (tDrop te) := by
  intro pins s σ H D I h
  exact wpAny_Expr_any (thn (he pins s σ H _ I h) fun v s1 ⟨x, H1, I1, r1, q1⟩ => ⟨σ, H1, I1, q1⟩) I.quiet hs
def tRet (te : TE) : TS := fun D σ H => te σ H D.rt
theorem ps_ret (he : PE X e te) : PS X (.Return (some e) pos) (tRet te) := by
  intro pins s σ H D I h
  exact wpAny_Return_some (thn (he pins s σ H _ I h) fun v s1 ⟨x, H1, I1, r1, q1⟩ => ⟨x, σ, H1, I1, r1, q1⟩)
def tRetN : TS := fun D _ H => D.rt .non H
def tIfS (c : TT) (t u : TS) : TS := fun D σ H => c σ H fun b H1 => if b = true then t D σ H1 else u D σ H1
theorem ps_if {c : Expr} {a b : List Stmt} {tc : TT} (hc : PT X c tc) (ha : PSs X a t) (hb : PSs X b u) : PS X (.If c a b pos) (tIfS tc t u) := by
  intro pins s σ H D I h
  refine wpAny_If (thn (hc pins s σ H _ I h) fun d s1 ⟨H1, I1, q1⟩ => ?_)
  cases d with
  | true => exact ha pins s1 σ H1 D I1 q1
  | false => exact hb pins s1 σ H1 D I1 q1
/-- code that the proof never comes to -/
def tNever : TS := fun _ _ _ => False
end

/-! ### targets -/
abbrev TG := V → St → Hp → (St → Hp → Prop) → Prop
abbrev TGs := List V → St → Hp → (St → Hp → Prop) → Prop
def PG (X : Cx) (target : Expr) (t : TG) : Prop :=
  ∀ (pins : List (Addr × Obj)) (s : Shared) (σ : St) (H : Hp) (v : V) (u : Value) (Q : St → Hp → Prop), Inv X pins σ H s → RelV v u → t v σ H Q →
    wpAny (model X.prog X.w) X.A (assign target X.env u) (fun _ s' => ∃ σ' H', Inv X pins σ' H' s' ∧ Q σ' H') X.xe s
/-- several targets, one after another -/
def PGs (X : Cx) (ts : List Expr) (t : TGs) : Prop :=
  ∀ (pins : List (Addr × Obj)) (s : Shared) (σ : St) (H : Hp) (vs : List V) (us : List Value) (Q : St → Hp → Prop), Inv X pins σ H s → Vals vs us → t vs σ H Q →
    wpAny (model X.prog X.w) X.A (assignInOrder ((assignEach ts X.env).map (·.2)) us) (fun _ s' => ∃ σ' H', Inv X pins σ' H' s' ∧ Q σ' H') X.xe s
/-- o[i] = v, by values -/
abbrev TSet := V → V → V → Hp → (Hp → Prop) → Prop
def PSet (X : Cx) (t : TSet) : Prop :=
  ∀ (pins : List (Addr × Obj)) (s : Shared) (σ : St) (H : Hp) (o i v : V) (ov iv u : Value) (Q : Hp → Prop), Inv X pins σ H s → RelV o ov → RelV i iv → RelV v u → t o i v H Q →
    wpAny (model X.prog X.w) X.A (setItem ov iv u) (fun _ s' => ∃ H', Inv X pins σ H' s' ∧ Q H') X.xe s
/-- a op= b, by values -/
abbrev TIp := V → V → Hp → VK → Prop
def PIp (X : Cx) (op : Operator) (t : TIp) : Prop :=
  ∀ (pins : List (Addr × Obj)) (s : Shared) (σ : St) (H : Hp) (x y : V) (v u : Value) (Q : VK), Inv X pins σ H s → RelV x v → RelV y u → t x y H Q →
    wpAny (model X.prog X.w) X.A (inplaceOp op v u) (EP X pins σ Q) X.xe s
section
variable {X : Cx} {pos : Pos}
def gName (i : Nat) : TG := fun v σ H Q => Q (σ.set i (some v)) H
theorem pg_name {i : Nat} {x : Str} (hN : X.N.Nodup) (hi : X.N[i]? = some x) (hx : Loc X.env.scope x) (hf : X.fn x = true ∨ X.env.scope.names.lookup x = some .local := by first | exact .inl rfl | exact .inr rfl | assumption) : PG X (.Name x pos) (gName i) := by
  intro pins s σ H v u Q I r h
  exact wpAny_assign_Name (store_ok I hN hi hx r (fun s' I' => ⟨_, H, I', h⟩) hf)
def gNil : TGs := fun vs σ H Q => vs = [] ∧ Q σ H
def gCons (t : TG) (u : TGs) : TGs := fun vs σ H Q => ∃ v r, vs = v :: r ∧ t v σ H fun σ' H' => u r σ' H' Q
theorem pgs_nil : PGs X [] gNil := by
  intro pins s σ H vs us Q I r h
  obtain ⟨e, h⟩ := h
  subst e
  cases r
  exact assignInOrder_nil ⟨σ, H, I, h⟩
theorem pgs_cons {e : Expr} {es : List Expr} {t : TG} {u : TGs} (h1 : PG X e t) (h2 : PGs X es u)
    (hs : (assignEach (e :: es) X.env).map (·.2) = assign e X.env :: (assignEach es X.env).map (·.2) := by rfl) : PGs X (e :: es) (gCons t u) := by
  intro pins s σ H vs us Q I r h
  obtain ⟨v, vr, e1, h⟩ := h
  subst e1
  cases r with
  | cons r rr =>
    rw [hs]
    refine assignInOrder_cons (thn (h1 pins s σ H _ _ _ I r h) fun _ s1 ⟨σ1, H1, I1, q1⟩ => ?_)
    exact h2 pins s1 σ1 H1 _ _ Q I1 rr q1
/-- (a, b, ..) = a tuple of that length -/
def gTup (K : PySem.W.Frag) (n : Nat) (t : TGs) : TG := fun v σ H Q => ∃ a xs, v = .ref a ∧ SqT K H a xs ∧ xs.length = n ∧ t xs σ H Q
theorem pg_tup {es : List Expr} {k : Nat} {t : TGs} {n : Nat} (hc : X.calm = true) (h : PGs X es t)
    (hn : (assignEach es X.env).length = n := by rfl) (hst : (assignEach es X.env).findIdx? (·.1) = none := by rfl) : PG X (.Tuple es k pos) (gTup X.K n t) := by
  intro pins s σ H v u Q I r hw
  obtain ⟨a, xs, e1, hq, hl, hw⟩ := hw
  subst e1
  cases r
  obtain ⟨its, rv, ht, hz⟩ := I.tuple hq
  refine assign_Tuple_tuple (I.ok.hd hc) ht (by simp [hn, ← hl, rv.length]) hst fun h' hx => ?_
  have I1 : Inv X pins σ H { s with heap := h' } := I.kept (t' := s.toks) fun b o e => hx b o (Nat.ne_of_lt (Heap.lt_size e)) e
  exact h pins _ σ H xs _ Q I1 (by simpa using rv) hw
/-- o[i] = .. -/
def gSub (to ti : TE) (t : TSet) : TG := fun v σ H Q => to σ H fun o H1 => ti σ H1 fun i H2 => t o i v H2 fun H3 => Q σ H3
/-- target = value -/
def tAsg (te : TE) (g : TG) : TS := fun D σ H => te σ H fun x H1 => g x σ H1 D.nx
theorem ps_asg {tg e : Expr} {te : TE} {g : TG} (he : PE X e te) (hg : PG X tg g) (hs : swapsWithSole [tg] e pos.line X.env = pure false := by rfl) (hw : swappedStores [tg] e X.env = pure none := by rfl)
    (h1 : (assignEach [tg] X.env).map (·.2) = [assign tg X.env] := by rfl) : PS X (.Assign [tg] e pos) (tAsg te g) := by
  intro pins s σ H D I h
  refine wpAny_Assign_stores (thn (he pins s σ H _ I h) fun v s1 ⟨x, H1, I1, r1, q1⟩ => ?_) hs hw
  rw [h1]
  exact thn (hg pins s1 σ H1 x v _ I1 r1 q1) fun _ s2 q => q
/-- name = value -/
theorem ps_set {i : Nat} {x : Str} {e : Expr} {te : TE} {pos' : Pos} (hN : X.N.Nodup) (hi : X.N[i]? = some x) (hx : Loc X.env.scope x) (he : PE X e te) (hs : swapsWith e (some (.Name x pos')) pos.line X.env = pure false := by rfl) (hf : X.fn x = true ∨ X.env.scope.names.lookup x = some .local := by first | exact .inl rfl | exact .inr rfl | assumption) :
    PS X (.Assign [.Name x pos'] e pos) (tAsg te (gName i)) := by
  intro pins s σ H D I h
  refine wpAny_Assign_Name (thn (he pins s σ H _ I h) fun v s1 ⟨y, H1, I1, r1, q1⟩ => ?_) hs
  exact store_ok I1 hN hi hx r1 (fun s2 I2 => ⟨_, H1, I2, q1⟩) hf
/-- a, b = x, y with plain local names: stored from the right; the pair itself is not tracked (the opening rows as in PyProof/Rows/TupAssign.lean:23) -/
def tPar (i j : Nat) (ta : TA) : TS := fun D σ H => ta σ H fun vs H1 => ∃ v w, vs = [v, w] ∧ D.nx ((σ.set i (some v)).set j (some w)) H1
theorem ps_par {i j : Nat} {x y : Str} {a b : Expr} {ta : TA} {px py pt : Pos} {kt k2 pt2} (hc : X.calm = true) (hN : X.N.Nodup) (hi : X.N[i]? = some x) (hj : X.N[j]? = some y) (hij : i ≠ j)
    (hx : X.env.scope.names.lookup x = some .local) (hy : X.env.scope.names.lookup y = some .local) (ha : PA X [a, b] ta)
    (hw : swappedStores [.Tuple [.Name x px, .Name y py] kt pt] (.Tuple [a, b] k2 pt2) X.env = pure (some [x, y]))
    (hs : swapsWithSole [.Tuple [.Name x px, .Name y py] kt pt] (.Tuple [a, b] k2 pt2) pos.line X.env = pure false := by rfl) :
    PS X (.Assign [.Tuple [.Name x px, .Name y py] kt pt] (.Tuple [a, b] k2 pt2) pos) (tPar i j ta) := by
  intro pins s σ H D I h
  rw [exec_Assign_arm]
  refine wpAny_bind (wpAny_standAt ?_)
  rw [hs]
  refine wpAny_bind (wpAny_pure ?_)
  rw [if_neg (by decide)]
  refine wpAny_bind (Tuple_ (thn (ha _ pins s σ H _ I h) fun us s1 ⟨vs, H1, I1, r1, q1⟩ => ?_))
  obtain ⟨v, w, e1, q1⟩ := q1
  subst e1
  obtain ⟨u1, u2, rfl, rv, rw'⟩ : ∃ u1 u2, us = [u1, u2] ∧ RelV v u1 ∧ RelV w u2 := by
    cases r1 with
    | cons p q =>
      cases q with
      | cons p' q' =>
        cases q'
        exact ⟨_, _, rfl, p, p'⟩
  refine wpAny_newObj_type ?_ (by show 2 ≤ sizeLine; decide)
  have I2 : Inv X pins σ H1 { s1 with heap := s1.heap.push { cls := .type "tuple", data := .seq [u1, u2].toArray } } := I1.kept (t' := s1.toks) fun b o e => Heap.get?_push_of_some _ e
  rw [hw]
  refine wpAny_bind (wpAny_pure ?_)
  show wpAny (model X.prog X.w) X.A (do rule "assign.swapped-stores"; let items ← unpackItems (.ref s1.heap.objs.size) 2 none; assignInOrder [fun v => bindName X.env y v, fun v => bindName X.env x v] items.reverse; pure Flow.next) _ _ _
  refine wpAny_bind (wpAny_rule (wpAny_bind (unpackItems_tuple (items := #[u1, u2]) (I.ok.hd hc) (IsTup.new s1.heap _) fun h' hx' => ?_)))
  have I3 := I2.kept (h' := h') (t' := s1.toks) fun b o e => hx' b o (Nat.ne_of_lt (Heap.lt_size e)) e
  show wpAny _ _ (assignInOrder [fun v => bindName X.env y v, fun v => bindName X.env x v] [u2, u1] >>= fun _ => pure Flow.next) _ _ _
  refine wpAny_bind (assignInOrder_cons (wpAny_bindName (store_ok I3 hN hj (.inl hy) rw' (fun s2 I4 => ?_) (.inr hy))))
  refine assignInOrder_cons (wpAny_bindName (store_ok I4 hN hi (.inl hx) rv (fun s3 I5 => assignInOrder_nil (wpAny_pure ?_)) (.inr hx)))
  rw [List.set_comm _ _ (Ne.symm hij)] at I5
  exact ⟨_, H1, I5, q1⟩
/-- name op= e -/
def tAug (i : Nat) (te : TE) (ti : TIp) : TS := fun D σ H => ∃ x, σ[i]? = some (some x) ∧ te σ H fun y H1 => ti x y H1 fun z H2 => D.nx (σ.set i (some z)) H2
/-- o[i] op= e -/
def tAugS (to ti te : TE) (tget : V → V → Hp → VK → Prop) (tip : TIp) (tset : TSet) : TS := fun D σ H => to σ H fun o H1 => ti σ H1 fun i H2 => tget o i H2 fun x H3 => te σ H3 fun y H4 => tip x y H4 fun z H5 => tset o i z H5 fun H6 => D.nx σ H6
/-- o[i], by values -/
def PGet (X : Cx) (t : V → V → Hp → VK → Prop) : Prop :=
  ∀ (pins : List (Addr × Obj)) (s : Shared) (σ : St) (H : Hp) (o i : V) (ov iv : Value) (Q : VK), Inv X pins σ H s → RelV o ov → RelV i iv → t o i H Q →
    wpAny (model X.prog X.w) X.A (getItem ov iv) (EP X pins σ Q) X.xe s
/-- ints -/
def ipI (f : Int → Int → Int) : TIp := fun x y H Q => ∃ i j, x = .int i ∧ y = .int j ∧ Q (.int (f i j)) H
end

/-! ### while -/
section
variable {X : Cx} {pos : Pos}
/-- the invariant W with its measure -/
def tWhile (c : TT) (tb : TS) : TS := fun D σ H => ∃ W : Nat → St → Hp → Prop, (∃ m, W m σ H) ∧ ∀ m σ H, W m σ H →
  c σ H fun b H1 => if b = true then ∃ N : St → Hp → Prop, (∀ σ' H', N σ' H' → ∃ m', m' < m ∧ W m' σ' H') ∧ tb { D with nx := N, ct := N, bk := D.nx } σ H1 else D.nx σ H1
theorem ps_while {c : Expr} {body : List Stmt} {tc : TT} {tb : TS} (hp : PassesOwn (model X.prog X.w) X.A X.env X.xe) (hc : PT X c tc) (hb : PSs X body tb) : PS X (.While c body [] pos) (tWhile tc tb) := by
  intro pins s σ H D I h
  obtain ⟨W, ⟨m0, w0⟩, turn⟩ := h
  refine wpAny_While (codeAny_whileLoop (fun n s' => ∃ σ' H', Inv X pins σ' H' s' ∧ W n σ' H') ?_ m0 ⟨σ, H, I, w0⟩)
  rintro n s1 ⟨σ1, H1, I1, w1⟩
  refine wpAny_passesOwn hp (thn (hc pins s1 σ1 H1 _ I1 (turn n σ1 H1 w1)) fun b s2 ⟨H2, I2, q2⟩ => ?_)
  cases b with
  | true =>
    obtain ⟨N, hN, q2⟩ := q2
    rw [if_pos rfl]
    refine wpAny_passesOwn hp (thn (hb pins s2 σ1 H2 _ I2 q2) fun f s3 q3 => ?_)
    cases f with
    | next =>
      obtain ⟨σ3, H3, I3, n3⟩ := q3
      obtain ⟨m', hm, w3⟩ := hN σ3 H3 n3
      exact ⟨m', hm, σ3, H3, I3, w3⟩
    | cont =>
      obtain ⟨σ3, H3, I3, n3⟩ := q3
      obtain ⟨m', hm, w3⟩ := hN σ3 H3 n3
      exact ⟨m', hm, σ3, H3, I3, w3⟩
    | brk => exact q3
    | ret v => exact q3
  | false =>
    rw [if_neg Bool.false_ne_true]
    exact wpAny_execs_nil ⟨σ1, H2, I2, q2⟩
end

/-! ### what a loop or a comprehension walks -/
/-- at turn i: it yields x (the heap may grow), or it stops -/
structure It where
  go : Nat → Hp → Prop
  yld : Nat → Hp → V → Hp → Prop
  stop : Nat → Hp → Prop
/-- the iterator's own objects may turn: they are not the frame's, not pinned, younger than the entry (or a comprehension's own) -/
def FpOk (X : Cx) (pins : List (Addr × Obj)) (H : Hp) (b : Addr) : Prop :=
  H b = none ∧ b ≠ X.env.locals ∧ b ∉ X.fs ∧ (b ∈ X.ex ∨ X.s₀.heap.objs.size ≤ b) ∧ (∀ x c, X.env.cells.lookup x = some c → c ≠ b) ∧ ∀ p ∈ X.pn ++ pins, p.1 ≠ b
theorem Inv.fpOk {X : Cx} {pins : List (Addr × Obj)} {σ : St} {H H' : Hp} {s : Shared} {b : Addr} (I : Inv X pins σ H s) (hb : s.heap.objs.size ≤ b) (hn : H' b = none) : FpOk X pins H' b := by
  refine ⟨hn, Nat.ne_of_gt (Nat.lt_of_lt_of_le I.lt hb), I.nofs hb, .inr (Nat.le_trans I.sz hb), fun x c e z => ?_, fun p hp z => ?_⟩
  · obtain ⟨v, q⟩ := I.cell x c e
    exact absurd (Nat.lt_of_lt_of_le q.lt (by rw [z]; exact hb)) (Nat.lt_irrefl _)
  · exact absurd (Nat.lt_of_lt_of_le (Heap.lt_size (I.pin p hp).1) (by rw [z]; exact hb)) (Nat.lt_irrefl _)
structure Turn (P : Program) (w : World) (K : PySem.W.Frag) (tg : Expr) (J : It) (fp : List Addr) (it : Addr) (tn : Nat → Heap → Prop) : Prop where
  mem : it ∈ fp
  obj : ∀ i h, tn i h → ∀ b ∈ fp, ∃ o, h.get? b = some o ∧ ∀ v, o.data ≠ .cell v
  keep : ∀ i h h', tn i h → (∀ b ∈ fp, ∀ o, h.get? b = some o → h'.get? b = some o) → tn i h'
  item : ∀ (X : Cx), X.prog = P → X.w = w → X.K = K → X.calm = true → ∀ (i : Nat) (pins : List (Addr × Obj)) (s : Shared) (σ : St) (H : Hp) (E : Value → Shared → Prop), Inv X pins σ H s → (∀ b ∈ fp, FpOk X pins H b) → tn i s.heap → J.go i H →
    wpAny (model P w) X.A (pyNext (.ref it)) (fun r s1 => ∃ u, r = some u ∧
      wpAny (model P w) X.A (letOwnedTupleGo tg (.ref it) u) (fun _ s2 => ∃ x H', Inv X pins σ H' s2 ∧ RelV x u ∧ J.yld i H x H' ∧ tn (i + 1) s2.heap ∧ ∀ b ∈ fp, H' b = none) E s1) E s
  done : ∀ (X : Cx), X.prog = P → X.w = w → X.K = K → X.calm = true → ∀ (i : Nat) (pins : List (Addr × Obj)) (s : Shared) (σ : St) (H : Hp) (E : Value → Shared → Prop), Inv X pins σ H s → (∀ b ∈ fp, FpOk X pins H b) → tn i s.heap → J.stop i H →
    wpAny (model P w) X.A (pyNext (.ref it)) (fun r s1 => r = none ∧ Inv X pins σ H s1) E s
  self : ∀ (A : Around) (i : Nat) (s : Shared) (Q : Value → Shared → Prop) (E : Value → Shared → Prop), tn i s.heap → Q (.ref it) s → wpAny (model P w) A (pyIter (.ref it)) Q E s
abbrev TI := St → Hp → (It → Hp → Prop) → Prop
/-- an iterator has come -/
def PIE (X : Cx) (pins : List (Addr × Obj)) (σ : St) (tg : Expr) (R : It → Hp → Prop) (itv : Value) (s2 : Shared) : Prop :=
  ∃ (it : Addr) (fp : List Addr) (tn : Nat → Heap → Prop) (J : It) (H' : Hp), itv = .ref it ∧ Inv X pins σ H' s2 ∧ Turn X.prog X.w X.K tg J fp it tn ∧ tn 0 s2.heap ∧ (∀ b ∈ fp, FpOk X pins H' b) ∧ R J H'
def PI (X : Cx) (tg iter : Expr) (wi : TI) : Prop :=
  ∀ (pins : List (Addr × Obj)) (s : Shared) (σ : St) (H : Hp) (R : It → Hp → Prop), Inv X pins σ H s → wi σ H R →
    wpAny (model X.prog X.w) X.A (eval iter X.env) (fun v s1 => wpAny (model X.prog X.w) X.A (pyIter v) (PIE X pins σ tg R) X.xe s1) X.xe s

/-- the step ahead of the store is nothing for an iterator that keeps no tuple -/
theorem go_of {M : Model} {A : Around} {E : Value → Shared → Prop} {s : Shared} {tg : Expr} {it : Addr} {u : Value} {o : Obj} {n : String} {vs : Array Value} {Q : Unit → Shared → Prop} (ho : s.heap.get? it = some o) (hc : o.cls = .type n) (hd : o.data = .fields vs)
    (hn : ["enumerate", "zip", "dict_itemiterator", "dict_reverseitemiterator", "odict_iterator", "itertools.zip_longest", "itertools.pairwise"].contains n = false) (hQ : Q () s) : wpAny M A (letOwnedTupleGo tg (.ref it) u) Q E s := by
  unfold letOwnedTupleGo
  cases tg <;> first
    | exact wpAny_pure hQ
    | (cases u <;> first
        | exact wpAny_pure hQ
        | (refine wpAny_bind (wpAny_load ho ?_)
           rw [hc, hd]
           show wpAny M A (if (["enumerate", "zip", "dict_itemiterator", "dict_reverseitemiterator", "odict_iterator", "itertools.zip_longest", "itertools.pairwise"].contains n && vs[0]? == some (rawInt _)) = true then _ else _) Q E s
           rw [if_neg (by intro h; rw [hn, Bool.false_and] at h; cases h)]
           exact wpAny_pure hQ))

/-- the list at a, as it stands at each turn (a loop may append to it) -/
def Itl (K : PySem.W.Frag) (a : Addr) : It :=
  ⟨fun i H => ∃ xs x, SqL K H a xs ∧ xs[i]? = some x, fun i H x H' => H' = H ∧ ∀ xs, SqL K H a xs → xs[i]? = some x, fun i H => ∃ xs, SqL K H a xs ∧ xs.length ≤ i⟩
def Itt (K : PySem.W.Frag) (a : Addr) : It :=
  ⟨fun i H => ∃ xs x, SqT K H a xs ∧ xs[i]? = some x, fun i H x H' => H' = H ∧ ∀ xs, SqT K H a xs → xs[i]? = some x, fun i H => ∃ xs, SqT K H a xs ∧ xs.length ≤ i⟩
/-- lo, lo + 1, .. (n of them) -/
def Itr (lo : Int) (n : Nat) : It := ⟨fun i _ => i < n, fun i H x H' => H' = H ∧ x = .int (lo + i), fun i _ => n ≤ i⟩
end L2

namespace L2
open PySem PySem.Spec PyProof.Rows
section
variable {X : Cx} {tg : Expr}
def iList (K : PySem.W.Frag) (tl : TE) : TI := fun σ H R => tl σ H fun x H1 => ∃ a, x = .ref a ∧ (∃ xs, SqL K H1 a xs) ∧ R (Itl K a) H1
def iTup (K : PySem.W.Frag) (tl : TE) : TI := fun σ H R => tl σ H fun x H1 => ∃ a, x = .ref a ∧ (∃ xs, SqT K H1 a xs) ∧ R (Itt K a) H1
def iRng1 (ta : TA) : TI := fun σ H R => ta σ H fun vs H1 => ∃ j : Int, vs = [.int j] ∧ -(2 ^ 62) ≤ j ∧ j < 2 ^ 62 ∧ R (Itr 0 j.toNat) H1
def iRng2 (ta : TA) : TI := fun σ H R => ta σ H fun vs H1 => ∃ i j : Int, vs = [.int i, .int j] ∧ (-(2 ^ 62) ≤ i ∧ i < 2 ^ 62 ∧ -(2 ^ 62) ≤ j ∧ j < 2 ^ 62) ∧ R (Itr i (j - i).toNat) H1
/-! ### for -/
/-- W: the invariant by the turn and a measure; N: what the body is to reach -/
def tFor (wi : TI) (g : TG) (tb : TS) : TS := fun D σ H => wi σ H fun J H1 => ∃ W : Nat → Nat → St → Hp → Prop, (∃ m, W 0 m σ H1) ∧ ∀ i m σ H, W i m σ H →
  (J.stop i H ∧ D.nx σ H) ∨ (J.go i H ∧ ∃ N : St → Hp → Prop, (∀ σ' H', N σ' H' → ∃ m', m' < m ∧ W (i + 1) m' σ' H') ∧ ∀ x H', J.yld i H x H' → g x σ H' fun σ2 H2 => tb { D with nx := N, ct := N, bk := D.nx } σ2 H2)
/-- the records at fp as they stand -/
def pinsAt (fp : List Addr) (h : Heap) : List (Addr × Obj) := fp.filterMap fun b => (h.get? b).map fun o => (b, o)
theorem mem_pinsAt {fp : List Addr} {h : Heap} {b : Addr} {o : Obj} (hb : b ∈ fp) (e : h.get? b = some o) : (b, o) ∈ pinsAt fp h := List.mem_filterMap.mpr ⟨b, hb, by rw [e]; rfl⟩
theorem of_pinsAt {fp : List Addr} {h : Heap} {p : Addr × Obj} (hp : p ∈ pinsAt fp h) : p.1 ∈ fp ∧ h.get? p.1 = some p.2 := by
  obtain ⟨b, hb, e⟩ := List.mem_filterMap.mp hp
  cases q : h.get? b with
  | none => rw [q] at e; cases e
  | some o =>
    rw [q] at e
    have e' : (b, o) = p := Option.some.inj e
    subst e'
    exact ⟨hb, q⟩
theorem Inv.pinned {pins : List (Addr × Obj)} {σ : St} {H : Hp} {s : Shared} {fp : List Addr} (I : Inv X pins σ H s) (hf : ∀ b ∈ fp, FpOk X pins H b) (ho : ∀ b ∈ fp, ∃ o, s.heap.get? b = some o ∧ ∀ v, o.data ≠ .cell v) : Inv X (pins ++ pinsAt fp s.heap) σ H s :=
  I.pins_of fun p hp => (List.mem_append.mp hp).elim (fun z => I.pin p (List.mem_append_right _ z)) fun z => by
    obtain ⟨hb, e⟩ := of_pinsAt z
    obtain ⟨f0, f1, f2, _⟩ := hf p.1 hb
    obtain ⟨o, e', d⟩ := ho p.1 hb
    rw [e] at e'; cases e'
    exact ⟨e, f0, f1, f2, d⟩
theorem Inv.unpinned {pins pl : List (Addr × Obj)} {σ : St} {H : Hp} {s : Shared} (I : Inv X (pins ++ pl) σ H s) : Inv X pins σ H s := I.pins_of fun p hp => I.pin p (List.mem_append_right _ (List.mem_append_left _ hp))
theorem ps_for {iter : Expr} {body : List Stmt} {wi : TI} {g : TG} {tb : TS} {pos : Pos} (hp : PassesOwn (model X.prog X.w) X.A X.env X.xe) (hc : X.calm = true) (hi : PI X tg iter wi) (hg : PG X tg g) (hb : PSs X body tb)
    (hs : ∀ x, foldedSetIterable iter X.env x = pure x := by intro _; rfl) : PS X (.For tg iter body [] pos) (tFor wi g tb) := by
  intro pins s σ H D I h
  refine wpAny_For (thn (hi pins s σ H _ I h) fun v s1 h1 => thn h1 fun itv s2 h2 => ?_) hs
  obtain ⟨it, fp, tn, J, H2, e, I2, T, st2, f2, W, ⟨m0, w0⟩, turn⟩ := h2
  subst e
  -- what stays true of the iterator's objects through the loop
  have stat : ∀ {H' : Hp}, (∀ b ∈ fp, H' b = none) → ∀ b ∈ fp, FpOk X pins H' b := fun hn b hb => ⟨hn b hb, (f2 b hb).2⟩
  refine codeAny_forLoop_any (fun n s' => ∃ i σ' H', Inv X pins σ' H' s' ∧ tn i s'.heap ∧ (∀ b ∈ fp, H' b = none) ∧ W i n σ' H') ?_ m0 ⟨0, σ, H2, I2, st2, fun b hb => (f2 b hb).1, w0⟩
  rintro n s3 ⟨i, σ3, H3, I3, st3, fr3, w3⟩
  rcases turn i n σ3 H3 w3 with ⟨stop, qn⟩ | ⟨go, N, hN, step⟩
  · refine wpAny_passesOwn hp (thn (T.done X rfl rfl rfl hc i pins s3 σ3 H3 X.xe I3 (stat fr3) st3 stop) fun r s4 ⟨hr, I4⟩ => ?_)
    subst hr
    exact wpAny_execs_nil ⟨σ3, H3, I4, qn⟩
  · refine wpAny_passesOwn hp (thn (T.item X rfl rfl rfl hc i pins s3 σ3 H3 X.xe I3 (stat fr3) st3 go) fun r s4 ⟨u, hr, h4⟩ => ?_)
    subst hr
    refine wpAny_passesOwn hp (thn h4 fun _ s5 ⟨x, H5, I5, r5, y5, st5, fr5⟩ => ?_)
    have I5' := I5.pinned (stat fr5) (T.obj _ _ st5)
    refine wpAny_passesOwn hp (thn (hg _ s5 σ3 H5 x u _ I5' r5 (step x H5 y5)) fun _ s6 ⟨σ6, H6, I6, q6⟩ => ?_)
    refine wpAny_passesOwn hp (thn (hb _ s6 σ6 H6 _ I6 q6) fun f s7 q7 => ?_)
    have again : ∀ {σ7 : St} {H7 : Hp}, Inv X (pins ++ pinsAt fp s5.heap) σ7 H7 s7 → N σ7 H7 → ∃ m, m < n ∧ ∃ i σ' H', Inv X pins σ' H' s7 ∧ tn i s7.heap ∧ (∀ b ∈ fp, H' b = none) ∧ W i m σ' H' := fun {σ7 H7} I7 n7 => by
      obtain ⟨m', hm, w7⟩ := hN σ7 H7 n7
      refine ⟨m', hm, i + 1, σ7, H7, I7.unpinned, T.keep _ _ _ st5 fun b hb o e => (I7.pin (b, o) (List.mem_append_right _ (List.mem_append_right _ (mem_pinsAt hb e)))).1, fun b hb => ?_, w7⟩
      obtain ⟨o, e, d⟩ := T.obj _ _ st5 b hb
      exact (I7.pin (b, o) (List.mem_append_right _ (List.mem_append_right _ (mem_pinsAt hb e)))).2.1
    cases f with
    | next => obtain ⟨σ7, H7, I7, n7⟩ := q7; exact again I7 n7
    | cont => obtain ⟨σ7, H7, I7, n7⟩ := q7; exact again I7 n7
    | brk => obtain ⟨σ7, H7, I7, q7⟩ := q7; exact ⟨σ7, H7, I7.unpinned, q7⟩
    | ret v => obtain ⟨x7, σ7, H7, I7, r7, q7⟩ := q7; exact ⟨x7, σ7, H7, I7.unpinned, r7, q7⟩
end

/-! ### the forms one uses -/
end L2

namespace L2
open PySem PySem.Spec PyProof.Rows

abbrev R2 := V → V → Hp → VK → Prop
/-- a two-place operation on values: f is binaryOp op, inplaceOp op or compareOp op -/
def OpR (X : Cx) (f : Value → Value → Sem Value) (r : R2) : Prop :=
  ∀ (pins : List (Addr × Obj)) (s : Shared) (σ : St) (H : Hp) (x y : V) (v u : Value) (Q : VK), Inv X pins σ H s → RelV x v → RelV y u → r x y H Q →
    wpAny (model X.prog X.w) X.A (f v u) (EP X pins σ Q) X.xe s
/-- a one-place operation -/
def UnR (X : Cx) (f : Value → Sem Value) (r : V → Hp → VK → Prop) : Prop :=
  ∀ (pins : List (Addr × Obj)) (s : Shared) (σ : St) (H : Hp) (x : V) (v : Value) (Q : VK), Inv X pins σ H s → RelV x v → r x H Q →
    wpAny (model X.prog X.w) X.A (f v) (EP X pins σ Q) X.xe s
/-- a call of a value that is known (a builtin, a type) with values -/
def CallR (X : Cx) (f : Value) (r : List V → Hp → VK → Prop) : Prop :=
  ∀ (pins : List (Addr × Obj)) (s : Shared) (σ : St) (H : Hp) (xs : List V) (us : List Value) (Q : VK), Inv X pins σ H s → Vals xs us → r xs H Q →
    wpAny (model X.prog X.w) X.A (call f us) (EP X pins σ Q) X.xe s
/-- a value's truth -/
def TruR (X : Cx) (r : V → Hp → (Bool → Hp → Prop) → Prop) : Prop :=
  ∀ (pins : List (Addr × Obj)) (s : Shared) (σ : St) (H : Hp) (x : V) (v : Value) (Q : Bool → Hp → Prop), Inv X pins σ H s → RelV x v → r x H Q →
    wpAny (model X.prog X.w) X.A (truthy v) (TP X pins σ Q) X.xe s

def tOp (r : R2) (ta tb : TE) : TE := fun σ H Q => ta σ H fun x H1 => tb σ H1 fun y H2 => r x y H2 Q
def tUn (r : V → Hp → VK → Prop) (ta : TE) : TE := fun σ H Q => ta σ H fun x H1 => r x H1 Q
/-- ints in, under C, and a value out -/
def rI (C : Int → Int → Prop) (g : Int → Int → V) : R2 := fun x y H Q => ∃ i j, x = .int i ∧ y = .int j ∧ C i j ∧ Q (g i j) H
def rI0 (g : Int → Int → V) : R2 := fun x y H Q => ∃ i j, x = .int i ∧ y = .int j ∧ Q (g i j) H
def rU (g : Int → V) : V → Hp → VK → Prop := fun x H Q => ∃ i, x = .int i ∧ Q (g i) H

section
variable {X : Cx} {a b c : Expr} {ta tb tc : TE} {pos : Pos}

theorem binT (ha : PE X a ta) (hb : PE X b tb) {pins : List (Addr × Obj)} {s : Shared} {σ : St} {H : Hp} {R : V → V → Hp → Prop} (I : Inv X pins σ H s)
    (h : ta σ H fun x H1 => tb σ H1 fun y H2 => R x y H2) {Q : Value → Shared → Prop} {f : Value → Value → Sem Value}
    (hf : ∀ v u s2 x y H2, Inv X pins σ H2 s2 → RelV x v → RelV y u → R x y H2 → wpAny (model X.prog X.w) X.A (f v u) Q X.xe s2) :
    wpAny (model X.prog X.w) X.A (eval a X.env) (fun v s₁ => wpAny (model X.prog X.w) X.A (eval b X.env) (fun u s₂ => wpAny (model X.prog X.w) X.A (f v u) Q X.xe s₂) X.xe s₁) X.xe s := by
  refine thn (ha pins s σ H _ I h) fun v s1 ⟨x, H1, I1, r1, q1⟩ => ?_
  refine thn (hb pins s1 σ H1 _ I1 q1) fun u s2 ⟨y, H2, I2, r2, q2⟩ => ?_
  exact hf v u s2 x y H2 I2 r1 r2 q2

theorem pe_op {op : Operator} {r : R2} (ho : OpR X (binaryOp op) r) (ha : PE X a ta) (hb : PE X b tb) : PE X (.BinOp a op b pos) (tOp r ta tb) := by
  intro pins s σ H Q I h
  exact wpAny_BinOp (binT ha hb I h fun v u s2 x y H2 I2 rx ry q => ho pins s2 σ H2 x y v u Q I2 rx ry q)
theorem pe_un {op : UnaryOp} {r : V → Hp → VK → Prop} (ho : UnR X (unaryOp op) r) (ha : PE X a ta) : PE X (.UnaryOp op a pos) (tUn r ta) := by
  intro pins s σ H Q I h
  exact UnaryOp_ (thn (ha pins s σ H _ I h) fun v s1 ⟨x, H1, I1, r1, q1⟩ => ho pins s1 σ H1 x v Q I1 r1 q1)
/-! ### ints -/
theorem opI {f : Value → Value → Sem Value} {C : Int → Int → Prop} {g : Int → Int → Int}
    (rule : ∀ (i j : Int) (t u : Tok) (s : Shared) (Q : Value → Shared → Prop) (E : Value → Shared → Prop), C i j → Q (.int (g i j) s.toks) { s with toks := s.toks + 1 } → wpAny (model X.prog X.w) X.A (f (.int i t) (.int j u)) Q E s) :
    OpR X f (rI C fun i j => .int (g i j)) := by
  intro pins s σ H x y v u Q I rx ry h
  obtain ⟨i, j, rfl, rfl, hc, q⟩ := h
  obtain ⟨t, rfl⟩ := rx
  obtain ⟨t', rfl⟩ := ry
  exact rule i j t t' s _ _ hc ⟨.int (g i j), H, I.tok _, ⟨_, rfl⟩, q⟩
theorem opI0 {f : Value → Value → Sem Value} {g : Int → Int → Int}
    (rule : ∀ (i j : Int) (t u : Tok) (s : Shared) (Q : Value → Shared → Prop) (E : Value → Shared → Prop), Q (.int (g i j) s.toks) { s with toks := s.toks + 1 } → wpAny (model X.prog X.w) X.A (f (.int i t) (.int j u)) Q E s) :
    OpR X f (rI0 fun i j => .int (g i j)) := by
  intro pins s σ H x y v u Q I rx ry h
  obtain ⟨i, j, rfl, rfl, q⟩ := h
  obtain ⟨t, rfl⟩ := rx
  obtain ⟨t', rfl⟩ := ry
  exact rule i j t t' s _ _ ⟨.int (g i j), H, I.tok _, ⟨_, rfl⟩, q⟩
theorem opB0 {f : Value → Value → Sem Value} {g : Int → Int → Bool}
    (rule : ∀ (i j : Int) (t u : Tok) (s : Shared) (Q : Value → Shared → Prop) (E : Value → Shared → Prop), Q (.bool (g i j)) s → wpAny (model X.prog X.w) X.A (f (.int i t) (.int j u)) Q E s) :
    OpR X f (rI0 fun i j => .bl (g i j)) := by
  intro pins s σ H x y v u Q I rx ry h
  obtain ⟨i, j, rfl, rfl, q⟩ := h
  obtain ⟨t, rfl⟩ := rx
  obtain ⟨t', rfl⟩ := ry
  exact rule i j t t' s _ _ ⟨.bl (g i j), H, I, rfl, q⟩

def CDiv (i j : Int) : Prop := 0 < j ∧ j < 1073741824
def CDivN (i j : Int) : Prop := j ≠ 0 ∧ j.natAbs < 1073741824
def CPow (i j : Int) : Prop := 0 ≤ j ∧ j ≤ 1000000 ∧ i.natAbs < 2 ^ 64
def CMul (i j : Int) : Prop := (-(2 ^ 64) < i ∧ i < 2 ^ 64) ∨ (-(2 ^ 64) < j ∧ j < 2 ^ 64)
theorem CMul.ok {i j : Int} (h : CMul i j) : IntMulOk i j := by
  rcases h with ⟨h1, h2⟩ | ⟨h1, h2⟩
  · exact .of_left (intBits_le_64 h1 h2)
  · exact .of_right (intBits_le_64 h1 h2)
theorem op_add : OpR X (binaryOp .Add) (rI0 fun i j => .int (i + j)) := opI0 fun _ _ _ _ _ _ _ q => add_int q
theorem op_sub : OpR X (binaryOp .Sub) (rI0 fun i j => .int (i - j)) := opI0 fun _ _ _ _ _ _ _ q => sub_int q
theorem op_modN : OpR X (binaryOp .Mod) (rI (fun _ j => j ≠ 0) fun i j => .int (i.fmod j)) := opI fun _ _ _ _ _ _ _ hc q => mod_int' hc q
theorem op_pow : OpR X (binaryOp .Pow) (rI CPow fun i j => .int (i ^ j.toNat)) := opI fun _ _ _ _ _ _ _ hc q => pow_int_small hc.1 hc.2.1 hc.2.2 q
theorem unI {f : Value → Sem Value} {g : Int → Int}
    (rule : ∀ (i : Int) (t : Tok) (s : Shared) (Q : Value → Shared → Prop) (E : Value → Shared → Prop), Q (.int (g i) s.toks) { s with toks := s.toks + 1 } → wpAny (model X.prog X.w) X.A (f (.int i t)) Q E s) :
    UnR X f (rU fun i => .int (g i)) := by
  intro pins s σ H x v Q I rx h
  obtain ⟨i, rfl, q⟩ := h
  obtain ⟨t, rfl⟩ := rx
  exact rule i t s _ _ ⟨.int (g i), H, I.tok _, ⟨_, rfl⟩, q⟩
theorem un_neg : UnR X (unaryOp .USub) (rU fun i => .int (-i)) := unI fun _ _ _ _ _ q => neg_int q
/-! ### bools among ints: n += (a < b) -/
end

/-! ### comparisons -/
/-- the scalars that == tells apart as data does -/
def scal : V → V → Bool
  | .non, .non => true | .non, .int _ => true | .int _, .non => true | .non, .bl _ => true | .bl _, .non => true | .non, .str _ => true | .str _, .non => true
  | .int _, .int _ => true | .bl _, .bl _ => true | .str _, .str _ => true | .byt _, .byt _ => true
  | .int _, .str _ => true | .str _, .int _ => true | .bl _, .str _ => true | .str _, .bl _ => true
  | _, _ => false
def rEq : R2 := fun x y H Q => scal x y = true ∧ Q (.bl (decide (x = y))) H
def rNe : R2 := fun x y H Q => scal x y = true ∧ Q (.bl (!decide (x = y))) H

theorem dec_int {i j : Int} : decide (V.int i = V.int j) = (i == j) := by
  rw [Bool.eq_iff_iff]
  simp
theorem dec_bl {i j : Bool} : decide (V.bl i = V.bl j) = (i == j) := by
  rw [Bool.eq_iff_iff]
  simp
theorem dec_str {i j : Str} : decide (V.str i = V.str j) = (i == j) := by
  rw [Bool.eq_iff_iff]
  simp
theorem dec_byt {i j : Array UInt8} : decide (V.byt i = V.byt j) = (i.toList == j.toList) := by
  rw [Bool.eq_iff_iff]
  cases i
  cases j
  simp

section
variable {X : Cx} {a b c : Expr} {ta tb tc : TE} {pos : Pos}
theorem fin_bl {pins : List (Addr × Obj)} {σ : St} {H : Hp} {s : Shared} {Q : VK} {k k' : Bool} (I : Inv X pins σ H s) (q : Q (.bl k) H) (e : k = k') : EP X pins σ Q (.bool k') s := by
  subst e
  exact ⟨.bl k, H, I, rfl, q⟩
theorem op_eq : OpR X (compareOp .Eq) rEq := by
  intro pins s σ H x y v u Q I rx ry h
  obtain ⟨hs, q⟩ := h
  cases x with
  | non =>
    cases rx
    cases y with
    | non => cases ry; exact PySem.EqNone.eq_none_none (fin_bl I q (by simp))
    | bl j => cases ry; exact PySem.EqNone.eq_none_bool (fin_bl I q (by simp))
    | int j => obtain ⟨t', rfl⟩ := ry; exact PySem.EqNone.eq_none_int (fin_bl I q (by simp))
    | str j => obtain ⟨t', rfl⟩ := ry; exact PySem.EqNone.eq_none_str (fin_bl I q (by simp))
    | _ => exact absurd (show false = true from hs) Bool.false_ne_true
  | bl i =>
    cases rx
    cases y with
    | non => cases ry; exact PySem.EqNone.eq_bool_none (fin_bl I q (by simp))
    | bl j => cases ry; exact eq_bool (fin_bl I q dec_bl)
    | str j => obtain ⟨t', rfl⟩ := ry; exact PySem.EqMixed.eq_bool_str (fin_bl I q (by simp))
    | _ => exact absurd (show false = true from hs) Bool.false_ne_true
  | int i =>
    obtain ⟨t, rfl⟩ := rx
    cases y with
    | non => cases ry; exact PySem.EqNone.eq_int_none (fin_bl I q (by simp))
    | int j => obtain ⟨t', rfl⟩ := ry; exact eq_int (fin_bl I q dec_int)
    | str j => obtain ⟨t', rfl⟩ := ry; exact PySem.EqMixed.eq_int_str (fin_bl I q (by simp))
    | _ => exact absurd (show false = true from hs) Bool.false_ne_true
  | str i =>
    obtain ⟨t, rfl⟩ := rx
    cases y with
    | non => cases ry; exact PySem.EqNone.eq_str_none (fin_bl I q (by simp))
    | bl j => cases ry; exact PySem.EqMixed.eq_str_bool (fin_bl I q (by simp))
    | int j => obtain ⟨t', rfl⟩ := ry; exact PySem.EqMixed.eq_str_int (fin_bl I q (by simp))
    | str j => obtain ⟨t', rfl⟩ := ry; exact eq_str (fin_bl I q dec_str)
    | _ => exact absurd (show false = true from hs) Bool.false_ne_true
  | byt i =>
    obtain ⟨t, rfl⟩ := rx
    cases y with
    | byt j => obtain ⟨t', rfl⟩ := ry; exact PySem.W.eq_bytes (fin_bl I q dec_byt)
    | _ => exact absurd (show false = true from hs) Bool.false_ne_true
  | _ => cases y <;> exact absurd (show false = true from hs) Bool.false_ne_true
theorem op_ne : OpR X (compareOp .NotEq) rNe := by
  intro pins s σ H x y v u Q I rx ry h
  obtain ⟨hs, q⟩ := h
  cases x with
  | non =>
    cases rx
    cases y with
    | non => cases ry; exact PySem.EqNone.ne_none_none (fin_bl I q (by simp))
    | bl j => cases ry; exact PySem.EqNone.ne_none_bool (fin_bl I q (by simp))
    | int j => obtain ⟨t', rfl⟩ := ry; exact PySem.EqNone.ne_none_int (fin_bl I q (by simp))
    | str j => obtain ⟨t', rfl⟩ := ry; exact PySem.EqNone.ne_none_str (fin_bl I q (by simp))
    | _ => exact absurd (show false = true from hs) Bool.false_ne_true
  | bl i =>
    cases rx
    cases y with
    | non => cases ry; exact PySem.EqNone.ne_bool_none (fin_bl I q (by simp))
    | bl j => cases ry; exact ne_bool (fin_bl I q (congrArg not dec_bl))
    | str j => obtain ⟨t', rfl⟩ := ry; exact PySem.EqMixed.ne_bool_str (fin_bl I q (by simp))
    | _ => exact absurd (show false = true from hs) Bool.false_ne_true
  | int i =>
    obtain ⟨t, rfl⟩ := rx
    cases y with
    | non => cases ry; exact PySem.EqNone.ne_int_none (fin_bl I q (by simp))
    | int j => obtain ⟨t', rfl⟩ := ry; exact ne_int (fin_bl I q (congrArg not dec_int))
    | str j => obtain ⟨t', rfl⟩ := ry; exact PySem.EqMixed.ne_int_str (fin_bl I q (by simp))
    | _ => exact absurd (show false = true from hs) Bool.false_ne_true
  | str i =>
    obtain ⟨t, rfl⟩ := rx
    cases y with
    | non => cases ry; exact PySem.EqNone.ne_str_none (fin_bl I q (by simp))
    | bl j => cases ry; exact PySem.EqMixed.ne_str_bool (fin_bl I q (by simp))
    | int j => obtain ⟨t', rfl⟩ := ry; exact PySem.EqMixed.ne_str_int (fin_bl I q (by simp))
    | str j => obtain ⟨t', rfl⟩ := ry; exact ne_str (fin_bl I q (congrArg not dec_str))
    | _ => exact absurd (show false = true from hs) Bool.false_ne_true
  | byt i =>
    obtain ⟨t, rfl⟩ := rx
    cases y with
    | byt j => obtain ⟨t', rfl⟩ := ry; exact PySem.W.ne_bytes (fin_bl I q (congrArg not dec_byt))
    | _ => exact absurd (show false = true from hs) Bool.false_ne_true
  | _ => cases y <;> exact absurd (show false = true from hs) Bool.false_ne_true

theorem op_lt : OpR X (compareOp .Lt) (rI0 fun i j => .bl (decide (i < j))) := opB0 fun _ _ _ _ _ _ _ q => lt_int q
theorem op_le : OpR X (compareOp .LtE) (rI0 fun i j => .bl (decide (i ≤ j))) := opB0 fun _ _ _ _ _ _ _ q => le_int q
theorem op_gt : OpR X (compareOp .Gt) (rI0 fun i j => .bl (decide (j < i))) := opB0 fun _ _ _ _ _ _ _ q => gt_int q
/-- the one string within the other -/
theorem op_in_str : OpR X (compareOp .In) (fun x y H Q => ∃ i j, x = .str i ∧ y = .str j ∧ Q (.bl (!(Builtin.Str.occurrences j i 0 j.length 1).isEmpty)) H) := by
  intro pins s σ H x y v u Q I rx ry h
  obtain ⟨i, j, rfl, rfl, q⟩ := h
  obtain ⟨t, rfl⟩ := rx
  obtain ⟨t', rfl⟩ := ry
  exact in_str (fin_bl I q rfl)

/-- is None, is not None: the right side a value none -/
theorem op_isN : OpR X (compareOp .Is) (fun x y H Q => y = .non ∧ Q (.bl (decide (x = .non))) H) := by
  intro pins s σ H x y v u Q I rx ry h
  obtain ⟨rfl, q⟩ := h
  cases ry
  refine is_none_gen (fin_bl I q ?_)
  cases x <;> first
    | (cases rx; rfl)
    | (obtain ⟨t, rfl⟩ := rx; rfl)
theorem op_notN : OpR X (compareOp .IsNot) (fun x y H Q => y = .non ∧ Q (.bl (!decide (x = .non))) H) := by
  intro pins s σ H x y v u Q I rx ry h
  obtain ⟨rfl, q⟩ := h
  cases ry
  refine isnot_none_gen (fin_bl I q ?_)
  cases x <;> first
    | (cases rx; rfl)
    | (obtain ⟨t, rfl⟩ := rx; rfl)

/-- is, is not of two objects that are tracked lists or instances -/
def isObj : HO → Bool
  | .lst _ => true
  | .ins _ _ _ => true
  | _ => false
/-- two rules for one operation: by cases -/
theorem OpR.or {f : Value → Value → Sem Value} {r r' : R2} (h : OpR X f r) (h' : OpR X f r') : OpR X f (fun x y H Q => r x y H Q ∨ r' x y H Q) := by
  intro pins s σ H x y v u Q I rx ry q
  rcases q with q | q
  · exact h pins s σ H x y v u Q I rx ry q
  · exact h' pins s σ H x y v u Q I rx ry q

theorem nomark (b : Expr) {op : CmpOp} (h : op ≠ .In := by decide) (h2 : op ≠ .NotIn := by decide) : behindInMarks op b = false := by
  have e1 : (op == CmpOp.In) = false := by cases op <;> first | rfl | exact absurd rfl h
  have e2 : (op == CmpOp.NotIn) = false := by cases op <;> first | rfl | exact absurd rfl h2
  cases b <;> simp [behindInMarks, e1, e2]
/-- a comparison as a value; hm: nomark b, or (for in, not in) by with_unfolding_all rfl -/
theorem pe_cmpR {op : CmpOp} {r : R2} (ho : OpR X (compareOp op) r) (ha : PE X a ta) (hb : PE X b tb) (hm : behindInMarks op b = false) : PE X (.Compare a [op] [b] pos) (tOp r ta tb) := by
  intro pins s σ H Q I h
  exact wpAny_Compare1 (binT ha hb I h fun v u s2 x y H2 I2 rx ry q => ho pins s2 σ H2 x y v u Q I2 rx ry q) hm
/-- a reading of a value as a test -/
def tTest (t : TE) : TT := fun σ H Q => t σ H fun x H' => ∃ k, x = .bl k ∧ Q k H'
theorem pt_cmpR {op : CmpOp} {r : R2} (ho : OpR X (compareOp op) r) (ha : PE X a ta) (hb : PE X b tb) (hm : behindInMarks op b = false) : PT X (.Compare a [op] [b] pos) (tTest (tOp r ta tb)) := by
  intro pins s σ H Q I h
  refine wpAny_isTrue_Compare1 (thn (ha pins s σ H _ I h) fun v s1 ⟨x, H1, I1, r1, q1⟩ => thn (hb pins s1 σ H1 _ I1 q1) fun u s2 ⟨y, H2, I2, r2, q2⟩ =>
    thn (ho pins s2 σ H2 x y v u _ I2 r1 r2 q2) fun c s3 ⟨z, H3, I3, r3, k, e, q3⟩ => ?_) hm
  subst e
  cases r3
  exact wpAny_truthy_bool ⟨H3, I3, q3⟩
/-- a op1 b op2 c -/
def tChain (r r' : R2) (ta tb tc : TE) : TE := fun σ H Q => ta σ H fun x H1 => tb σ H1 fun y H2 => r x y H2 fun z H3 => ∃ k, z = .bl k ∧
  (if k = true then tc σ H3 fun w' H4 => r' y w' H4 Q else Q (.bl false) H3)
theorem pe_chain {op op' : CmpOp} {r r' : R2} (ho : OpR X (compareOp op) r) (ho' : OpR X (compareOp op') r') (ha : PE X a ta) (hb : PE X b tb) (hc : PE X c tc)
    (hm : lastMarks [op, op'] [b, c] = false := by with_unfolding_all rfl) : PE X (.Compare a [op, op'] [b, c] pos) (tChain r r' ta tb tc) := by
  intro pins s σ H Q I h
  refine Compare_chain (thn (ha pins s σ H _ I h) fun v s1 ⟨x, H1, I1, r1, q1⟩ => chain_link (thn (hb pins s1 σ H1 _ I1 q1) fun u s2 ⟨y, H2, I2, r2, q2⟩ =>
    thn (ho pins s2 σ H2 x y v u _ I2 r1 r2 q2) fun d s3 ⟨z, H3, I3, r3, k, e, q3⟩ => ?_)) hm
  subst e
  cases r3
  refine wpAny_truthy_bool ?_
  cases k with
  | false => exact ite_ff ⟨.bl false, H3, I3, rfl, q3⟩
  | true => exact ite_tt (chain_last (thn (hc pins s3 σ H3 _ I3 q3) fun w' s4 ⟨z', H4, I4, r4, q4⟩ => ho' pins s4 σ H4 y z' u w' Q I4 r2 r4 q4))
theorem pt_chain {op op' : CmpOp} {r r' : R2} (ho : OpR X (compareOp op) r) (ho' : OpR X (compareOp op') r') (ha : PE X a ta) (hb : PE X b tb) (hc : PE X c tc)
    (hm : lastMarks [op, op'] [b, c] = false := by with_unfolding_all rfl) : PT X (.Compare a [op, op'] [b, c] pos) (tTest (tChain r r' ta tb tc)) := by
  intro pins s σ H Q I h
  refine isTrue_chain (thn (ha pins s σ H _ I h) fun v s1 ⟨x, H1, I1, r1, q1⟩ => test_link (thn (hb pins s1 σ H1 _ I1 q1) fun u s2 ⟨y, H2, I2, r2, q2⟩ =>
    thn (ho pins s2 σ H2 x y v u _ I2 r1 r2 q2) fun d s3 ⟨z, H3, I3, r3, k, e, q3⟩ => ?_)) hm
  subst e
  cases r3
  refine wpAny_truthy_bool ?_
  cases k with
  | false =>
    obtain ⟨k', e', q'⟩ := q3
    cases e'
    exact ite_ff ⟨H3, I3, q'⟩
  | true =>
    refine ite_tt (test_last (thn (hc pins s3 σ H3 _ I3 q3) fun w' s4 ⟨z', H4, I4, r4, q4⟩ => thn (ho' pins s4 σ H4 y z' u w' _ I4 r2 r4 q4) fun d' s5 ⟨z2, H5, I5, r5, k2, e2, q5⟩ => ?_))
    subst e2
    cases r5
    exact wpAny_truthy_bool ⟨H5, I5, q5⟩

/-! ### truth -/
/-- a value's truth by the abstract heap -/
def TruV (K : PySem.W.Frag) (x : V) (H : Hp) (k : Bool) : Prop :=
  match x with
  | .non => k = false
  | .bl b => k = b
  | .int i => k = (i != 0)
  | .str y => y.length ≤ sizeLine ∧ k = ((y.length : Int) != 0)
  | .byt y => y.size ≤ sizeLine ∧ k = ((y.size : Int) != 0)
  | .ref p => (∃ xs, SqL K H p xs ∧ k = !xs.isEmpty) ∨ (∃ xs, SqT K H p xs ∧ k = !xs.isEmpty) ∨ ∃ kvs, H p = some (.dK kvs) ∧ k = !kvs.isEmpty
  | _ => False
theorem isEmpty_kv {κ : Type} {kvs : List (κ × V)} {vs : List (κ × Value)} (r : KV kvs vs) : (!vs.isEmpty) = !kvs.isEmpty := by
  cases r <;> rfl
theorem isEmpty_of {xs : List V} {its : List Value} (r : Vals xs its) : (!its.toArray.isEmpty) = !xs.isEmpty := by
  cases r <;> simp
theorem line63 : (sizeLine : Nat) < 2 ^ 63 := by rw [sizeLine_eq]; decide
theorem tru_ok : TruR X (fun x H Q => ∃ k, TruV X.K x H k ∧ Q k H) := by
  intro pins s σ H x v Q I rx h
  obtain ⟨k, e, q⟩ := h
  have hl := line63
  have hs : sizeLine = 16777216 := sizeLine_eq
  cases x with
  | non =>
    cases rx
    have e' : k = false := e
    subst e'
    exact truthy_none ⟨H, I, q⟩
  | bl b =>
    cases rx
    have e' : k = b := e
    subst e'
    exact wpAny_truthy_bool ⟨H, I, q⟩
  | int i =>
    obtain ⟨t, rfl⟩ := rx
    have e' : k = (i != 0) := e
    subst e'
    exact PySem.P.truthy_int ⟨H, I, q⟩
  | str y =>
    obtain ⟨t, rfl⟩ := rx
    obtain ⟨hy, e'⟩ : y.length ≤ sizeLine ∧ k = ((y.length : Int) != 0) := e
    subst e'
    exact PySem.P.truthy_str (by omega) ⟨H, I.tok _, q⟩
  | byt y =>
    obtain ⟨t, rfl⟩ := rx
    obtain ⟨hy, e'⟩ : y.size ≤ sizeLine ∧ k = ((y.size : Int) != 0) := e
    subst e'
    exact PySem.W.truthy_bytes (by omega) ⟨H, I.tok _, q⟩
  | ref p =>
    cases rx
    have e' : (∃ xs, SqL X.K H p xs ∧ k = !xs.isEmpty) ∨ (∃ xs, SqT X.K H p xs ∧ k = !xs.isEmpty) ∨ ∃ kvs, H p = some (.dK kvs) ∧ k = !kvs.isEmpty := e
    rcases e' with ⟨xs, hx, e'⟩ | ⟨xs, hx, e'⟩ | ⟨kvs, hx, e'⟩
    · subst e'
      obtain ⟨its, r, pl, hz⟩ := I.list hx
      have hlen := r.length
      exact wpAny_truthy_list pl.isList (by simp only [List.size_toArray]; omega) ⟨H, I.tok _, by rw [isEmpty_of r]; exact q⟩
    · subst e'
      obtain ⟨its, r, pl, hz⟩ := I.tuple hx
      have hlen := r.length
      exact truthy_tuple pl (by simp only [List.size_toArray]; omega) ⟨H, I.tok _, by rw [isEmpty_of r]; exact q⟩
    · subst e'
      obtain ⟨hz, hS, vs, r, m⟩ : kvs.length ≤ sizeLine ∧ (p == sysModules) = false ∧ ∃ vs, KV kvs vs ∧ s.heap.DictOf (mixKind X.prog X.w) p vs := I.hok p _ hx
      have hlen : kvs.length = vs.length := Paired.length r
      exact wpAny_truthy_dict hS m (by omega) ⟨H, I.tok _, by rw [isEmpty_kv r]; exact q⟩
  | _ => exact (show False from e).elim
/-- any expression whose test is its value's truth (a name, a call, a subscript, a field ..: he by fun _ => rfl) -/
theorem pt_truth (ha : PE X a ta) (he : ∀ whole, isTrue a X.env whole = (do let v ← whole; standAt a.pos; holding [v] (truthy v))) :
    PT X a (fun σ H Q => ta σ H fun x H' => ∃ k, TruV X.K x H' k ∧ Q k H') := by
  intro pins s σ H Q I h
  exact isTrue_plain (thn (ha pins s σ H _ I h) fun v s1 ⟨x, H1, I1, r1, q1⟩ => tru_ok pins s1 σ H1 x v Q I1 r1 q1) (he _)

/-! ### strs and bytes -/
theorem op_add_str : OpR X (binaryOp .Add) (fun x y H Q => ∃ i j, x = .str i ∧ y = .str j ∧ i.length + j.length ≤ sizeLine ∧ Q (.str (i ++ j)) H) := by
  intro pins s σ H x y v u Q I rx ry h
  obtain ⟨i, j, rfl, rfl, hz, q⟩ := h
  obtain ⟨t, rfl⟩ := rx
  obtain ⟨t', rfl⟩ := ry
  exact add_str (fun t' tk => ⟨.str (i ++ j), H, I.tok _, ⟨_, rfl⟩, q⟩) hz
def PlainIxT (b : Expr) : Prop := ∀ o i, subscripted b false o i = operate [o, i] (getItem o i)
/-! ### scalar builtins, by CallR -/
theorem vals1 {x : V} {us : List Value} (r : Vals [x] us) : ∃ u, us = [u] ∧ RelV x u := by
  cases r with
  | cons r1 r2 => cases r2; exact ⟨_, rfl, r1⟩
theorem vals2 {x y : V} {us : List Value} (r : Vals [x, y] us) : ∃ u w', us = [u, w'] ∧ RelV x u ∧ RelV y w' := by
  cases r with
  | cons r1 r2 =>
    cases r2 with
    | cons r3 r4 => cases r4; exact ⟨_, _, rfl, r1, r3⟩
theorem call_abs : CallR X (.builtin "abs") (fun xs H Q => ∃ i, xs = [.int i] ∧ Q (.int (if i < 0 then -i else i)) H) := by
  intro pins s σ H xs us Q I r h
  obtain ⟨i, rfl, q⟩ := h
  obtain ⟨u, rfl, t, rfl⟩ := vals1 r
  exact call_abs_int fun u tk => ⟨.int (if i < 0 then -i else i), H, I.tok _, ⟨_, rfl⟩, q⟩
theorem call_int1 : CallR X (.type "int") (fun xs H Q => (∃ i, xs = [.int i] ∧ Q (.int i) H) ∨ ∃ k, xs = [.bl k] ∧ Q (.int (if k then 1 else 0)) H) := by
  intro pins s σ H xs us Q I r h
  rcases h with ⟨i, rfl, q⟩ | ⟨k, rfl, q⟩
  · obtain ⟨u, rfl, t, rfl⟩ := vals1 r
    exact call_int_int ⟨.int i, H, I, ⟨_, rfl⟩, q⟩
  · obtain ⟨u, rfl, r1⟩ := vals1 r
    cases r1
    exact call_int_bool ⟨.int (if k then 1 else 0), H, I.tok _, ⟨_, rfl⟩, q⟩
theorem call_str_int : CallR X (.type "str") (fun xs H Q => ∃ i, xs = [.int i] ∧ i.natAbs.log2 < 1920 ∧ Q (.str (toString i)) H) := by
  intro pins s σ H xs us Q I r h
  obtain ⟨i, rfl, hz, q⟩ := h
  obtain ⟨u, rfl, t, rfl⟩ := vals1 r
  exact PySem.P.str_of_int hz ⟨.str _, H, I.tok _, ⟨_, rfl⟩, q⟩
/-- len of a str, a bytes, a list, a tuple -/
def LenV (K : PySem.W.Frag) (x : V) (H : Hp) (n : Nat) : Prop :=
  match x with
  | .str y => y.length ≤ sizeLine ∧ n = y.length
  | .byt y => y.size ≤ sizeLine ∧ n = y.size
  | .ref p => (∃ xs, SqL K H p xs ∧ n = xs.length) ∨ ∃ xs, SqT K H p xs ∧ n = xs.length
  | _ => False
end
end L2

namespace L2
open PySem PySem.Spec PyProof.Rows

/-! ### an instance, its attributes a map -/
structure ObjM (h : Heap) (x dx C : Addr) (mA : Str → Option Value) : Prop where
  obj : h.get? x = some (PySem.W.instObj C dx)
  ns : h.Ns1 dx mA
  ne : dx ≠ x

theorem lookIn_ns {h : Heap} {dx : Addr} {mA : Str → Option Value} (n : h.Ns1 dx mA) : ∃ od, h.get? dx = some od ∧ ∀ name, PySem.W.lookIn name od = some (mA name) := by
  obtain ⟨o, es, ep, ho, hd, hk, _, hm⟩ := n
  refine ⟨o, ho, fun name => ?_⟩
  have e := hm name
  unfold nsFind findBy at e
  rw [← Array.find?_toList] at e
  unfold PySem.W.lookIn
  rw [hd]
  dsimp only
  split
  · rename_i y q
    rw [q] at e
    exact congrArg some e
  · rename_i q
    rw [q] at e
    have a : es.toList.any (·.refKey) = false := by
      rw [List.any_eq_false]
      intro y hy
      obtain ⟨z, t, hkey⟩ := hk y (Array.mem_toList_iff.mp hy)
      simp [DictEntry.refKey, hkey]
    have a' : ¬ es.toList.any (·.refKey) = true := by rw [a]; exact Bool.false_ne_true
    rw [if_neg a']
    exact congrArg some e

theorem ObjM.look {h : Heap} {x dx C : Addr} {mA : Str → Option Value} (I : ObjM h x dx C mA) : ∃ od, PySem.W.InstAt h x (PySem.W.instObj C dx) C (some od) ∧ ∀ name, PySem.W.lookIn name od = some (mA name) :=
  let ⟨od, ho, hl⟩ := lookIn_ns I.ns
  ⟨od, ⟨I.obj, rfl, rfl, ho⟩, hl⟩

section
variable {prog : Program} {w : World} {A : Around} {E : Value → Shared → Prop} {s : Shared} {K : PySem.W.Frag} {x dx C f : Addr} {mA : Str → Option Value} {name : Str} {v : Value}

end

/-! ### the attributes as a list of pairs -/
def putF (f : Str) (v : V) : List (Str × V) → List (Str × V)
  | [] => [(f, v)]
  | (g, x) :: r => if g = f then (g, v) :: r else (g, x) :: putF f v r
section
variable {P : Program} {w : World} {H H' : Hp} {h h' : Heap} {a C dx : Addr} {fs fs' : List (Str × V)}
theorem ins_get (hok : HOk P w H h) (e : H a = some (.ins C dx fs)) : ∃ mA, ObjM h a dx C mA ∧ (∀ f, RelO (fs.lookup f) (mA f)) ∧ PySem.Within mA (fs.map (·.1)) ∧ fs.length ≤ 1000 ∧ H dx = some (.own a) := by
  obtain ⟨d, z, ne, ob, mA, n, r, q⟩ := (show ObjOk P w H h a (.ins C dx fs) from hok a _ e)
  exact ⟨mA, ⟨ob, n, ne⟩, r, q, z, d⟩
end

/-! ### what of the text a class must have -/
structure Cls (K : PySem.W.Frag) (C : Addr) : Prop where
  pg : PySem.W.plainGet K C Str.empty = true
  hd : PySem.W.hasDictIn K C = true
  po : PySem.W.plainOver K C = true
  sa : PySem.W.findIn K (.ref C) "__setattr__" = some (some (.builtin "object.__setattr__"))
theorem Cls.get {K : PySem.W.Frag} {C : Addr} (c : Cls K C) (f : Str) : PySem.W.plainGet K C f = true := c.pg
/-- no class of it has the name -/
def NoAttr (K : PySem.W.Frag) (C : Addr) (f : Str) : Prop := PySem.W.findIn K (.ref C) f = some none
/-- a constant of the class -/
structure Con (K : PySem.W.Frag) (C : Addr) (f : Str) (v : V) (u : Value) : Prop where
  at_ : PySem.W.findIn K (.ref C) f = some (some u)
  rel : RelV v u
  get : PySem.W.specialIn K u "__get__" = some none
  cp : PySem.W.copiedNames.contains f = false
/-- a method: a plain def of the class or of one above it -/
structure Meth (K : PySem.W.Frag) (C : Addr) (m : Str) (f : Addr) : Prop where
  at_ : PySem.W.findIn K (.ref C) m = some (some (.ref f))
  fn : PySem.W.isFn K (.ref f) = true
  kp : PySem.W.keepIn K (.ref f) = true

section
variable {X : Cx} {pins : List (Addr × Obj)} {σ : St} {H : Hp} {s : Shared} {a C dx : Addr} {fs : List (Str × V)} {f : Str} {v : V} {A : Around} {E : Value → Shared → Prop}

/-- a new instance, tracked, without attributes -/
theorem Inv.made (I : Inv X pins σ H s) : Inv X pins σ (upd (upd H s.heap.objs.size (.own (s.heap.objs.size + 1))) (s.heap.objs.size + 1) (.ins C s.heap.objs.size []))
    { s with heap := (s.heap.push PySem.W.emptyDict).push (PySem.W.instObj C s.heap.objs.size) } := by
  have e1 : (s.heap.push PySem.W.emptyDict).get? s.heap.objs.size = some PySem.W.emptyDict := Heap.get?_push_size s.heap rfl
  have e2 : ((s.heap.push PySem.W.emptyDict).push (PySem.W.instObj C s.heap.objs.size)).get? (s.heap.objs.size + 1) = some (PySem.W.instObj C s.heap.objs.size) := by
    have := Heap.get?_push_size (s.heap.push PySem.W.emptyDict) (o := PySem.W.instObj C s.heap.objs.size) rfl
    rwa [Heap.size_push] at this
  have e3 : (s.heap.push PySem.W.emptyDict).Ns s.heap.objs.size (fun _ => none) := ⟨PySem.W.emptyDict, #[], _, e1, rfl, (fun e he => absurd he (by simp)), fun _ => rfl⟩
  have I1 := I.laid (a := s.heap.objs.size) (o := .own (s.heap.objs.size + 1)) (h' := s.heap.push PySem.W.emptyDict) (t' := s.toks) (fun b u q => Heap.get?_push_of_some _ q) (Nat.le_refl _) ⟨_, e1⟩
  refine I1.laid (a := s.heap.objs.size + 1) (o := .ins C s.heap.objs.size []) (t' := s.toks) (fun b u q => Heap.get?_push_of_some _ q) (Nat.le_of_eq (Heap.size_push _ _)) ?_
  have ne : s.heap.objs.size ≠ s.heap.objs.size + 1 := Nat.ne_of_lt (Nat.lt_succ_self _)
  refine ⟨by rw [upd_ne ne, upd_same], Nat.zero_le _, ne, e2, fun _ => none, (Heap.Ns1.of_empty e3).at fun o q => Heap.get?_push_of_some _ q, fun _ => True.intro, fun y hy => absurd rfl hy⟩

end

/-! ### readings and rules -/
/-- e.f, an attribute of the instance -/
def tFld (K : PySem.W.Frag) (ta : TE) (f : Str) : TE := fun σ H Q => ta σ H fun x H1 => ∃ a C dx fs v, x = .ref a ∧ H1 a = some (.ins C dx fs) ∧ Cls K C ∧ NoAttr K C f ∧ fs.lookup f = some v ∧ Q v H1
/-- e.f, a constant of the class -/
def tCon (K : PySem.W.Frag) (ta : TE) (f : Str) : TE := fun σ H Q => ta σ H fun x H1 => ∃ a C dx fs v u, x = .ref a ∧ H1 a = some (.ins C dx fs) ∧ Cls K C ∧ Con K C f v u ∧ fs.lookup f = none ∧ Q v H1
/-- e.f = value -/
def sFld (K : PySem.W.Frag) (ta tv : TE) (f : Str) : TS := fun D σ H => tv σ H fun y H1 => ta σ H1 fun x H2 => ∃ a C dx fs, x = .ref a ∧ H2 a = some (.ins C dx fs) ∧ Cls K C ∧ NoAttr K C f ∧ fs.length < 1000 ∧
  D.nx σ (upd H2 a (.ins C dx (putF f y fs)))
/-- an augmented operator on two values -/
def InOp (X : Cx) (op : Operator) (rd : V → V → Hp → VK → Prop) : Prop :=
  ∀ (pins : List (Addr × Obj)) (s : Shared) (σ : St) (H : Hp) (x y : V) (u v : Value) (Q : VK), Inv X pins σ H s → RelV x u → RelV y v → rd x y H Q → wpAny (model X.prog X.w) X.A (inplaceOp op u v) (EP X pins σ Q) X.xe s
/-- e.f op= value -/
def sFldAug (K : PySem.W.Frag) (ta tv : TE) (rd : V → V → Hp → VK → Prop) (f : Str) : TS := fun D σ H => ta σ H fun x H1 => ∃ a C dx fs v, x = .ref a ∧ H1 a = some (.ins C dx fs) ∧ Cls K C ∧ NoAttr K C f ∧ fs.lookup f = some v ∧
  tv σ H1 fun y H2 => rd v y H2 fun z H3 => ∃ dx' fs', H3 a = some (.ins C dx' fs') ∧ fs'.length < 1000 ∧ D.nx σ (upd H3 a (.ins C dx' (putF f z fs')))

section
variable {X : Cx} {o e value : Expr} {f : Str} {pos pos' tpos : Pos} {ta tv : TE}
def rAdd : V → V → Hp → VK → Prop := fun x y H Q => ∃ i j, x = .int i ∧ y = .int j ∧ Q (.int (i + j)) H
def rSub : V → V → Hp → VK → Prop := fun x y H Q => ∃ i j, x = .int i ∧ y = .int j ∧ Q (.int (i - j)) H
end

/-! ### isinstance -/
section
variable {X : Cx} {pins : List (Addr × Obj)} {σ : St} {H : Hp} {s : Shared} {A : Around} {E : Value → Shared → Prop} {Q : Value → Shared → Prop} {c : Value} {b : Bool}
/-- the type of a value, as the fragment's deciders take it; for an instance its class -/
inductive TyOf (K : PySem.W.Frag) (H : Hp) : V → Value → Prop where
  | non : TyOf K H .non (.type "NoneType")
  | bl (x : Bool) : TyOf K H (.bl x) (.type "bool")
  | int (i : Int) : TyOf K H (.int i) (.type "int")
  | str (x : Str) : TyOf K H (.str x) (.type "str")
  | flt (x : UInt64) : TyOf K H (.flt x) (.type "float")
  | lst {a : Addr} {xs : List V} (e : H a = some (.lst xs)) : TyOf K H (.ref a) (.type "list")
  | frz {a : Addr} {o : Obj} {xs : List V} (e : H a = some (.frz o (.lst xs))) : TyOf K H (.ref a) (.type "list")
  | tup {a : Addr} {xs : List V} (e : H a = some (.tup xs)) : TyOf K H (.ref a) (.type "tuple")
  | dK {a : Addr} {kvs : List (Key × V)} (e : H a = some (.dK kvs)) : TyOf K H (.ref a) (.type "dict")
  | dT {a : Addr} {kvs : List (List Key × V)} (e : H a = some (.dT kvs)) : TyOf K H (.ref a) (.type "dict")
  | ins {a C dx : Addr} {fs : List (Str × V)} (e : H a = some (.ins C dx fs)) (cl : Cls K C) (ha : PySem.W.findIn K (.ref C) "__class__" = some (some (.builtin "object.__class__")))
      (hn : PySem.W.specialIn K (.builtin "object.__class__") "__get__" = some (some (.builtin "getset_descriptor.__get__"))) (htk : PySem.W.takesIn K (.builtin "object.__class__") = some true)
      (hm : PySem.W.mroIn K C (.type "object") = some true) : TyOf K H (.ref a) (.ref C)
/-- isinstance(x, c) for one class c, a built-in or an own one: kitOne's answer -/
theorem isinst_ok {x : V} {u t : Value} (I : Inv X pins σ H s) (rx : RelV x u) (ty : TyOf X.K H x t) (e : PySem.W.kitOne X.K t c = some b) (h : ∀ tk, Q (.bool b) { s with toks := tk }) :
    wpAny (model X.prog X.w) A (call (.builtin "isinstance") [u, c]) Q E s := by
  cases ty with
  | non => cases (show u = Value.none from rx); exact PySem.W.kia_one PySem.W.kitx_none I.kIn True.intro e (fun z => nomatch z) h
  | bl y => cases (show u = Value.bool y from rx); exact PySem.W.kia_one PySem.W.kitx_bool I.kIn True.intro e (fun z => nomatch z) h
  | int i => obtain ⟨t, q⟩ := (show ∃ t, u = Value.int i t from rx); cases q; exact PySem.W.kia_one PySem.W.kitx_int I.kIn True.intro e (fun z => nomatch z) h
  | str y => obtain ⟨t, q⟩ := (show ∃ t, u = Value.str y t from rx); cases q; exact PySem.W.kia_one PySem.W.kitx_str I.kIn True.intro e (fun z => nomatch z) h
  | flt y => obtain ⟨t, q⟩ := (show ∃ t, u = Value.float y t from rx); cases q; exact PySem.W.kia_one PySem.W.kitx_float I.kIn True.intro e (fun z => nomatch z) h
  | @lst a xs ea =>
    cases (show u = Value.ref a from rx)
    obtain ⟨_, _, n, _, h1⟩ := (show ObjOk X.prog X.w H s.heap a (.lst xs) from I.hok a _ ea)
    exact PySem.W.kia_one PySem.W.kitx_list I.kIn ⟨_, h1, rfl⟩ e (fun z => nomatch z) h
  | @frz a ob xs ea =>
    cases (show u = Value.ref a from rx)
    obtain ⟨_, _, _, n, _, h1⟩ := (show ObjOk X.prog X.w H s.heap a (.frz ob (.lst xs)) from I.hok a _ ea)
    exact PySem.W.kia_one PySem.W.kitx_list I.kIn ⟨_, h1, rfl⟩ e (fun z => nomatch z) h
  | @tup a xs ea =>
    cases (show u = Value.ref a from rx)
    obtain ⟨_, _, _, p⟩ := (show ObjOk X.prog X.w H s.heap a (.tup xs) from I.hok a _ ea)
    obtain ⟨o, h1, h2, _⟩ := p
    exact PySem.W.kia_one PySem.W.kitx_tuple I.kIn ⟨o, h1, h2⟩ e (fun z => nomatch z) h
  | @dK a kvs ea =>
    cases (show u = Value.ref a from rx)
    obtain ⟨_, _, vs, _, p⟩ := (show ObjOk X.prog X.w H s.heap a (.dK kvs) from I.hok a _ ea)
    obtain ⟨o, es, ep, h1, h2, _⟩ := p
    exact PySem.W.kia_one PySem.W.kitx_dict I.kIn ⟨o, h1, h2.1⟩ e (fun z => nomatch z) h
  | @dT a kvs ea =>
    cases (show u = Value.ref a from rx)
    obtain ⟨_, _, xs, _, o, es, ep, h1, h2, _⟩ := (show ObjOk X.prog X.w H s.heap a (.dT kvs) from I.hok a _ ea)
    exact PySem.W.kia_one PySem.W.kitx_dict I.kIn ⟨o, h1, h2.1⟩ e (fun z => nomatch z) h
  | @ins a C dx fs ea cl ha hn htk hm =>
    cases (show u = Value.ref a from rx)
    obtain ⟨mA, O, _⟩ := ins_get I.hok ea
    obtain ⟨od, J, _⟩ := O.look
    exact PySem.W.kia_one (PySem.W.kitx_own (cl.get _) cl.hd ha hn htk hm) I.kIn J e (fun z => nomatch z) h
end
end L2

namespace L2
open PySem PySem.Spec PyProof.Rows

/-! ### room -/
structure Room (k : Nat) (A : Around) : Prop where
  hd : A.handled = none
  dp : A.depth + 3 * k + 5 < recursionLimit
  un : A.units + 16 * k + 200 < cLine
theorem Room.mono {j k : Nat} {A : Around} (r : Room k A) (h : j ≤ k) : Room j A := ⟨r.hd, by have := r.dp; omega, by have := r.un; omega⟩
theorem Room.deeper {k : Nat} {A : Around} (r : Room (k + 1) A) (env : Env) : Room k (A.deeper env) :=
  ⟨r.hd, by have := r.dp; show A.depth + 1 + 3 * k + 5 < _; omega, by have := r.un; show A.units + 3 + 16 * k + 200 < _; omega⟩
theorem Room.in1 {k : Nat} {A : Around} (r : Room (k + 1) A) : Room k A.in1 :=
  ⟨r.hd, by have := r.dp; show A.depth + 3 * k + 5 < _; omega, by have := r.un; show A.units + 1 + 16 * k + 200 < _; omega⟩
theorem Room.depth {k : Nat} {A : Around} (r : Room k A) : A.depth < recursionLimit := by have := r.dp; omega
theorem Room.units {k : Nat} {A : Around} (r : Room k A) : A.units + 64 < cLine := by have := r.un; omega
/-! ### argument lists and displays -/
def tNil : TA := fun _ H Q => Q [] H
def tCons (ta : TE) (tr : TA) : TA := fun σ H Q => ta σ H fun x H1 => tr σ H1 fun xs H2 => Q (x :: xs) H2
section
variable {X : Cx} {e : Expr} {es : List Expr} {te : TE} {t : TA} {pos : Pos}
theorem pa_nil : PA X [] tNil := fun _ _ _ _ H Q I h => Calls.spliced_nil ⟨[], H, I, .nil, h⟩
theorem pa_cons (ha : PE X e te) (hr : PA X es t) (hs : starEach (e :: es) X.env = (false, eval e X.env) :: starEach es X.env := by rfl) : PA X (e :: es) (tCons te t) := by
  intro pos pins s σ H Q I h
  rw [hs]
  show wpAny _ _ (spliced ((false, eval e X.env) :: backTo pos (starEach es X.env))) _ _ s
  refine Calls.spliced_cons (thn (ha pins s σ H _ I h) fun u s1 ⟨x, H1, I1, r1, q1⟩ => ?_)
  exact thn (hr pos pins s1 σ H1 _ I1 q1) fun us s2 ⟨xs, H2, I2, r2, q2⟩ => ⟨x :: xs, H2, I2, .cons r1 r2, q2⟩

/-- a tuple, a list of written items -/
def tTup (t : TA) : TE := fun σ H Q => t σ H fun xs H1 => xs.length ≤ sizeLine ∧ ∀ p, H1 p = none → Q (.ref p) (upd H1 p (.tup xs))
def tLst (t : TA) : TE := fun σ H Q => t σ H fun xs H1 => xs.length ≤ sizeLine ∧ ∀ p, H1 p = none → Q (.ref p) (upd H1 p (.lst xs))
theorem pe_tup {x1} (h : PA X es t) : PE X (.Tuple es x1 pos) (tTup t) := by
  intro pins s σ H Q I hq
  refine wpAny_Tuple_spliced (thn (h pos pins s σ H _ I hq) fun us s1 ⟨xs, H1, I1, r, z, q⟩ => ⟨by rw [← r.length]; exact z, ?_⟩)
  have hf : H1 s1.heap.objs.size = none := I1.hok.fresh (Nat.le_refl _)
  refine ⟨.ref s1.heap.objs.size, upd H1 s1.heap.objs.size (.tup xs), I1.laid (t' := s1.toks) (fun b u e => Heap.get?_push_of_some _ e) (Nat.le_refl _) ?_, rfl, q _ hf⟩
  exact ⟨z, us, r, ⟨_, Heap.get?_push_size _ rfl, rfl, _, rfl⟩⟩
theorem pe_lst (h : PA X es t) : PE X (.List es pos) (tLst t) := by
  intro pins s σ H Q I hq
  refine wpAny_List_spliced (thn (h pos pins s σ H _ I hq) fun us s1 ⟨xs, H1, I1, r, z, q⟩ => ⟨by rw [← r.length]; exact z, ?_⟩)
  have hf : H1 s1.heap.objs.size = none := I1.hok.fresh (Nat.le_refl _)
  refine ⟨.ref s1.heap.objs.size, upd H1 s1.heap.objs.size (.lst xs), I1.laid (t' := s1.toks) (fun b u e => Heap.get?_push_of_some _ e) (Nat.le_refl _) ?_, rfl, q _ hf⟩
  exact ⟨z, us, 0, r, Heap.get?_push_size _ rfl⟩
end

/-! ### what a def promises -/
/-- a def's promise: the bound arguments in the parameters' order, the heap, the wanted end, the wanted exception -/
abbrev Sp := List V → Hp → VK → XK → Prop
/-- how an exception lies behind a call (file 08 gives it): the callers' frames, abstract heap and state ahead of the call, the wish, the exception, the state -/
abbrev CXT := List Env → Hp → Shared → XK → Value → Shared → Prop

/-- the state at a call -/
structure Env0 (P : Program) (w : World) (K : PySem.W.Frag) (mg : Str → Option Value) (base : Heap) (A : Around) (outer : List Env) (s : Shared) (H : Hp) : Prop where
  frames : A.frames = some outer
  mod : Mod K mg base
  bs : ∀ b o, base.get? b = some o → s.heap.get? b = some o ∧ H b = none
  bsz : base.objs.size ≤ s.heap.objs.size
  funs : s.heap.FunFrames base outer
  frf : ∀ b ∈ frs outer, H b = none
  hok : HOk P w H s.heap
  bare : AllBare s.gens
/-- a call's end -/
def CE (outer : List Env) (P : Program) (w : World) (H : Hp) (s : Shared) (Q : VK) (u : Value) (s' : Shared) : Prop :=
  ∃ v H', s'.os = s.os ∧ AllBare s'.gens ∧ Un (frs outer) [] H H' s.heap s'.heap ∧ HOk P w H' s'.heap ∧ RelV v u ∧ Q v H'
def CR (CX : CXT) (outer : List Env) (P : Program) (w : World) (H : Hp) (s : Shared) (Q : VK) (E : XK) (r : Result) (s' : Shared) : Prop :=
  match r with
  | .ok (.ret u) => CE outer P w H s Q u s'
  | .ok _ => False
  | .error e => CX outer H s E e s'
structure FnOk (P : Program) (w : World) (K : PySem.W.Frag) (mg : Str → Option Value) (base : Heap) (CX : CXT) (k : Nat) (f : Addr) (fd : FuncData) (ps : List Str) (sp : Sp) : Prop where
  len : ∀ vs H Q E, sp vs H Q E → vs.length = ps.length
  run : ∀ (A : Around) (outer : List Env) (s : Shared) (H : Hp) (args : Args) (us : List Value) (vs : List V) (Q : VK) (E : XK), Room k A → Env0 P w K mg base A outer s H → BindsTo s fd args (ps.zip us) → Vals vs us → sp vs H Q E →
    codeAny (model P w) A (.call (.ref f) args) (CR CX outer P w H s Q E) s
theorem FnOk.mono {P : Program} {w : World} {K : PySem.W.Frag} {mg : Str → Option Value} {base : Heap} {CX : CXT} {j k : Nat} {f : Addr} {fd : FuncData} {ps : List Str} {sp : Sp} (F : FnOk P w K mg base CX j f fd ps sp) (h : j ≤ k) :
    FnOk P w K mg base CX k f fd ps sp := ⟨F.len, fun A outer s H args us vs Q E hr => F.run A outer s H args us vs Q E (hr.mono h)⟩
theorem Env0.in1 {P : Program} {w : World} {K : PySem.W.Frag} {mg : Str → Option Value} {base : Heap} {A : Around} {outer : List Env} {s : Shared} {H : Hp} (e : Env0 P w K mg base A outer s H) :
    Env0 P w K mg base A.in1 outer s H := ⟨e.frames, e.mod, e.bs, e.bsz, e.funs, e.frf, e.hok, e.bare⟩

section
variable {X : Cx} {pins : List (Addr × Obj)} {σ : St} {H : Hp} {s s' : Shared}
/-- from a body: what a callee wants -/
theorem Inv.env0 (I : Inv X pins σ H s) : Env0 X.prog X.w X.K X.mg X.base X.A X.stack s H :=
  ⟨I.ok.frames, I.ok.mod, I.bs, Nat.le_trans I.ok.bsz I.sz, I.stack, I.stkFree, I.hok, I.bare⟩
/-- behind a call -/
theorem Inv.after {Q : VK} {u : Value} (I : Inv X pins σ H s) (h : CE X.stack X.prog X.w H s Q u s') : EP X pins σ Q u s' := by
  obtain ⟨v, H', os, bare, un, hok, r, q⟩ := h
  obtain ⟨hh, g, d, t, os'⟩ := s'
  obtain rfl : os' = s.os := os
  exact ⟨v, H', I.call (h' := hh) (g' := g) (d' := d) (t' := t) (ch := []) un hok bare (fun b z => absurd z (by simp)), r, q⟩
end

/-! ### calls -/
/-- f(..): the written arguments, then the defaults dvs; E: what is wanted of an exception -/
def tCall (sp : Sp) (dvs : List V) (E : XK) (t : TA) : TE := fun σ H Q => t σ H fun vs H1 => sp (vs ++ dvs) H1 Q E
/-- o.m(..) of an instance of the class at C -/
def tMeth (C : Addr) (m : Str) (sp : Sp) (dvs : List V) (E : XK) (ta : TE) (t : TA) : TE := fun σ H Q => ta σ H fun x H1 => ∃ a dx fs, x = .ref a ∧ H1 a = some (.ins C dx fs) ∧ fs.lookup m = none ∧
  t σ H1 fun vs H2 => sp (x :: (vs ++ dvs)) H2 Q E
/-- C(..): a new instance and its dict, then __init__ -/
def tMake (C : Addr) (sp : Sp) (dvs : List V) (E : XK) (t : TA) : TE := fun σ H Q => t σ H fun vs H1 => ∀ x dx, H1 x = none → H1 dx = none → dx ≠ x →
  sp (.ref x :: (vs ++ dvs)) (upd (upd H1 dx (.own x)) x (.ins C dx [])) (fun v H2 => v = .non ∧ Q (.ref x) H2) E

/-- how the parameters are bound: us the positional arguments, kw the keywords' values by name, ds the defaults that fill up -/
def Binds (K : PySem.W.Frag) (fd : FuncData) (ps : List Str) (ds : List Value) : Prop :=
  ∀ (s : Shared) (us : List Value), K.In s.heap → (us ++ ds).length = ps.length → BindsTo s fd ⟨us, []⟩ (ps.zip (us ++ ds))
/-- every parameter is given -/
theorem Binds.all {K : PySem.W.Frag} {fd : FuncData} {ps : List Str} (h : ∀ us : List Value, us.length = ps.length → bindArgs fd ⟨us, []⟩ = pure (ps.zip us)) : Binds K fd ps [] := fun s us _ hl => by
  rw [List.append_nil] at hl ⊢
  exact .of_eq (h us hl)

/-- an exception of a callee reaches what this body wants of exceptions -/
def Passes (CX : CXT) (X : Cx) (E : XK) : Prop := ∀ (pins : List (Addr × Obj)) (σ : St) (H : Hp) (s : Shared) (e : Value) (s' : Shared), Inv X pins σ H s → CX X.stack H s E e s' → X.xe e s'

section
variable {X : Cx} {CX : CXT} {k : Nat} {f C : Addr} {fd : FuncData} {ps : List Str} {sp : Sp} {dvs : List V} {ds : List Value} {E : XK} {x m : Str} {p pos apos : Pos} {e o : Expr} {es : List Expr} {ta : TE} {t : TA}

/-- what a class must have to be made -/
structure Mk (K : PySem.W.Frag) (C f : Addr) : Prop where
  makes : PySem.W.makesIn K C = true
  init : PySem.W.findIn K (.ref C) "__init__" = some (some (.ref f))
  fn : PySem.W.isFn K (.ref f) = true
  kp : PySem.W.keepIn K (.ref C) = true

end

/-! ### keywords -/
/-- the values of the keywords, from the left -/
def PK (X : Cx) (kws : List Keyword) (t : TA) : Prop :=
  ∀ (pos : Pos) (pins : List (Addr × Obj)) (s : Shared) (σ : St) (H : Hp) (Q : List V → Hp → Prop), Inv X pins σ H s → t σ H Q → wpAny (model X.prog X.w) X.A (evalAll ((backToKw pos (keywordEach kws X.env)).map (·.2))) (AP X pins σ Q) X.xe s
section
variable {X : Cx} {CX : CXT} {k : Nat} {f C : Addr} {fd : FuncData} {ps ks : List Str} {sp : Sp} {E : XK} {x m : Str} {p pos apos kpos : Pos} {e o : Expr} {es : List Expr} {kws : List Keyword} {te ta : TE} {t tk : TA} {nm : Option Str}
/-- how a call with keywords binds: g puts the positional values us and the keywords' values ws (names ks) in the parameters' order, defaults among them -/
structure KBinds (K : PySem.W.Frag) (fd : FuncData) (ps ks : List Str) (g : List Value → List Value → List Value) (gV : List V → List V → List V) : Prop where
  to : ∀ (s : Shared) (us ws : List Value), K.In s.heap → (g us ws).length = ps.length → BindsTo s fd ⟨us, ks.zip ws⟩ (ps.zip (g us ws))
  rel : ∀ {vs : List V} {us : List Value} {zs : List V} {ws : List Value}, Vals vs us → Vals zs ws → Vals (gV vs zs) (g us ws)
def tCallK (sp : Sp) (gV : List V → List V → List V) (E : XK) (t tk : TA) : TE := fun σ H Q => t σ H fun vs H1 => tk σ H1 fun zs H2 => sp (gV vs zs) H2 Q E
variable {g : List Value → List Value → List Value} {gV : List V → List V → List V}
end

/-! ### a def's body keeps its promise -/
/-- names: the parameters first -/
structure FnScope (N P : List Str) (sc : Scope) : Prop where
  kind : sc.kind = .function
  co : sc.isCoroutine = false
  gen : sc.isGenerator = false
  nd : N.Nodup
  pre : N.take P.length = P
  par : ∀ x ∈ P, sc.names.lookup x = some .local ∨ sc.names.lookup x = some .cell
  nofree : ∀ y ∈ sc.names, y.2 ≠ .free

theorem bindL_out {kindOf : Str → Option NameKind} {x : Str} : ∀ {binds : List (Str × Value)} {m : Str → Option Value}, (∀ v, (x, v) ∉ binds) → bindL kindOf binds m x = m x
  | [], _, _ => rfl
  | (n, v) :: r, m, h => by
    unfold bindL
    rw [bindL_out fun w hw => h w (List.mem_cons_of_mem _ hw)]
    split
    · have : x ≠ n := by rintro rfl; exact h v List.mem_cons_self
      simp [this]
    · rfl
theorem bindC_out {kindOf : Str → Option NameKind} {x : Str} : ∀ {binds : List (Str × Value)} {m : Str → Option Value}, (∀ v, (x, v) ∉ binds) → bindC kindOf binds m x = m x
  | [], _, _ => rfl
  | (n, v) :: r, m, h => by
    unfold bindC
    rw [bindC_out fun w hw => h w (List.mem_cons_of_mem _ hw)]
    split
    · rfl
    · have : x ≠ n := by rintro rfl; exact h v List.mem_cons_self
      simp [this]
theorem bindL_get {kindOf : Str → Option NameKind} {x : Str} {v : Value} : ∀ {P : List Str} {vs : List Value} {i : Nat} {m : Str → Option Value}, P.Nodup → P[i]? = some x → vs[i]? = some v → kindOf x = some .local →
    bindL kindOf (P.zip vs) m x = some v
  | [], _, _, _, _, h, _, _ => by simp at h
  | _ :: _, [], _, _, _, _, h, _ => by simp at h
  | p :: P, w :: vs, 0, m, nd, h1, h2, hk => by
    simp at h1 h2; subst h1; subst h2
    show bindL kindOf ((p, w) :: P.zip vs) m p = _
    unfold bindL
    rw [bindL_out fun v hv => (List.nodup_cons.mp nd).1 (List.of_mem_zip hv).1, if_pos hk]
    simp
  | p :: P, w :: vs, i + 1, m, nd, h1, h2, hk => by
    show bindL kindOf ((p, w) :: P.zip vs) m x = _
    unfold bindL
    exact bindL_get (i := i) (List.nodup_cons.mp nd).2 (by simpa using h1) (by simpa using h2) hk
theorem bindC_get {kindOf : Str → Option NameKind} {x : Str} {v : Value} : ∀ {P : List Str} {vs : List Value} {i : Nat} {m : Str → Option Value}, P.Nodup → P[i]? = some x → vs[i]? = some v → kindOf x ≠ some .local →
    bindC kindOf (P.zip vs) m x = some v
  | [], _, _, _, _, h, _, _ => by simp at h
  | _ :: _, [], _, _, _, _, h, _ => by simp at h
  | p :: P, w :: vs, 0, m, nd, h1, h2, hk => by
    simp at h1 h2; subst h1; subst h2
    show bindC kindOf ((p, w) :: P.zip vs) m p = _
    unfold bindC
    rw [bindC_out fun v hv => (List.nodup_cons.mp nd).1 (List.of_mem_zip hv).1, if_neg hk]
    simp
  | p :: P, w :: vs, i + 1, m, nd, h1, h2, hk => by
    show bindC kindOf ((p, w) :: P.zip vs) m x = _
    unfold bindC
    exact bindC_get (i := i) (List.nodup_cons.mp nd).2 (by simpa using h1) (by simpa using h2) hk

/-- the names' values at the entry -/
def start (N : List Str) (vs : List V) : St := vs.map some ++ List.replicate (N.length - vs.length) none

/-- the context of a def's body, at its entry; an exception leaves the frame, then lies as CX says -/
def cxOf (CX : CXT) (P : Program) (w : World) (K : PySem.W.Frag) (mg : Str → Option Value) (base : Heap) (N : List Str) (qual : Str) (scope : Scope) (f : Addr) (cd : Value) (A : Around) (outer : List Env) (s : Shared) (H : Hp) (E : XK) : Cx where
  prog := P
  w := w
  K := K
  mg := mg
  base := base
  A := A.deeper (envOfC qual scope s.heap.objs.size f cd)
  N := N
  s₀ := s
  H₀ := H
  env := envOfC qual scope s.heap.objs.size f cd
  outer := outer
  stack := envOfC qual scope s.heap.objs.size f cd :: outer
  ex := []
  calm := true
  fn := fun _ => true
  pn := []
  xe := fun e s' => wpAny (model P w) (A.deeper (envOfC qual scope s.heap.objs.size f cd)) (leaving (envOfC qual scope s.heap.objs.size f cd) e) (fun _ s'' => CX outer H s E e s'') (fun e' s'' => CX outer H s E e' s'') s'

theorem cell_has {sc : Scope} {n : Nat} {x : Str} (h : sc.names.lookup x = some .cell) : ∃ c, (cellsFrom n sc.names []).lookup x = some c := by
  have q := PySem.W.cellsFrom_some sc.names n [] (.inl h)
  exact Option.isSome_iff_exists.mp q

theorem inv_start {CX : CXT} {P : Program} {w : World} {K : PySem.W.Frag} {mg : Str → Option Value} {base : Heap} {N ps : List Str} {qual : Str} {scope : Scope} {f : Addr} {cd : Value} {A : Around} {outer : List Env} {s s1 : Shared} {H : Hp} {E : XK} {us : List Value} {vs : List V}
    (S : FnScope N ps scope) (hd : A.handled = none) (e0 : Env0 P w K mg base A outer s H) (hl : vs.length = ps.length) (r : Vals vs us)
    (x : InCallC s s.heap.objs.size (bindL (envOfC qual scope s.heap.objs.size f cd).kindOf (ps.zip us) fun _ => none) (cellsFrom (s.heap.objs.size + 1) scope.names []) (bindC (envOfC qual scope s.heap.objs.size f cd).kindOf (ps.zip us) fun _ => none) s1) :
    Inv (cxOf CX P w K mg base N qual scope f cd A outer s H E) [] (start N vs) H s1 := by
  have hpl : ps.length ≤ N.length := by have := congrArg List.length S.pre; rw [List.length_take] at this; omega
  obtain ⟨h1, tk, rfl, hk⟩ := x.done
  have noA : ∀ b : Addr, b ∉ (cxOf CX P w K mg base N qual scope f cd A outer s H E).ex := fun b z => absurd (show b ∈ ([] : List Addr) from z) (by simp)
  refine ⟨⟨e0.mod, S.kind, rfl, rfl, Nat.le_refl _, fun y z c h1 h2 => ?_, fun y hy => ?_, fun y c _ h => ?_, fun _ => hd, Around.frames_deeper e0.frames, .inr ⟨rfl, rfl⟩, fun b z => absurd z (noA b), e0.bs, e0.bsz, fun b _ _ => noA b, fun b z => absurd z (noA b), e0.funs, e0.frf⟩,
    rfl, e0.bare, Un.kept hk, ⟨_, x.toInCall.ns, fun i y v h1 h2 h3 => ?_⟩, fun y c h => ⟨_, x.cell y c h⟩, e0.hok.fresh (Nat.le_refl _), fun y c h => ?_, fun p hp => absurd (show p ∈ ([] : List (Addr × Obj)) from hp) (by simp), e0.hok.kept hk, ?_⟩
  · exact name_of_addr x.apart (PySem.mem_of_lookup h1) (PySem.mem_of_lookup h2)
  · have hy : scope.names.lookup y = some .cell ∨ scope.names.lookup y = some .free := hy
    rcases hy with hy | hy
    · exact cell_has hy
    · exact absurd rfl (S.nofree _ (PySem.mem_of_lookup hy))
  · exact Nat.le_of_lt (x.above y c (PySem.mem_of_lookup h))
  · have hi : i < vs.length := by
      unfold start at h2
      by_cases hi : i < vs.length
      · exact hi
      · rw [List.getElem?_append_right (by simpa using hi)] at h2
        rw [List.getElem?_replicate] at h2
        split at h2 <;> cases h2
    have ha : vs[i]? = some v := by
      unfold start at h2
      rw [List.getElem?_append_left (by simpa using hi), List.getElem?_map] at h2
      cases e : vs[i]? with
      | none => rw [e] at h2; cases h2
      | some a => rw [e] at h2; cases h2; rfl
    obtain ⟨u, hu, rv⟩ := r.get ha
    have hp : ps[i]? = some y := by
      rw [← S.pre, List.getElem?_take_of_lt (by omega)]; exact h1
    have ndP : ps.Nodup := by rw [← S.pre]; exact S.nd.sublist (List.take_sublist _ _)
    refine ⟨u, rv, ?_⟩
    rcases S.par y (List.mem_of_getElem? hp) with k | k
    · exact .inl ⟨k, bindL_get ndP hp hu k⟩
    · obtain ⟨c, e⟩ := cell_has (n := s.heap.objs.size + 1) k
      refine .inr ⟨.inl k, c, e, ?_⟩
      have q := x.cell y c e
      rw [bindC_get ndP hp hu (by show scope.names.lookup y ≠ _; rw [k]; decide)] at q
      exact q
  · exact e0.hok.fresh (Nat.le_of_lt (x.above y c (PySem.mem_of_lookup h)))
  · unfold start
    show _ = N.length
    rw [List.length_append, List.length_map, List.length_replicate]
    omega

/-- THE RULE: a def (or a method) of the text, by its body. The body's reading t is chosen for each entry; it is run at the parameters' values -/
theorem fn_of {CX : CXT} {P : Program} {w : World} {K : PySem.W.Frag} {mg : Str → Option Value} {base : Heap} {k : Nat} {f : Addr} {name qual : Str} {params : Arguments} {body : List Stmt} {scope : Scope} {dV kV doc pm cdv ct oc : Value} {an od : Option Addr}
    {osl : Array (Option Value)} {N ps : List Str} {sp : Sp} (lk : K.lookup f = some ⟨oc, od, .func (PySem.W.fnOf name qual params body scope dV kV doc pm an cdv ct), osl⟩) (hcd : PySem.W.codeIn K cdv qual = true) (S : FnScope N ps scope)
    (len : ∀ vs H Q E, sp vs H Q E → vs.length = ps.length)
    (hbody : ∀ (A : Around) (outer : List Env) (s : Shared) (H : Hp) (vs : List V) (Q : VK) (E : XK), Room k (A.deeper (envOfC qual scope s.heap.objs.size f cdv)) → sp vs H Q E →
      ∃ t, PSs (cxOf CX P w K mg base N qual scope f cdv A outer s H E) body t ∧ t { nx := fun _ H' => Q .non H', rt := Q } (start N vs) H) :
    FnOk P w K mg base CX (k + 1) f (PySem.W.fnOf name qual params body scope dV kV doc pm an cdv ct) ps sp := by
  refine ⟨len, fun A outer s H args us vs Q E hr e0 hb r hsp => ?_⟩
  have hl := len _ _ _ _ hsp
  have KX : K.In s.heap := e0.mod.kin.keeps fun b o e => (e0.bs b o e).1
  have lim : s.heap.NoLimit := e0.mod.nolimit.keeps fun b o e => (e0.bs b o e).1
  have hkind : ∀ y ∈ ps.zip us, scope.names.lookup y.1 = some .local ∨ (scope.names.lookup y.1 = some .cell ∧ ((cellsFrom (s.heap.objs.size + 1) scope.names []).lookup y.1).isSome = true) := fun ⟨n, v⟩ hy => by
    rcases S.par n (List.of_mem_zip hy).1 with q | q
    · exact .inl q
    · exact .inr ⟨q, PySem.W.cellsFrom_some _ _ _ (.inl q)⟩
  refine codeAny_call_function hr.depth (KX _ _ lk) rfl S.co S.gen rfl (PySem.W.codeRec_of KX hcd) (hb _ _ _ _ ?_)
  refine wpAny_newFunctionEnv_cells S.kind hkind fun env he s1 x => ?_
  subst he
  refine ⟨lim.keeps x.toInCall.keep, codeAny_func ?_⟩
  obtain ⟨t, ht, hq⟩ := hbody A outer s H vs Q E (hr.deeper _) hsp
  have I : Inv (cxOf CX P w K mg base N qual scope f cdv A outer s H E) [] (start N vs) H s1 := inv_start S hr.hd e0 hl r x
  refine wpAny_mono (ht [] s1 (start N vs) H _ I hq) (fun fl s' hs => ?_) fun e s' hs => hs
  have fin : ∀ {σ' : St} {H' : Hp} {v : V} {u : Value}, Inv (cxOf CX P w K mg base N qual scope f cdv A outer s H E) [] σ' H' s' → RelV v u → Q v H' → CE outer P w H s Q u s' :=
    fun {σ' H' v u} J rv q => ⟨v, H', J.os, J.bare, J.base, J.hok, rv, q⟩
  cases fl with
  | ret u =>
    obtain ⟨v, σ', H', J, rv, q⟩ := hs
    exact fin J rv q
  | next =>
    obtain ⟨σ', H', J, q⟩ := hs
    exact fin (v := V.non) (u := Value.none) J rfl q
  | brk =>
    obtain ⟨_, _, _, q⟩ := hs
    exact False.elim q
  | cont =>
    obtain ⟨_, _, _, q⟩ := hs
    exact False.elim q
end L2

namespace L2
open PySem PySem.Spec PyProof.Rows
section
variable {X : Cx} {x : Str} {p pos : Pos} {e : Expr} {es : List Expr} {t : TA} {id T : String} {r : List V → Hp → VK → Prop}

def tCB (r : List V → Hp → VK → Prop) (t : TA) : TE := fun σ H Q => t σ H fun vs H1 => r vs H1 Q
/-- f(e, ..), f a built-in function -/
theorem pe_callB (hc : CallR X (.builtin id) r) (hg : Gl X x) (hm : X.mg x = none) (hv : bootBuiltins x = some (.builtin id)) (ha : PA X (e :: es) t) (hn : x ≠ "__name__" := by decide) (hdb : (x == ("__debug__" : Str)) = false := by decide)
    (he : starEach (e :: es) X.env = (false, eval e X.env) :: starEach es X.env := by rfl) (hpl : (backTo pos (starEach es X.env)).any (·.1) = false := by rfl) : PE X (.Call (.Name x p) (e :: es) [] pos) (tCB r t) := by
  intro pins s σ H Q I h
  refine wpAny_Call_Name_kw (ld_blt I hg hm hv ?_ hn hdb)
  exact PyProof.Rows.callWith_builtin1 (thn (ha pos pins s σ H _ I h) fun us s1 ⟨vs, H1, I1, r1, q1⟩ => hc pins s1 σ H1 vs us Q I1 r1 q1) he hpl
/-- T(e, ..), T a built-in type -/
theorem pe_callTy (hc : CallR X (.type T) r) (hg : Gl X x) (hm : X.mg x = none) (hv : bootBuiltins x = some (.type T)) (ha : PA X (e :: es) t) (hn : x ≠ "__name__" := by decide) (hdb : (x == ("__debug__" : Str)) = false := by decide)
    (he : starEach (e :: es) X.env = (false, eval e X.env) :: starEach es X.env := by rfl) (hpl : (backTo pos (starEach es X.env)).any (·.1) = false := by rfl) : PE X (.Call (.Name x p) (e :: es) [] pos) (tCB r t) := by
  intro pins s σ H Q I h
  refine wpAny_Call_Name_kw (ld_blt I hg hm hv ?_ hn hdb)
  exact PyProof.Rows.callWith_type1 (thn (ha pos pins s σ H _ I h) fun us s1 ⟨vs, H1, I1, r1, q1⟩ => hc pins s1 σ H1 vs us Q I1 r1 q1) he hpl
end
end L2

namespace HT
open PySem PyProof.Rows

/-- t < u of tuples of ints -/
def lexLt : List Int → List Int → Bool
  | [], [] => false
  | [], _ :: _ => true
  | _ :: _, [] => false
  | x :: xs, y :: ys => if x = y then lexLt xs ys else decide (x < y)
section
open PySem.SeqAt
open PySem.AutoSeq1 (wpAny_loadPart')
open PySem.MeetsSeq PySem.MeetsSeq2 PySem.MeetsSeq3

end

section
variable {prog : Program} {w : World} {A : Around} {E : Value → Shared → Prop} {s : Shared}

/-- t + u, t not empty -/
theorem cat_tup {t b : Addr} {vs ws : List Value} {Q : Value → Shared → Prop} (ht : IsTup s.heap t vs.toArray) (hb : IsTup s.heap b ws.toArray) (hv : vs ≠ [])
    (h1 : ws = [] → Q (.ref t) s) (h2 : ws ≠ [] → Q (.ref s.heap.objs.size) { s with heap := s.heap.push { cls := .type "tuple", data := .seq (vs ++ ws).toArray } })
    (hsz : vs.length + ws.length ≤ sizeLine) : wpAny (model prog w) A (binaryOp .Add (.ref t) (.ref b)) Q E s := by
  obtain ⟨⟨cls, dd, data, sl⟩, ho, hc, n, hd⟩ := id ht
  obtain ⟨⟨cls2, dd2, data2, sl2⟩, ho2, hc2, n2, hd2⟩ := id hb
  simp only at hc hd hc2 hd2
  subst hc hd hc2 hd2
  have e : vs.toArray ++ ws.toArray = (vs ++ ws).toArray := by simp
  by_cases hw : ws = []
  · exact concat_meets ⟨_, ho, rfl⟩ ⟨_, ho2, rfl⟩ noFill_tuple_add seq_tuple_add PySem.F.slot_tuple_add PySem.F.entry_tuple_add (PySem.F.args_tuple_add_2 _ _)
      (tuple_addW1 t b vs.toArray ws.toArray n n2 dd dd2 sl sl2 (by simpa using hv) (by simp [hw])) ⟨ho, ho2, h1 hw⟩
  · refine concat_meets ⟨_, ho, rfl⟩ ⟨_, ho2, rfl⟩ noFill_tuple_add seq_tuple_add PySem.F.slot_tuple_add PySem.F.entry_tuple_add (PySem.F.args_tuple_add_2 _ _)
      (tuple_addW2 t b vs.toArray ws.toArray n n2 dd dd2 sl sl2 (by simpa using hv) (by simpa using hw) (by rw [List.size_toArray, List.size_toArray]; exact hsz)) ⟨ho, ho2, ?_⟩
    rw [e]
    exact h2 hw

/-! ### t[a:b], not the whole -/
/-- a slice's bound as a place among n (d where it is left out) -/
def sIx (n d : Nat) : Option Int → Nat
  | none => d
  | some v => if v < 0 then (v + (n : Int)).toNat else min v.toNat n
end
end HT

namespace L2
open PySem PySem.Spec PyProof.Rows

/-! ### the parts of a slice -/
abbrev TO := St → Hp → (Option Int → Hp → Prop) → Prop
/-- a slice's part (left out, or an int) -/
def PO (X : Cx) (e : Option Expr) (t : TO) : Prop :=
  ∀ (pins : List (Addr × Obj)) (s : Shared) (σ : St) (H : Hp) (Q : Option Int → Hp → Prop), Inv X pins σ H s → t σ H Q →
    wpAny (model X.prog X.w) X.A (evalPart e X.env) (fun u s' => ∃ o H', Inv X pins σ H' s' ∧ IsPart u o ∧ Q o H') X.xe s
def tNoPart : TO := fun _ H Q => Q none H
def tPart (t : TE) : TO := fun σ H Q => t σ H fun x H1 => ∃ i, x = .int i ∧ Q (some i) H1

section
variable {X : Cx} {e : Expr} {te : TE} {lo hi : Option Expr} {tl th : TO} {pos p2 : Pos}

theorem po_none : PO X none tNoPart := by
  intro pins s σ H Q I h
  rw [evalPart_none]
  exact wpAny_pure ⟨none, H, I, .none, h⟩
theorem po_some (h : PE X e te) : PO X (some e) (tPart te) := by
  intro pins s σ H Q I hw
  rw [evalPart_some]
  refine thn (h pins s σ H _ I hw) fun u s1 ⟨x, H1, I1, r1, q1⟩ => ?_
  obtain ⟨i, rfl, q⟩ := q1
  obtain ⟨t, rfl⟩ := r1
  exact ⟨some i, H1, I1, .int i t, q⟩

/-- what a slice of a value is, by values: the slice object stands at sl -/
def SlR (X : Cx) (r : V → Option Int → Option Int → Hp → VK → Prop) : Prop :=
  ∀ (pins : List (Addr × Obj)) (s : Shared) (σ : St) (H : Hp) (x : V) (v vl vu : Value) (lo hi : Option Int) (sl : Addr) (Q : VK), Inv X pins σ H s → RelV x v → s.heap.IsSliceOf sl vl vu .none → IsPart vl lo → IsPart vu hi → r x lo hi H Q →
    ∃ T id, typeLookup (.type T) "__getitem__" = pure (some (.builtin id)) ∧ s.TypeIs v T ∧ wpAny (model X.prog X.w) X.A (getItem v (.ref sl)) (EP X pins σ Q) X.xe s
theorem SlR.or {r r' : V → Option Int → Option Int → Hp → VK → Prop} (h : SlR X r) (h' : SlR X r') : SlR X (fun x lo hi H Q => r x lo hi H Q ∨ r' x lo hi H Q) := by
  intro pins s σ H x v vl vu lo hi sl Q I rx hs pl pu q
  rcases q with q | q
  · exact h pins s σ H x v vl vu lo hi sl Q I rx hs pl pu q
  · exact h' pins s σ H x v vl vu lo hi sl Q I rx hs pl pu q
def tSl (r : V → Option Int → Option Int → Hp → VK → Prop) (te : TE) (tl th : TO) : TE := fun σ H Q => te σ H fun x H1 => tl σ H1 fun l H2 => th σ H2 fun u H3 => r x l u H3 Q
/-- a[lo:hi], any a -/
theorem pe_slice {r : V → Option Int → Option Int → Hp → VK → Prop} (hr : SlR X r) (he : PE X e te) (hl : PO X lo tl) (hu : PO X hi th) : PE X (.Subscript e (.Slice lo hi none p2) pos) (tSl r te tl th) := by
  intro pins s σ H Q I h
  refine Subscript_ (thn (he pins s σ H _ I h) fun v s1 ⟨x, H1, I1, r1, q1⟩ => ?_)
  refine wpAny_Slice (thn (hl pins s1 σ H1 _ I1 q1) fun vl s2 ⟨l, H2, I2, pl, q2⟩ => thn (hu pins s2 σ H2 _ I2 q2) fun vu s3 ⟨u, H3, I3, pu, q3⟩ => ?_)
  rw [evalPart_none]
  refine wpAny_pure ?_
  have I4 : Inv X pins σ H3 { s3 with heap := s3.heap.push { cls := .type "slice", data := .fields #[vl, vu, .none] } } := I3.kept (t' := s3.toks) fun b ob q => Heap.get?_push_of_some _ q
  obtain ⟨T, id, hT, ht, hg⟩ := hr pins { s3 with heap := s3.heap.push { cls := .type "slice", data := .fields #[vl, vu, .none] } } σ H3 x v vl vu l u s3.heap.objs.size Q I4 r1 (Heap.IsSliceOf.new ..) pl pu q3
  show wpAny (model X.prog X.w) X.A (subscriptTail e (.Slice lo hi none p2) v (.ref s3.heap.objs.size)) (EP X pins σ Q) X.xe { s3 with heap := s3.heap.push { cls := .type "slice", data := .fields #[vl, vu, .none] } }
  exact tail_any (ops := [.ref s3.heap.objs.size, v]) ht hT hg (by with_unfolding_all rfl)

/-- the items of xs[lo:hi] -/
def cutV (xs : List V) (lo hi : Option Int) : List V := (xs.drop (HT.sIx xs.length 0 lo)).take (HT.sIx xs.length xs.length hi - HT.sIx xs.length 0 lo)
theorem cutV_length (xs : List V) (lo hi : Option Int) : (cutV xs lo hi).length ≤ xs.length := by
  unfold cutV
  rw [List.length_take, List.length_drop]
  omega
/-- t[lo:hi], not the whole of it (the whole would be t itself) -/
def rSlT (K : PySem.W.Frag) : V → Option Int → Option Int → Hp → VK → Prop := fun x lo hi H Q => ∃ a xs, x = .ref a ∧ SqT K H a xs ∧
  ¬ (HT.sIx xs.length 0 lo = 0 ∧ HT.sIx xs.length xs.length hi = xs.length) ∧ ∀ p, H p = none → Q (.ref p) (upd H p (.tup (cutV xs lo hi)))
/-! ### t < u, t + u -/
def rLtT (K : PySem.W.Frag) : R2 := fun x y H Q => ∃ a b ns ms, x = .ref a ∧ y = .ref b ∧ SqT K H a (ns.map V.int) ∧ SqT K H b (ms.map V.int) ∧ Q (.bl (HT.lexLt ns ms)) H
/-- t + u, t not empty: u empty gives t itself -/
def rCatT (K : PySem.W.Frag) : R2 := fun x y H Q => ∃ a b xs ys, x = .ref a ∧ y = .ref b ∧ SqT K H a xs ∧ SqT K H b ys ∧ xs ≠ [] ∧ xs.length + ys.length ≤ sizeLine ∧
  (ys = [] → Q (.ref a) H) ∧ (ys ≠ [] → ∀ p, H p = none → Q (.ref p) (upd H p (.tup (xs ++ ys))))
theorem Vals.nil_iff {xs : List V} {us : List Value} (r : Vals xs us) : us = [] ↔ xs = [] := by
  cases r with
  | nil => simp
  | cons _ _ => simp
theorem op_catT : OpR X (binaryOp .Add) (rCatT X.K) := by
  intro pins s σ H x y v u Q I rx ry h
  obtain ⟨a, b, xs, ys, rfl, rfl, ha, hb, hx, hz, q1, q2⟩ := h
  cases rx
  cases ry
  obtain ⟨its, r1, p1, _⟩ := I.tuple ha
  obtain ⟨its2, r2, p2, _⟩ := I.tuple hb
  refine HT.cat_tup p1 p2 (fun z => hx (r1.nil_iff.mp z)) (fun z => ⟨.ref a, H, I, rfl, q1 (r2.nil_iff.mp z)⟩) (fun z => ?_) (by rw [← r1.length, ← r2.length]; exact hz)
  refine ⟨.ref s.heap.objs.size, _, I.laid (t' := s.toks) (o := .tup (xs ++ ys)) (fun b ob q => Heap.get?_push_of_some _ q) (Nat.le_refl _) ?_, rfl, q2 (fun w => z (r2.nil_iff.mpr w)) _ (I.hok.fresh (Nat.le_refl _))⟩
  exact ⟨by rw [List.length_append]; exact hz, _, r1.append r2, IsTup.new _ _⟩
end
end L2

namespace L2
open PySem PySem.Spec PyProof.Rows

/-! ### places -/
/-- the place that an index of any sign means -/
def ixN (n : Nat) (i : Int) : Option Nat := if 0 ≤ i then (if i < n then some i.toNat else none) else if -(n : Int) ≤ i then some (i + n).toNat else none
def atI {α : Type} (xs : List α) (i : Int) : Option α := (ixN xs.length i).bind fun j => xs[j]?
theorem ixN_seq {n : Nat} {i : Int} {j : Nat} (h : ixN n i = some j) : seqIndex? i n = some j ∧ j < n ∧ -(n : Int) ≤ i ∧ i < n := by
  unfold ixN at h
  by_cases h0 : 0 ≤ i
  · rw [if_pos h0] at h
    by_cases h1 : i < n
    · rw [if_pos h1] at h
      have e : i.toNat = j := Option.some.inj h
      exact ⟨by rw [seqIndex_of h0 h1, e], by omega, by omega, h1⟩
    · rw [if_neg h1] at h; cases h
  · rw [if_neg h0] at h
    by_cases h1 : -(n : Int) ≤ i
    · rw [if_pos h1] at h
      have e : (i + n).toNat = j := Option.some.inj h
      exact ⟨by rw [seqIndex_neg (by omega) h1, e], by omega, h1, by omega⟩
    · rw [if_neg h1] at h; cases h
theorem atI_get {α : Type} {xs : List α} {i : Int} {v : α} (h : atI xs i = some v) : ∃ j, seqIndex? i xs.length = some j ∧ xs[j]? = some v ∧ j < xs.length ∧ -(xs.length : Int) ≤ i ∧ i < xs.length := by
  unfold atI at h
  cases e : ixN xs.length i with
  | none => rw [e] at h; cases h
  | some j =>
    rw [e] at h
    obtain ⟨h1, h2, h3, h4⟩ := ixN_seq e
    exact ⟨j, h1, h, h2, h3, h4⟩
theorem atI_nat {α : Type} {xs : List α} {j : Nat} {v : α} (h : xs[j]? = some v) : atI xs (j : Int) = some v := by
  have hj : j < xs.length := (List.getElem?_eq_some_iff.mp h).1
  have e : ixN xs.length (j : Int) = some j := by
    unfold ixN
    rw [if_pos (by omega), if_pos (by omega)]; simp
  unfold atI; rw [e]; exact h
/-! ### what may be subscripted -/
/-- what stands as an index of a plain subscript -/
def PlainIx (b : Expr) : Prop := ∀ o i, subscripted b false o i = operate [o, i] (getItem o i)
/-- a subscript by values -/
def IxR (X : Cx) (r : R2) : Prop :=
  ∀ (value slice : Expr) (pins : List (Addr × Obj)) (s : Shared) (σ : St) (H : Hp) (x y : V) (v u : Value) (Q : VK), Inv X pins σ H s → RelV x v → RelV y u → r x y H Q →
    subscripted slice false v u = operate [v, u] (getItem v u) → wpAny (model X.prog X.w) X.A (subscriptTail value slice v u) (EP X pins σ Q) X.xe s
/-- a call of a builtin's method by values: the receiver, the arguments -/
def MtR (X : Cx) (id : String) (r : V → List V → Hp → VK → Prop) : Prop :=
  ∀ (pins : List (Addr × Obj)) (s : Shared) (σ : St) (H : Hp) (x : V) (xs : List V) (v : Value) (us : List Value) (Q : VK), Inv X pins σ H s → RelV x v → Vals xs us → r x xs H Q →
    wpAny (model X.prog X.w) X.A (call (.builtin id) (v :: us)) (EP X pins σ Q) X.xe s
section
variable {X : Cx} {a b : Expr} {ta tb : TE} {pos : Pos}
theorem IxR.or {r r' : R2} (h : IxR X r) (h' : IxR X r') : IxR X (fun x y H Q => r x y H Q ∨ r' x y H Q) := by
  intro value slice pins s σ H x y v u Q I rx ry q hs
  rcases q with q | q
  · exact h value slice pins s σ H x y v u Q I rx ry q hs
  · exact h' value slice pins s σ H x y v u Q I rx ry q hs
theorem MtR.or {id : String} {r r' : V → List V → Hp → VK → Prop} (h : MtR X id r) (h' : MtR X id r') : MtR X id (fun x xs H Q => r x xs H Q ∨ r' x xs H Q) := by
  intro pins s σ H x xs v us Q I rx rs q
  rcases q with q | q
  · exact h pins s σ H x xs v us Q I rx rs q
  · exact h' pins s σ H x xs v us Q I rx rs q
/-- a[b] -/
theorem pe_ix {r : R2} (hr : IxR X r) (ha : PE X a ta) (hb : PE X b tb) (hs : PlainIx b) : PE X (.Subscript a b pos) (tOp r ta tb) := by
  intro pins s σ H Q I h
  exact Subscript_ (binT ha hb I h fun v u s2 x y H2 I2 rx ry q => hr a b pins s2 σ H2 x y v u Q I2 rx ry q (hs _ _))

def rIxL (K : PySem.W.Frag) : R2 := fun x y H Q => ∃ p xs i v, x = .ref p ∧ y = .int i ∧ SqL K H p xs ∧ atI xs i = some v ∧ Q v H
def rIxT (K : PySem.W.Frag) : R2 := fun x y H Q => ∃ p xs i v, x = .ref p ∧ y = .int i ∧ SqT K H p xs ∧ atI xs i = some v ∧ Q v H
def rIxS : R2 := fun x y H Q => ∃ z i c, x = .str z ∧ y = .int i ∧ z.length ≤ sizeLine ∧ atI z.cps.toList i = some c ∧ Q (.str ⟨#[c]⟩) H
theorem ix_list : IxR X (rIxL X.K) := by
  intro value slice pins s σ H x y v u Q I rx ry h hs
  obtain ⟨p, xs, i, z, rfl, rfl, hq, he, q⟩ := h
  cases rx
  obtain ⟨t, rfl⟩ := ry
  obtain ⟨its, r, pl, hz⟩ := I.list hq
  obtain ⟨j, h1, h2, h3, h4, h5⟩ := atI_get he
  obtain ⟨w, ew, rw'⟩ := r.get h2
  have hl := r.length
  have hn := line63
  have fin : EP X pins σ Q w s := ⟨z, H, I, rw', q⟩
  by_cases h0 : 0 ≤ i
  · have hj : i.toNat = j := by
      rw [seqIndex_of h0 h5] at h1
      exact Option.some.inj h1
    exact item_listR pl.isList h0 (by omega) (by rw [hj]; simpa using ew) fin hs
  · have hj : (i + (its.toArray.size : Int)).toNat = j := by
      rw [seqIndex_neg (by omega) h4] at h1
      rw [List.size_toArray, ← hl]
      exact Option.some.inj h1
    exact subscriptTail_builtinR (x := w) pl.isList.typeIs slot_list_getitem.lookup
      (wpAny_getItem_list_neg (Q := fun r s' => r = w ∧ EP X pins σ Q r s') pl.isList (by omega) (by rw [List.size_toArray] <;> omega) (by omega) (by rw [hj]; simpa using ew) ⟨rfl, fin⟩) hs
theorem ix_tup : IxR X (rIxT X.K) := by
  intro value slice pins s σ H x y v u Q I rx ry h hs
  obtain ⟨p, xs, i, z, rfl, rfl, hq, he, q⟩ := h
  cases rx
  obtain ⟨t, rfl⟩ := ry
  obtain ⟨its, r, pl, hz⟩ := I.tuple hq
  obtain ⟨j, h1, h2, h3, h4, h5⟩ := atI_get he
  obtain ⟨w, ew, rw'⟩ := r.get h2
  have hl := r.length
  have hn := line63
  have fin : EP X pins σ Q w s := ⟨z, H, I, rw', q⟩
  exact subscriptTail_builtinR (x := w) pl.typeIs slot_tuple_getitem.lookup
    (getItem_tuple (j := j) (Q := fun r s' => r = w ∧ EP X pins σ Q r s') pl (by omega) (by omega) (by rw [List.size_toArray, ← hl]; exact h1) (by simpa using ew) ⟨rfl, fin⟩) hs
theorem ix_str : IxR X rIxS := by
  intro value slice pins s σ H x y v u Q I rx ry h hs
  obtain ⟨z, i, c, rfl, rfl, hz, he, q⟩ := h
  obtain ⟨t, rfl⟩ := rx
  obtain ⟨t', rfl⟩ := ry
  obtain ⟨j, h1, h2, h3, h4, h5⟩ := atI_get he
  have hl : z.cps.toList.length = z.length := by simp [Str.length]
  rw [hl] at h1 h4 h5
  have hn := line63
  exact tail_any (typeIs_str s z t) slot_str_getitem.lookup (getItem_str (c := c) (by
    have e1 : decide (i < -(2 ^ 63 : Int)) = false := decide_eq_false (by omega)
    have e2 : decide (i ≥ 2 ^ 63) = false := decide_eq_false (by omega)
    rw [e1, e2, Bool.or_false]) (by rw [h1]; simpa using h2) ⟨.str ⟨#[c]⟩, H, I.tok _, ⟨_, rfl⟩, q⟩) hs
/-- list, tuple or str -/
def rIx (K : PySem.W.Frag) : R2 := fun x y H Q => rIxL K x y H Q ∨ rIxT K x y H Q ∨ rIxS x y H Q
theorem ix_seq : IxR X (rIx X.K) := ix_list.or (ix_tup.or ix_str)

/-! ### xs[i] = v, any sign -/
theorem Inv.lst {pins : List (Addr × Obj)} {σ : St} {H : Hp} {s : Shared} {p : Addr} {xs : List V} (I : Inv X pins σ H s) (h : H p = some (.lst xs)) :
    ∃ (its : List Value) (n : Nat), Vals xs its ∧ s.heap.get? p = some { cls := .type "list", data := .seq its.toArray n } ∧ xs.length ≤ sizeLine := by
  obtain ⟨z, its, n, r, e⟩ := I.hok p _ h
  exact ⟨its, n, r, e, z⟩
def rSetL : V → V → V → Hp → (Hp → Prop) → Prop := fun o i v H Q => ∃ p xs k j, o = .ref p ∧ i = .int k ∧ H p = some (.lst xs) ∧ ixN xs.length k = some j ∧ Q (upd H p (.lst (xs.set j v)))
/-! ### slices -/
theorem slice_bounds (lo hi : Option Int) (n : Nat) : (sliceBounds lo hi none n).1 = ((HT.sIx n 0 lo : Nat) : Int) ∧ (sliceBounds lo hi none n).2.1 = ((HT.sIx n n hi : Nat) : Int) ∧ (sliceBounds lo hi none n).2.2 = 1 := by
  refine ⟨?_, ?_, rfl⟩
  · cases lo with
    | none => simp [sliceBounds, HT.sIx]
    | some i =>
      simp only [sliceBounds, HT.sIx, Option.getD_none, show (1 : Int) > 0 by decide, if_true]
      by_cases h : i < 0
      · simp only [h, if_true] <;> omega
      · simp only [h, if_false] <;> omega
  · cases hi with
    | none => simp [sliceBounds, HT.sIx]
    | some i =>
      simp only [sliceBounds, HT.sIx, Option.getD_none, show (1 : Int) > 0 by decide, if_true]
      by_cases h : i < 0
      · simp only [h, if_true] <;> omega
      · simp only [h, if_false] <;> omega
theorem slicePick_cut (its : List Value) (lo hi : Option Int) : slicePick its.toArray lo hi none = ((its.drop (HT.sIx its.length 0 lo)).take (HT.sIx its.length its.length hi - HT.sIx its.length 0 lo)).toArray := by
  obtain ⟨h1, h2, h3⟩ := slice_bounds lo hi its.toArray.size
  unfold slicePick
  rw [h1, h2, h3]
  simp only [sliceRange_one, pick_run, List.size_toArray] <;> rfl
/-- xs[lo:hi] of a list: a new list -/
def rSlL (K : PySem.W.Frag) : V → Option Int → Option Int → Hp → VK → Prop := fun x lo hi H Q => ∃ a xs, x = .ref a ∧ SqL K H a xs ∧ ∀ p, H p = none → Q (.ref p) (upd H p (.lst (cutV xs lo hi)))
theorem sl_list : SlR X (rSlL X.K) := by
  intro pins s σ H x v vl vu lo hi sl Q I rx hs pl pu h
  obtain ⟨a, xs, rfl, hx, q⟩ := h
  cases rx
  obtain ⟨its, r, ht, hz⟩ := I.list hx
  have hlen := r.length
  refine ⟨"list", _, slot_list_getitem.lookup, ht.isList.typeIs, ?_⟩
  refine wpAny_getItem_list_slice ht.isList hs pl pu .none (by simp) ?_ (by rw [List.size_toArray] <;> omega)
  rw [slicePick_cut, ← hlen]
  refine ⟨.ref s.heap.objs.size, _, I.laid (t' := s.toks) (o := .lst (cutV xs lo hi)) (fun b ob q => Heap.get?_push_of_some _ q) (Nat.le_refl _) ?_, rfl, q _ (I.hok.fresh (Nat.le_refl _))⟩
  exact ⟨Nat.le_trans (cutV_length xs lo hi) hz, _, 0, (r.drop (HT.sIx xs.length 0 lo)).take (HT.sIx xs.length xs.length hi - HT.sIx xs.length 0 lo), Heap.get?_push_size _ rfl⟩

/-! ### in, not in: flat items -/
def flatV : V → Bool
  | .non => true
  | .bl _ => true
  | .int _ => true
  | .str _ => true
  | _ => false
/-- == of flat values -/
def eqV : V → V → Bool
  | .non, .non => true
  | .bl a, .bl b => a == b
  | .bl a, .int b => (if a then 1 else 0) == b
  | .int a, .bl b => a == (if b then 1 else 0)
  | .int a, .int b => a == b
  | .str a, .str b => a == b
  | _, _ => false
theorem eqAt_V {A : Around} {s : Shared} {y x : V} {u v : Value} (ry : RelV y u) (rx : RelV x v) (fy : flatV y = true) (fx : flatV x = true) : SeqAt.EqAt A s u v (eqV y x) := by
  cases y with
  | non =>
    cases ry
    cases x with
    | non => cases rx; exact SeqAt.EqAt.same _
    | bl b => cases rx; exact SeqAt.EqAt.none_bool b
    | int b => obtain ⟨t, rfl⟩ := rx; exact SeqAt.EqAt.none_int b t
    | str b => obtain ⟨t, rfl⟩ := rx; exact SeqAt.EqAt.none_str b t
    | _ => exact absurd (show false = true from fx) Bool.false_ne_true
  | bl a =>
    cases ry
    cases x with
    | non => cases rx; exact SeqAt.EqAt.bool_none a
    | bl b => cases rx; exact SeqAt.EqAt.bool_bool a b
    | int b => obtain ⟨t, rfl⟩ := rx; exact SeqAt.EqAt.bool_int a b t
    | str b => obtain ⟨t, rfl⟩ := rx; exact SeqAt.EqAt.bool_str a b t
    | _ => exact absurd (show false = true from fx) Bool.false_ne_true
  | int a =>
    obtain ⟨t', rfl⟩ := ry
    cases x with
    | non => cases rx; exact SeqAt.EqAt.int_none a t'
    | bl b => cases rx; exact SeqAt.EqAt.int_bool a t' b
    | int b => obtain ⟨t, rfl⟩ := rx; exact SeqAt.EqAt.int_int a t' b t
    | str b => obtain ⟨t, rfl⟩ := rx; exact SeqAt.EqAt.int_str a t' b t
    | _ => exact absurd (show false = true from fx) Bool.false_ne_true
  | str a =>
    obtain ⟨t', rfl⟩ := ry
    cases x with
    | non => cases rx; exact SeqAt.EqAt.str_none a t'
    | bl b => cases rx; exact SeqAt.EqAt.str_bool a t' b
    | int b => obtain ⟨t, rfl⟩ := rx; exact SeqAt.EqAt.str_int a t' b t
    | str b => obtain ⟨t, rfl⟩ := rx; exact SeqAt.EqAt.str_str a t' b t
    | _ => exact absurd (show false = true from fx) Bool.false_ne_true
  | _ => exact absurd (show false = true from fy) Bool.false_ne_true
/-- the items' answers, read off the values (a value's own answer does not lean on its token) -/
def eqU (x : V) (u : Value) : Bool := match u with
  | .none => eqV .non x
  | .bool b => eqV (.bl b) x
  | .int i _ => eqV (.int i) x
  | .str z _ => eqV (.str z) x
  | _ => false
theorem eqU_of {x y : V} {u : Value} (r : RelV y u) (f : flatV y = true) : eqU x u = eqV y x := by
  cases y with
  | non => cases r; rfl
  | bl b => cases r; rfl
  | int i => obtain ⟨t, rfl⟩ := r; rfl
  | str z => obtain ⟨t, rfl⟩ := r; rfl
  | _ => exact absurd (show false = true from f) Bool.false_ne_true
theorem any_eqU {x : V} : ∀ {xs : List V} {us : List Value}, Vals xs us → xs.all flatV = true → us.any (eqU x) = xs.any fun y => eqV y x
  | _, _, .nil, _ => rfl
  | y :: xs, u :: us, .cons r t, f => by
    rw [List.all_cons, Bool.and_eq_true] at f
    rw [List.any_cons, List.any_cons, eqU_of r f.1, any_eqU t f.2]
theorem mem_eqAt {A : Around} {s : Shared} {x : V} {v : Value} (rx : RelV x v) (fx : flatV x = true) : ∀ {xs : List V} {us : List Value}, Vals xs us → xs.all flatV = true → ∀ u ∈ us, SeqAt.EqAt A s u v (eqU x u)
  | _, _, .nil, _ => fun u hu => by cases hu
  | y :: xs, u :: us, .cons r t, f => fun u' hu => by
    rw [List.all_cons, Bool.and_eq_true] at f
    rcases List.mem_cons.mp hu with rfl | hu
    · rw [eqU_of r f.1]; exact eqAt_V r rx f.1 fx
    · exact mem_eqAt rx fx t f.2 u' hu
def inV (x : V) (xs : List V) : Bool := xs.any fun y => eqV y x
/-- x in a list or tuple of flat items -/
def rIn (K : PySem.W.Frag) (neg : Bool) : R2 := fun x y H Q => ∃ p xs, y = .ref p ∧ (SqL K H p xs ∨ SqT K H p xs) ∧ flatV x = true ∧ xs.all flatV = true ∧ Q (.bl (if neg then !inV x xs else inV x xs)) H
theorem op_in_seq : OpR X (compareOp .In) (rIn X.K false) := by
  intro pins s σ H x y v u Q I rx ry h
  obtain ⟨p, xs, rfl, hq, fx, fs, q⟩ := h
  cases ry
  rcases hq with hq | hq
  · obtain ⟨its, r, pl, hz⟩ := I.list hq
    refine SeqAt.in_listAt (eqU x) pl.isList (fun w hw => mem_eqAt rx fx r fs w (by simpa using hw)) ⟨.bl _, H, I, rfl, ?_⟩
    rw [show its.toArray.any (eqU x) = its.any (eqU x) by simp, any_eqU r fs]
    exact q
  · obtain ⟨its, r, pl, hz⟩ := I.tuple hq
    refine SeqAt.in_tupleAt (eqU x) pl (fun w hw => mem_eqAt rx fx r fs w (by simpa using hw)) ⟨.bl _, H, I, rfl, ?_⟩
    rw [show its.toArray.any (eqU x) = its.any (eqU x) by simp, any_eqU r fs]
    exact q
/-! ### len, list(x), tuple(x) of any list or tuple that is read -/
theorem call_len_seq : CallR X (.builtin "len") (fun xs H Q => ∃ p ys, xs = [.ref p] ∧ (SqL X.K H p ys ∨ SqT X.K H p ys) ∧ Q (.int ys.length) H) := by
  intro pins s σ H xs us Q I r h
  obtain ⟨p, ys, rfl, hq, q⟩ := h
  obtain ⟨u, rfl, rx⟩ := vals1 r
  cases rx
  have hn := line63
  rcases hq with hq | hq
  · obtain ⟨its, r', pl, hz⟩ := I.list hq
    have hlen := r'.length
    exact Calls.call_len_list pl.isList (by simp only [List.size_toArray] <;> omega) ⟨.int ys.length, H, I.tok _, ⟨s.toks + 1, by rw [List.size_toArray, hlen]⟩, q⟩
  · obtain ⟨its, r', pl, hz⟩ := I.tuple hq
    have hlen := r'.length
    exact len_tuple pl (by simp only [List.size_toArray] <;> omega) ⟨.int ys.length, H, I.tok _, ⟨s.toks + 1, by rw [List.size_toArray, hlen]⟩, q⟩
theorem call_len_str : CallR X (.builtin "len") (fun xs H Q => ∃ z, xs = [.str z] ∧ z.length ≤ sizeLine ∧ Q (.int z.length) H) := by
  intro pins s σ H xs us Q I r h
  obtain ⟨z, rfl, hz, q⟩ := h
  obtain ⟨u, rfl, t, rfl⟩ := vals1 r
  have hn := line63
  exact len_str (by omega) ⟨.int z.length, H, I.tok _, ⟨_, rfl⟩, q⟩
theorem CallR.or {f : Value} {r r' : List V → Hp → VK → Prop} (h : CallR X f r) (h' : CallR X f r') : CallR X f (fun xs H Q => r xs H Q ∨ r' xs H Q) := by
  intro pins s σ H xs us Q I rs q
  rcases q with q | q
  · exact h pins s σ H xs us Q I rs q
  · exact h' pins s σ H xs us Q I rs q
/-! ### the call of a builtin's method: o.m(..) -/
/-- the value is of that builtin type -/
def tyV (K : PySem.W.Frag) (T : String) (x : V) (H : Hp) : Prop := match x with
  | .str _ => T = "str"
  | .int _ => T = "int"
  | .ref p => (T = "list" ∧ ∃ xs, SqL K H p xs) ∨ (T = "tuple" ∧ ∃ o, K.lookup p = some o ∧ o.cls = .type "tuple" ∧ o.dict = none) ∨
      (T = "dict" ∧ ((∃ kvs, H p = some (.dK kvs)) ∨ ∃ kvs, H p = some (.dT kvs))) ∨ (T = "set" ∧ ∃ S n, H p = some (.set S n))
  | _ => False
theorem tyV_is {pins : List (Addr × Obj)} {σ : St} {H : Hp} {s : Shared} {T : String} {x : V} {v : Value} (I : Inv X pins σ H s) (r : RelV x v) (ty : tyV X.K T x H) :
    s.TypeIs v T ∧ ∀ a, v = .ref a → ∃ ob, s.heap.get? a = some ob ∧ ob.dict = none := by
  cases x with
  | str z =>
    obtain ⟨t, rfl⟩ := r
    cases (show T = "str" from ty)
    exact ⟨typeIs_str s z t, fun _ e => nomatch e⟩
  | int i =>
    obtain ⟨t, rfl⟩ := r
    cases (show T = "int" from ty)
    exact ⟨typeIs_int s i t, fun _ e => nomatch e⟩
  | ref p =>
    cases r
    rcases ty with ⟨rfl, xs, hq⟩ | ⟨rfl, o, hk, hc, hd⟩ | ⟨rfl, hk⟩ | ⟨rfl, S, n, hk⟩
    · obtain ⟨its, _, pl, _⟩ := I.list hq
      refine ⟨pl.isList.typeIs, fun a e => ?_⟩
      cases e
      obtain ⟨o, n, e, c, hd, _⟩ := pl
      exact ⟨o, e, hd⟩
    · refine ⟨⟨o, I.kIn p o hk, hc⟩, fun a e => ?_⟩
      cases e
      exact ⟨o, I.kIn _ o hk, hd⟩
    · have z : ∃ o, s.heap.get? p = some o ∧ o.ExactDict := by
        rcases hk with ⟨kvs, hk⟩ | ⟨kvs, hk⟩
        · obtain ⟨_, _, _, _, o, _, _, e, ex, _⟩ := I.hok p _ hk
          exact ⟨o, e, ex⟩
        · obtain ⟨_, _, _, _, o, _, _, e, ex, _⟩ := I.hok p _ hk
          exact ⟨o, e, ex⟩
      obtain ⟨o, e, ex⟩ := z
      refine ⟨⟨o, e, ex.1⟩, fun a e2 => ?_⟩
      cases e2
      exact ⟨o, e, ex.2.1⟩
    · obtain ⟨o, _, _, _, e, ex, _⟩ := I.hok p _ hk
      refine ⟨⟨o, e, ex.1⟩, fun a e2 => ?_⟩
      cases e2
      exact ⟨o, e, ex.2.1⟩
  | _ => exact False.elim ty
def tBM0 (K : PySem.W.Frag) (T : String) (r : V → List V → Hp → VK → Prop) (to : TE) : TE := fun σ H Q => to σ H fun x H1 => tyV K T x H1 ∧ r x [] H1 Q
def tBM (K : PySem.W.Frag) (T : String) (r : V → List V → Hp → VK → Prop) (to : TE) (t : TA) : TE := fun σ H Q => to σ H fun x H1 => tyV K T x H1 ∧ t σ H1 fun xs H2 => r x xs H2 Q
variable {o e : Expr} {es : List Expr} {to : TE} {t : TA} {name : Str} {apos cpos : Pos} {T id : String} {r : V → List V → Hp → VK → Prop}
theorem pe_bm (pa : PlainAttrs T) (slot : Slot T name id) (hty : typeOf (.builtin id) = pure (.type "method_descriptor")) (hm : MtR X id r) (ho : PE X o to) (ha : PA X (e :: es) t)
    (hbase : attributeBase o name X.env (eval o X.env) = eval o X.env := by rfl)
    (hfew : ((backTo cpos (starEach (e :: es) X.env)).all (fun x => !x.1) && (backToKw cpos (keywordEach [] X.env)).all (fun x => x.1.isSome)
      && decide ((e :: es).length + ([] : List Keyword).length + (if ([] : List Keyword).isEmpty then 0 else 1) < 30)) = true := by rfl)
    (hline : (apos.endLine == cpos.line) = true := by rfl) (hs : starEach (e :: es) X.env = (false, eval e X.env) :: starEach es X.env := by rfl) (hplain : (backTo cpos (starEach es X.env)).any (·.1) = false := by rfl) :
    PE X (.Call (.Attribute o name apos) (e :: es) [] cpos) (tBM X.K T r to t) := by
  intro pins s σ H Q I h
  refine wpAny_Call_method_late hbase hfew hline rfl (thn (ho pins s σ H _ I h) fun v s1 ⟨x, H1, I1, r1, ty, q1⟩ => ?_)
  obtain ⟨h1, h2⟩ := tyV_is I1 r1 ty
  refine ⟨T, id, pa, slot, hty, h1, h2, ?_⟩
  have hA := ha cpos pins s1 σ H1 _ I1 q1
  rw [hs] at hA ⊢
  refine Calls.callWith_builtin (by show (false || (backTo cpos (starEach es X.env)).any (·.1)) = false; rw [hplain] <;> rfl) (Calls.evalArgs_plain ?_)
  exact thn hA fun us s2 ⟨vs, H2, I2, r2, q2⟩ => hm pins s2 σ H2 x vs v us Q I2 r1 r2 q2
/- xs.append(e), list.index on a module's tuple .. are MtR facts of 06m -/
end
end L2

namespace L2
open PySem PySem.Spec PyProof.Rows

def MtM (X : Cx) (id : String) (r : V → List V → Hp → VK → Prop) : Prop :=
  ∀ (pins : List (Addr × Obj)) (s : Shared) (σ : St) (H : Hp) (x : V) (xs : List V) (v : Value) (us : List Value) (Q : VK), Inv X pins σ H s → RelV x v → Vals xs us → r x xs H Q →
    wpAny (model X.prog X.w) X.A (call (.builtin id) (v :: us)) (EP X pins σ Q) X.xe s

/-! ### lists of values -/
theorem Vals.one : ∀ {x : V} {us : List Value}, Vals [x] us → ∃ u, us = [u] ∧ RelV x u
  | _, _, .cons r .nil => ⟨_, rfl, r⟩
theorem Vals.two : ∀ {x y : V} {us : List Value}, Vals [x, y] us → ∃ u v, us = [u, v] ∧ RelV x u ∧ RelV y v
  | _, _, _, .cons r (.cons q .nil) => ⟨_, _, rfl, r, q⟩
theorem Vals.zero : ∀ {us : List Value}, Vals [] us → us = []
  | _, .nil => rfl
theorem Vals.dropLast {xs : List V} {us : List Value} (h : Vals xs us) : Vals xs.dropLast us.dropLast := by
  induction h with
  | nil => exact .nil
  | cons r t ih =>
    cases t with
    | nil => exact .nil
    | cons q t' => exact .cons r ih
theorem Vals.eraseIdx : ∀ {xs : List V} {us : List Value} (i : Nat), Vals xs us → Vals (xs.eraseIdx i) (us.eraseIdx i)
  | _, _, _, .nil => .nil
  | _, _, 0, .cons _ t => t
  | _, _, i + 1, .cons r t => .cons r (Vals.eraseIdx i t)
theorem Vals.reverse {xs : List V} {us : List Value} (h : Vals xs us) : Vals xs.reverse us.reverse := by
  induction h with
  | nil => exact .nil
  | cons r t ih => rw [List.reverse_cons, List.reverse_cons]; exact Vals.append ih (.cons r .nil)
theorem Vals.rep {xs : List V} {us : List Value} (h : Vals xs us) : ∀ k : Nat, Vals (List.replicate k xs).flatten (List.replicate k us).flatten
  | 0 => .nil
  | k + 1 => by
    rw [List.replicate_succ, List.replicate_succ, List.flatten_cons, List.flatten_cons]
    exact Vals.append h (Vals.rep h k)
theorem foldl_rep (its : List Value) : ∀ (k : Nat) (acc : List Value),
    List.foldl (fun x1 x2 => x1 ++ x2) acc.toArray (List.replicate k its.toArray) = (acc ++ (List.replicate k its).flatten).toArray
  | 0, acc => by simp
  | k + 1, acc => by
    have e : acc.toArray ++ its.toArray = (acc ++ its).toArray := by simp
    have e2 : (acc ++ its) ++ (List.replicate k its).flatten = acc ++ (List.replicate (k + 1) its).flatten := by
      rw [List.replicate_succ, List.flatten_cons, List.append_assoc]
    rw [← e2, ← foldl_rep its k (acc ++ its), ← e, List.replicate_succ, List.foldl_cons]

section
variable {X : Cx} {pins : List (Addr × Obj)} {σ : St} {H : Hp} {s : Shared} {l b : Addr} {xs ys zs : List V}

/-! ### the two steps: a tracked list is rewritten, a new list is laid -/
theorem Inv.lset {its its' : List Value} {n : Nat} {f : Array Value → Array Value} {t' : Nat} (I : Inv X pins σ H s) (hH : H l = some (.lst xs))
    (e : s.heap.get? l = some { cls := .type "list", data := .seq its.toArray n }) (hf : f its.toArray = its'.toArray) (hv : Vals ys its') (hz : ys.length ≤ sizeLine) :
    Inv X pins σ (upd H l (.lst ys)) { s with heap := s.heap.update l (Obj.mapSeq f), toks := t' } := by
  have q := PySem.IsL.update e f
  rw [hf] at q
  refine I.write (x := l) (e := l) (by rw [hH]; exact trivial) (.inl rfl) (fun b' u hb hu => (Heap.get?_update_other s.heap (Obj.mapSeq f) (Ne.symm hb)).trans hu) ⟨_, q⟩ ?_
  exact ⟨hz, its', _, hv, q⟩
theorem Inv.lnew {its : List Value} {t' : Nat} (I : Inv X pins σ H s) (hv : Vals ys its) (hz : ys.length ≤ sizeLine) :
    Inv X pins σ (upd H s.heap.objs.size (.lst ys)) { s with heap := s.heap.push { cls := .type "list", data := .seq its.toArray }, toks := t' } :=
  I.laid (fun _ _ q => Heap.get?_push_of_some _ q) (Nat.le_refl _) ⟨hz, its, 0, hv, Heap.get?_push_size _ rfl⟩
theorem Inv.fresh (I : Inv X pins σ H s) : H s.heap.objs.size = none := I.hok.fresh (Nat.le_refl _)
theorem Inv.lstM (I : Inv X pins σ H s) (hH : H l = some (.lst xs)) : xs.length ≤ sizeLine ∧ ∃ (its : List Value) (n : Nat), Vals xs its ∧ xs.length = its.length ∧ s.heap.get? l = some { cls := .type "list", data := .seq its.toArray n } := by
  obtain ⟨z, its, n, r, e⟩ := I.hok l _ hH
  exact ⟨z, its, n, r, r.length, e⟩

theorem notLongL {n : Nat} (h : n ≤ sizeLine) : Builtin.List.listTooLong n = false := by
  unfold Builtin.List.listTooLong
  exact decide_eq_false (by omega)
end

section
variable {X : Cx}

/-! ### methods -/
def rAppend : V → List V → Hp → VK → Prop := fun x vs H Q => ∃ l xs y, x = .ref l ∧ vs = [y] ∧ H l = some (.lst xs) ∧ xs.length < sizeLine ∧ Q .non (upd H l (.lst (xs ++ [y])))
theorem mt_append : MtM X "list.append" rAppend := by
  intro pins s σ H x vs v us Q I rx rv h
  obtain ⟨l, xs, y, rfl, rfl, hH, hz, q⟩ := h
  cases rx
  obtain ⟨u, rfl, ru⟩ := rv.one
  obtain ⟨z, its, n, r, hl, e⟩ := I.lstM hH
  refine call_meets F.slot_list_append ⟨_, e, rfl⟩ F.entry_list_append (F.args_list_append_2 _ _) (PySem.list_append l its.toArray n u (by rw [List.size_toArray]; omega)) ⟨e, ?_⟩
  refine ⟨.non, _, I.lset (its' := its ++ [u]) hH e (by simp) (r.append (.cons ru .nil)) ?_, rfl, q⟩
  rw [List.length_append, List.length_singleton]
  omega

def rExtend : V → List V → Hp → VK → Prop := fun x vs H Q => ∃ l b xs zs, x = .ref l ∧ vs = [.ref b] ∧ H l = some (.lst xs) ∧ H b = some (.lst zs) ∧ xs.length + zs.length ≤ sizeLine ∧ Q .non (upd H l (.lst (xs ++ zs)))
def rPop : V → List V → Hp → VK → Prop := fun x vs H Q => ∃ l xs y, x = .ref l ∧ vs = [] ∧ H l = some (.lst xs) ∧ xs[xs.length - 1]? = some y ∧ Q y (upd H l (.lst xs.dropLast))
def rPopAt : V → List V → Hp → VK → Prop := fun x vs H Q => ∃ l xs i k y, x = .ref l ∧ vs = [.int i] ∧ H l = some (.lst xs) ∧ -(2 ^ 63) ≤ i ∧ i < 2 ^ 63 ∧ seqIndex? i xs.length = some k ∧ xs[k]? = some y ∧ Q y (upd H l (.lst (xs.eraseIdx k)))
def rReverse : V → List V → Hp → VK → Prop := fun x vs H Q => ∃ l xs, x = .ref l ∧ vs = [] ∧ H l = some (.lst xs) ∧ Q .non (upd H l (.lst xs.reverse))
def rClear : V → List V → Hp → VK → Prop := fun x vs H Q => ∃ l xs, x = .ref l ∧ vs = [] ∧ H l = some (.lst xs) ∧ Q .non (upd H l (.lst []))
/-! ### list + list, list += list, list * int -/
def rCat : R2 := fun x y H Q => ∃ l b xs zs, x = .ref l ∧ y = .ref b ∧ H l = some (.lst xs) ∧ H b = some (.lst zs) ∧ xs.length + zs.length ≤ sizeLine ∧ ∀ p, H p = none → Q (.ref p) (upd H p (.lst (xs ++ zs)))
/-- a list times an int (a negative one is nothing) -/
def rRep : R2 := fun x y H Q => ∃ l k xs, x = .ref l ∧ y = .int k ∧ H l = some (.lst xs) ∧ -(2 ^ 63) ≤ k ∧ k < 2 ^ 63 ∧ xs.length * k.toNat ≤ sizeLine ∧
  ∀ p, H p = none → Q (.ref p) (upd H p (.lst (List.replicate k.toNat xs).flatten))
theorem len_rep {α : Type} (xs : List α) (k : Nat) : (List.replicate k xs).flatten.length = k * xs.length := by
  induction k with
  | zero => simp
  | succ k ih => rw [List.replicate_succ, List.flatten_cons, List.length_append, ih, Nat.succ_mul, Nat.add_comm]
theorem op_rep : OpR X (binaryOp .Mult) rRep := by
  intro pins s σ H x y v u Q I rx ry h
  obtain ⟨l, k, xs, rfl, rfl, hH, h1, h2, hz, q⟩ := h
  cases rx
  obtain ⟨t, rfl⟩ := ry
  obtain ⟨z, its, n, r, hl, e⟩ := I.lstM hH
  have hlen : its.toArray.size * k.toNat ≤ sizeLine := by rw [List.size_toArray, ← hl]; exact hz
  have hcap : ¬ its.toArray.size * k.toNat > (2 ^ 63 - 1) / 8 := by
    have : (sizeLine : Nat) ≤ (2 ^ 63 - 1) / 8 := by decide
    omega
  have hfit : ¬ (!Builtin.List.listFitsIndex k) = true := by
    rw [fitsIndex_both h1 h2]
    exact Bool.false_ne_true
  have hlong : ¬ Builtin.List.listTooLong (its.toArray.size * k.toNat) = true := by
    rw [notLongL hlen]
    exact Bool.false_ne_true
  have hnew : List.foldl (fun x1 x2 => x1 ++ x2) #[] (List.replicate (if its.toArray.isEmpty = true then 0 else k.toNat) its.toArray) = (List.replicate k.toNat its).flatten.toArray := by
    have f0 : ∀ m : Nat, List.foldl (fun x1 x2 => x1 ++ x2) #[] (List.replicate m its.toArray) = (List.replicate m its).flatten.toArray := fun m => by
      have := foldl_rep its m []
      rw [List.nil_append] at this
      exact this
    rw [f0]
    cases its with
    | nil => simp
    | cons a r' => rw [if_neg (by simp)]
  refine wpAny_binaryOp_repeat_ref (T := "list") (U := "int") (by decide) ⟨_, e, rfl⟩ (fun s' => typeIs_int s' k t) noFill_list_mul F.fills_int_mul F.slot_int_rmul repeat_list F.slot_int_index.lookup
    (call_meets F.slot_int_rmul (typeIs_int s k t) F.entry_int_rmul (F.args_int_rmul_2 _ _) (int___rmul___int_list k t l its.toArray n)
      ⟨e, rfl, ⟨_, e, rfl⟩, call_meets F.slot_list_mul ⟨_, e, rfl⟩ F.entry_list_mul (F.args_list_mul_2 _ _) (AutoListH.list___mul___list_int_3 l its.toArray n k t hfit hcap hlong) ⟨e, ?_⟩⟩)
  rw [hnew]
  exact ⟨.ref _, _, I.lnew (t' := s.toks) (r.rep k.toNat) (by rw [len_rep, Nat.mul_comm]; exact hz), rfl, q _ I.fresh⟩

/-! ### del xs[i] -/
end

/-! ### xs[a:b] = ys -/
section
variable {prog : Program} {w : World} {A : Around} {E : Value → Shared → Prop} {s : Shared}
theorem bounds_run {a c n : Nat} (hac : a ≤ c) (hc : c ≤ n) : sliceBounds (some (a : Int)) (some (c : Int)) none n = ((a : Int), (c : Int), 1) := by
  simp only [sliceBounds, Option.getD_none]
  have h1 : ¬ ((a : Int) < 0) := by omega
  have h2 : ¬ ((c : Int) < 0) := by omega
  simp only [h1, h2, if_false, show (1 : Int) > 0 by decide, if_true]
  congr 1
  · omega
  · congr 1; omega
set_option maxRecDepth 100000 in
/-- list.__setitem__ with a slice of step one and another list -/
theorem setItem_slice {l b sl : Addr} {items new : Array Value} {n n2 : Nat} {vl vu : Value} {a c : Nat} {Q : Unit → Shared → Prop}
    (e : s.heap.get? l = some { cls := .type "list", data := .seq items n }) (e2 : s.heap.get? b = some { cls := .type "list", data := .seq new n2 }) (hne : l ≠ b)
    (hs : s.heap.IsSliceOf sl vl vu .none) (pl : IsPart vl (some (a : Int))) (pu : IsPart vu (some (c : Int))) (hac : a ≤ c) (hc : c ≤ items.size)
    (hsz : items.size + new.size ≤ sizeLine) (h : Q () { s with heap := s.heap.update l (Obj.mapSeq fun xs => xs.extract 0 a ++ new ++ xs.extract c xs.size) }) :
    wpAny (model prog w) A (setItem (.ref l) (.ref sl) (.ref b)) Q E s := by
  have hl : s.heap.IsList l items := PySem.IsL.isList e
  have hb : s.heap.IsList b new := PySem.IsL.isList e2
  obtain ⟨os, hos, hcs, hds⟩ := id hs
  have hTs : s.TypeIs (.ref sl) "slice" := ⟨os, hos, hcs⟩
  have hstep : ¬ ((rawPart none == rawInt 0) = true) := Bool.false_ne_true
  have hsame : Builtin.List.listSameRef (.ref l) (.ref b) = false := by
    unfold Builtin.List.listSameRef
    exact beq_eq_false_iff_ne.mpr hne
  have hmax : (max (a : Int) (c : Int)).toNat = c := by omega
  have hz' : ((fun xs : Array Value => xs.extract 0 a ++ new ++ xs.extract c xs.size) items).size ≤ sizeLine + 1 := by
    simp only [Array.size_append, Array.size_extract]
    omega
  unfold setItem
  try with_reducible refine wpAny_holding ?_
  first | refine wpAny_bind (wpAny_pure ?_) | skip
  refine wpAny_bind (wpAny_sequenceKey hl.typeIs (by decide) ?_)
  refine wpAny_bind (wpAny_callSpecial?_slot (name := Str.ofString "__setitem__") hl.typeIs slot_list_setitem
    (wpAny_call_entry slot_list_setitem hl.typeIs entry_list_setitem ?_ (args_list_setitem _ _ _)))
  show wpAny _ _ (Builtin.List.listSubscript? (.ref sl) >>= _) _ _ s
  refine wpAny_bind ?_
  unfold Builtin.List.listSubscript?
  refine wpAny_bind (wpAny_specialOf hTs slice_no_index ?_)
  simp only [Option.isNone_none, if_true]
  refine wpAny_pure ?_
  show wpAny _ _ (typeOf (.ref sl) >>= _) _ _ s
  refine wpAny_bind (wpAny_typeOf hTs ?_)
  first
    | rw [if_neg (by decide)]
    | refine PySem.W.KFB.if_not (by decide) ?_
  rw [listSliceParts_eq]
  refine wpAny_bind (wpAny_bind (wpAny_field hos hds (x := .none) rfl (wpAny_bind (wpAny_listPart .none ?_))))
  rw [if_neg hstep]
  refine wpAny_bind (wpAny_field hos hds (x := vl) rfl (wpAny_bind (wpAny_listPart pl ?_)))
  refine wpAny_bind (wpAny_field hos hds (x := vu) rfl (wpAny_bind (wpAny_listPart pu (wpAny_pure ?_))))
  first
    | simp only [hsame, Bool.false_eq_true, if_false]
    | refine PySem.W.KFB.if_not hsame ?_
    | (dsimp only
       rw [if_neg (by rw [hsame]; exact Bool.false_ne_true)])
  refine wpAny_bind (m := Builtin.List.listAllItems (.ref b) "must assign iterable to extended slice") ?_
  unfold Builtin.List.listAllItems
  refine wpAny_bind (wpAny_typeOf hb.typeIs ?_)
  first
    | refine PySem.W.KFB.if_so (by decide) ?_
    | rw [if_pos (by decide)]
    | simp only [beq_self_eq_true, Bool.true_or, if_true]
  unfold Builtin.List.listItems
  refine wpAny_bind (wpAny_seqItems e2 rfl (wpAny_pure ?_))
  refine wpAny_bind (wpAny_bind (wpAny_seqItems e rfl (wpAny_pure ?_)))
  refine wpAny_bind (wpAny_of_eq ((sliceIndices_raw (some (a : Int)) (some (c : Int)) none items.size (by simp)).trans (congrArg (pure : Int × Int × Int → Sem (Int × Int × Int)) (bounds_run hac hc))) ?_)
  show wpAny _ _ (if ((1 : Int) == 1) = true then _ else _) _ _ s
  rw [if_pos (by decide)]
  refine wpAny_bind (wpAny_rule ?_)
  first
    | simp only [notLongL hsz, Bool.false_eq_true, if_false]
    | refine PySem.W.KFB.if_not (notLongL hsz) ?_
  first | refine wpAny_bind (wpAny_pure ?_) | skip
  show wpAny _ _ (updateSeq l (fun xs => xs.extract 0 ((a : Int)).toNat ++ new ++ xs.extract (max (a : Int) (c : Int)).toNat xs.size) >>= _) _ _ s
  rw [hmax, Int.toNat_natCast]
  refine wpAny_bind (wpAny_updateSeq (hz := Nat.le_trans (Nat.le_add_right _ _) hsz) (_hz' := hz') e rfl ?_)
  refine wpAny_bind (wpAny_letGo ?_)
  first
    | exact wpAny_bind (wpAny_pure (wpAny_pure ⟨.none, rfl, wpAny_pure h⟩))
    | exact wpAny_pure ⟨.none, rfl, wpAny_pure h⟩
end

section
variable {X : Cx}
end
end L2

namespace Att
open PySem PySem.W PySem.Calls PyProof.Rows

/-! ### the script -/
theorem ints_of_wellAll {P : Params} {h : Heap} : ∀ (ns : List Int) (vs : List Value), WellAll P h vs (ns.map WData.int) → IntsAre vs ns := by
  intro ns
  induction ns with
  | nil =>
    intro vs w
    rw [List.map_nil] at w
    cases w
    exact .nil
  | cons n ns ih =>
    intro vs w
    rw [List.map_cons] at w
    cases w with
    | cons a b =>
      cases a
      exact .cons _ _ (ih _ b)

theorem script_of {l : OpenLaw} {n : Nat} (hn : l.most = some n) {P : Params} {h : Heap} {args : List WData} {vals : List Value}
    (hpre : l.row.toRowW.claim.pre args = true) (hwl : WellAll P h vals args) :
    ∃ a vs ns, vals = [Value.ref a] ∧ args = [WData.list (ns.map WData.int)] ∧ h.get? a = some { cls := .type "list", data := .seq vs.toArray } ∧ IntsAre vs ns ∧ ns.length ≤ n := by
  have hsh : WShape.hasAll [] args [.list .int] = true := (pre_splitW hpre).1
  have hc : l.pre.holds [] { args := args } = true := (pre_splitW hpre).2
  obtain ⟨d, r, rfl, h1, h2⟩ := hasAllW_cons hsh
  obtain rfl := hasAllW_nil h2
  obtain ⟨xs, rfl, h3⟩ := hasW_list h1
  obtain ⟨ns, rfl⟩ := items_int h3
  have hlen : ns.length ≤ n := by
    unfold OpenLaw.pre at hc
    have h4 : (WTm.not (.lt (.lit (.int (n : Int))) (.len (.arg 0)))).holds [] { args := [.list (ns.map .int)] } = true := by
      have h4 := (holds_andW hc).1
      rw [hn] at h4
      exact h4
    have h5 := condW_of h4 (w_not (w_lt w_lit (w_len_list (w_arg rfl))))
    rw [List.length_map] at h5
    refine Nat.le_of_not_lt fun q => ?_
    have q' : (n : Int) < ((ns.length : Nat) : Int) := by omega
    first
      | (rw [decide_eq_true q'] at h5; exact absurd h5 (by decide))
      | (simp at h5; omega)
  cases hwl with
  | cons w1 w2 =>
    cases w2
    cases w1 with
    | list ho hall => exact ⟨_, _, ns, rfl, rfl, ho, ints_of_wellAll ns _ hall, hlen⟩

theorem post_true (l : OpenLaw) (args : List WData) : l.row.toRowW.claim.post args (.bool true) args = true :=
  postW_of (r := l.row.toRowW) (X := (true == true))
    (show WShape.has [] (.bool true) .bool = true by first | rfl | decide | simp [WShape.has, WShape.arms, WShape.armsAll])
    (show (WTm.eq .res (.lit (.bool true))).value [] { args := args, res := some (.bool true), after := args } = some (.bool (true == true)) from w_eq_bool (w_res rfl) w_lit) rfl

/-! ### the attachment: holds_open's last premise (the goal 'hc' behind k_head) from a wpAny of the law's body -/
/-- the same from a codeAny of the CALL (for a layer whose function contracts speak of calls) -/
theorem attach_call {l : OpenLaw} {n : Nat} {q : Program} {loose : List Str} {XP : (Str → Option Value) → Heap → Prop} {YP : World → Heap → Prop} {d : DefRec}
    (hn : l.most = some n) (hdf : d.params.defaults = [])
    (call : ∀ (w : World) (s₀ s₁ : Shared) (mg mb : Str → Option Value) (fa : Addr) (o : Obj) (pm cd doc : Value) (a : Addr) (vs : List Value) (ns : List Int),
      Ground q loose [] XP w s₀ mg mb s₁.heap → YP w s₁.heap →
      s₁.heap.get? fa = some o → o.data = .func (docDef d.name d.params d.body d.scope pm cd doc) → s₁.heap.CodeRec cd d.name → mg d.name = some (.ref fa) →
      s₁.heap.get? a = some { cls := .type "list", data := .seq vs.toArray } → IntsAre vs ns → ns.length ≤ n → s₁.gens = #[] →
      codeAny (model l.prog w) callerA (.call (.ref fa) ⟨[.ref a], []⟩) (fun r s' => r = .ok (.ret (.bool true)) ∧ OldK s₁.heap s'.heap ∧ s'.os = s₁.os ∧ AllBare s'.gens) s₁) :
    WalkO q loose XP YP l.row.toRowW d [] (fun f vs => PySem.call f vs) := by
  intro w s₀ s₁ mg mb G Y fa o pm cd doc dV kV ho hd hcd hD hmg hg args vals as hpre hlay hrd hwl hlo
  obtain rfl : dV = .none := Dflts.none hD hdf
  obtain rfl : kV = .none := Dflts.noKw hD
  obtain ⟨a, vs, ns, rfl, rfl, hobj, hints, hlen⟩ := script_of hn hpre hwl
  refine enter_call (codeAny_mono (call w s₀ s₁ mg mb fa o pm cd doc a vs ns G Y ho (fd_plain hd) hcd hmg hobj hints hlen hg) fun r s' hq => ?_)
  obtain ⟨rfl, h2, h3, h4⟩ := hq
  exact ⟨.inl ⟨.bool true, .bool true, [], rfl, fun _ => rfl, .bool true, post_true l _, fun _ => ⟨List.Pairwise.nil, fun _ hm => (nomatch hm)⟩⟩, h2, h3, h4⟩

/-! ### rules over ANY heap (no ledger) from facts about the written part K: the library's own take a ledger (News) for what they write -/
section
variable {prog : Program} {w : World} {A : Around} {E : Value → Shared → Prop} {s : Shared} {K : Frag}

/-! the whole heap as the ledger: makes every rule that writes through a ledger a rule over any heap -/
def noObjs (h : Heap) : Heap := { h with objs := #[] }
def ledger (h : Heap) (L d : Addr) : List (Addr × Obj) := (List.range h.objs.size).filterMap fun a => if a = L ∨ a = d then none else (h.get? a).map fun o => (a, o)
end
end Att

namespace L2
open PySem PySem.Spec PyProof.Rows

theorem vals_ints : ∀ {vs : List Value} {ns : List Int}, IntsAre vs ns → Vals (ns.map V.int) vs
  | _, _, .nil => .nil
  | _, _, .cons n t h => .cons ⟨t, rfl⟩ (vals_ints h)

/-- nothing is tracked but the script, known to the object (or it is an object of the module) -/
def Only (H : Hp) : Prop := ∀ b, H b = none ∨ ∃ o xs, H b = some (.frz o (.lst xs))

/-- THE HEAD: the law's promise, at the heap behind the top. F, the promise of the law's def, may use that base is part of the heap (so K.In base, base.Ns mainGlobals mg stand in Mod) -/
theorem law_call {P : Program} {w : World} {K : PySem.W.Frag} {mg mb : Str → Option Value} {CX : CXT} {k : Nat} {fa a : Addr} {fd : FuncData} {x : Str} {sp : Sp} {s₁ : Shared} {vs : List Value} {ns : List Int}
    (KX : K.In s₁.heap) (hns : s₁.heap.Ns mainGlobals mg) (hb : s₁.heap.Ns builtinsNs mb) (hbb : ∀ x : Str, x ≠ "__name__" → mb x = bootBuiltins x) (hlim : s₁.heap.NoLimit) (hg : s₁.gens = #[])
    (ha : s₁.heap.get? a = some { cls := .type "list", data := .seq vs.toArray }) (hi : IntsAre vs ns) (hl : ns.length ≤ sizeLine) (hr : Room k callerA)
    (F : ∀ base : Heap, K.In base → base.Ns mainGlobals mg → FnOk P w K mg base CX k fa fd [x] sp) (hbind : ∀ (s : Shared) (u : Value), BindsTo s fd ⟨[u], []⟩ [(x, u)])
    (hsp : ∀ H : Hp, Only H → SqL K H a (ns.map V.int) → sp [.ref a] H (fun v _ => v = .bl true) fun _ _ _ => False)
    (hCX : ∀ H e s', CX [] H s₁ (fun _ _ _ => False) e s' → False) :
    codeAny (model P w) callerA (.call (.ref fa) ⟨[.ref a], []⟩) (fun r s' => r = .ok (.ret (.bool true)) ∧ OldK s₁.heap s'.heap ∧ s'.os = s₁.os ∧ AllBare s'.gens) s₁ := by
  have rv := vals_ints hi
  have lenV := hi.length
  -- from an abstract heap in which nothing but the script may be tracked
  have core : ∀ H : Hp, Only H → SqL K H a (ns.map V.int) → HOk P w H s₁.heap → (∀ b, H b ≠ none → b = a) → (H a ≠ none → K.lookup a = none) →
      codeAny (model P w) callerA (.call (.ref fa) ⟨[.ref a], []⟩) (fun r s' => r = .ok (.ret (.bool true)) ∧ OldK s₁.heap s'.heap ∧ s'.os = s₁.os ∧ AllBare s'.gens) s₁ := by
    intro H hO hS hok hA hK
    have base_of : ∀ {b : Addr} {o : Obj}, s₁.heap.get? b = some o → H b = none → (hidT s₁.heap H).get? b = some o := fun e n => hidT_get e n
    have noA : ∀ {b : Addr} {o : Obj} {es : Array DictEntry} {ep : Nat}, s₁.heap.get? b = some o → o.data = .dict es ep → H b = none := fun {b o es ep} e d => by
      cases q : H b with
      | none => rfl
      | some u =>
        have e' : b = a := hA b (by rw [q]; simp)
        subst e'
        rw [ha] at e; cases e
        have d' : Data.seq vs.toArray _ = Data.dict es ep := d
        cases d'
    have nsK : ∀ {b : Addr} {m : Str → Option Value}, s₁.heap.Ns b m → (hidT s₁.heap H).Ns b m := fun {b m} ⟨o, es, ep, e, d, r⟩ => ⟨o, es, ep, base_of e (noA e d), d, r⟩
    have hKb : K.In (hidT s₁.heap H) := fun b o e => base_of (KX b o e) (by
      cases q : H b with
      | none => rfl
      | some u =>
        have e' : b = a := hA b (by rw [q]; simp)
        subst e'
        rw [hK (by rw [q]; simp)] at e; cases e)
    have hM : Mod K mg (hidT s₁.heap H) := ⟨hKb, nsK hns, ⟨mb, nsK hb, hbb⟩, let ⟨mc, h1, h2⟩ := hlim; ⟨mc, nsK h1, h2⟩⟩
    have e0 : Env0 P w K mg (hidT s₁.heap H) callerA [] s₁ H := ⟨rfl, hM, fun b o e => of_hidT e, Nat.le_of_eq (hidT_size _ _), trivial, fun b hb => absurd (show b ∈ ([] : List Addr) from hb) (by simp), hok, .of_eq hg⟩
    refine codeAny_mono ((F _ hKb (nsK hns)).run callerA [] s₁ H ⟨[.ref a], []⟩ [.ref a] [.ref a] _ _ hr e0 (hbind s₁ (.ref a)) (.cons rfl .nil) (hsp H hO hS)) fun r s' h => ?_
    cases r with
    | error e => exact (hCX H e s' h).elim
    | ok fl =>
      cases fl with
      | next => exact False.elim h
      | brk => exact False.elim h
      | cont => exact False.elim h
      | ret u =>
        obtain ⟨v, H', os, bare, un, hok', r', q⟩ := h
        have q' : v = .bl true := q
        subst q'
        obtain rfl : u = Value.bool true := r'
        refine ⟨rfl, OldK.of_keep fun b o e => ?_, os, bare⟩
        cases q : H b with
        | none => exact un.keep b o e q (by intro z; exact absurd (show b ∈ ([] : List Addr) from z) (by simp)) (by simp)
        | some u =>
          rcases hO b with z | ⟨ob, xs, z⟩
          · rw [q] at z; cases z
          · have z2 := un.frzs b ob _ z
            obtain ⟨e1, _⟩ := hok b _ z
            obtain ⟨e2, _⟩ := hok' b _ z2
            rw [e] at e1; cases e1
            exact e2
  cases hk : K.lookup a with
  | some o =>
    -- the script is one of the module's own objects
    have e := KX a o hk
    rw [ha] at e
    cases e
    refine core (fun _ => none) (fun _ => .inl rfl) (.inr ⟨_, vs.toArray, _, hk, rfl, rfl, rfl, by rw [List.size_toArray, lenV]; exact hl, by simpa using rv⟩) (fun b u z => by have z' : (none : Option HO) = some u := z; cases z') (fun b z => absurd rfl z) fun z => absurd rfl z
  | none =>
    refine core (fun b => if b = a then some (.frz { cls := .type "list", data := .seq vs.toArray } (.lst (ns.map V.int))) else none) (fun b => ?_) (.inl (.inr ⟨{ cls := .type "list", data := .seq vs.toArray }, if_pos rfl⟩)) (fun b u z => ?_) (fun b z => ?_) fun _ => hk
    · by_cases hb : b = a
      · exact .inr ⟨_, _, if_pos hb⟩
      · exact .inl (if_neg hb)
    · by_cases hb : b = a
      · have z' := (if_pos hb).symm.trans z
        cases z'
        subst hb
        exact ⟨ha, by rw [List.length_map]; exact hl, vs, _, rv, ha⟩
      · have z' := (if_neg hb).symm.trans z
        cases z'
    · by_cases hb : b = a
      · exact hb
      · exact absurd (if_neg hb) z
end L2

namespace L2
open PySem PySem.Spec PyProof.Rows

abbrev KOf {K : PySem.W.Frag} {h : Heap} (_ : K.In h) : PySem.W.Frag := K

/-- the goal that k_head leaves (case hc), from the law's promise. F gives the function object fd (K's own) once, then the promise over every base -/
theorem walk_of {l : PySem.W.OpenLaw} {n k : Nat} {q : Program} {loose : List Str} {XP : (Str → Option Value) → Heap → Prop} {YP : World → Heap → Prop} {d : DefRec} {K : Params → PySem.W.Frag} {CX : World → CXT} {sp : World → Sp} {x : Str}
    (hn : l.most = some n) (hn2 : n ≤ sizeLine) (hdf : d.params.defaults = []) (hr : Room k callerA)
    (hY : ∀ (w : World) (h : Heap), YP w h → (K w.params).In h)
    (F : ∀ (w : World) (mg : Str → Option Value) (fa : Addr) (h : Heap), (K w.params).In h → h.Ns mainGlobals mg → mg d.name = some (.ref fa) →
      ∃ fd : FuncData, (∀ (s : Shared) (u : Value), BindsTo s fd ⟨[u], []⟩ [(x, u)]) ∧
        ∀ base : Heap, (K w.params).In base → base.Ns mainGlobals mg → FnOk l.prog w (K w.params) mg base (CX w) k fa fd [x] (sp w))
    (hsp : ∀ (w : World) (H : Hp) (a : Addr) (ns : List Int), ns.length ≤ n → Only H → SqL (K w.params) H a (ns.map V.int) → sp w [.ref a] H (fun v _ => v = .bl true) fun _ _ _ => False)
    (hCX : ∀ (w : World) (H : Hp) (s : Shared) (e : Value) (s' : Shared), CX w [] H s (fun _ _ _ => False) e s' → False) :
    PySem.W.WalkO q loose XP YP l.row.toRowW d [] (fun f vs => PySem.call f vs) := by
  refine Att.attach_call hn hdf fun w s₀ s₁ mg mb fa o pm cd doc a vs ns G Y ho hd hcd hmg hobj hints hlen hg => ?_
  have KX := hY w _ Y
  obtain ⟨fd, hb, hF⟩ := F w mg fa _ KX G.T.g hmg
  exact law_call KX G.T.g G.T.b G.T.builtins G.T.nolimit hg hobj hints (Nat.le_trans hlen hn2) hr hF hb (fun H hO hS => hsp w H a ns hlen hO hS) fun H e s' => hCX w H s₁ e s'
end L2

/- THE LAST THEOREM (shape; LID, My.* are yours):
   My.Adr: a structure of the addresses that your layer names (classes, functions); My.Txt K t: a structure (Prop) of the equations over K;
   My.txt_mk : {K} {implicit addresses ..} (e1 : nsIn K mainGlobals "law" = some (some (.ref f))) (e2 : K.lookup f = some ⟨oc, od, .func (fnOf "law" "law" params body scope dV kV doc pm an cdv ct), sl⟩) (e3 : codeIn K cdv "law" = true) .. : ∃ t, My.Txt K t

set_option maxRecDepth 100000 in
set_option maxHeartbeats 0 in
theorem PySem.Challenge.cw_LID_holds : PySem.Challenge.rw_LID.Holds := by
  w_on; o_law; k_head; (case hw => w_witness2)
  k_fill
  refine L2.walk_of (l := PySem.Challenge.rw_LID) (n := 63) (k := 40) (x := "script") (CX := fun w => ..) (sp := fun _ => My.sp_law) rfl (by decide) rfl ⟨rfl, by decide, by decide⟩ (fun w h Y => PySem.W.kIn_of Y) ?F ?S ?C
  case F =>
    intro w mg fa h KX G hmg
    have T : ∃ t, My.Txt (L2.KOf KX) t := by
      dsimp only [L2.KOf]                          -- K must stand as «<heap const> w.params» for k_is
      refine' My.txt_mk ?e1 ?e2 ?e3 ..
      (case e1 => PySem.W.k_is)                    -- in the order: a name -> its address -> its object -> its parts
      (case e2 => PySem.W.k_is)
      ..
    obtain ⟨t, T⟩ := T
    have e0 := hmg.symm.trans (PySem.W.mg_of KX G T.law)
    cases e0                                       -- fa is the law's own address
    exact ⟨_, fun s u => .of_eq rfl, fun base kb nb => My.law_fn T kb nb⟩     -- if «.of_eq rfl» comes too early: refine' ⟨_, ?b, fun base kb nb => My.law_fn T kb nb⟩; exact fun s u => .of_eq rfl
  case S => exact fun w H a ns hl hO hS => ..
  case C => exact ..
(the tactic k_is has no namespace: write k_is) -/

/-! SHORT WORDS over the layer: a def of the text, its body, what a loop and a test want. -/
namespace L2
open PySem PySem.Spec PyProof.Rows

/-! ### the text by places -/
/-- the j-th statement of a class's body -/
def inClass (s : Stmt) (j : Nat) : Stmt := match s with
  | .ClassDef _ _ _ body _ _ _ _ _ _ _ => body.getD j (.Pass ⟨0, 0, 0, 0⟩)
  | _ => .Pass ⟨0, 0, 0, 0⟩
def defArgs (s : Stmt) : Arguments := match s with
  | .FunctionDef _ a _ _ _ _ _ _ _ _ => a
  | _ => { posonlyargs := [], args := [], vararg := none, kwonlyargs := [], kw_defaults := [], kwarg := none, defaults := [] }
def defBody (s : Stmt) : List Stmt := match s with
  | .FunctionDef _ _ b _ _ _ _ _ _ _ => b
  | _ => []
def defScope (s : Stmt) : Scope := match s with
  | .FunctionDef _ _ _ _ _ _ sc _ _ _ => sc
  | _ => { kind := .function, names := [], isGenerator := false, isCoroutine := false }

/-! ### no exception leaves a def -/
abbrev CX0 : CXT := fun _ _ _ _ _ _ => False
abbrev E0 : XK := fun _ _ _ => False
/-! ### a def (or method) of the text as it stands behind the top -/
structure Fun (K : PySem.W.Frag) (x qual : Str) (st : Stmt) (f : Addr) (fd : FuncData) : Prop where
  ex : ∃ (oc : Value) (od : Option Addr) (kV doc pm : Value) (an : Option Addr) (cdv ct : Value) (osl : Array (Option Value)),
    fd = PySem.W.fnOf x qual (defArgs st) (defBody st) (defScope st) .none kV doc pm an cdv ct ∧ K.lookup f = some ⟨oc, od, .func fd, osl⟩ ∧ PySem.W.codeIn K cdv qual = true
  kp : PySem.W.keepIn K (.ref f) = true
section
variable {P : Program} {w : World} {K : PySem.W.Frag} {mg : Str → Option Value} {base : Heap}
/-- THE RULE for a def: its body as a term of rules, and the reading of that term -/
theorem Fun.ok {x qual : Str} {st : Stmt} {f : Addr} {fd : FuncData} {N ps : List Str} {k : Nat} {sp : Sp} (F : Fun K x qual st f fd) (S : FnScope N ps (defScope st)) (len : ∀ vs H Q E, sp vs H Q E → vs.length = ps.length)
    (hbody : ∀ (cdv : Value) (A : Around) (outer : List Env) (s : Shared) (H : Hp) (vs : List V) (Q : VK) (E : XK), Room k (A.deeper (envOfC qual (defScope st) s.heap.objs.size f cdv)) → sp vs H Q E →
      ∃ t, PSs (cxOf CX0 P w K mg base N qual (defScope st) f cdv A outer s H E).nox (defBody st) t ∧ t { nx := fun _ H' => Q .non H', rt := Q } (start N vs) H) : FnOk P w K mg base CX0 (k + 1) f fd ps sp := by
  obtain ⟨oc, od, kV, doc, pm, an, cdv, ct, osl, rfl, lk, hcd⟩ := F.ex
  refine fn_of lk hcd S len fun A outer s H vs Q E hr hsp => ?_
  obtain ⟨t, h, q⟩ := hbody cdv A outer s H vs Q E hr hsp
  exact ⟨t, h.nox, q⟩
/-- how its arguments bind (no defaults): h is «fun _ _ _ _ _ _ us hl => match us, hl with | [_, _], _ => rfl», one _ a parameter -/
theorem Fun.binds {x qual : Str} {st : Stmt} {f : Addr} {fd : FuncData} {ps : List Str} (F : Fun K x qual st f fd)
    (h : ∀ (kV doc pm : Value) (an : Option Addr) (cdv ct : Value) (us : List Value), us.length = ps.length → bindArgs (PySem.W.fnOf x qual (defArgs st) (defBody st) (defScope st) .none kV doc pm an cdv ct) ⟨us, []⟩ = pure (ps.zip us)) : Binds K fd ps [] := by
  obtain ⟨oc, od, kV, doc, pm, an, cdv, ct, osl, rfl, lk, hcd⟩ := F.ex
  exact .all (h kV doc pm an cdv ct)
theorem fun_mk {x qual : Str} {st : Stmt} {f : Addr} {oc : Value} {od an : Option Addr} {osl : Array (Option Value)} {kV doc pm cdv ct : Value} (l : K.lookup f = some ⟨oc, od, .func (PySem.W.fnOf x qual (defArgs st) (defBody st) (defScope st) .none kV doc pm an cdv ct), osl⟩)
    (c : PySem.W.codeIn K cdv qual = true) (k : PySem.W.keepIn K (.ref f) = true) : Fun K x qual st f (PySem.W.fnOf x qual (defArgs st) (defBody st) (defScope st) .none kV doc pm an cdv ct) := ⟨⟨oc, od, kV, doc, pm, an, cdv, ct, osl, rfl, l, c⟩, k⟩
end
/-! ### expressions in short: the name that stands in the i-th slot -/
section
variable {X : Cx}
theorem pv (i : Nat) {x : Str} {pos : Pos} (hN : X.N[i]? = some x := by rfl) (hv : Vis X.env.scope x := by first | exact Or.inl rfl | exact Or.inr (Or.inl rfl) | exact Or.inr (Or.inr rfl)) (hd : (x == ("__debug__" : Str)) = false := by decide)
    (hcd : (x == ("__classdict__" : Str)) = false := by decide) : PE X (.Name x pos) (tVar i) := pe_var hN hv hd hcd
end

/-! ### tests -/
/-! ### heaps -/
/-- all that was tracked is as it was -/
def Same (H H' : Hp) : Prop := ∀ b o, H b = some o → H' b = some o
theorem Same.refl (H : Hp) : Same H H := fun _ _ h => h
theorem Same.trans {H H1 H2 : Hp} (a : Same H H1) (b : Same H1 H2) : Same H H2 := fun c o h => b c o (a c o h)
theorem Same.free {H H' : Hp} (e : Same H H') {l : Addr} (h : H' l = Option.none) : H l = Option.none := by
  cases q : H l with
  | none => rfl
  | some o =>
    rw [e l o q] at h
    cases h
theorem Same.seq {K : PySem.W.Frag} {H H' : Hp} {a : Addr} {xs : List V} (e : Same H H') (h : SqL K H a xs) : SqL K H' a xs := by
  rcases h with (h | ⟨o, h⟩) | h
  · exact .inl (.inl (e _ _ h))
  · exact .inl (.inr ⟨o, e _ _ h⟩)
  · exact .inr h

end L2
namespace L2
open PySem PySem.Spec PyProof.Rows

/-! ### lists of pairs as tables -/
section
variable {κ : Type} [DecidableEq κ]
def valV (kvs : List (κ × V)) (k : κ) : Option V := (kvs.find? fun kv => decide (kv.1 = k)).map (·.2)
/-- in its place, or at the end -/
def putK (kvs : List (κ × V)) (k : κ) (v : V) : List (κ × V) :=
  if (kvs.any fun kv => decide (kv.1 = k)) = true then kvs.map (fun kv => if kv.1 = k then (kv.1, v) else kv) else kvs ++ [(k, v)]
def dropK (kvs : List (κ × V)) (k : κ) : List (κ × V) := kvs.filter fun kv => decide (kv.1 ≠ k)

theorem valV_pos {p : κ × V} {r : List (κ × V)} {k : κ} (e : p.1 = k) : valV (p :: r) k = some p.2 := by simp [valV, List.find?_cons, e]
theorem valV_neg {p : κ × V} {r : List (κ × V)} {k : κ} (e : ¬ p.1 = k) : valV (p :: r) k = valV r k := by simp [valV, List.find?_cons, e]
theorem valV_any (k : κ) : ∀ kvs : List (κ × V), (kvs.any fun kv => decide (kv.1 = k)) = (valV kvs k).isSome
  | [] => rfl
  | p :: r => by
    rw [List.any_cons]
    by_cases e : p.1 = k
    · simp only [valV_pos e, decide_eq_true e, Bool.true_or, Option.isSome_some]
    · rw [valV_neg e, decide_eq_false e, Bool.false_or]; exact valV_any k r
theorem RelO.isSome_eq {o : Option V} {u : Option Value} (r : RelO o u) : o.isSome = u.isSome := by
  cases o with
  | none => cases u with
    | none => rfl
    | some _ => exact (show False from r).elim
  | some _ => cases u with
    | none => exact (show False from r).elim
    | some _ => rfl
theorem RelO.getD {o : Option V} {u : Option Value} {d : V} {d' : Value} (r : RelO o u) (rd : RelV d d') : RelV (o.getD d) (u.getD d') := by
  cases o with
  | none => cases u with
    | none => exact rd
    | some _ => exact (show False from r).elim
  | some _ => cases u with
    | none => exact (show False from r).elim
    | some _ => exact r

/-- raw tables of the same keys -/
theorem KV.val {kvs : List (κ × V)} {vs : List (κ × Value)} (r : KV kvs vs) (k : κ) : RelO (valV kvs k) (valueAt vs k) := by
  unfold KV at r
  induction r with
  | nil => exact True.intro
  | @cons p q ps qs h t ih =>
    obtain ⟨h1, h2⟩ := h
    by_cases e : p.1 = k
    · have e' : q.1 = k := h1.symm.trans e
      have b : valueAt (q :: qs) k = some q.2 := by simp [valueAt, List.find?_cons, e']
      rw [valV_pos e, b]; exact h2
    · have e' : ¬ q.1 = k := fun z => e (h1.trans z)
      have b : valueAt (q :: qs) k = valueAt qs k := by simp [valueAt, List.find?_cons, e']
      rw [valV_neg e, b]; exact ih
theorem KV.any {kvs : List (κ × V)} {vs : List (κ × Value)} (r : KV kvs vs) (k : κ) : (kvs.any fun kv => decide (kv.1 = k)) = vs.any fun kv => decide (kv.1 = k) := by
  unfold KV at r
  induction r with
  | nil => rfl
  | cons h t ih => rw [List.any_cons, List.any_cons, ih, h.1]
theorem KV.repl {kvs : List (κ × V)} {vs : List (κ × Value)} (r : KV kvs vs) (k : κ) {y : V} {u : Value} (ry : RelV y u) :
    KV (kvs.map fun kv => if kv.1 = k then (kv.1, y) else kv) (vs.map fun kv => if kv.1 = k then (kv.1, u) else kv) := by
  unfold KV at r ⊢
  induction r with
  | nil => exact .nil
  | @cons p q ps qs h t ih =>
    rw [List.map_cons, List.map_cons]
    refine .cons ?_ ih
    obtain ⟨h1, h2⟩ := h
    by_cases e : p.1 = k
    · rw [if_pos e, if_pos (h1.symm.trans e)]; exact ⟨h1, ry⟩
    · rw [if_neg e, if_neg (fun z => e (h1.trans z))]; exact ⟨h1, h2⟩
theorem KV.put {kvs : List (κ × V)} {vs : List (κ × Value)} (r : KV kvs vs) (k : κ) {y : V} {u : Value} (ry : RelV y u) : KV (putK kvs k y) (stored vs k u) := by
  unfold putK stored
  rw [r.any k]
  by_cases e : (vs.any fun kv => decide (kv.1 = k)) = true
  · rw [if_pos e, if_pos e]; exact r.repl k ry
  · rw [if_neg e, if_neg e]; exact Paired.snoc r ⟨rfl, ry⟩
theorem KV.drop {kvs : List (κ × V)} {vs : List (κ × Value)} (r : KV kvs vs) (k : κ) : KV (dropK kvs k) (without vs k) := by
  unfold KV at r ⊢
  unfold dropK without
  induction r with
  | nil => exact .nil
  | @cons p q ps qs h t ih =>
    obtain ⟨h1, h2⟩ := h
    rw [List.filter_cons, List.filter_cons]
    by_cases e : p.1 = k
    · have a : ¬ decide (p.1 ≠ k) = true := by simp [e]
      have b : ¬ decide (q.1 ≠ k) = true := by simp [h1.symm.trans e]
      rw [if_neg a, if_neg b]; exact ih
    · have e' : ¬ q.1 = k := fun z => e (h1.trans z)
      have a : decide (p.1 ≠ k) = true := by simp [e]
      have b : decide (q.1 ≠ k) = true := by simp [e']
      rw [if_pos a, if_pos b]; exact .cons ⟨h1, h2⟩ ih
theorem KV.keys {kvs : List (κ × V)} {vs : List (κ × Value)} (r : KV kvs vs) : kvs.map (·.1) = vs.map (·.1) := by
  unfold KV at r
  induction r with
  | nil => rfl
  | cons h t ih => rw [List.map_cons, List.map_cons, ih, h.1]
theorem KV.length {kvs : List (κ × V)} {vs : List (κ × Value)} (r : KV kvs vs) : kvs.length = vs.length := Paired.length r
end


/-! ### a tracked dict, its keys ints and texts or tuples of these -/
/-- raw entries of a dict with tuple keys -/
abbrev KT (H : Hp) : List (List Key × V) → List (List Key × Addr × Value) → Prop := Paired fun p q => p.1 = q.1 ∧ H q.2.1 = some (.tup (p.1.map kV)) ∧ RelV p.2 q.2.2
theorem KT.val {H : Hp} {kvs : List (List Key × V)} {xs : List (List Key × Addr × Value)} (r : KT H kvs xs) (k : List Key) : RelO (valV kvs k) ((atKey xs k).map (·.2)) := by
  induction r with
  | nil => exact True.intro
  | @cons p q ps qs h t ih =>
    obtain ⟨h1, _, h2⟩ := h
    by_cases e : p.1 = k
    · have e' : q.1 = k := h1.symm.trans e
      have b : atKey (q :: qs) k = some q.2 := by simp [atKey, List.find?_cons, e']
      rw [valV_pos e, b]; exact h2
    · have e' : ¬ q.1 = k := fun z => e (h1.trans z)
      have b : atKey (q :: qs) k = atKey qs k := by simp [atKey, List.find?_cons, e']
      rw [valV_neg e, b]; exact ih
theorem KT.repl {H : Hp} {kvs : List (List Key × V)} {xs : List (List Key × Addr × Value)} (r : KT H kvs xs) (k : List Key) {y : V} {u : Value} (ry : RelV y u) :
    KT H (kvs.map fun kv => if kv.1 = k then (kv.1, y) else kv) (xs.map (putAt k u)) := by
  induction r with
  | nil => exact .nil
  | @cons p q ps qs h t ih =>
    rw [List.map_cons, List.map_cons]
    refine .cons ?_ ih
    obtain ⟨h1, h2, h3⟩ := h
    unfold putAt
    by_cases e : p.1 = k
    · rw [if_pos e, if_pos (h1.symm.trans e)]; exact ⟨h1, h2, ry⟩
    · rw [if_neg e, if_neg (fun z => e (h1.trans z))]; exact ⟨h1, h2, h3⟩
theorem KT.put {H : Hp} {kvs : List (List Key × V)} {xs : List (List Key × Addr × Value)} (r : KT H kvs xs) (k : List Key) {b : Addr} {y : V} {u : Value} (hb : H b = some (.tup (k.map kV))) (ry : RelV y u) :
    KT H (putK kvs k y) (storedH xs k b u) := by
  have e : (kvs.any fun kv => decide (kv.1 = k)) = (atKey xs k).isSome := by
    rw [valV_any, (r.val k).isSome_eq, Option.isSome_map]
  unfold putK storedH
  rw [e]
  by_cases q : (atKey xs k).isSome = true
  · rw [if_pos q, if_pos q]; exact r.repl k ry
  · rw [if_neg q, if_neg q]; exact Paired.snoc r ⟨rfl, hb, ry⟩
theorem KT.keeps {H H' : Hp} {kvs : List (List Key × V)} {xs : List (List Key × Addr × Value)} (r : KT H kvs xs) (ht : ∀ b ys, H b = some (.tup ys) → H' b = some (.tup ys)) : KT H' kvs xs :=
  Paired.mapP r fun _ _ z => ⟨z.1, ht _ _ z.2.1, z.2.2⟩

section
variable {P : Program} {w : World} {H : Hp} {h : Heap} {a : Addr}
end

/-- what the dict at a holds at the key y -/
def DGet (H : Hp) (a : Addr) (y : V) (r : Option V) : Prop :=
  (∃ kvs k, Rd H a (.dK kvs) ∧ y = kV k ∧ r = valV kvs k) ∨ ∃ kvs k b, Rd H a (.dT kvs) ∧ y = .ref b ∧ H b = some (.tup (k.map kV)) ∧ r = valV kvs k
/-- the heap behind a[y] = v -/
def DPut (H : Hp) (a : Addr) (y v : V) (H' : Hp) : Prop :=
  (∃ kvs k, H a = some (.dK kvs) ∧ y = kV k ∧ kvs.length < sizeLine ∧ H' = upd H a (.dK (putK kvs k v))) ∨
  ∃ kvs k b, H a = some (.dT kvs) ∧ y = .ref b ∧ H b = some (.tup (k.map kV)) ∧ kvs.length < sizeLine ∧ H' = upd H a (.dT (putK kvs k v))
theorem DGet.k {H : Hp} {a : Addr} {kvs : List (Key × V)} {k : Key} (e : H a = some (.dK kvs)) : DGet H a (kV k) (valV kvs k) := .inl ⟨kvs, k, .inl e, rfl, rfl⟩
theorem DGet.t {H : Hp} {a b : Addr} {kvs : List (List Key × V)} {k : List Key} (e : H a = some (.dT kvs)) (eb : H b = some (.tup (k.map kV))) : DGet H a (.ref b) (valV kvs k) := .inr ⟨kvs, k, b, .inl e, rfl, eb, rfl⟩
theorem DPut.k {H : Hp} {a : Addr} {kvs : List (Key × V)} {k : Key} {v : V} (e : H a = some (.dK kvs)) (hl : kvs.length < sizeLine) : DPut H a (kV k) v (upd H a (.dK (putK kvs k v))) := .inl ⟨kvs, k, e, rfl, hl, rfl⟩
theorem DPut.t {H : Hp} {a b : Addr} {kvs : List (List Key × V)} {k : List Key} {v : V} (e : H a = some (.dT kvs)) (eb : H b = some (.tup (k.map kV))) (hl : kvs.length < sizeLine) :
    DPut H a (.ref b) v (upd H a (.dT (putK kvs k v))) := .inr ⟨kvs, k, b, e, rfl, eb, hl, rfl⟩


section
variable {X : Cx} {pins : List (Addr × Obj)} {σ : St} {H : Hp} {s : Shared} {a : Addr} {y v : V} {u r : Value} {o : Option V} {A : Around} {E : Value → Shared → Prop}

theorem Inv.big (I : Inv X pins σ H s) : sysModules < s.heap.objs.size := by
  have h : mainGlobals < s.heap.objs.size := (I.mod.glob.keeps I.bk).lt
  exact Nat.lt_trans (by decide) h

end

section
variable {X : Cx} {pins : List (Addr × Obj)} {σ : St} {H : Hp} {s : Shared} {a : Addr} {kvs : List (Key × V)} {k : Key} {u : Value} {A : Around} {E : Value → Shared → Prop}
end


/-! ### readings and rules -/
/-- the element of a subscription, not a slice -/
def NoSl (i : Expr) : Prop := ∀ ov iv, subscripted i false ov iv = operate [ov, iv] (getItem ov iv)
/-- d[y] -/
def tDGet (td ty : TE) : TE := fun σ H Q => td σ H fun x H1 => ty σ H1 fun y H2 => ∃ a v, x = .ref a ∧ DGet H2 a y (some v) ∧ Q v H2
/-- y in d, y not in d -/
def tDIn (ty td : TE) : TE := fun σ H Q => ty σ H fun y H1 => td σ H1 fun x H2 => ∃ a o, x = .ref a ∧ DGet H2 a y o ∧ Q (.bl o.isSome) H2
def tDNotIn (ty td : TE) : TE := fun σ H Q => ty σ H fun y H1 => td σ H1 fun x H2 => ∃ a o, x = .ref a ∧ DGet H2 a y o ∧ Q (.bl (!o.isSome)) H2
/-- d[y] = v -/
def sDPut (td ty tv : TE) : TS := fun D σ H => tv σ H fun v H1 => td σ H1 fun x H2 => ty σ H2 fun y H3 => ∃ a H4, x = .ref a ∧ DPut H3 a y v H4 ∧ D.nx σ H4
/-- d[y] op= v -/
def sDAug (td ty tv : TE) (rd : V → V → Hp → VK → Prop) : TS := fun D σ H => td σ H fun x H1 => ty σ H1 fun y H2 => ∃ a v, x = .ref a ∧ DGet H2 a y (some v) ∧
  tv σ H2 fun y2 H3 => rd v y2 H3 fun z H4 => ∃ H5, DPut H4 a y z H5 ∧ D.nx σ H5
/-- del d[y] -/
def sDDel (td ty : TE) : TS := fun D σ H => td σ H fun x H1 => ty σ H1 fun y H2 => ∃ a kvs k, x = .ref a ∧ H2 a = some (.dK kvs) ∧ y = kV k ∧ (valV kvs k).isSome = true ∧ D.nx σ (upd H2 a (.dK (dropK kvs k)))

section
variable {X : Cx} {o i e value : Expr} {pos pos' tpos : Pos} {td ty tv : TE}
end


/-! ### displays -/
/-- {}, to be a dict of the kind that is wanted -/
def tDNewK : TE := fun _ H Q => ∀ p, H p = none → Q (.ref p) (upd H p (.dK []))
def tDNewT : TE := fun _ H Q => ∀ p, H p = none → Q (.ref p) (upd H p (.dT []))
section
variable {X : Cx} {pos : Pos}
end

/-- the pairs of a display, from the left -/
def tPairs : List (TE × TE) → St → Hp → (List (V × V) → Hp → Prop) → Prop
  | [], _, H, Q => Q [] H
  | (tk, tv) :: r, σ, H, Q => tk σ H fun x H1 => tv σ H1 fun y H2 => tPairs r σ H2 fun ps H3 => Q ((x, y) :: ps) H3
abbrev VV : List (V × V) → List (Value × Value) → Prop := Paired fun p q => RelV p.1 q.1 ∧ RelV p.2 q.2
def PPs (X : Cx) (pos : Pos) (keys : List (Option Expr)) (values : List Expr) (trs : List (TE × TE)) : Prop :=
  ∀ (pins : List (Addr × Obj)) (s : Shared) (σ : St) (H : Hp) (Q : List (V × V) → Hp → Prop), Inv X pins σ H s → tPairs trs σ H Q →
    wpAny (model X.prog X.w) X.A (evalPairs (pairTrees keys values X.env pos)) (fun vs s' => ∃ ps H', Inv X pins σ H' s' ∧ VV ps vs ∧ Q ps H') X.xe s
def mergeK (kvs more : List (Key × V)) : List (Key × V) := more.foldl (fun acc kv => putK acc kv.1 kv.2) kvs
/-- {k: v, ..} with keys ints and texts; the new dict stands empty while the pairs are made -/
def tDisp (trs : List (TE × TE)) : TE := fun σ H Q => ∀ p, H p = none → tPairs trs σ (upd H p (.dK [])) fun ps H2 => H2 p = some (.dK []) ∧ ∃ kvs : List (Key × V), ps = kvs.map (fun kv => (kV kv.1, kv.2)) ∧ kvs.length ≤ 15 ∧ Q (.ref p) (upd H2 p (.dK (mergeK [] kvs)))
/-! ### methods -/
/-- a method call o.m(e) of a built-in, with one argument: what must be seen of the text -/
structure M1 (X : Cx) (o : Expr) (m : Str) (apos : Pos) (e : Expr) (cpos : Pos) : Prop where
  base : attributeBase o m X.env (eval o X.env) = eval o X.env
  few : ((backTo cpos (starEach [e] X.env)).all (fun x => !x.1) && (backToKw cpos (keywordEach [] X.env)).all (fun x => x.1.isSome)
    && decide (([e] : List Expr).length + ([] : List Keyword).length + (if ([] : List Keyword).isEmpty then 0 else 1) < 30)) = true
  line : (apos.endLine == cpos.line) = true
  trees : backTo cpos (starEach [e] X.env) = [(false, eval e X.env)]
structure M2 (X : Cx) (o : Expr) (m : Str) (apos : Pos) (e f : Expr) (cpos : Pos) : Prop where
  base : attributeBase o m X.env (eval o X.env) = eval o X.env
  few : ((backTo cpos (starEach [e, f] X.env)).all (fun x => !x.1) && (backToKw cpos (keywordEach [] X.env)).all (fun x => x.1.isSome)
    && decide (([e, f] : List Expr).length + ([] : List Keyword).length + (if ([] : List Keyword).isEmpty then 0 else 1) < 30)) = true
  line : (apos.endLine == cpos.line) = true
  trees : backTo cpos (starEach [e, f] X.env) = [(false, eval e X.env), (false, eval f X.env)]

/-- a is a dict, whatever its keys -/
def IsD (H : Hp) (a : Addr) : Prop := (∃ kvs, Rd H a (.dK kvs)) ∨ ∃ kvs, Rd H a (.dT kvs)
section
variable {X : Cx} {pins : List (Addr × Obj)} {σ : St} {H : Hp} {s : Shared} {a : Addr} {y d : V} {u r : Value} {o : Option V} {A : Around} {E : Value → Shared → Prop}
end

def tDGet1 (td ty : TE) : TE := fun σ H Q => td σ H fun x H1 => ∃ a, x = .ref a ∧ IsD H1 a ∧ ty σ H1 fun y H2 => ∃ o, DGet H2 a y o ∧ Q (o.getD .non) H2
def tDGet2 (td ty tx : TE) : TE := fun σ H Q => td σ H fun x H1 => ∃ a, x = .ref a ∧ IsD H1 a ∧ ty σ H1 fun y H2 => tx σ H2 fun z H3 => ∃ o, DGet H3 a y o ∧ Q (o.getD z) H3
/-- d.pop(k): there; d.pop(k, x): there or not -/
def tDPop1 (td ty : TE) : TE := fun σ H Q => td σ H fun x H1 => ∃ a, x = .ref a ∧ IsD H1 a ∧ ty σ H1 fun y H2 => ∃ kvs k v, H2 a = some (.dK kvs) ∧ y = kV k ∧ valV kvs k = some v ∧ Q v (upd H2 a (.dK (dropK kvs k)))
def tDPop2 (td ty tx : TE) : TE := fun σ H Q => td σ H fun x H1 => ∃ a, x = .ref a ∧ IsD H1 a ∧ ty σ H1 fun y H2 => tx σ H2 fun z H3 => ∃ kvs k, H3 a = some (.dK kvs) ∧ y = kV k ∧
  (∀ v, valV kvs k = some v → Q v (upd H3 a (.dK (dropK kvs k)))) ∧ (valV kvs k = none → Q z H3)
section
variable {X : Cx} {o e f : Expr} {apos cpos : Pos} {td ty tx : TE}
end

/-! ### dict(d): a copy -/
section
variable {X : Cx} {pins : List (Addr × Obj)} {σ : St} {H : Hp} {s : Shared} {a : Addr} {kvs : List (Key × V)} {A : Around} {E : Value → Shared → Prop}
end


section
variable {X : Cx} {pins : List (Addr × Obj)} {σ : St} {H : Hp} {s : Shared} {a : Addr} {y : V} {u : Value} {A : Around} {E : Value → Shared → Prop}
end
end L2
namespace L2
open PySem PySem.Spec PyProof.Rows

/-! ### great numbers -/
/-- below 2^n in size -/
def Bd (n : Nat) (i : Int) : Prop := i.natAbs < 2 ^ n
theorem Bd.mono {n m : Nat} {i : Int} (h : Bd n i) (k : n ≤ m) : Bd m i := Nat.lt_of_lt_of_le h (Nat.pow_le_pow_right (by decide) k)
theorem Bd.bits {n : Nat} {i : Int} (h : Bd n i) : Builtin.Int.intBits i ≤ n := by
  unfold Builtin.Int.intBits
  split
  · exact Nat.zero_le _
  · rename_i h0
    have hn : i.natAbs ≠ 0 := by
      intro z
      apply h0
      have : i = 0 := by omega
      simp [this]
    have : i.natAbs.log2 < n := (Nat.log2_lt hn).mpr h
    omega
theorem Bd.log {n : Nat} {i : Int} (h : Bd n i) (k : n ≤ 9000) : i.natAbs.log2 < 9000 := by
  rcases Nat.eq_zero_or_pos i.natAbs with h0 | hp
  · rw [h0]; decide +kernel
  · exact (Nat.log2_lt (by omega)).mpr (Nat.lt_of_lt_of_le h (Nat.pow_le_pow_right (by decide) k))
theorem Bd.neg {n : Nat} {i : Int} (h : Bd n i) : Bd n (-i) := by
  unfold Bd at *
  rw [Int.natAbs_neg]
  exact h
theorem Bd.of {n : Nat} {i : Int} (a : -(2 ^ n) < i) (b : i < 2 ^ n) : Bd n i := by
  unfold Bd
  have e : ((2 ^ n : Nat) : Int) = 2 ^ n := by norm_cast
  omega
theorem Bd.le {n : Nat} {i j : Int} (h : Bd n i) (k : j.natAbs ≤ i.natAbs) : Bd n j := Nat.lt_of_le_of_lt k h
section
variable {X : Cx} {a b c : Expr} {ta tb tc : TE} {pos : Pos}
def CMulB (i j : Int) : Prop := Bd 100000 i ∧ Bd 100000 j
def CDivB (i j : Int) : Prop := j ≠ 0 ∧ Bd 9000 j
theorem op_fdivB : OpR X (binaryOp .FloorDiv) (rI CDivB fun i j => .int (i.fdiv j)) := opI fun _ _ _ _ _ _ _ hc q =>
  floordiv_int hc.1 q (.inl (PyProof.noPylong_of_log2 (hc.2.log (Nat.le_refl _))))
/-! ### a list that is read and a list: + -/
def rCatL (K : PySem.W.Frag) : R2 := fun x y H Q => ∃ l b xs zs, x = .ref l ∧ y = .ref b ∧ SqL K H l xs ∧ SqL K H b zs ∧ xs.length + zs.length ≤ sizeLine ∧ ∀ p, H p = none → Q (.ref p) (upd H p (.lst (xs ++ zs)))
theorem op_catL : OpR X (binaryOp .Add) (rCatL X.K) := by
  intro pins s σ H x y v u Q I rx ry h
  obtain ⟨l, b, xs, zs, rfl, rfl, hH, hB, hz, q⟩ := h
  cases rx
  cases ry
  obtain ⟨its, r, p, z⟩ := I.list hH
  obtain ⟨its2, r2, p2, z2⟩ := I.list hB
  obtain ⟨⟨cls, dd, data, sl⟩, n, ho, hc, _, hd⟩ := id p
  obtain ⟨⟨cls2, dd2, data2, sl2⟩, n2, ho2, hc2, _, hd2⟩ := id p2
  simp only at hc hd hc2 hd2
  subst hc hd hc2 hd2
  have hl1 := r.length
  have hl2 := r2.length
  refine concat_meets ⟨_, ho, rfl⟩ ⟨_, ho2, rfl⟩ noFill_list_add seq_list_add PySem.F.slot_list_add PySem.F.entry_list_add (PySem.F.args_list_add_2 _ _) (list_addW l b its.toArray its2.toArray n n2 dd dd2 sl sl2 (by rw [List.size_toArray, List.size_toArray]; omega)) ⟨ho, ho2, ?_⟩
  have ea : its.toArray ++ its2.toArray = (its ++ its2).toArray := by simp
  rw [ea]
  exact ⟨.ref _, _, I.lnew (t' := s.toks) (r.append r2) (by rw [List.length_append]; omega), rfl, q _ I.fresh⟩
/-! ### == and != of tuples of flat things -/
theorem eqV_tail {x : V} (h : flatV x = true) : eqV x x = true := by
  cases x <;> simp_all [eqV, flatV]
/-- two lists of flat things are alike -/
def eqVs : List V → List V → Bool
  | [], [] => true
  | x :: xs, y :: ys => eqV x y && eqVs xs ys
  | _, _ => false
/-- the answers place by place -/
def ansV (xs ys : List V) (j : Nat) : Bool := match xs[j]?, ys[j]? with
  | some x, some y => eqV x y
  | _, _ => false
def rEqT (K : PySem.W.Frag) : R2 := fun x y H Q => ∃ l b xs ys, x = .ref l ∧ y = .ref b ∧ SqT K H l xs ∧ SqT K H b ys ∧ xs.all flatV = true ∧ ys.all flatV = true ∧ Q (.bl (eqVs xs ys)) H
def rNeT (K : PySem.W.Frag) : R2 := fun x y H Q => ∃ l b xs ys, x = .ref l ∧ y = .ref b ∧ SqT K H l xs ∧ SqT K H b ys ∧ xs.all flatV = true ∧ ys.all flatV = true ∧ Q (.bl (!eqVs xs ys)) H
/-! ### isinstance(x, c) -/
/-- c a class of Python's own, or one of the text's -/
def rIsi (K : PySem.W.Frag) : List V → Hp → VK → Prop := fun xs H Q => ∃ x c cv t b, xs = [x, c] ∧ (∀ u, RelV c u → u = cv) ∧ TyOf K H x t ∧ PySem.W.kitOne K t cv = some b ∧ Q (.bl b) H
theorem call_isi : CallR X (.builtin "isinstance") (rIsi X.K) := by
  intro pins s σ H xs us Q I r h
  obtain ⟨x, c, cv, t, b, rfl, hc, ty, e, q⟩ := h
  obtain ⟨u, w', rfl, r1, r2⟩ := vals2 r
  cases hc _ r2
  exact isinst_ok I r1 ty e fun tk => ⟨.bl b, H, I.tok tk, rfl, q⟩
end
/-! ### enumerate(xs) -/
def Ite (K : PySem.W.Frag) (a : Addr) : It :=
  ⟨fun i H => ∃ xs x, SqL K H a xs ∧ xs[i]? = some x,
   fun i H x H' => ∃ p y, x = .ref p ∧ H p = none ∧ H' = upd H p (.tup [.int i, y]) ∧ ∀ xs, SqL K H a xs → xs[i]? = some y,
   fun i H => ∃ xs, SqL K H a xs ∧ xs.length ≤ i⟩
theorem turn_enum {P : Program} {w : World} {K : PySem.W.Frag} {elts : List Expr} {x1} {tpos : Pos} (a e it : Addr) (hne : e ≠ it) :
    Turn P w K (.Tuple elts x1 tpos) (Ite K a) [e, it] e (fun i h => (∃ old, IsEnum h e it i old) ∧ h.IsListIter it a i) where
  mem := by simp
  obj := fun i h st b hb => by
    obtain ⟨⟨old, h1⟩, o, h2, c, d⟩ := st
    have e : b = e ∨ b = it := by simpa using hb
    rcases e with rfl | rfl
    · exact ⟨_, h1, fun v z => by
        have z' : Data.fields _ = Data.cell v := z
        cases z'⟩
    · exact ⟨o, h2, fun v z => by rw [d] at z; cases z⟩
  keep := fun i h h' st k => by
    obtain ⟨⟨old, h1⟩, h2⟩ := st
    exact ⟨⟨old, k e (by simp) _ h1⟩, h2.at fun o q => k it (by simp) o q⟩
  item := by
    intro X hP hw hK hc i pins s σ H E I hf st hg
    subst hP hw hK
    obtain ⟨⟨old, h1⟩, h2⟩ := st
    obtain ⟨xs, x, hq, hx⟩ := hg
    obtain ⟨its, rv, p, hz⟩ := I.list hq
    obtain ⟨u, hu, ru⟩ := rv.get hx
    obtain ⟨f0, f1, f2, f3, f4, f5⟩ := hf e (by simp)
    obtain ⟨g0, g1, g2, g3, g4, g5⟩ := hf it (by simp)
    refine wpAny_pyNext_enum_item h1 h2 p.isList (x := u) (by simpa using hu) hne fun h' a1 a2 a3 a4 a5 => ?_
    refine ⟨_, rfl, wpAny_letOwnedTupleGo_enum a1 fun h'' b1 b2 => ?_⟩
    have hpe : s.heap.objs.size ≠ e := Nat.ne_of_gt (Heap.lt_size h1)
    have hpi : s.heap.objs.size ≠ it := by
      obtain ⟨o, h2', _⟩ := h2
      exact Nat.ne_of_gt (Heap.lt_size h2')
    have hie : it ≠ e := Ne.symm hne
    have hp0 : H s.heap.objs.size = none := I.fresh
    have kp : ∀ b o, b ≠ e → b ≠ it → s.heap.get? b = some o → h''.get? b = some o := fun b o z1 z2 q => (b2.2 b z1).trans (a5 b o z1 z2 q)
    have tp : h''.get? s.heap.objs.size = some { cls := .type "tuple", data := .seq #[.int i s.toks, u] } := (b2.2 _ hpe).trans a3
    refine ⟨.ref s.heap.objs.size, upd H s.heap.objs.size (.tup [.int i, x]), ?_, rfl, ⟨_, x, rfl, hp0, rfl, fun ys hy => by rw [I.list_inj hy hq]; exact hx⟩, ⟨⟨u, b1⟩, a2.at fun o q => (b2.2 it hie).trans q⟩, fun b hb => ?_⟩
    · -- both records have turned, a tuple is laid
      have nt : ∀ b o, H b = some o → b ≠ e ∧ b ≠ it := fun b o q => ⟨ne_of_none q f0, ne_of_none q g0⟩
      have ok' : HOk X.prog X.w (upd H s.heap.objs.size (.tup [.int i, x])) h'' := fun b o q => by
        by_cases hb : b = s.heap.objs.size
        · subst hb
          rw [upd_same] at q
          cases q
          exact ⟨by show 2 ≤ sizeLine; decide, [.int i s.toks, u], .cons ⟨_, rfl⟩ (.cons ru .nil), _, tp, rfl, 0, rfl⟩
        · rw [upd_ne hb] at q
          refine (I.hok b o q).stay (fun c v hc q' => kp c v ?_ ?_ q') (fun c q' => by rw [upd_ne (ne_of_none q' hp0)]; exact q') fun c zs q' => by rw [upd_ne (ne_of_none q' hp0)]; exact q'
          · rcases hc with rfl | hc
            · exact (nt _ _ q).1
            · exact (nt _ _ hc).1
          · rcases hc with rfl | hc
            · exact (nt _ _ q).2
            · exact (nt _ _ hc).2
      have hL : X.env.locals ≠ s.heap.objs.size := by
        obtain ⟨m, ⟨o, _, _, ho, _⟩, _⟩ := id I.loc
        exact Nat.ne_of_lt (Heap.lt_size ho)
      have I3 : Inv X pins σ (upd H s.heap.objs.size (.tup [.int i, x])) { s with heap := h'', gens := s.gens, drawn := s.drawn, toks := s.toks + 1 } := by
       refine Inv.step (s := s) I (g' := s.gens) (d' := s.drawn) (ch := [e, it]) (fun b hb => ?_) (fun b o _ _ hc q _ => kp b o (fun z => hc (by simp [z])) (fun z => hc (by simp [z])) q)
        (fun b o _ _ hc q _ => ⟨o.slots, kp b o (fun z => hc (by simp [z])) (fun z => hc (by simp [z])) q⟩)
        (fun b o _ q n => by rw [upd_ne (Nat.ne_of_lt (Heap.lt_size q))]; exact n)
        (fun b o hc q => ⟨o, kp b o (fun z => hc (by simp [z])) (fun z => hc (by simp [z])) q⟩)
        (fun b zs q => by rw [upd_ne (ne_of_none q hp0)]; exact q) (fun b ob zs q => by rw [upd_ne (ne_of_none q hp0)]; exact q)
        (fun b ps q => ⟨#[], by rw [upd_ne (ne_of_none q hp0), q]; simp⟩) (fun m hm => ?_) ok' I.bare
       · have z : b = e ∨ b = it := by simpa using hb
         rcases z with rfl | rfl
         · exact ⟨f3, f1, f4, f5⟩
         · exact ⟨g3, g1, g4, g5⟩
       · obtain ⟨o, es, ep, ho, r⟩ := hm
         exact ⟨o, es, ep, kp _ o (Ne.symm f1) (Ne.symm g1) ho, r⟩
      exact I3
    · have z : b = e ∨ b = it := by simpa using hb
      rcases z with rfl | rfl
      · rw [upd_ne (Ne.symm hpe)]; exact f0
      · rw [upd_ne (Ne.symm hpi)]; exact g0
  done := by
    intro X hP hw hK hc i pins s σ H E I hf st hg
    subst hP hw hK
    obtain ⟨⟨old, h1⟩, h2⟩ := st
    obtain ⟨xs, hq, hx⟩ := hg
    obtain ⟨its, rv, p, hz⟩ := I.list hq
    obtain ⟨g0, g1, g2, g3, g4, g5⟩ := hf it (by simp)
    have hl := rv.length
    exact wpAny_pyNext_enum_end (I.ok.hd hc) h1 h2 p.isList (by simp; omega) fun h' eb => ⟨rfl, I.turned (t' := s.toks) (fun b o hb e => eb b o hb e) g0 g1 g3 g4 g5⟩
  self := fun _ _ _ _ _ st h => by
    obtain ⟨⟨old, h1⟩, h2⟩ := st
    exact wpAny_pyIter_enum h1 h
section
variable {X : Cx}
def iEnum (K : PySem.W.Frag) (ta : TA) : TI := fun σ H R => ta σ H fun vs H1 => ∃ a, vs = [.ref a] ∧ (∃ xs, SqL K H1 a xs) ∧ R (Ite K a) H1
theorem pi_enum {a : Expr} {ta : TA} {p pos : Pos} {elts : List Expr} {x1} {tpos : Pos} (hg : Gl X "enumerate") (hm : X.mg "enumerate" = none) (ha : PA X [a] ta) (hs : starEach [a] X.env = [(false, eval a X.env)] := by rfl) :
    PI X (.Tuple elts x1 tpos) (.Call (.Name "enumerate" p) [a] [] pos) (iEnum X.K ta) := by
  intro pins s σ H R I h
  refine Call_ (ld_blt I hg hm boot_enumerate (PyProof.Rows.callWith_type1 (thn (ha pos pins s σ H _ I h) fun us s1 ⟨vs, H1, I1, r1, q1⟩ => ?_) hs rfl))
  obtain ⟨l, e, ⟨xs, hq⟩, q⟩ := q1
  subst e
  obtain ⟨u, rfl, ru⟩ := vals1 r1
  cases ru
  obtain ⟨its, rv, p, hz⟩ := I1.list hq
  refine call_enumerate_list p.isList fun h' c1 c2 c3 c4 => ?_
  refine wpAny_pyIter_enum c1 ?_
  have I2 : Inv X pins σ H1 { s1 with heap := h' } := I1.kept (t' := s1.toks) c4
  refine ⟨_, [s1.heap.objs.size + 1, s1.heap.objs.size], _, _, H1, rfl, I2, turn_enum l _ _ (Nat.succ_ne_self _), ⟨⟨_, c1⟩, c2⟩, fun b hb => ?_, q⟩
  have z : b = s1.heap.objs.size + 1 ∨ b = s1.heap.objs.size := by simpa using hb
  rcases z with rfl | rfl
  · exact I1.fpOk (Nat.le_succ _) (I1.hok.fresh (Nat.le_succ _))
  · exact I1.fpOk (Nat.le_refl _) (I1.hok.fresh (Nat.le_refl _))
/-! ### a statement's ends meet -/
def tCut (t : TS) : TS := fun D σ H => ∃ M : St → Hp → Prop, t { D with nx := M } σ H ∧ ∀ σ' H', M σ' H' → D.nx σ' H'
/-- an expression's end is forgotten but for what is said of it -/
def tCutE (t : TE) : TE := fun σ H Q => ∃ M : VK, t σ H M ∧ ∀ v H', M v H' → Q v H'
end
end L2
namespace L2
open PySem PySem.Spec PyProof.Rows
section
variable {X : Cx}
def CMulX (i j : Int) : Prop := CMul i j ∨ CMulB i j
theorem op_mulX : OpR X (binaryOp .Mult) (rI CMulX fun i j => .int (i * j)) := opI fun _ _ _ _ _ _ _ hc q => by
  rcases hc with hc | hc
  · exact mul_int q hc.ok
  · exact mul_int q (IntMulOk.of_bits (Nat.le_trans hc.1.bits (by decide)) (Nat.le_trans hc.2.bits (by decide)))
theorem CMulX.l {i j : Int} (a : -(2 ^ 64) < i) (b : i < 2 ^ 64) : CMulX i j := .inl (.inl ⟨a, b⟩)
theorem CMulX.r {i j : Int} (a : -(2 ^ 64) < j) (b : j < 2 ^ 64) : CMulX i j := .inl (.inr ⟨a, b⟩)
theorem CMulX.b {n m : Nat} {i j : Int} (a : Bd n i) (b : Bd m j) (hn : n ≤ 100000 := by decide) (hm : m ≤ 100000 := by decide) : CMulX i j := .inr ⟨a.mono hn, b.mono hm⟩
end
/-- a tuple stands there, written out -/
theorem Same.upd {H : Hp} {p : Addr} {o : HO} (h : H p = none) : Same H (upd H p o) := fun b u e => by rw [upd_ne (ne_of_none e h)]; exact e
theorem Same.tup {K : PySem.W.Frag} {H H' : Hp} {a : Addr} {xs : List V} (e : Same H H') (h : H a = some (.tup xs)) : SqT K H' a xs := SqT.of (e _ _ h)
end L2
namespace L2
open PySem PySem.Spec PyProof.Rows
/-! ### C() of a class without an __init__ of its own -/
structure MkP (K : PySem.W.Frag) (C : Addr) : Prop where
  makes : PySem.W.makesIn K C = true
  init : PySem.W.findIn K (.ref C) "__init__" = some (some (.builtin "object.__init__"))
  kp : PySem.W.keepIn K (.ref C) = true
section
variable {X : Cx} {C : Addr} {x m : Str} {p pos apos : Pos} {e o : Expr} {es : List Expr} {ta : TE} {t : TA} {k : Nat}
def tMakeP (C : Addr) : TE := fun _ H Q => ∀ x dx, H x = none → H dx = none → dx ≠ x → Q (.ref x) (upd (upd H dx (.own x)) x (.ins C dx []))
/-! ### o.m(..) by the class that o has -/
structure MOk (P : Program) (w : World) (K : PySem.W.Frag) (mg : Str → Option Value) (base : Heap) (k : Nat) (C : Addr) (m : Str) (sp : Sp) : Prop where
  cl : Cls K C
  ok : ∃ f fd ps, Meth K C m f ∧ FnOk P w K mg base CX0 k f fd ps sp ∧ Binds K fd ps []
def tMethD (X : Cx) (k : Nat) (m : Str) (ta : TE) (t : TA) : TE := fun σ H Q => ta σ H fun x H1 => ∃ a C dx fs sp, x = .ref a ∧ H1 a = some (.ins C dx fs) ∧ MOk X.prog X.w X.K X.mg X.base k C m sp ∧ fs.lookup m = none ∧
  t σ H1 fun vs H2 => sp (x :: vs) H2 Q E0
/-- what isinstance asks of an own class -/
structure InsTy (K : PySem.W.Frag) (C : Addr) : Prop where
  ha : PySem.W.findIn K (.ref C) "__class__" = some (some (.builtin "object.__class__"))
  hn : PySem.W.specialIn K (.builtin "object.__class__") "__get__" = some (some (.builtin "getset_descriptor.__get__"))
  htk : PySem.W.takesIn K (.builtin "object.__class__") = some true
  hm : PySem.W.mroIn K C (.type "object") = some true
theorem InsTy.ty {K : PySem.W.Frag} {C a dx : Addr} {H : Hp} {fs : List (Str × V)} (i : InsTy K C) (c : Cls K C) (e : H a = some (.ins C dx fs)) : TyOf K H (.ref a) (.ref C) := .ins e c i.ha i.hn i.htk i.hm
end
/-- isinstance of an own class, by what the text's classes say -/
theorem kit_ref {K : PySem.W.Frag} {C D : Addr} {b : Bool} (hd : PySem.W.hasDictIn K D = true) (ht : PySem.W.typeIn K (.ref D) = some (.type "type")) (hs : PySem.W.subIn K (.ref C) (.ref D) = some b)
    (hr : PySem.W.subIn K (.ref D) (.ref D) = some true) : PySem.W.kitOne K (.ref C) (.ref D) = some b := by
  obtain ⟨cd, hc, _⟩ := PySem.W.any_some hd
  unfold PySem.W.kitOne
  by_cases q : (Value.ref C == Value.ref D) = true
  · rw [if_pos q]
    have e : Value.ref C = Value.ref D := beq_iff_eq.mp q
    rw [e, hr] at hs
    exact hs
  · rw [if_neg q]
    unfold PySem.W.kitCls
    simp only
    rw [if_pos (by rw [hc, ht]; rfl)]
    exact hs
end L2
namespace L2
open PySem PySem.Spec PyProof.Rows
/-! ### exceptions of own classes -/
theorem ObjOk.get {P : Program} {w : World} {H : Hp} {h : Heap} {a : Addr} {o : HO} (x : ObjOk P w H h a o) : ∃ ob, h.get? a = some ob := by
  cases o with
  | lst xs => obtain ⟨_, _, _, _, e⟩ := x; exact ⟨_, e⟩
  | tup xs => obtain ⟨_, _, _, ob, e, _⟩ := x; exact ⟨_, e⟩
  | dK kvs => obtain ⟨_, _, _, _, o, _, _, e, _⟩ := x; exact ⟨_, e⟩
  | dT kvs => obtain ⟨_, _, _, _, o, _, _, e, _⟩ := x; exact ⟨_, e⟩
  | set S n => obtain ⟨o, _, _, _, e, _⟩ := x; exact ⟨_, e⟩
  | ins C dx fs => obtain ⟨_, _, _, e, _⟩ := x; exact ⟨_, e⟩
  | own y => obtain ⟨_, e⟩ := x; exact ⟨_, e⟩
  | xd fs => obtain ⟨_, ⟨_, _, _, e, _⟩, _⟩ := x; exact ⟨_, e⟩
  | rng lo hi => obtain ⟨_, _, _, e⟩ := x; exact ⟨_, e⟩
  | frz ob u => obtain ⟨e, _⟩ := x; exact ⟨_, e⟩
  | tbl ps => exact ⟨_, (show h.get? a = some _ from x)⟩
  | met f y => exact ⟨_, (show h.get? a = some _ from x)⟩
  | ext φ => obtain ⟨_, ⟨_, e⟩, _⟩ := x; exact ⟨_, e⟩
/-- B holds all that is tracked and all that stood at the beginning, but the frames -/
def Cov (fs : List Addr) (H' : Hp) (h0 h B : Heap) : Prop := ∀ b o, h.get? b = some o → b ∉ fs → (H' b ≠ none ∨ ∃ u, h0.get? b = some u) → B.get? b = some o
/-- from one station of a flying exception to the next -/
theorem un_move {fs : List Addr} {H0 H' : Hp} {h0 h h2 B : Heap} (u : Un fs [] H0 H' h0 h) (cv : Cov fs H' h0 h B) (st : B.StaysIn h2)
    (sl : ∀ b ∈ fs, ∀ o, h.get? b = some o → ∃ sl, h2.get? b = some { o with slots := sl }) : Un fs [] H0 H' h0 h2 where
  keep := fun b o e n hb hx => st b o (cv b o (u.keep b o e n hb hx) hb (.inr ⟨o, e⟩))
  slot := fun b o e n hb hx => by
    obtain ⟨s1, e1⟩ := u.slot b o e n hb hx
    obtain ⟨s2, e2⟩ := sl b hb _ e1
    exact ⟨s2, e2⟩
  free := u.free
  there := fun b o e hx => by
    obtain ⟨o1, e1⟩ := u.there b o e hx
    by_cases hb : b ∈ fs
    · obtain ⟨s2, e2⟩ := sl b hb _ e1
      exact ⟨_, e2⟩
    · exact ⟨o1, st b o1 (cv b o1 e1 hb (.inr ⟨o, e⟩))⟩
  tups := u.tups
  frzs := u.frzs
  tbls := u.tbls
theorem hok_move {P : Program} {w : World} {fs : List Addr} {H' : Hp} {h0 h h2 B : Heap} (ok : HOk P w H' h) (cv : Cov fs H' h0 h B) (st : B.StaysIn h2) (fr : ∀ b ∈ fs, H' b = none) : HOk P w H' h2 := fun a o e =>
  (ok a o e).stay (fun b v hb q => st b v (cv b v q (fun z => by
      rcases hb with rfl | hb
      · rw [fr _ z] at e; cases e
      · rw [fr _ z] at hb; cases hb) (.inl (by
      rcases hb with rfl | hb
      · rw [e]; exact fun z => nomatch z
      · rw [hb]; exact fun z => nomatch z)))) (fun _ q => q) fun _ _ q => q
theorem cov_move {P : Program} {w : World} {fs : List Addr} {H0 H' : Hp} {h0 h h2 B : Heap} (u : Un fs [] H0 H' h0 h) (ok : HOk P w H' h) (cv : Cov fs H' h0 h B) (st : B.StaysIn h2) : Cov fs H' h0 h2 B := fun b o e hb c => by
  have key : ∃ o1, h.get? b = some o1 := by
    rcases c with c | ⟨v, c⟩
    · cases q : H' b with
      | none => exact absurd q c
      | some x => exact (ok b x q).get
    · exact u.there b v c (by simp)
  obtain ⟨o1, e1⟩ := key
  have e2 := cv b o1 e1 hb c
  have e3 := st b o1 e2
  rw [e] at e3
  cases e3
  exact e2
/-- how an exception lies behind a call -/
def CXE (P : Program) (w : World) : CXT := fun outer H s E e s' => ∃ (ex t : Addr) (cls : Value) (H' : Hp) (B : Heap),
  e = .ref ex ∧ s'.os = s.os ∧ AllBare s'.gens ∧ Un (frs outer) [] H H' s.heap s'.heap ∧ HOk P w H' s'.heap ∧ Heap.FlyingW B outer ex cls (.ref t) s'.heap ∧ Cov (frs outer) H' s.heap s'.heap B ∧ s.heap.get? ex = none ∧ H' ex = none ∧ E cls none H'
theorem slots_of {B h h2 : Heap} {l : List Env} (ff : h.FunFrames B l) (up : h.UpToSlots h2) : ∀ b ∈ frs l, ∀ o, h.get? b = some o → ∃ sl, h2.get? b = some { o with slots := sl } := fun b hb o e => by
  obtain ⟨_, o', e', nf⟩ := ff.mem hb
  rw [e] at e'
  cases e'
  exact up b o e nf
section
variable {X : Cx} {pins : List (Addr × Obj)} {σ : St} {H : Hp} {s : Shared}
theorem none_there {fs ex : List Addr} {H0 H' : Hp} {h0 h : Heap} (u : Un fs ex H0 H' h0 h) {b : Addr} (hx : b ∉ ex) (e : h.get? b = none) : h0.get? b = none := by
  cases q : h0.get? b with
  | none => rfl
  | some o =>
    obtain ⟨o', e'⟩ := u.there b o q hx
    rw [e] at e'
    cases e'
theorem Inv.frf (I : Inv X pins σ H s) : ∀ b ∈ frs X.stack, H b = none := I.env0.frf
end
section
variable {P : Program} {w : World} {K : PySem.W.Frag} {mg : Str → Option Value} {base : Heap} {N : List Str} {qual : Str} {scope : Scope} {f : Addr} {cdv : Value} {A : Around} {outer : List Env} {s : Shared} {H : Hp} {E : XK}
  {pins : List (Addr × Obj)} {σ : St} {H1 : Hp} {s1 : Shared}
/-- an exception just made leaves the def -/
theorem xe_made {h2 : Heap} {ex C : Addr} {args : List Value} (I : Inv (cxOf (CXE P w) P w K mg base N qual scope f cdv A outer s H E) pins σ H1 s1)
    (hx : Heap.MadeExcOf s1.heap h2 ex (.ref C) args) (h : E (.ref C) none H1) : (cxOf (CXE P w) P w K mg base N qual scope f cdv A outer s H E).xe (.ref ex) { s1 with heap := h2 } := by
  have e0 := I.env0
  have stk : (cxOf (CXE P w) P w K mg base N qual scope f cdv A outer s H E).stack = envOfC qual scope s.heap.objs.size f cdv :: outer := rfl
  have hin : ∀ env ∈ (envOfC qual scope s.heap.objs.size f cdv :: outer), ∀ a, env.frame = some a → a ∈ frs (envOfC qual scope s.heap.objs.size f cdv :: outer) := fun env he a ha => List.mem_filterMap.mpr ⟨env, he, ha⟩
  have ff : s1.heap.FunFrames (PySem.W.hideAll s1.heap (frs (envOfC qual scope s.heap.objs.size f cdv :: outer))) (envOfC qual scope s.heap.objs.size f cdv :: outer) := PySem.W.funFrames_hide e0.funs hin
  have hkb : (PySem.W.hideAll s1.heap (frs (envOfC qual scope s.heap.objs.size f cdv :: outer))).StaysIn s1.heap := fun b o q => PySem.W.of_hideAll _ q
  show wpAny _ _ (leaving _ _) _ _ _
  refine wpAny_leaves_madeW (L := s.heap.objs.size) (s := { s1 with heap := h2 }) e0.frames rfl hkb ff hx fun h' t fl tup hBt up => ?_
  have ffo : s1.heap.FunFrames (PySem.W.hideAll s1.heap (frs (envOfC qual scope s.heap.objs.size f cdv :: outer))) outer := ff.2.2
  have u1 : Un (frs outer) [] H H1 s.heap s1.heap := I.base
  have hL : H1 s.heap.objs.size = none := I.free
  have cv : Cov (frs outer) H1 s.heap s1.heap (PySem.W.hideAll s1.heap (frs (envOfC qual scope s.heap.objs.size f cdv :: outer))) := fun b o e hb c => by
    refine PySem.W.hideAll_get _ e fun hm => ?_
    have hm' : b = s.heap.objs.size ∨ b ∈ frs outer := by
      have := hm
      unfold frs at this
      rw [List.filterMap_cons] at this
      exact List.mem_cons.mp this
    rcases hm' with rfl | hm'
    · rcases c with c | ⟨v, c⟩
      · exact c hL
      · exact absurd (Heap.lt_size c) (Nat.lt_irrefl _)
    · exact hb hm'
  have up2 : s1.heap.UpToSlots h' := (Heap.UpToSlots.of_keeps hx.keeps).trans up
  have sl := slots_of ffo up2
  have fr : ∀ b ∈ frs outer, H1 b = none := fun b hb => I.frf b (by
    show b ∈ frs (envOfC qual scope s.heap.objs.size f cdv :: outer)
    unfold frs
    rw [List.filterMap_cons]
    exact List.mem_cons_of_mem _ hb)
  have hexn : H1 ex = none := by
    cases q : H1 ex with
    | none => rfl
    | some x =>
      obtain ⟨ob, eo⟩ := (I.hok ex x q).get
      have := hx.new
      rw [eo] at this
      cases this
  exact ⟨ex, t, .ref C, H1, _, rfl, I.os, I.bare, un_move u1 cv fl.1 sl, hok_move I.hok cv fl.1 fr, fl, cov_move u1 I.hok cv fl.1, none_there u1 (by simp) hx.new, hexn, h⟩
/-- an exception of a callee leaves the def too -/
theorem xe_on {E' : XK} {e : Value} {s' : Shared} (I : Inv (cxOf (CXE P w) P w K mg base N qual scope f cdv A outer s H E) pins σ H1 s1)
    (h : CXE P w (cxOf (CXE P w) P w K mg base N qual scope f cdv A outer s H E).stack H1 s1 E' e s') (k : ∀ cls H', E' cls none H' → E cls none H') :
    (cxOf (CXE P w) P w K mg base N qual scope f cdv A outer s H E).xe e s' := by
  obtain ⟨ex, t, cls, H', B, rfl, ho, hg, u, ok, fl, cv, hn, hexn, hE⟩ := h
  have I' := I.call' (ch := []) ho u ok hg (fun _ z => nomatch z)
  have e0 := I'.env0
  have u1 : Un (frs outer) [] H H' s.heap s'.heap := I'.base
  have hL : H' s.heap.objs.size = none := I'.free
  show wpAny _ _ (leaving _ _) _ _ _
  refine wpAny_leaves_onW (L := s.heap.objs.size) e0.frames rfl fl fun h' fl' up => ?_
  have cv1 : Cov (frs outer) H' s.heap s'.heap B := fun b o e hb c => by
    have hb' : b ∉ frs (envOfC qual scope s.heap.objs.size f cdv :: outer) := fun hm => by
      have hm' : b = s.heap.objs.size ∨ b ∈ frs outer := by
        have := hm
        unfold frs at this
        rw [List.filterMap_cons] at this
        exact List.mem_cons.mp this
      rcases hm' with rfl | hm'
      · rcases c with c | ⟨v, c⟩
        · exact c hL
        · exact absurd (Heap.lt_size c) (Nat.lt_irrefl _)
      · exact hb hm'
    refine cv b o e hb' ?_
    rcases c with c | ⟨v, c⟩
    · exact .inl c
    · exact .inr (Un.there (show Un (frs outer) [] H H1 s.heap s1.heap from I.base) b v c (by simp))
  have ffo : s'.heap.FunFrames B outer := fl.2.2.1.2.2
  have sl := slots_of ffo up
  have fr : ∀ b ∈ frs outer, H' b = none := fun b hb => I'.frf b (by
    show b ∈ frs (envOfC qual scope s.heap.objs.size f cdv :: outer)
    unfold frs
    rw [List.filterMap_cons]
    exact List.mem_cons_of_mem _ hb)
  exact ⟨ex, t, cls, H', B, rfl, I'.os, I'.bare, un_move u1 cv1 fl'.1 sl, hok_move ok cv1 fl'.1 fr, fl', cov_move u1 ok cv1 fl'.1, none_there (show Un (frs outer) [] H H1 s.heap s1.heap from I.base) (by simp) hn, hexn, k _ _ hE⟩
end
/-! ### calls that may raise -/
/-- an exception that lies so reaches what the body wants -/
def PassesX (X : Cx) (XE : St → XK) : Prop := ∀ (pins : List (Addr × Obj)) (σ : St) (H : Hp) (s : Shared) (e : Value) (s' : Shared), Inv X pins σ H s → CXE X.prog X.w X.stack H s (XE σ) e s' → X.xe e s'
theorem passX_fn {P : Program} {w : World} {K : PySem.W.Frag} {mg : Str → Option Value} {base : Heap} {N : List Str} {qual : Str} {scope : Scope} {f : Addr} {cdv : Value} {A : Around} {outer : List Env} {s : Shared} {H : Hp} {E : XK} :
    PassesX (cxOf (CXE P w) P w K mg base N qual scope f cdv A outer s H E) (fun _ => E) := fun _ _ _ _ _ _ I h => xe_on I h fun _ _ z => z
def tCallX (sp : Sp) (XE : St → XK) (t : TA) : TE := fun σ H Q => t σ H fun vs H1 => sp vs H1 Q (XE σ)
section
variable {X : Cx} {k : Nat} {f C : Addr} {fd : FuncData} {ps : List Str} {sp : Sp} {XE : St → XK} {x m : Str} {p pos apos np cpos : Pos} {e o : Expr} {es : List Expr} {ta : TE} {t : TA}
theorem run_fnX {pins : List (Addr × Obj)} {σ : St} {H : Hp} {s : Shared} {Q : VK} {us : List Value} {vs : List V} (F : FnOk X.prog X.w X.K X.mg X.base (CXE X.prog X.w) k f fd ps sp) (hr : Room k X.A) (hb : Binds X.K fd ps []) (hx : PassesX X XE)
    (I : Inv X pins σ H s) (r : Vals vs us) (h : sp vs H Q (XE σ)) : wpAny (model X.prog X.w) X.A (call (.ref f) us) (EP X pins σ Q) X.xe s := by
  have hl : (us ++ []).length = ps.length := by rw [List.append_nil, ← r.length]; exact F.len _ _ _ _ h
  have hb' := hb s us I.kIn hl
  rw [List.append_nil] at hb'
  refine wpAny_call (codeAny_mono (F.run X.A X.stack s H ⟨us, []⟩ us vs Q (XE σ) hr I.env0 hb' r h) fun r s' hq => ?_)
  cases r with
  | error e => exact hx pins σ H s e s' I hq
  | ok fl =>
    cases fl with
    | ret u => exact I.after hq
    | next => exact False.elim hq
    | brk => exact False.elim hq
    | cont => exact False.elim hq
theorem pe_callX (F : FnOk X.prog X.w X.K X.mg X.base (CXE X.prog X.w) k f fd ps sp) (hr : Room k X.A) (hg : Gl X x) (hm : X.mg x = some (.ref f)) (hk : PySem.W.keepIn X.K (.ref f) = true) (hb : Binds X.K fd ps []) (hx : PassesX X XE)
    (ha : PA X (e :: es) t) (hdb : (x == ("__debug__" : Str)) = false := by decide) (he : starEach (e :: es) X.env = (false, eval e X.env) :: starEach es X.env := by rfl) (hpl : (backTo pos (starEach es X.env)).any (·.1) = false := by rfl) :
    PE X (.Call (.Name x p) (e :: es) [] pos) (tCallX sp XE t) := by
  intro pins s σ H Q I h
  refine wpAny_Call_Name_kw (ld_glob I hg hm ?_ hdb)
  refine PySem.W.callWith_K (h₀ := X.base) I.ok.mod.kin hk (thn (ha pos pins s σ H _ I h) fun us s1 ⟨vs, H1, I1, r, q⟩ => ⟨I1.kIn, ?_⟩) he hpl
  exact run_fnX F hr hb hx I1 r q
end
/-! ### raise C(..) in a def -/
/-- what of the text an exception class must have -/
structure XCls (K : PySem.W.Frag) (C : Addr) : Prop where
  ex : PySem.W.excIn K C [.type "ValueError", .type "Exception", .type "BaseException", .type "object"] "ValueError.__new__" = true
theorem XCls.obj {K : PySem.W.Frag} {C : Addr} (c : XCls K C) : ∃ nm q N bs bm hdct sn sub ab col dd k0 k1 k2 k3 k5, K.lookup C = some (excClassObj nm q C N bs bm hdct sn sub ab col dd k0 k1 k2 k3 k5 "ValueError.__new__") ∧
    PySem.W.tailIn K [.type "ValueError", .type "Exception", .type "BaseException", .type "object"] bm = true ∧ PySem.W.nsOkIn K N = true ∧ PySem.W.nsIn K N "__init__" = some none := by
  have q := c.ex
  unfold PySem.W.excIn at q
  split at q
  · rename_i dd cd sl ho
    split at q
    · rename_i C' bm k0 k1 k2 k3 n k5 hm hs
      simp only [Bool.and_eq_true, beq_iff_eq, Bool.not_eq_true'] at q
      obtain ⟨⟨⟨⟨⟨rfl, rfl⟩, hdel⟩, ht⟩, hok⟩, hni⟩ := q
      obtain ⟨nm, bs, mro, ns, qn, hd, sn, sub, ab, col, del⟩ := cd
      dsimp only at hm hdel hok hni
      subst hm hdel
      have hsl : sl = #[k0, k1, k2, k3, some (.builtin "ValueError.__new__"), k5] := by
        obtain ⟨l⟩ := sl
        simp only at hs
        rw [hs]
      subst hsl
      exact ⟨nm, qn, ns, bs, bm, hd, sn, sub, ab, col, dd, k0, k1, k2, k3, k5, ho, ht, hok, hni⟩
    · cases q
  · cases q
section
variable {P : Program} {w : World} {K : PySem.W.Frag} {mg : Str → Option Value} {base : Heap} {N : List Str} {qual : Str} {scope : Scope} {f C : Addr} {cdv : Value} {A : Around} {outer : List Env} {s : Shared} {H : Hp} {E : XK}
  {x : Str} {np cpos pos : Pos} {e₀ : Expr} {rest : List Expr} {t : TA}
def tRaise (C : Addr) (E : XK) (t : TA) : TS := fun _ σ H => t σ H fun vs H1 => vs.length ≤ sizeLine ∧ E (.ref C) none H1
theorem ps_raise (c : XCls K C) (hm : mg x = some (.ref C))
    (ha : PA (cxOf (CXE P w) P w K mg base N qual scope f cdv A outer s H E) (e₀ :: rest) t)
    (hg : Gl (cxOf (CXE P w) P w K mg base N qual scope f cdv A outer s H E) x := by rfl) (hdb : (x == ("__debug__" : Str)) = false := by decide)
    (he : starEach (e₀ :: rest) (cxOf (CXE P w) P w K mg base N qual scope f cdv A outer s H E).env = (false, eval e₀ (cxOf (CXE P w) P w K mg base N qual scope f cdv A outer s H E).env) :: starEach rest (cxOf (CXE P w) P w K mg base N qual scope f cdv A outer s H E).env := by rfl)
    (hpl : (backTo cpos (starEach rest (cxOf (CXE P w) P w K mg base N qual scope f cdv A outer s H E).env)).any (·.1) = false := by rfl) :
    PS (cxOf (CXE P w) P w K mg base N qual scope f cdv A outer s H E) (.Raise (some (.Call (.Name x np) (e₀ :: rest) [] cpos)) none pos) (tRaise C E t) := by
  intro pins s1 σ H1 D I h
  obtain ⟨nm, q, NN, bs, bm, hdct, sn, sub, ab, col, dd, k0, k1, k2, k3, k5, lk, ht, hok, hni⟩ := c.obj
  have hbase : bm.contains (.type "BaseException") = true := (PySem.W.tail_of_in I.kIn ht).hasType (by decide +kernel)
  have hkk : K.In s1.heap := I.kIn
  refine wpAny_Raise_call_subT (C := C) (nm := nm) (q := q) (N := NN) (bs := bs) (bm := bm) (hdct := hdct) (sn := sn) (sub := sub) (ab := ab) (col := col) (dd := dd) (k0 := k0) (k1 := k1) (k2 := k2) (k3 := k3) (k5 := k5) (mN := s1.heap.nsMap NN)
    F.excBase_ValueError hbase (I.ok.hd rfl) (by rw [he]; show (false || (backTo cpos (starEach rest _)).any (·.1)) = false; rw [hpl]; rfl) (PySem.W.nsMap_none_of_in hkk hok hni) ?_
  refine ld_glob I hg hm ?_ hdb
  refine ⟨rfl, ?_⟩
  have hargs := ha cpos pins s1 σ H1 _ I h
  rw [he] at hargs ⊢
  refine Calls.evalArgs_plain (thn hargs fun us s2 ⟨vs, H2, I2, r, hlen, q2⟩ => ?_)
  have k2' : K.In s2.heap := I2.kIn
  have keepN : s2.heap.Ns NN (s1.heap.nsMap NN) := by
    have n1 : s1.heap.Ns NN (s1.heap.nsMap NN) := .of_isNs (PySem.W.isNs_of_in hkk hok)
    obtain ⟨o, es, ep, e, r1⟩ := n1
    unfold PySem.W.nsOkIn at hok
    split at hok
    · rename_i c0 d0 es0 n0 sl0 ho
      have e1 := hkk _ _ ho
      rw [e] at e1
      cases e1
      exact ⟨_, es, ep, k2' _ _ ho, r1⟩
    · cases hok
  refine ⟨rfl, by show us.length ≤ sizeLine; rw [← r.length]; exact hlen, k2' _ _ lk, keepN, PySem.W.tail_of_in k2' ht, fun h' ex hx => ?_⟩
  exact xe_made I2 hx q2
end
end L2
namespace L2
open PySem PySem.Spec PyProof.Rows
/-! ### try: .. except C as n: .. -/
def tryXe (X : Cx) (XE : St → XK) : Value → Shared → Prop := fun e s' => ∃ pins σ H s, Inv X.nox pins σ H s ∧ CXE X.prog X.w X.stack H s (XE σ) e s'
/-- the body of a try -/
abbrev tryCx (X : Cx) (pins : List (Addr × Obj)) (XE : St → XK) : Cx := { X with pn := X.pn ++ pins, xe := tryXe { X with pn := X.pn ++ pins } XE }
theorem passX_try {X : Cx} {pins : List (Addr × Obj)} {XE : St → XK} : PassesX (tryCx X pins XE) XE := fun pins' σ H s e s' I h => ⟨pins', σ, H, s, Inv.wish (X := tryCx X pins XE) I _, h⟩
theorem Cx.Ok.pn {X : Cx} (ok : X.Ok) (p : List (Addr × Obj)) (E : Value → Shared → Prop) : Cx.Ok { X with pn := p, xe := E } :=
  ⟨ok.mod, ok.kind, ok.glob, ok.blt, ok.above, ok.inj, ok.has, ok.cab, ok.hd, ok.frames, ok.stk, ok.exf, ok.bs, ok.bsz, ok.noex, ok.exfs, ok.funs, ok.frf⟩
/-- the pins move into the context, and back -/
theorem Inv.intoPn {X : Cx} {pins : List (Addr × Obj)} {σ : St} {H : Hp} {s : Shared} (I : Inv X pins σ H s) (E : Value → Shared → Prop) : Inv { X with pn := X.pn ++ pins, xe := E } [] σ H s :=
  ⟨I.ok.pn _ _, I.os, I.bare, I.base, I.loc, I.cell, I.free, I.freeC, (by rw [List.append_nil]; exact I.pin), I.hok, I.len⟩
theorem Cx.Ok.unpn {X : Cx} {p : List (Addr × Obj)} {E : Value → Shared → Prop} (ok : Cx.Ok { X with pn := p, xe := E }) : X.Ok :=
  ⟨ok.mod, ok.kind, ok.glob, ok.blt, ok.above, ok.inj, ok.has, ok.cab, ok.hd, ok.frames, ok.stk, ok.exf, ok.bs, ok.bsz, ok.noex, ok.exfs, ok.funs, ok.frf⟩
theorem Inv.outPn {X : Cx} {pins pins' : List (Addr × Obj)} {σ : St} {H : Hp} {s : Shared} {E : Value → Shared → Prop} (I : Inv { X with pn := X.pn ++ pins, xe := E } pins' σ H s) : Inv X pins σ H s :=
  ⟨I.ok.unpn, I.os, I.bare, I.base, I.loc, I.cell, I.free, I.freeC, fun p hp => I.pin p (List.mem_append_left _ hp), I.hok, I.len⟩
/-- within an except suite -/
abbrev Cx.handling (X : Cx) (e : Value) : Cx := { X with A := X.A.mark (some e), calm := false, xe := fun _ _ => False }
theorem Inv.handle {X : Cx} {pins : List (Addr × Obj)} {σ : St} {H : Hp} {s : Shared} (I : Inv X pins σ H s) (e : Value) : Inv (X.handling e) pins σ H s :=
  ⟨⟨I.ok.mod, I.ok.kind, I.ok.glob, I.ok.blt, I.ok.above, I.ok.inj, I.ok.has, I.ok.cab, (fun z => nomatch z), I.ok.frames, I.ok.stk, I.ok.exf, I.ok.bs, I.ok.bsz, I.ok.noex, I.ok.exfs, I.ok.funs, I.ok.frf⟩,
   I.os, I.bare, I.base, I.loc, I.cell, I.free, I.freeC, I.pin, I.hok, I.len⟩
theorem Inv.unhandle {X : Cx} {pins : List (Addr × Obj)} {σ : St} {H : Hp} {s : Shared} {e : Value} (I : Inv (X.handling e) pins σ H s) (hd : X.calm = true → X.A.handled = none) (hf : X.A.frames = some X.stack) : Inv X pins σ H s :=
  ⟨⟨I.ok.mod, I.ok.kind, I.ok.glob, I.ok.blt, I.ok.above, I.ok.inj, I.ok.has, I.ok.cab, hd, hf, I.ok.stk, I.ok.exf, I.ok.bs, I.ok.bsz, I.ok.noex, I.ok.exfs, I.ok.funs, I.ok.frf⟩,
   I.os, I.bare, I.base, I.loc, I.cell, I.free, I.freeC, I.pin, I.hok, I.len⟩
/-- an exception of the class at C, kept -/
def ExcO (ex C : Addr) : HO := .ext fun h => ∃ o vs, h.get? ex = some o ∧ o.cls = .ref C ∧ o.data = .fields vs
section
variable {X : Cx} {pins : List (Addr × Obj)} {σ : St} {H : Hp} {s : Shared}
/-- a thing that lay there untracked is tracked -/
theorem Inv.track {a : Addr} {o : HO} (I : Inv X pins σ H s) (hn : H a = none) (h0 : X.s₀.heap.get? a = none) (hl : a ≠ X.env.locals) (hc : ∀ x c, X.env.cells.lookup x = some c → c ≠ a) (hp : ∀ p ∈ X.pn ++ pins, p.1 ≠ a)
    (ok : ObjOk X.prog X.w (upd H a o) s.heap a o) : Inv X pins σ (upd H a o) s :=
  ⟨I.ok, I.os, I.bare, ⟨I.base.keep, I.base.slot, fun b ob e n hx => by
      have : b ≠ a := fun z => by rw [z, h0] at e; cases e
      rw [upd_ne this]
      exact I.base.free b ob e n hx, I.base.there, fun b xs e => by
      have z := I.base.tups b xs e
      rw [upd_ne (ne_of_none z hn)]
      exact z, fun b ob u e => by
      have z := I.base.frzs b ob u e
      rw [upd_ne (ne_of_none z hn)]
      exact z, fun b ps e => by
      obtain ⟨more, z⟩ := I.base.tbls b ps e
      exact ⟨more, by rw [upd_ne (ne_of_none z hn)]; exact z⟩⟩, I.loc, I.cell, by rw [upd_ne (Ne.symm hl)]; exact I.free, fun x c e => by rw [upd_ne (hc x c e)]; exact I.freeC x c e,
   fun p q => by
     obtain ⟨a1, a2, a3⟩ := I.pin p q
     exact ⟨a1, by rw [upd_ne (hp p q)]; exact a2, a3⟩,
   fun b u e => by
     by_cases hb : b = a
     · subst hb
       rw [upd_same] at e
       cases e
       exact ok
     · rw [upd_ne hb] at e
       exact (I.hok b u e).stay (fun _ _ _ q => q) (fun c q => by rw [upd_ne (ne_of_none q hn)]; exact q) fun c xs q => by rw [upd_ne (ne_of_none q hn)]; exact q, I.len⟩
/-- the frame's own names are rewritten -/
theorem Inv.locals {h' : Heap} {m' : Str → Option Value} {σ' : St} {t' : Nat} (I : Inv X pins σ H s) (hs : Heap.SameBut X.env.locals s.heap h') (hn' : h'.Ns X.env.locals m')
    (hl : ∀ (i : Nat) (x : Str) (v : V), X.N[i]? = some x → σ'[i]? = some (some v) → Vis X.env.scope x → ∃ u, RelV v u ∧ Look X.env h' m' x u) (len : σ'.length = σ.length) : Inv X pins σ' H { s with heap := h', toks := t' } := by
  have cne := I.cne
  obtain ⟨m, ⟨oL, _, _, hoL, _⟩, _⟩ := id I.loc
  refine ⟨I.ok, I.os, I.bare, ⟨fun b o e n hb hx => ?_, fun b o e n hb hx => ?_, I.base.free, fun b o e hx => ?_, I.base.tups, I.base.frzs, I.base.tbls⟩, ⟨_, hn', hl⟩, fun y c e => ?_, I.free, I.freeC, fun p hp => ?_, fun b ob e => ?_, len.trans I.len⟩
  · exact (hs.2 b (Nat.ne_of_lt (Nat.lt_of_lt_of_le (Heap.lt_size e) I.ok.above))).trans (I.base.keep b o e n hb hx)
  · obtain ⟨sl, e1⟩ := I.base.slot b o e n hb hx
    exact ⟨sl, (hs.2 b (Nat.ne_of_lt (Nat.lt_of_lt_of_le (Heap.lt_size e) I.ok.above))).trans e1⟩
  · obtain ⟨o', e1⟩ := I.base.there b o e hx
    exact ⟨o', (hs.2 b (Nat.ne_of_lt (Nat.lt_of_lt_of_le (Heap.lt_size e) I.ok.above))).trans e1⟩
  · obtain ⟨w', z⟩ := I.cell y c e
    exact ⟨w', z.sameBut hs (cne y c e)⟩
  · obtain ⟨e, n, ne, nf, d⟩ := I.pin p hp
    exact ⟨(hs.2 p.1 ne).trans e, n, ne, nf, d⟩
  · refine (I.hok b ob e).stay (fun c w' hc q => (hs.2 c ?_).trans q) (fun _ q => q) fun _ _ q => q
    rintro rfl
    rcases hc with rfl | hc
    · rw [I.free] at e; cases e
    · rw [I.free] at hc; cases hc
/-- from one station to the next, in the def that catches -/
theorem Inv.move {H0 : Hp} {h0 h2 B : Heap} {st : List Env} (I : Inv X pins σ H s) (hst : X.stack = st) (cv : Cov (frs st) H h0 s.heap B) (stay : B.StaysIn h2) (up : s.heap.UpToSlots h2)
    (ff : s.heap.FunFrames B st) (hpin : ∀ p ∈ X.pn ++ pins, ∃ u, h0.get? p.1 = some u) (u0 : ∀ b o, X.s₀.heap.get? b = some o → ∃ u, h0.get? b = some u) (hex : X.ex = []) (hsub : ∀ b ∈ X.fs, b ∈ frs st) : Inv X pins σ H { s with heap := h2 } := by
  subst hst
  have fr := I.frf
  have sl := slots_of ff up
  have hpn : ∀ p ∈ X.pn ++ pins, p.1 ∉ frs X.stack := fun p hp z => by
    have := I.pin p hp
    exact (List.mem_cons.mp (I.stkSub p.1 z)).elim this.2.2.1 this.2.2.2.1
  refine ⟨I.ok, I.os, I.bare, ⟨fun b o e n hb hx => ?_, fun b o e n hb hx => ?_, I.base.free, fun b o e hx => ?_, I.base.tups, I.base.frzs, I.base.tbls⟩, ?_, fun y c e => ?_, I.free, I.freeC, fun p hp => ?_, hok_move I.hok cv stay fr, I.len⟩
  · have e1 := I.base.keep b o e n hb hx
    refine stay b o (cv b o e1 (fun z => ?_) (.inr (u0 b o e)))
    rcases List.mem_cons.mp (I.stkSub b z) with z | z
    · exact absurd z (Nat.ne_of_lt (Nat.lt_of_lt_of_le (Heap.lt_size e) I.ok.above))
    · exact hb z
  · obtain ⟨s1, e1⟩ := I.base.slot b o e n hb hx
    obtain ⟨s2, e2⟩ := sl b (hsub b hb) _ e1
    exact ⟨s2, e2⟩
  · obtain ⟨o1, e1⟩ := I.base.there b o e hx
    by_cases hb : b ∈ frs X.stack
    · obtain ⟨s2, e2⟩ := sl b hb _ e1
      exact ⟨_, e2⟩
    · exact ⟨o1, stay b o1 (cv b o1 e1 hb (.inr (u0 b o e)))⟩
  · obtain ⟨m, hn, hl⟩ := I.loc
    refine ⟨m, up.ns hn, fun i x v a1 a2 a3 => ?_⟩
    obtain ⟨u, r, q⟩ := hl i x v a1 a2 a3
    refine ⟨u, r, ?_⟩
    rcases q with q | ⟨k, c, e, z⟩
    · exact .inl q
    · refine .inr ⟨k, c, e, ?_⟩
      obtain ⟨oc, ho, hd⟩ := z
      obtain ⟨sl2, e2⟩ := up c oc ho fun vs q => by rw [hd] at q; cases q
      exact ⟨_, e2, hd⟩
  · obtain ⟨w', oc, ho, hd⟩ := I.cell y c e
    obtain ⟨sl2, e2⟩ := up c oc ho fun vs q => by rw [hd] at q; cases q
    exact ⟨w', _, e2, hd⟩
  · obtain ⟨e, n, ne, nf, d⟩ := I.pin p hp
    exact ⟨stay p.1 p.2 (cv p.1 p.2 e (hpn p hp) (.inr (hpin p hp))), n, ne, nf, d⟩
end
/-- does the exception's class stand under the clause's -/
theorem excMatches_own {M : Model} {A : Around} {E : Value → Shared → Prop} {s : Shared} {K : PySem.W.Frag} {ex C W : Addr} {oe : Obj} {b : Bool} {Q : Bool → Shared → Prop} (X : K.In s.heap) (he : s.heap.get? ex = some oe) (hc : oe.cls = .ref C)
    (hT : PySem.W.typeIn K (.ref W) = some (.type "type")) (hcl : (PySem.W.clsIn K W).isSome = true) (hB : PySem.W.subIn K (.ref W) (.type "BaseException") = some true) (hs : PySem.W.subIn K (.ref C) (.ref W) = some b) (h : Q b s) :
    wpAny M A (excMatches (.ref ex) (.ref W)) Q E s := by
  obtain ⟨hp, g, d, tk, os⟩ := s
  have L1 : PySem.W.Looks M hp (typeOf (.ref W)) (.type "type") := PySem.W.looks_typeIn X hT
  have L2 : PySem.W.Looks M hp (isInstance (.ref W) (.type "tuple")) false := L1.andThen (PySem.W.Looks.of_pure tc_notTuple)
  have L3 : PySem.W.Looks M hp (isType (.ref W)) true := by
    unfold PySem.W.clsIn at hcl
    split at hcl
    · rename_i c' d' cd' sl' ho
      intro A' Q' E' s' k q
      unfold isType loadHead
      exact wpAny_bind (wpAny_loadPart (k _ _ (X _ _ ho)) (wpAny_pure q))
    · cases hcl
  have L4 : PySem.W.Looks M hp (isSubtype (.ref W) (.type "BaseException")) true := PySem.W.looks_subIn X hB
  have L5 : PySem.W.Looks M hp (typeOf (.ref ex)) (.ref C) := by rw [← hc]; exact (PySem.W.Looks.ld he).andThen .now
  have L6 : PySem.W.Looks M hp (isSubtype (.ref C) (.ref W)) b := PySem.W.looks_subIn X hs
  unfold excMatches
  refine wpAny_bind (L2.at ?_)
  simp only [Bool.false_eq_true, if_false]
  refine wpAny_bind (wpAny_pure ?_)
  simp only [List.forIn_cons, List.forIn_nil, bind_assoc, pure_bind]
  unfold isExcClass
  refine wpAny_bind (wpAny_bind (L3.at ?_))
  simp only [if_true]
  refine L4.at ?_
  simp only [Bool.not_true, Bool.false_eq_true, if_false, pure_bind]
  refine wpAny_bind (L5.at ?_)
  refine wpAny_bind (L6.at ?_)
  cases b <;> exact wpAny_pure h
/-- what a clause's class must have -/
structure WCls (K : PySem.W.Frag) (W : Addr) : Prop where
  ty : PySem.W.typeIn K (.ref W) = some (.type "type")
  cl : PySem.W.isClsIn K W = true
  base : PySem.W.subIn K (.ref W) (.type "BaseException") = some true
def tTryAs (K : PySem.W.Frag) (W : Addr) (j : Nat) (tb : (St → XK) → TS) (ts : TS) : TS := fun D σ H => ∃ XE : St → XK, tb XE D σ H ∧
  ∀ σ' H' cls, XE σ' cls none H' → ∃ C, cls = .ref C ∧ PySem.W.subIn K (.ref C) (.ref W) = some true ∧ ∀ ex, H' ex = none →
    ts { nx := fun σ2 H2 => D.nx (σ2.set j none) H2, rt := D.rt, bk := fun σ2 H2 => D.bk (σ2.set j none) H2, ct := fun σ2 H2 => D.ct (σ2.set j none) H2 } (σ'.set j (some (.ref ex))) (upd H' ex (ExcO ex C))
theorem ps_tryAs {X : Cx} {x n : Str} {W : Addr} {j : Nat} {body suite : List Stmt} {b₀ : Stmt} {np hpos pos : Pos} {tb : (St → XK) → TS} {ts : TS} (c : WCls X.K W) (hg : Gl X x) (hm : X.mg x = some (.ref W))
    (hN : X.N.Nodup) (hj : X.N[j]? = some n) (hb : ∀ pins XE, PSs (tryCx X pins XE) body (tb XE)) (hs : ∀ e, PSs (X.handling e) (b₀ :: suite) ts)
    (hcalm : X.calm = true := by rfl) (hst : X.stack = X.env :: X.outer := by rfl) (hfr : X.env.frame = some X.env.locals := by rfl) (hex : X.ex = [] := by rfl) (hl : X.env.scope.names.lookup n = some .local := by rfl) (hlk : X.env.kindOf n = some .local := by rfl)
    (hfn : X.fn n = true := by rfl) (hdb : (x == ("__debug__" : Str)) = false := by decide) :
    PS X (.Try body [.ExceptHandler (some (.Name x np)) (some n) (b₀ :: suite) hpos] [] [] pos) (tTryAs X.K W j tb ts) := by
  intro pins s σ H D I hD
  obtain ⟨XE, hbody, hcatch⟩ := hD
  refine wpAny_Try_except ?_
  have I0 : Inv (tryCx X pins XE) [] σ H s := I.intoPn _
  refine wpAny_mono (hb pins XE [] s σ H D I0 hbody) (fun f s1 hs1 => ?_) (fun e s1 he => ?_)
  · cases f with
    | next =>
      obtain ⟨σ', H', I', q⟩ := hs1
      exact pss_nil (X := X) pins s1 σ' H' D I'.outPn q
    | brk =>
      obtain ⟨σ', H', I', q⟩ := hs1
      exact ⟨σ', H', I'.outPn, q⟩
    | cont =>
      obtain ⟨σ', H', I', q⟩ := hs1
      exact ⟨σ', H', I'.outPn, q⟩
    | ret u =>
      obtain ⟨v, σ', H', I', r, q⟩ := hs1
      exact ⟨v, σ', H', I'.outPn, r, q⟩
  · obtain ⟨pins', σ', H1, s0, I1, ex, t, cls, H', B, rfl, ho, hgn, u, ok, fl, cv, hn, hexn, hE⟩ := he
    have I1X : Inv X pins σ' H1 s0 := Inv.outPn (E := fun _ _ => False) I1
    have I2 : Inv X pins σ' H' s1 := I1X.call' (ch := []) ho u ok hgn (fun _ z => nomatch z)
    obtain ⟨C, rfl, hsub, hsuite⟩ := hcatch σ' H' cls hE
    have fl0 : Heap.FlyingW B (X.env :: X.outer) ex (.ref C) (.ref t) s1.heap := by rw [← hst]; exact fl
    have cv0 : Cov (frs (X.env :: X.outer)) H' s0.heap s1.heap B := by rw [← hst]; exact cv
    have hframes : X.A.frames = some (X.env :: X.outer) := by rw [← hst]; exact I.ok.frames
    have hsubf : ∀ b ∈ X.fs, b ∈ frs (X.env :: X.outer) := fun b hb => by
      unfold frs
      rw [List.filterMap_cons, hfr]
      exact List.mem_cons_of_mem _ hb
    have hpin : ∀ p ∈ X.pn ++ pins, ∃ u, s0.heap.get? p.1 = some u := fun p hp => ⟨_, (I1X.pin p hp).1⟩
    have u0 : ∀ b o, X.s₀.heap.get? b = some o → ∃ u, s0.heap.get? b = some u := fun b o e => I1X.base.there b o e (by rw [hex]; simp)
    have mv : ∀ {h2 : Heap}, B.StaysIn h2 → s1.heap.UpToSlots h2 → Inv X pins σ' H' { s1 with heap := h2 } := fun st up => Inv.move (H0 := H1) (h0 := s0.heap) I2 hst cv0 st up fl0.2.2.1 hpin u0 hex hsubf
    refine wpAny_looks_onW (L := X.env.locals) hframes hfr fl0 fun h4 held4 up4 => ?_
    refine wpAny_landsW held4 fun h5 fl5 up5 => ?_
    have I5 : Inv X pins σ' H' { s1 with heap := h5 } := mv fl5.1 (up4.trans up5)
    refine wpAny_handleBy_cons (codeAny_handlers_test (ld_glob (X := X.handling (.ref ex)) (I5.handle _) hg hm ?_ hdb)) (by intro q; cases q)
    obtain ⟨ob, hob, hobc⟩ := fl5.there
    have hcl : (PySem.W.clsIn X.K W).isSome = true := c.cl
    refine excMatches_own (s := { s1 with heap := h5 }) I5.kIn hob hobc c.ty hcl c.base hsub ?_
    refine codeAny_handlers_suite_as ?_
    refine lands_againW (s := { s1 with heap := h5 }) fl5 fun h6 fl6 up6 => ?_
    have I6 : Inv X pins σ' H' { s1 with heap := h6 } := mv fl6.1 ((up4.trans up5).trans up6)
    obtain ⟨oe, ws, hoe, hoec, hoed, _⟩ := fl6.first
    have ne_there : ∀ b o, s0.heap.get? b = some o → b ≠ ex := fun b o e z => by rw [z, hn] at e; cases e
    have I7 : Inv X pins σ' (upd H' ex (ExcO ex C)) { s1 with heap := h6 } := by
      refine I6.track hexn (none_there I1X.base (by rw [hex]; simp) hn) ?_ (fun y c' e => ?_) (fun p hp => ?_) ⟨⟨oe, ws, hoe, hoec, hoed⟩, ⟨_, hoe⟩, fun h1 h2 ⟨o1, v1, a1, a2, a3⟩ k => ⟨o1, v1, k o1 a1, a2, a3⟩⟩
      · obtain ⟨m, ⟨o, _, _, e, _⟩, _⟩ := I1X.loc
        exact fun z => ne_there _ o e z.symm
      · obtain ⟨v, o, e, _⟩ := I1X.cell y c' e
        exact ne_there _ o e
      · exact ne_there _ _ (I1X.pin p hp).1
    refine store_ok (X := X.handling (.ref ex)) (i := j) (I7.handle (.ref ex)) hN hj (Or.inl hl) (v := .ref ex) rfl (fun s8 I8 => ?_) (.inl hfn)
    have run := hs (.ref ex) pins s8 _ _ _ I8 (hsuite ex hexn)
    refine wpAny_mono run (fun f s9 h9 => ?_) (fun _ _ z => z.elim)
    have gone : ∀ {σ2 : St} {H2 : Hp}, Inv (X.handling (.ref ex)) pins σ2 H2 s9 → ∀ {Q : Unit → Shared → Prop}, (∀ s10, Inv X pins (σ2.set j none) H2 s10 → Q () s10) → wpAny (model X.prog X.w) X.A (do bindName X.env n .none; unbindBehindTheSuite X.env n hpos) Q X.xe s9 := fun {σ2 H2} I9 {Q} k => by
      have I9X : Inv X pins σ2 H2 s9 := I9.unhandle I.ok.hd I.ok.frames
      obtain ⟨m, hn9, hl9⟩ := id I9X.loc
      have hp : (X.env.scope.kind == .class || (X.env.scope.kind == .module && X.env.locals != X.env.globals)) = false := by rw [I.ok.kind]; rfl
      refine wpAny_nameGoes_keeps hlk hn9 hp fun h' v hn' hs' => ?_
      refine k _ (I9X.locals hs' hn' (fun i y z a1 a2 a3 => ?_) (by simp))
      have hij : i ≠ j := fun q => by
        subst q
        rw [List.getElem?_set_self (by rw [I9X.len]; exact (List.getElem?_eq_some_iff.mp hj).1)] at a2
        cases a2
      rw [List.getElem?_set_ne (Ne.symm hij)] at a2
      obtain ⟨u9, r9, q9⟩ := hl9 i y z a1 a2 a3
      have hyn : y ≠ n := fun q => hij (nodup_ix hN a1 (q ▸ hj))
      refine ⟨u9, r9, ?_⟩
      rcases q9 with ⟨q1, q2⟩ | ⟨q1, c9, q2, q3⟩
      · exact .inl ⟨q1, by simp [hyn, q2]⟩
      · exact .inr ⟨q1, c9, q2, q3.sameBut hs' (I9X.cne y c9 q2)⟩
    cases f with
    | next =>
      obtain ⟨σ2, H2, I9, q⟩ := h9
      exact gone I9 fun s10 I10 => ⟨_, _, I10, q⟩
    | brk =>
      obtain ⟨σ2, H2, I9, q⟩ := h9
      exact gone I9 fun s10 I10 => ⟨_, _, I10, q⟩
    | cont =>
      obtain ⟨σ2, H2, I9, q⟩ := h9
      exact gone I9 fun s10 I10 => ⟨_, _, I10, q⟩
    | ret u9 =>
      obtain ⟨v9, σ2, H2, I9, r9, q⟩ := h9
      exact gone I9 fun s10 I10 => ⟨v9, _, _, I10, r9, q⟩
end L2
namespace L2
open PySem PySem.Spec PyProof.Rows
/-! ### isinstance of an exception -/
/-- what of the text isinstance asks of an exception's class -/
structure XTy (K : PySem.W.Frag) (C : Addr) : Prop where
  ga : PySem.W.findIn K (.ref C) "__getattribute__" = some (some (.builtin "BaseException.__getattribute__"))
  gn : PySem.W.findIn K (.ref C) "__getattr__" = some none
  cl : PySem.W.findIn K (.ref C) "__class__" = some (some (.builtin "object.__class__"))
  ob : PySem.W.mroIn K C (.type "object") = some true
  be : PySem.W.mroIn K C (.type "BaseException") = some true
  ic : PySem.W.isClsIn K C = true
section
variable {prog : Program} {w : World} {A : Around} {E : Value → Shared → Prop} {K : PySem.W.Frag} {h : Heap} {g : Array GenState} {d : Drawn} {t : Nat} {os : OsState} {a C : Addr} {o : Obj}
theorem exc_type {M : Model} (hx : h.get? a = some o) (hc : o.cls = .ref C) : PySem.W.Looks M h (typeOf (.ref a)) (.ref C) := hc ▸ (PySem.W.Looks.ld hx).andThen .now
theorem exc_class_get {R : Result → Shared → Prop} {tp : Value} (X : K.In h) (T : XTy K C) (hx : h.get? a = some o) (hc : o.cls = .ref C) (hq : R (.ok (.ret (.ref C))) ⟨h, g, d, t, os⟩) :
    codeAny (model prog w) A (.call (.builtin "getset_descriptor.__get__") ⟨[.builtin "object.__class__", .ref a, tp], []⟩) R ⟨h, g, d, t, os⟩ := by
  have L0 := exc_type (M := model prog w) hx hc
  have L1 := PySem.W.looks_mroIn (M := model prog w) X T.ob
  refine codeAny_call_builtin PySem.W.KF.slot_gs.plain PySem.W.KF.entry_gs (PySem.W.KF.slot_gs.check _ _ _ _ _ _ _ _ PySem.W.KF.type_class (PySem.W.KF.args_gs _ _ _) ?_)
  unfold Builtin.«getset_descriptor.__get__» Builtin.Getset_descriptor.descrGet
  rw [PySem.W.dga_obj]
  refine wpAny_bind (wpAny_pure ?_)
  unfold Builtin.Getset_descriptor.descrGetter Builtin.Getset_descriptor.descrCheckInstance Builtin.Getset_descriptor.descrNameAndClass isInstance
  simp only [PySem.W.KF.owner_class]
  repeat lk
  refine ⟨Code.quiet_builtin _ (by decide +kernel), codeAny_builtin PySem.W.KF.entry_class ?_⟩
  unfold Builtin.«object.__class__» shownTypeOf
  repeat lk
  exact hq
theorem exc_check_ga {M : Model} {nameV : Value} {Q : Unit → Shared → Prop} (X : K.In h) (T : XTy K C) (hx : h.get? a = some o) (hc : o.cls = .ref C) (hq : Q () ⟨h, g, d, t, os⟩) :
    wpAny M A (checkBuiltinCall "BaseException.__getattribute__" ⟨[.ref a, nameV], []⟩) Q E ⟨h, g, d, t, os⟩ := by
  have hk : builtinKind "BaseException.__getattribute__" = some .slot := by decide +kernel
  have hsplit : splitId "BaseException.__getattribute__" = some ("BaseException", "__getattribute__") := by decide +kernel
  have ha := F.args_bexc_ga (.ref a) nameV
  have L0 := exc_type (M := M) hx hc
  have L1 := PySem.W.looks_mroIn (M := M) X T.be
  have L2 : PySem.W.Looks M h (isInstance (.ref a) (.type "BaseException")) true := L0.andThen L1
  simp only [checkBuiltinCall, hk, hsplit]
  refine wpAny_bind (L2.at ?_)
  repeat (any_goals (first | assumption | wp_step))
theorem exc_class_entry {tk : Tok} {Q : Fin → Shared → Prop} (X : K.In h) (T : XTy K C) (hx : h.get? a = some o) (hc : o.cls = .ref C) (hq : Q (.done (.ret (.ref C))) ⟨h, g, d, t, os⟩) :
    wpAny (model prog w) A (Builtin.«object.__getattribute__» ⟨[.ref a, .str "__class__" tk], []⟩) Q E ⟨h, g, d, t, os⟩ := by
  have hT5 : (⟨h, g, d, t, os⟩ : Shared).TypeIs (.builtin "object.__class__") "getset_descriptor" := F.typeOf_object_class
  have f5 := F.typeOf_object_class
  have f6 := F.slot_gs_get.lookup
  have f7 := F.slot_gs_set.lookup
  have LC := PySem.W.looks_findIn (M := model prog w) X T.cl
  repeat (any_goals (first | assumption | (with_reducible refine wpAny_loadPart_at hx ?_; rw [hc]) | with_reducible refine PySem.W.Looks.at LC ?_ | wp_step))
  refine exc_class_get X T hx hc ?_
  repeat (any_goals (first | assumption | wp_step))
theorem exc_class_by {tk : Tok} {Q : Value → Shared → Prop} (X : K.In h) (T : XTy K C) (hx : h.get? a = some o) (hc : o.cls = .ref C) (hq : Q (.ref C) ⟨h, g, d, t, os⟩) :
    wpAny (model prog w) A (getAttrBy (.ref a) (.str "__class__" tk) false) Q E ⟨h, g, d, t, os⟩ := by
  have f3 := F.attr_ValueError.ga.bind (.ref a)
  have hx2 : (Value.builtin "BaseException.__getattribute__" == Value.builtin "object.__getattribute__") = false := by decide +kernel
  have hx1 : (onTheHeap (Value.ref C) && Value.builtin "BaseException.__getattribute__" == Value.builtin "object.__getattribute__") = false := by rw [hx2]; rfl
  have L1 := PySem.W.looks_findIn (M := model prog w) X T.ga
  have L2 := PySem.W.looks_findIn (M := model prog w) X T.gn
  repeat (any_goals (first | assumption | (with_reducible refine wpAny_loadPart_at hx ?_; rw [hc]) | with_reducible refine PySem.W.Looks.at L1 ?_ | with_reducible refine PySem.W.Looks.at L2 ?_ | wp_step))
  refine codeAny_call_builtin F.attr_ValueError.ga.plain F.entry_bexc_ga (exc_check_ga X T hx hc (exc_class_entry X T hx hc ?_))
  repeat (any_goals (first | assumption | wp_step))
theorem exc_class_attr {Q : Option Value → Shared → Prop} (X : K.In h) (T : XTy K C) (hx : h.get? a = some o) (hc : o.cls = .ref C) (hq : Q (some (.ref C)) ⟨h, g, d, t + 1, os⟩) :
    wpAny (model prog w) A (getAttr? (.ref a) "__class__") Q E ⟨h, g, d, t, os⟩ := by
  unfold getAttr? getAttrBy?
  repeat (any_goals (first | assumption | with_reducible apply exc_class_by X T hx hc | wp_step))
end
theorem kitx_exc {K : PySem.W.Frag} {a C : Addr} (T : XTy K C) : PySem.W.KitX K (.ref a) (.ref C) (fun h => ∃ o vs, h.get? a = some o ∧ o.cls = .ref C ∧ o.data = .fields vs) where
  ty := fun _ _ _ ⟨o, vs, e, c, _⟩ => exc_type e c
  it := fun _ _ X _ => by
    have hcD := T.ic
    unfold PySem.W.isClsIn PySem.W.clsIn at hcD
    split at hcD
    · rename_i c' d' cd' sl' ho
      intro A' Q' E' s' k q
      unfold isType loadHead
      exact wpAny_bind (wpAny_loadPart (k _ _ (X _ _ ho)) (wpAny_pure q))
    · cases hcD
  ne := fun h tp dd its n sl X htp => by
    have hcD := T.ic
    refine Bool.eq_false_iff.mpr fun q => ?_
    have e : C = tp := Value.ref.inj (beq_iff_eq.mp q)
    subst e
    unfold PySem.W.isClsIn PySem.W.clsIn at hcD
    split at hcD
    · rename_i c' d' cd' sl' ho
      have z := (X _ _ ho).symm.trans htp
      cases z
    · cases hcD
  ca := fun {_ _ _ _ _ s} X ⟨o, vs, e, c, _⟩ k => by
    obtain ⟨hh, g, d, t, os⟩ := s
    exact exc_class_attr X T e c k
section
variable {X : Cx}
/-- isinstance(x, (C, D, ..)), the tuple written there: a tuple of classes that was just made -/
def rIsiX (K : PySem.W.Frag) : List V → Hp → VK → Prop := fun xs H Q => ∃ a C, xs[0]? = some (.ref a) ∧ H a = some (ExcO a C) ∧ XTy K C ∧
  ((∃ (c : V) (cv : Value) (b : Bool), xs = [.ref a, c] ∧ (∀ u, RelV c u → u = cv) ∧ PySem.W.kitOne K (.ref C) cv = some b ∧ Q (.bl b) H) ∨
   (∃ (tp : Addr) (cs : List Addr) (b : Bool), xs = [.ref a, .ref tp] ∧ H tp = some (.tup (cs.map V.ref)) ∧ PySem.W.kitAny K (.ref C) (cs.map Value.ref) = some b ∧ Q (.bl b) H))
theorem vals_refs : ∀ {cs : List Addr} {us : List Value}, Vals (cs.map V.ref) us → us = cs.map Value.ref
  | [], _, .nil => rfl
  | _ :: _, _, .cons r t => by rw [List.map_cons, vals_refs t]; rw [show _ = Value.ref _ from r]
theorem call_isiX : CallR X (.builtin "isinstance") (rIsiX X.K) := by
  intro pins s σ H xs us Q I r h
  obtain ⟨a, C, _, hH, T, h⟩ := h
  obtain ⟨p, _, _⟩ := (show ObjOk X.prog X.w H s.heap a (ExcO a C) from I.hok a _ hH)
  rcases h with ⟨c, cv, b, rfl, hc, e, q⟩ | ⟨tp, cs, b, rfl, hT, e, q⟩
  · obtain ⟨u, w', rfl, r1, r2⟩ := vals2 r
    cases hc _ r2
    cases r1
    exact PySem.W.kia_one (kitx_exc T) I.kIn p e (fun z => nomatch z) fun tk => ⟨.bl b, H, I.tok tk, rfl, q⟩
  · obtain ⟨u, w', rfl, r1, r2⟩ := vals2 r
    cases r1
    cases r2
    obtain ⟨_, its, rv, ob, ho, hcl, n, hd⟩ := (show ObjOk X.prog X.w H s.heap tp (.tup (cs.map V.ref)) from I.hok tp _ hT)
    have ei := vals_refs rv
    subst ei
    obtain ⟨c0, dd, dt, sl⟩ := ob
    dsimp only at hcl hd
    subst hcl hd
    exact PySem.W.kia_tup (kitx_exc T) I.kIn p ho e (fun z => nomatch z) fun tk => ⟨.bl b, H, I.tok tk, rfl, q⟩
end
/-- a class's answer, by what the text's classes say: also Python's own classes -/
theorem kit_type {K : PySem.W.Frag} {C : Addr} {T : String} {b : Bool} (hk : PySem.W.kitMeta T = true) (hs : PySem.W.mroIn K C (.type T) = some b) : PySem.W.kitOne K (.ref C) (.type T) = some b := by
  unfold PySem.W.kitOne
  rw [if_neg (by simp)]
  unfold PySem.W.kitCls
  simp only
  rw [if_pos hk]
  exact hs
end L2
namespace L2
open PySem PySem.Spec PyProof.Rows
/-! ### list comprehensions -/
/-- what is known at the run alone -/
structure CZ where
  cl : List (Str × Addr)
  C : Addr
  s : Shared
  H : Hp
  fp : List Addr
/-- the context of a comprehension's block -/
abbrev cxComp (X : Cx) (scope : Scope) (N : List Str) (z : CZ) : Cx where
  prog := X.prog
  w := X.w
  K := X.K
  mg := X.mg
  base := X.base
  A := X.A
  N := N
  s₀ := z.s
  H₀ := z.H
  env := compEnvC scope z.cl z.C X.env
  outer := X.stack
  stack := X.stack
  ex := z.fp
  fn := fun _ => false
  calm := X.calm
  pn := []
  xe := fun _ _ => False
/-- what the scopes must be: own, the def's; the captured names -/
def compOk (own sc : Scope) (Nc : List Str) : Bool :=
  (own.kind == .function) && (own.names.all fun y => y.2 != .cell && (y.2 != .free || sc.names.lookup y.1 == some .cell || sc.names.lookup y.1 == some .free) && (y.2 != .local || own.names.lookup y.1 == some .local)) &&
  (Nc.all fun x => own.names.lookup x == some .free)
structure CompOk (own sc : Scope) (Nc : List Str) : Prop where
  kind : own.kind = .function
  nocell : ∀ y ∈ own.names, y.2 ≠ .cell
  free : ∀ y ∈ own.names, y.2 = .free → sc.names.lookup y.1 = some .cell ∨ sc.names.lookup y.1 = some .free
  loc : ∀ y ∈ own.names, y.2 = .local → own.names.lookup y.1 = some .local
  cap : ∀ x ∈ Nc, own.names.lookup x = some .free
theorem compOk_of {own sc : Scope} {Nc : List Str} (h : compOk own sc Nc = true) : CompOk own sc Nc := by
  unfold compOk at h
  simp only [Bool.and_eq_true, List.all_eq_true, Bool.or_eq_true, bne_iff_ne, ne_eq, beq_iff_eq] at h
  obtain ⟨⟨h1, h2⟩, h3⟩ := h
  refine ⟨h1, fun y hy => (h2 y hy).1.1, fun y hy e => ?_, fun y hy e => ?_, h3⟩
  · rcases (h2 y hy).1.2 with (z | z) | z
    · exact absurd e z
    · exact .inl z
    · exact .inr z
  · rcases (h2 y hy).2 with z | z
    · exact absurd e z
    · exact z
theorem closure_ok {scope : Scope} {env : Env} (h : ∀ y ∈ scope.names, y.2 = .free → ∃ c, env.cells.lookup y.1 = some c) :
    ∃ cl, closureFor scope env = pure cl ∧ (∀ y ∈ scope.names, y.2 = .free → ∃ c, cl.lookup y.1 = some c) ∧ ∀ x c, cl.lookup x = some c → env.cells.lookup x = some c := by
  have key : ∀ (l : List (Str × NameKind)) (cs : List (Str × Addr)), (∀ y ∈ l, y.2 = .free → ∃ c, env.cells.lookup y.1 = some c) → (∀ x c, cs.lookup x = some c → env.cells.lookup x = some c) →
      ∃ cl, (forIn l cs fun x r => if (x.2 == NameKind.free) = true then do let a ← cellOf env x.1; pure (ForInStep.yield ((x.1, a) :: r)) else pure (ForInStep.yield r) : Sem (List (Str × Addr))) = pure cl ∧
        (∀ y ∈ l, y.2 = .free → ∃ c, cl.lookup y.1 = some c) ∧ (∀ x c, cs.lookup x = some c → ∃ c', cl.lookup x = some c') ∧ ∀ x c, cl.lookup x = some c → env.cells.lookup x = some c := by
    intro l
    induction l with
    | nil => intro cs _ hcs; exact ⟨cs, rfl, fun y hy => (nomatch hy), fun x c e => ⟨c, e⟩, hcs⟩
    | cons y r ih =>
      intro cs hl hcs
      obtain ⟨n, k⟩ := y
      have hr : ∀ y ∈ r, y.2 = .free → ∃ c, env.cells.lookup y.1 = some c := fun y hy => hl y (List.mem_cons_of_mem _ hy)
      by_cases hk : k = .free
      · subst hk
        obtain ⟨c, hc⟩ := hl (n, .free) List.mem_cons_self rfl
        have hcs' : ∀ x c', ((n, c) :: cs).lookup x = some c' → env.cells.lookup x = some c' := fun x c' e => by
          rw [List.lookup_cons] at e
          cases hx : x == n with
          | true => rw [hx] at e; cases e; rw [eq_of_beq hx]; exact hc
          | false => rw [hx] at e; exact hcs x c' e
        obtain ⟨cl, e1, e2, e3, e4⟩ := ih ((n, c) :: cs) hr hcs'
        refine ⟨cl, ?_, ?_, ?_, e4⟩
        · have hcell : cellOf env n = pure c := by unfold cellOf; rw [hc]
          rw [List.forIn_cons]
          simp only [beq_self_eq_true, if_true, hcell, pure_bind]
          exact e1
        · intro y hy ey
          rcases List.mem_cons.mp hy with rfl | hy
          · exact e3 n c (by rw [List.lookup_cons]; simp)
          · exact e2 y hy ey
        · intro x c' e
          cases hx : x == n with
          | true => exact e3 x c (by rw [List.lookup_cons, hx])
          | false => exact e3 x c' (by rw [List.lookup_cons, hx]; exact e)
      · obtain ⟨cl, e1, e2, e3, e4⟩ := ih cs hr hcs
        have hb : (k == NameKind.free) = false := by simpa using hk
        refine ⟨cl, ?_, ?_, e3, e4⟩
        · rw [List.forIn_cons]
          simp only [hb, Bool.false_eq_true, if_false, pure_bind]
          exact e1
        · intro y hy ey
          rcases List.mem_cons.mp hy with rfl | hy
          · exact absurd ey hk
          · exact e2 y hy ey
  obtain ⟨cl, e1, e2, _, e4⟩ := key scope.names [] h (fun x c e => by cases e)
  refine ⟨cl, ?_, e2, e4⟩
  have e : closureFor scope env = (forIn scope.names ([] : List (Str × Addr)) (fun x r => if (x.2 == NameKind.free) = true then do let a ← cellOf env x.1; pure (ForInStep.yield ((x.1, a) :: r)) else pure (ForInStep.yield r)) >>= fun r => pure r : Sem (List (Str × Addr))) := rfl
  rw [e, e1, pure_bind]
theorem lookup_relabel {env : Env} {x : Str} : ∀ {names : List (Str × NameKind)}, 
    (names.map fun (n, k) => if (k == NameKind.free && env.scope.kind == .function && env.kindOf n == some .cell) then (n, NameKind.cell) else (n, k)).lookup x =
      (names.lookup x).map fun k => if (k == NameKind.free && env.scope.kind == .function && env.kindOf x == some .cell) then NameKind.cell else k
  | [] => rfl
  | (n, k) :: r => by
    have ih := @lookup_relabel env x r
    show List.lookup x ((if (k == NameKind.free && env.scope.kind == .function && env.kindOf n == some .cell) = true then (n, NameKind.cell) else (n, k)) :: _) = _
    cases hx : x == n with
    | true =>
      have e := eq_of_beq hx
      subst e
      by_cases hc : (k == NameKind.free && env.scope.kind == .function && env.kindOf x == some .cell) = true
      · rw [if_pos hc, List.lookup_cons, List.lookup_cons]; simp only [beq_self_eq_true, Option.map_some, hc, if_true]
      · rw [if_neg hc, List.lookup_cons, List.lookup_cons]; simp only [beq_self_eq_true, Option.map_some, if_neg hc]
    | false =>
      by_cases hc : (k == NameKind.free && env.scope.kind == .function && env.kindOf n == some .cell) = true
      · rw [if_pos hc, List.lookup_cons, List.lookup_cons, hx]; exact ih
      · rw [if_neg hc, List.lookup_cons, List.lookup_cons, hx]; exact ih
theorem relabel_free {env : Env} {own : Scope} {x : Str} (h : own.names.lookup x = some .free) : (relabel own env).names.lookup x = some .cell ∨ (relabel own env).names.lookup x = some .free := by
  have e : (relabel own env).names.lookup x = _ := lookup_relabel
  rw [e, h]
  by_cases hc : (NameKind.free == NameKind.free && env.scope.kind == .function && env.kindOf x == some .cell) = true
  · left; simp only [Option.map_some, hc, if_true]
  · right; simp only [Option.map_some, hc, if_false]; rfl
theorem relabel_inv {env : Env} {own : Scope} {x : Str} (h : (relabel own env).names.lookup x = some .cell ∨ (relabel own env).names.lookup x = some .free) : own.names.lookup x = some .free ∨ own.names.lookup x = some .cell := by
  have e : (relabel own env).names.lookup x = _ := lookup_relabel
  rw [e] at h
  cases hl : own.names.lookup x with
  | none => rw [hl] at h; simp at h
  | some k =>
    rw [hl] at h
    simp only [Option.map_some, Option.some.injEq] at h
    by_cases hc : (k == NameKind.free && env.scope.kind == .function && env.kindOf x == some .cell) = true
    · simp only [Bool.and_eq_true, beq_iff_eq] at hc
      exact .inl (by rw [hc.1.1])
    · rw [if_neg hc] at h
      rcases h with h | h
      · exact .inr (by rw [h])
      · exact .inl (by rw [h])
section
variable {X : Cx}
/-- the block's names at its beginning -/
def pre (n : Nat) (fr : List Nat) (σ : St) : St := List.replicate n none ++ fr.map fun j => (σ[j]?).getD none
theorem comp_start {pins : List (Addr × Obj)} {σ : St} {H : Hp} {s s' : Shared} {own : Scope} {cl : List (Str × Addr)} {C D : Addr} {fp : List Addr} {ts Nc : List Str} {fr : List Nat} {m : Str → Option Value}
    (I : Inv X pins σ H s) (hf : ∀ b ∈ fp, FpOk X pins H b) (hlt : ∀ b ∈ fp, b < s.heap.objs.size) (c : CompOk own X.env.scope Nc) (hc1 : ∀ y ∈ own.names, y.2 = .free → ∃ c, cl.lookup y.1 = some c) (hc2 : ∀ x c, cl.lookup x = some c → X.env.cells.lookup x = some c)
    (hN : fr.map (X.N[·]?) = Nc.map some) (hD : s.heap.objs.size ≤ D) (hC : s.heap.objs.size ≤ C) (hDC : D ≠ C)
    (k : ∀ b o, s.heap.get? b = some o → s'.heap.get? b = some o) (ns : s'.heap.Ns C m) (nl : s'.heap.get? D = some { cls := .type "list", data := .seq #[] }) (eo : s'.os = s.os) (eg : s'.gens = s.gens) :
    Inv (cxComp X own (ts ++ Nc) ⟨cl, C, s, H, fp⟩) [] (pre ts.length fr σ) (upd H D (.lst [])) s' := by
  have fresh : ∀ {b}, s.heap.objs.size ≤ b → H b = none := fun h => I.hok.fresh h
  have old : ∀ {b : Addr} {o : Obj}, s.heap.get? b = some o → b < s.heap.objs.size := fun e => Heap.lt_size e
  have cellLt : ∀ x c, X.env.cells.lookup x = some c → c < s.heap.objs.size := fun x c e => by
    obtain ⟨v, o, ho, _⟩ := I.cell x c e
    exact old ho
  refine ⟨⟨I.ok.mod, c.kind, I.ok.glob, I.ok.blt, hC, fun x y a h1 h2 => I.ok.inj x y a (hc2 x a h1) (hc2 y a h2), fun x hx => ?_, fun x a z _ => (by cases z), I.ok.hd, I.ok.frames, .inl rfl, fun b hb => ?_, I.bs, Nat.le_trans I.ok.bsz I.sz, fun b o e hb => ?_, fun b hb hb2 => ?_, I.stack, I.stkFree⟩,
    eo, by rw [eg]; exact I.bare, ?_, ⟨m, ns, fun i x v h1 h2 h3 => ?_⟩, fun x a h => ?_, ?_, fun x a h => ?_, fun p hp => absurd hp (by simp), ?_, ?_⟩
  · have hx : (relabel own X.env).names.lookup x = some .cell ∨ (relabel own X.env).names.lookup x = some .free := hx
    rcases relabel_inv hx with h | h
    · exact hc1 (x, .free) (PySem.mem_of_lookup h) rfl
    · exact absurd rfl (c.nocell _ (PySem.mem_of_lookup h))
  · obtain ⟨_, f1, f2, f3, f4, f5⟩ := hf b hb
    refine ⟨fun z => ?_, fun x a h => f4 x a (hc2 x a h)⟩
    have z : b = C := z
    subst z
    exact absurd (hlt _ hb) (Nat.not_lt.mpr hC)
  · obtain ⟨_, f1, f2, f3, f4, f5⟩ := hf b hb
    rcases f3 with f3 | f3
    · exact I.ok.noex b o e f3
    · exact absurd (Heap.lt_size (I.ok.bs b o e).1) (Nat.not_lt.mpr f3)
  · obtain ⟨_, f1, f2, f3, f4, f5⟩ := hf b hb
    rcases List.mem_cons.mp (I.stkSub b hb2) with z | z
    · exact f1 z
    · exact f2 z
  · exact Un.laid k hD (fresh hD)
  · by_cases hi : i < ts.length
    · unfold pre at h2
      rw [List.getElem?_append_left (by simpa using hi), List.getElem?_replicate] at h2
      split at h2 <;> cases h2
    · have h1 : (ts ++ Nc)[i]? = some x := h1
      unfold pre at h2
      rw [List.getElem?_append_right (by omega)] at h1
      rw [List.getElem?_append_right (by simpa using hi), List.length_replicate, List.getElem?_map] at h2
      have e1 : (fr.map (X.N[·]?))[i - ts.length]? = some (some x) := by rw [hN, List.getElem?_map, h1]; rfl
      rw [List.getElem?_map] at e1
      cases e : fr[i - ts.length]? with
      | none => rw [e] at h2; cases h2
      | some j =>
        rw [e] at h2 e1
        simp only [Option.map_some, Option.some.injEq] at h2 e1
        have hj : σ[j]? = some (some v) := by
          cases e2 : σ[j]? with
          | none => rw [e2] at h2; cases h2
          | some w' => rw [e2] at h2; exact congrArg some h2
        have hx := c.cap x (List.mem_of_getElem? h1)
        have hv := c.free _ (PySem.mem_of_lookup hx) rfl
        obtain ⟨m0, hns0, hl0⟩ := I.loc
        obtain ⟨u, ru, lk⟩ := hl0 j x v e1 hj (.inr hv)
        refine ⟨u, ru, .inr ⟨relabel_free hx, ?_⟩⟩
        rcases lk with ⟨lk, _⟩ | ⟨_, a, ea, ha⟩
        · have lk : X.env.scope.names.lookup x = some .local := lk
          rw [lk] at hv
          rcases hv with hv | hv <;> cases hv
        · obtain ⟨a', ea'⟩ := hc1 _ (PySem.mem_of_lookup hx) rfl
          have := hc2 x a' ea'
          rw [ea] at this
          cases this
          obtain ⟨o, ho, hd⟩ := ha
          exact ⟨a, ea', o, k _ _ ho, hd⟩
  · obtain ⟨v, o, ho, hd⟩ := I.cell x a (hc2 x a h)
    exact ⟨v, o, k _ _ ho, hd⟩
  · show upd H D (.lst []) C = none
    rw [upd_ne (Ne.symm hDC)]
    exact fresh hC
  · have h := hc2 x a h
    rw [upd_ne (Nat.ne_of_lt (Nat.lt_of_lt_of_le (cellLt x a h) hD))]
    exact I.freeC x a h
  · exact I.hok.laid k hD ⟨Nat.zero_le _, [], 0, .nil, nl⟩
  · have := congrArg List.length hN
    simp only [List.length_map] at this
    unfold pre
    simp only [List.length_append, List.length_replicate, List.length_map, this]
/-- behind the block -/
theorem comp_back {pins : List (Addr × Obj)} {σ σ' : St} {H H' : Hp} {s s' : Shared} {own : Scope} {cl : List (Str × Addr)} {C : Addr} {fp : List Addr} {N : List Str} {pl : List (Addr × Obj)}
    (I : Inv X pins σ H s) (hf : ∀ b ∈ fp, FpOk X pins H b) (J : Inv (cxComp X own N ⟨cl, C, s, H, fp⟩) pl σ' H' s') : Inv X pins σ H' s' :=
  I.call' (ch := fp) J.os J.base J.hok J.bare fun b hb => let ⟨_, f1, _, f3, f4, f5⟩ := hf b hb; ⟨f3, f1, f4, f5⟩
/-- the block's own names may change behind it -/
theorem comp_names {pins : List (Addr × Obj)} {σ σ2 : St} {H H' : Hp} {s s' : Shared} {C : Addr} {h' : Heap}
    (I : Inv X pins σ H s) (hC : s.heap.objs.size ≤ C) (J : Inv X pins σ2 H' s') (hn : H' C = none) (k : ∀ b o, b ≠ C → s'.heap.get? b = some o → h'.get? b = some o) : Inv X pins σ2 H' { s' with heap := h' } := by
  refine J.turned (t' := s'.toks) k hn (Nat.ne_of_gt (Nat.lt_of_lt_of_le I.lt hC)) (.inr (Nat.le_trans I.sz hC)) (fun x c e z => ?_) (fun p hp z => ?_)
  · obtain ⟨v, o, ho, _⟩ := I.cell x c e
    exact absurd (Heap.lt_size ho) (Nat.not_lt.mpr (z ▸ hC))
  · exact absurd (Heap.lt_size (I.pin p hp).1) (Nat.not_lt.mpr (z ▸ hC))
/-- the tests of a comprehension -/
def PIf (X : Cx) (ifs : List Expr) (t : TT) : Prop :=
  ∀ (pins : List (Addr × Obj)) (s : Shared) (σ : St) (H : Hp) (Q : Bool → Hp → Prop), Inv X pins σ H s → t σ H Q →
    wpAny (model X.prog X.w) X.A (forIn ifs true fun c r => if r = true then do let ok ← isTrue c X.env (eval c X.env); pure (ForInStep.yield ok) else pure (ForInStep.yield r)) (TP X pins σ Q) X.xe s
def tYes : TT := fun _ H Q => Q true H
theorem pf_nil : PIf X [] tYes := fun pins s σ H Q I h => wpAny_tests_nil ⟨H, I, h⟩
end
section
variable {prog : Program} {w : World} {A : Around} {R : Result → Shared → Prop} {s : Shared}
theorem comp_loop {elt target iter : Expr} {ifs : List Expr} {scope : Scope} {pos : Pos} {it acc : Value} {env : Env} (I : Nat → Shared → Prop)
    (turn : ∀ n s, I n s → wpAny (model prog w) A (pyNext it) (fun r s₁ => match r with
      | none => R (.ok .next) s₁
      | some v => wpAny (model prog w) A (letOwnedTupleGo target it v) (fun _ s₁ => wpAny (model prog w) A (assign target env v) (fun _ s₂ =>
          wpAny (model prog w) A (forIn ifs true fun c r => if r = true then do let ok ← isTrue c env (eval c env); pure (ForInStep.yield ok) else pure (ForInStep.yield r)) (fun ok s₃ =>
            if ok = true then wpAny (model prog w) A (eval elt env) (fun x s₄ =>
              wpAny (model prog w) A (call (.builtin "list.append") [acc, x]) (fun _ s₅ => ∃ m, m < n ∧ I m s₅) (fun _ _ => False) s₄) (fun _ _ => False) s₃
            else ∃ m, m < n ∧ I m s₃) (fun _ _ => False) s₂) (fun _ _ => False) s₁) (fun _ _ => False) s₁) (fun _ _ => False) s)
    (n : Nat) (h : I n s) :
    codeAny (model prog w) A (.compLoop (.ListComp elt [⟨target, iter, ifs, 0⟩] scope pos) 0 it acc env) R s := by
  refine codeAny_loop rfl I (fun n s hI => ?_) n h
  show wpAny _ A ((compTurn (.ListComp elt [⟨target, iter, ifs, 0⟩] scope pos) 0 it acc env).onRaise (fun x => do noteFrame x env; theTreesLotGoes x)) _ _ s
  refine wpAny_noted ?_
  rw [compTurn_list]
  refine wpAny_bind (wpAny_standAt (wpAny_bind (wpAny_mono (turn n s hI) (fun r s₁ h₁ => ?_) fun _ _ h' => h'.elim)))
  cases r with
  | none => exact wpAny_pure h₁
  | some v =>
    refine wpAny_bind (wpAny_mono h₁ (fun _ s₁ h₁ => ?_) fun _ _ h' => h'.elim)
    refine wpAny_bind (wpAny_mono h₁ (fun _ s₂ h₂ => wpAny_bind (wpAny_mono h₂ (fun ok s₃ h₃ => ?_) fun _ _ h' => h'.elim)) fun _ _ h' => h'.elim)
    cases ok with
    | false => exact wpAny_pure ⟨rfl, h₃⟩
    | true =>
      exact wpAny_bind (wpAny_bind (wpAny_mono h₃ (fun x s₄ h₄ => wpAny_bind (wpAny_mono h₄ (fun _ s₅ h₅ => wpAny_pure (wpAny_pure ⟨rfl, h₅⟩)) fun _ _ h' => h'.elim)) fun _ _ h' => h'.elim))
end
section
variable {X : Cx}
/-- a comprehension's turns: D the list that grows -/
def tTurns (J : It) (g : TG) (tf : TT) (te : TE) (D : Addr) (σ : St) (H : Hp) (Q : Hp → Prop) : Prop :=
  ∃ W : Nat → Nat → St → Hp → Prop, (∃ m, W 0 m σ H) ∧ ∀ i m σ H, W i m σ H →
    (J.stop i H ∧ Q H) ∨ (J.go i H ∧ ∃ N : St → Hp → Prop, (∀ σ' H', N σ' H' → ∃ m', m' < m ∧ W (i + 1) m' σ' H') ∧ ∀ x H', J.yld i H x H' → g x σ H' fun σ2 H2 => tf σ2 H2 fun b H3 =>
      if b = true then te σ2 H3 fun y H4 => ∃ ys, H4 D = some (.lst ys) ∧ ys.length < sizeLine ∧ N σ2 (upd H4 D (.lst (ys ++ [y]))) else N σ2 H3)
def tComp (n : Nat) (fr : List Nat) (wi : TI) (g : TG) (tf : TT) (te : TE) : TE := fun σ H Q => wi σ H fun J H1 => ∀ D, H1 D = none → tTurns J g tf te D (pre n fr σ) (upd H1 D (.lst [])) fun H2 => Q (.ref D) H2
theorem run_turns {own : Scope} {N : List Str} {z : CZ} {elt tg iter : Expr} {ifs : List Expr} {sc : Scope} {pos : Pos} {g : TG} {tf : TT} {te : TE} {J : It} {it D : Addr} {tn : Nat → Heap → Prop} {σ : St} {H : Hp} {s : Shared} {Q : Hp → Prop} {R : Result → Shared → Prop}
    (hg : PG (cxComp X own N z) tg g) (hf : PIf (cxComp X own N z) ifs tf) (he : PE (cxComp X own N z) elt te) (hc : X.calm = true) (T : Turn X.prog X.w X.K tg J z.fp it tn) (fo : ∀ H' : Hp, (∀ b ∈ z.fp, H' b = none) → ∀ b ∈ z.fp, FpOk (cxComp X own N z) [] H' b)
    (I : Inv (cxComp X own N z) [] σ H s) (st : tn 0 s.heap) (fr : ∀ b ∈ z.fp, H b = none) (h : tTurns J g tf te D σ H Q) (hR : ∀ σ' H' s', Inv (cxComp X own N z) [] σ' H' s' → Q H' → R (.ok .next) s') :
    codeAny (model X.prog X.w) X.A (.compLoop (.ListComp elt [⟨tg, iter, ifs, 0⟩] sc pos) 0 (.ref it) (.ref D) (compEnvC own z.cl z.C X.env)) R s := by
  obtain ⟨W, ⟨m0, w0⟩, turn⟩ := h
  refine comp_loop (fun n s' => ∃ i σ' H', Inv (cxComp X own N z) [] σ' H' s' ∧ tn i s'.heap ∧ (∀ b ∈ z.fp, H' b = none) ∧ W i n σ' H') ?_ m0 ⟨0, σ, H, I, st, fr, w0⟩
  rintro n s3 ⟨i, σ3, H3, I3, st3, fr3, w3⟩
  rcases turn i n σ3 H3 w3 with ⟨stop, qn⟩ | ⟨go, Nx, hN, step⟩
  · refine thn (T.done (cxComp X own N z) rfl rfl rfl hc i [] s3 σ3 H3 _ I3 (fo H3 fr3) st3 stop) fun r s4 ⟨hr, I4⟩ => ?_
    subst hr
    exact hR σ3 H3 s4 I4 qn
  · refine thn (T.item (cxComp X own N z) rfl rfl rfl hc i [] s3 σ3 H3 _ I3 (fo H3 fr3) st3 go) fun r s4 ⟨u, hr, h4⟩ => ?_
    subst hr
    refine thn h4 fun _ s5 ⟨x, H5, I5, r5, y5, st5, fr5⟩ => ?_
    have I5' := I5.pinned (fo H5 fr5) (T.obj _ _ st5)
    refine thn (hg _ s5 σ3 H5 x u _ I5' r5 (step x H5 y5)) fun _ s6 ⟨σ6, H6, I6, q6⟩ => ?_
    have again : ∀ {σ7 : St} {H7 : Hp} {s7 : Shared}, Inv (cxComp X own N z) ([] ++ pinsAt z.fp s5.heap) σ7 H7 s7 → Nx σ7 H7 → ∃ m, m < n ∧ ∃ i σ' H', Inv (cxComp X own N z) [] σ' H' s7 ∧ tn i s7.heap ∧ (∀ b ∈ z.fp, H' b = none) ∧ W i m σ' H' := fun {σ7 H7 s7} I7 n7 => by
      obtain ⟨m', hm, w7⟩ := hN σ7 H7 n7
      refine ⟨m', hm, i + 1, σ7, H7, I7.unpinned, T.keep _ _ _ st5 fun b hb o e => (I7.pin (b, o) (List.mem_append_right _ (List.mem_append_right _ (mem_pinsAt hb e)))).1, fun b hb => ?_, w7⟩
      obtain ⟨o, e, d⟩ := T.obj _ _ st5 b hb
      exact (I7.pin (b, o) (List.mem_append_right _ (List.mem_append_right _ (mem_pinsAt hb e)))).2.1
    refine thn (hf _ s6 σ6 H6 _ I6 q6) fun b s7 ⟨H7, I7, q7⟩ => ?_
    cases b with
    | false => exact again I7 q7
    | true =>
      refine thn (he _ s7 σ6 H7 _ I7 q7) fun y s8 ⟨yv, H8, I8, r8, ys, e8, z8, n8⟩ => ?_
      exact thn (mt_append _ s8 σ6 H8 (.ref D) [yv] (.ref D) [y] (fun _ H' => Nx σ6 H') I8 rfl (.cons r8 .nil) ⟨D, ys, yv, rfl, rfl, e8, z8, n8⟩) fun _ s9 ⟨_, H9, I9, _, q9⟩ => again I9 q9
theorem run_block {elt tg iter : Expr} {ifs : List Expr} {own sc : Scope} {pos : Pos} {ts Nc : List Str} {fr : List Nat} {g : TG} {tf : TT} {te : TE} {J : It} {it : Addr} {fp : List Addr} {tn : Nat → Heap → Prop} {cl : List (Str × Addr)}
    {pins : List (Addr × Obj)} {σ : St} {H : Hp} {s : Shared} {Q : Addr → Hp → Prop} {RR : Value → Addr → Result → Shared → Prop} {E : Value → Shared → Prop}
    (hg : ∀ z, PG (cxComp X own (ts ++ Nc) z) tg g) (hf : ∀ z, PIf (cxComp X own (ts ++ Nc) z) ifs tf) (he : ∀ z, PE (cxComp X own (ts ++ Nc) z) elt te) (hc : X.calm = true) (c : CompOk own X.env.scope Nc) (hN : fr.map (X.N[·]?) = Nc.map some)
    (hc1 : ∀ y ∈ own.names, y.2 = .free → ∃ c, cl.lookup y.1 = some c) (hc2 : ∀ x c, cl.lookup x = some c → X.env.cells.lookup x = some c)
    (I : Inv X pins σ H s) (T : Turn X.prog X.w X.K tg J fp it tn) (st : tn 0 s.heap) (fo : ∀ b ∈ fp, FpOk X pins H b)
    (h : ∀ D, H D = none → tTurns J g tf te D (pre ts.length fr σ) (upd H D (.lst [])) (Q D))
    (hR : ∀ D C σ' H' s', s.heap.objs.size ≤ C → Inv (cxComp X own (ts ++ Nc) ⟨cl, C, s, H, fp⟩) [] σ' H' s' → Q D H' → RR (.ref D) C (.ok .next) s') :
    wpAny (model X.prog X.w) X.A (newList []) (fun acc s₃ => wpAny (model X.prog X.w) X.A (newFunctionEnv own X.env.globals cl [] X.env.qual none .none (some X.env)) (fun cenv s₄ =>
      codeAny (model X.prog X.w) X.A (.compStart (.ListComp elt [⟨tg, iter, ifs, 0⟩] sc pos) 0 (.ref it) acc { cenv with scope := relabel own X.env }) (RR acc cenv.locals) s₄) E s₃) E s := by
  refine wpAny_newObj_type (wpAny_newFunctionEnv c.nocell (by intro y hy; simp at hy) (fun h₁ hns₁ hsb₁ => ?_) c.kind)
  dsimp only at hns₁ hsb₁ ⊢
  have hlt : ∀ b ∈ fp, b < s.heap.objs.size := fun b hb => let ⟨o, e, _⟩ := T.obj 0 _ st b hb; Heap.lt_size e
  generalize hH2 : s.heap.push { cls := .type "list", dict := none, data := .seq ([] : List Value).toArray } = H2 at hns₁ hsb₁ ⊢
  have hC : H2.objs.size = s.heap.objs.size + 1 := by rw [← hH2, Heap.size_push]
  have hDC : s.heap.objs.size ≠ H2.objs.size := by rw [hC]; exact Nat.ne_of_lt (Nat.lt_succ_self _)
  have hCle : s.heap.objs.size ≤ H2.objs.size := by rw [hC]; exact Nat.le_succ _
  have below : ∀ b, b < s.heap.objs.size → b ≠ H2.objs.size := fun b hb => by rw [hC]; exact Nat.ne_of_lt (Nat.lt_succ_of_lt hb)
  have old : ∀ b o, s.heap.get? b = some o → h₁.get? b = some o := fun b o e => hsb₁.extBut b o (below b (Heap.lt_size e)) (Heap.get?_push_of_some _ (hH2 ▸ Heap.get?_push_of_some _ e))
  have hacc : h₁.get? s.heap.objs.size = some { cls := .type "list", data := .seq #[] } := hsb₁.extBut _ _ hDC (Heap.get?_push_of_some _ (hH2 ▸ Heap.get?_push_size _ rfl))
  have st1 : tn 0 h₁ := T.keep _ _ _ st fun b _ o e => old b o e
  have hD0 : H s.heap.objs.size = none := I.fresh
  have I1 : Inv (cxComp X own (ts ++ Nc) ⟨cl, H2.objs.size, s, H, fp⟩) [] (pre ts.length fr σ) (upd H s.heap.objs.size (.lst [])) { s with heap := h₁, toks := s.toks + ([] : List (Str × Value)).length } :=
    comp_start I fo hlt c hc1 hc2 hN (Nat.le_refl _) hCle hDC old hns₁ hacc rfl rfl
  have fo' : ∀ H' : Hp, (∀ b ∈ fp, H' b = none) → ∀ b ∈ fp, FpOk (cxComp X own (ts ++ Nc) ⟨cl, H2.objs.size, s, H, fp⟩) [] H' b := fun H' hn b hb => by
    obtain ⟨_, f1, f2, f3, f4, f5⟩ := fo b hb
    refine ⟨hn b hb, below b (hlt b hb), fun z => ?_, .inl hb, fun x a e => f4 x a (hc2 x a e), fun p hp => absurd hp (by simp)⟩
    rcases List.mem_cons.mp (I.stkSub b z) with z | z
    · exact f1 z
    · exact f2 z
  have fr1 : ∀ b ∈ fp, upd H s.heap.objs.size (.lst []) b = none := fun b hb => by
    rw [upd_ne (Nat.ne_of_lt (hlt b hb))]
    exact (fo b hb).1
  have loop := run_turns (z := ⟨cl, H2.objs.size, s, H, fp⟩) (pos := pos) (sc := sc) (iter := iter) (R := RR (.ref s.heap.objs.size) H2.objs.size) (hg _) (hf _) (he _) hc T fo' I1 st1 fr1 (h _ hD0) fun σ' H' s' J' q => hR _ _ σ' H' s' hCle J' q
  exact codeAny_compStart_list loop (T.self _ 0 _ _ _ st1 loop)
theorem pe_comp {elt tg iter : Expr} {ifs : List Expr} {own : Scope} {pos : Pos} (ts Nc : List Str) (fr : List Nat) {wi : TI} {g : TG} {tf : TT} {te : TE} (hi : PI X tg iter wi)
    (hg : ∀ z, PG (cxComp X own (ts ++ Nc) z) tg g) (hf : ∀ z, PIf (cxComp X own (ts ++ Nc) z) ifs tf) (he : ∀ z, PE (cxComp X own (ts ++ Nc) z) elt te) (hc : X.calm = true := by rfl) (c : compOk own X.env.scope Nc = true := by rfl) (hN : fr.map (X.N[·]?) = Nc.map some := by rfl)
    (hs : ∀ x, foldedSetIterable iter X.env x = pure x := by intro _; rfl) : PE X (.ListComp elt [⟨tg, iter, ifs, 0⟩] own pos) (tComp ts.length fr wi g tf te) := by
  have c := compOk_of c
  intro pins s σ H Q I h
  obtain ⟨cl, e0, hc1, hc2⟩ := closure_ok (scope := own) (env := X.env) fun y hy e => I.ok.has y.1 (c.free y hy e)
  rw [eval_ListComp]
  refine wpAny_comprehension_free (use := none) rfl hs e0 c.kind c.loc (thn (hi pins s σ H _ I h) fun xv s₁ h₁ => thn h₁ fun itv s₂ h₂ => ?_)
  obtain ⟨it, fp, tn, J, H2, e, I2, T, st2, f2, q⟩ := h₂
  subst e
  refine run_block (RR := fun acc C => compPost (model X.prog X.w) X.A X.xe none (EP X pins σ Q) acc C) (Q := fun D H' => Q (.ref D) H') hg hf he hc c hN hc1 hc2 I2 T st2 f2 q ?_
  intro D C σ' H' s' hC J' q'
  obtain ⟨m, hns, _⟩ := J'.loc
  refine ⟨m, hns, fun h' sb => ⟨.ref D, H', comp_names I2 hC (comp_back I2 f2 J') J'.free fun b o hb e => sb.extBut b o hb e, rfl, q'⟩⟩
end
end L2
namespace L2
open PySem PySem.Spec PyProof.Rows
/-! ### over a text's signs -/
def Its (x : Str) : It := ⟨fun i _ => i < x.cps.size, fun i H v H' => H' = H ∧ ∃ c, x.cps[i]? = some c ∧ v = .str ⟨#[c]⟩, fun i _ => x.cps.size ≤ i⟩
theorem turn_str {P : Program} {w : World} {K : PySem.W.Frag} {tg : Expr} (x : Str) (t : Tok) (it : Addr) (n : String) (hn : n = "str_ascii_iterator" ∨ n = "str_iterator") : Turn P w K tg (Its x) [it] it (fun i h => h.IsStrIter it n x t i) where
  mem := by simp
  obj := fun i h st b hb => by
    have e : b = it := by simpa using hb
    subst e
    obtain ⟨o, e, c, d⟩ := st
    exact ⟨o, e, fun v z => by rw [d] at z; cases z⟩
  keep := fun i h h' st k => let ⟨o, ho, r⟩ := st; ⟨o, k it (by simp) o ho, r⟩
  item := by
    intro X hP hw hK hc i pins s σ H E I hf st hg
    subst hP hw hK
    obtain ⟨f0, f1, f2, f3, f4, f5⟩ := hf it (by simp)
    have hi : i < x.cps.size := hg
    have hx : x.cps[i]? = some x.cps[i] := Array.getElem?_eq_getElem hi
    have fin : ∀ h', h'.IsStrIter it n x t (i + 1) → Heap.SameBut it s.heap h' → ∃ u, some (Value.str ⟨#[x.cps[i]]⟩ s.toks) = some u ∧ wpAny (model X.prog X.w) X.A (letOwnedTupleGo tg (.ref it) u)
        (fun _ s2 => ∃ y H', Inv X pins σ H' s2 ∧ RelV y u ∧ (Its x).yld i H y H' ∧ s2.heap.IsStrIter it n x t (i + 1) ∧ ∀ b ∈ [it], H' b = none) E { s with heap := h', toks := s.toks + 1 } := fun h' st' sb => by
      have I1 : Inv X pins σ H { s with heap := h', toks := s.toks + 1 } := I.turned (fun b o hb e => (sb.2 b hb).trans e) f0 f1 f3 f4 f5
      obtain ⟨o, e, c, d⟩ := id st'
      exact ⟨_, rfl, go_of (s := { s with heap := h', toks := s.toks + 1 }) e c d (by rcases hn with rfl | rfl <;> decide) ⟨.str ⟨#[x.cps[i]]⟩, H, I1, ⟨_, rfl⟩, ⟨rfl, _, hx, rfl⟩, st', fun b hb => (hf b hb).1⟩⟩
    rcases hn with rfl | rfl
    · exact wpAny_pyNext_ascii_item st hx fun h' st' sb => fin h' st' sb
    · exact wpAny_pyNext_wide_item st hx fun h' st' sb => fin h' st' sb
  done := by
    intro X hP hw hK hc i pins s σ H E I hf st hg
    subst hP hw hK
    obtain ⟨f0, f1, f2, f3, f4, f5⟩ := hf it (by simp)
    have hx : x.cps[i]? = none := by simpa using show x.cps.size ≤ i from hg
    rcases hn with rfl | rfl
    · exact wpAny_pyNext_ascii_end (I.ok.hd hc) st hx fun h' eb => ⟨rfl, I.turned (t' := s.toks) (fun b o hb e => eb b o hb e) f0 f1 f3 f4 f5⟩
    · exact wpAny_pyNext_wide_end (I.ok.hd hc) st hx fun h' eb => ⟨rfl, I.turned (t' := s.toks) (fun b o hb e => eb b o hb e) f0 f1 f3 f4 f5⟩
  self := fun _ _ _ _ _ st h => by
    rcases hn with rfl | rfl
    · exact wpAny_pyIter_striter_ascii st h
    · exact wpAny_pyIter_striter_wide st h
section
variable {X : Cx} {tg : Expr}
def iStr (tl : TE) : TI := fun σ H R => tl σ H fun x H1 => ∃ y, x = .str y ∧ R (Its y) H1
theorem pi_str {l : Expr} {tl : TE} (hl : PE X l tl) : PI X tg l (iStr tl) := by
  intro pins s σ H R I h
  refine thn (hl pins s σ H _ I h) fun v s1 ⟨x, H1, I1, r1, y, e, q⟩ => ?_
  subst e
  obtain ⟨t, rfl⟩ := r1
  have fin : ∀ n : String, (n = "str_ascii_iterator" ∨ n = "str_iterator") → PIE X pins σ tg R (.ref s1.heap.objs.size) { s1 with heap := s1.heap.push { cls := .type n, data := .fields #[.str y t, .int 0 0] } } := fun n hn => by
    refine ⟨_, [s1.heap.objs.size], _, _, H1, rfl, I1.kept (t' := s1.toks) fun b o e => Heap.get?_push_of_some _ e, turn_str y t _ n hn, ⟨_, Heap.get?_push_size _ rfl, rfl, rfl⟩, fun b hb => ?_, q⟩
    have z : b = s1.heap.objs.size := by simpa using hb
    subst z
    exact I1.fpOk (Nat.le_refl _) (I1.hok.fresh (Nat.le_refl _))
  cases ha : y.cps.all (· < 128)
  · exact wpAny_pyIter_wide ha (fin _ (.inr rfl))
  · exact wpAny_pyIter_ascii ha (fin _ (.inl rfl))
end
/-! ### the forms of a comprehension that one uses: n items, the i-th makes the i-th value -/
/-- all that was tracked is as it was, but for lists -/
def SameB (H H' : Hp) : Prop := ∀ b o, H b = some o → (∀ zs, o ≠ .lst zs) → H' b = some o
theorem Same.b {H H' : Hp} (e : Same H H') : SameB H H' := fun b o q _ => e b o q
section
variable {X : Cx}
/-! ### all(..), any(..) of a list of bools -/
theorem blsAre {bs : List Bool} : ∀ {us : List Value}, Vals (bs.map V.bl) us → ∀ i, i < bs.length → us[i]? = some (.bool (bs.getD i false)) := by
  induction bs with
  | nil => intro us _ i hi; simp at hi
  | cons b r ih =>
    intro us h i hi
    cases h with
    | cons h1 h2 =>
      cases h1
      cases i with
      | zero => rfl
      | succ j => simpa using ih h2 j (by simpa using hi)
theorem all_range (bs : List Bool) : (List.range bs.length).all (fun i => bs.getD i false) = bs.all id := by
  induction bs with
  | nil => rfl
  | cons b r ih =>
    rw [List.length_cons, List.range_succ_eq_map, List.all_cons, List.all_map, List.all_cons, ← ih]
    rfl
theorem call_all (hc : X.calm = true) : CallR X (.builtin "all") (fun xs H Q => ∃ p, ∃ bs : List Bool, xs = [.ref p] ∧ SqL X.K H p (bs.map V.bl) ∧ Q (.bl (bs.all id)) H) := by
  intro pins s σ H xs us Q I r h
  obtain ⟨p, bs, rfl, hq, q⟩ := h
  obtain ⟨u, rfl, ru⟩ := vals1 r
  cases ru
  obtain ⟨its, rv, pl, hz⟩ := I.list hq
  have hlen := rv.length
  rw [List.length_map] at hlen
  refine call_all_walk (wpAny_pyIter_list pl.isList ?_)
  have hne : p ≠ s.heap.objs.size := by
    obtain ⟨o, _, e, _⟩ := pl
    exact Nat.ne_of_lt (Heap.lt_size e)
  have hl2 : (s.heap.push { cls := .type "list_iterator", data := .fields #[.ref p, .int 0 0] }).IsList p its.toArray := pl.isList.at fun o e => Heap.get?_push_of_some _ e
  refine ⟨_, _, _, _, _, _, fun i => bs.getD i false, rfl, Walks.list (A := X.A.in1) (show X.A.in1.handled = none from I.ok.hd hc) s.heap.objs.size p hne its.toArray, ⟨⟨_, Heap.get?_push_size _ rfl, rfl, rfl⟩, hl2⟩, ?_, ?_⟩
  · intro i v s' Q' E' hv hQ
    have hi : i < bs.length := by
      have := (Array.getElem?_eq_some_iff.mp hv).1
      simp only [List.size_toArray] at this
      omega
    have e := blsAre rv i hi
    rw [show its.toArray[i]? = its[i]? by simp, e] at hv
    cases hv
    exact wpAny_truthy_bool hQ
  · intro h' tk k
    have I' : Inv X pins σ H { s with heap := h', toks := tk } := I.kept fun b o e => k b o (by simpa using Nat.ne_of_lt (Heap.lt_size e)) (Heap.get?_push_of_some _ e)
    refine ⟨.bl _, H, I', rfl, ?_⟩
    rw [List.size_toArray, ← hlen, all_range]
    exact q
/-! ### texts -/
/-- a slice of a text -/
theorem sl_str : SlR X (fun x lo hi H Q => ∃ y, x = .str y ∧ y.length ≤ sizeLine ∧ Q (.str (Txt.slice y lo hi)) H) := by
  intro pins s σ H x v vl vu lo hi sl Q I rx hs pl pu h
  obtain ⟨y, rfl, hz, q⟩ := h
  obtain ⟨t, rfl⟩ := rx
  refine ⟨"str", _, F.slot_str_getitem.lookup, typeIs_str _ _ _, ?_⟩
  have fin : ∀ t' k, EP X pins σ Q (.str (Txt.slice y lo hi) t') { s with toks := k } := fun t' k => ⟨.str _, H, I.tok k, ⟨t', rfl⟩, q⟩
  cases pl with
  | none =>
    cases pu with
    | none => exact wpAny_getItem_str_slice (l := none) (u := none) (st := none) hs rfl (post_val_or_str ⟨Nat.le_trans (Txt.slice_le y _ _) hz, fin⟩)
    | int j uj => exact wpAny_getItem_str_slice (l := none) (u := some (j, uj)) (st := none) hs rfl (post_val_or_str ⟨Nat.le_trans (Txt.slice_le y _ _) hz, fin⟩)
  | int i ui =>
    cases pu with
    | none => exact wpAny_getItem_str_slice (l := some (i, ui)) (u := none) (st := none) hs rfl (post_val_or_str ⟨Nat.le_trans (Txt.slice_le y _ _) hz, fin⟩)
    | int j uj => exact wpAny_getItem_str_slice (l := some (i, ui)) (u := some (j, uj)) (st := none) hs rfl (post_val_or_str ⟨Nat.le_trans (Txt.slice_le y _ _) hz, fin⟩)
end
end L2
namespace L2
open PySem PySem.Spec PyProof.Rows
/-! ### the same rules, with what they ask of the text said by its form alone -/
def noStar : Expr → Bool
  | .Starred .. => false
  | _ => true
def noStars : List Expr → Bool
  | [] => true
  | e :: es => noStar e && noStars es
theorem star_of {e : Expr} {es : List Expr} {env : Env} (h : noStar e = true) : starEach (e :: es) env = (false, eval e env) :: starEach es env := by
  cases e <;> first | rfl | cases h
theorem stars_of {env : Env} : ∀ {es : List Expr}, noStars es = true → ∀ pos, (backTo pos (starEach es env)).any (·.1) = false
  | [], _, _ => rfl
  | e :: es, h, pos => by
    unfold noStars at h
    rw [Bool.and_eq_true] at h
    rw [star_of h.1]
    show (false || (backTo pos (starEach es env)).any (·.1)) = false
    rw [stars_of h.2 pos]
    rfl
section
variable {X : Cx} {CX : CXT} {k : Nat} {f : Addr} {fd : FuncData} {ps : List Str} {sp : Sp} {dvs : List V} {ds : List Value} {E : XK} {x : Str} {p pos apos : Pos} {e o : Expr} {es : List Expr} {te to : TE} {t : TA} {id T : String} {r : List V → Hp → VK → Prop}
theorem pa_c (ha : PE X e te) (hr : PA X es t) (h : noStar e = true := by rfl) : PA X (e :: es) (tCons te t) := pa_cons ha hr (star_of h)
theorem pe_b (hc : CallR X (.builtin id) r) (hg : Gl X x) (hm : X.mg x = none) (hv : bootBuiltins x = some (.builtin id)) (ha : PA X (e :: es) t) (hst : noStars (e :: es) = true := by rfl) (hn : x ≠ "__name__" := by decide) (hdb : (x == ("__debug__" : Str)) = false := by decide) :
    PE X (.Call (.Name x p) (e :: es) [] pos) (tCB r t) := by
  have h := hst
  unfold noStars at h
  rw [Bool.and_eq_true] at h
  exact pe_callB hc hg hm hv ha hn hdb (star_of h.1) (stars_of h.2 pos)
theorem pe_bt (hc : CallR X (.type T) r) (hg : Gl X x) (hm : X.mg x = none) (hv : bootBuiltins x = some (.type T)) (ha : PA X (e :: es) t) (hst : noStars (e :: es) = true := by rfl) (hn : x ≠ "__name__" := by decide) (hdb : (x == ("__debug__" : Str)) = false := by decide) :
    PE X (.Call (.Name x p) (e :: es) [] pos) (tCB r t) := by
  have h := hst
  unfold noStars at h
  rw [Bool.and_eq_true] at h
  exact pe_callTy hc hg hm hv ha hn hdb (star_of h.1) (stars_of h.2 pos)
end
end L2
namespace L2
open PySem PySem.Spec PyProof.Rows
/-! ### the rules once more, each judgement a structure: so no elaborator looks into it -/
structure QE (X : Cx) (e : Expr) (t : TE) : Prop where
  get : PE X e t
structure QT (X : Cx) (e : Expr) (t : TT) : Prop where
  get : PT X e t
structure QW (X : Cx) (e : Expr) (t : TT) : Prop where
  get : PW X e t
structure QA (X : Cx) (es : List Expr) (t : TA) : Prop where
  get : PA X es t
structure QS (X : Cx) (st : Stmt) (t : TS) : Prop where
  get : PS X st t
structure QSs (X : Cx) (st : List Stmt) (t : TS) : Prop where
  get : PSs X st t
structure QG (X : Cx) (e : Expr) (t : TG) : Prop where
  get : PG X e t
structure QGs (X : Cx) (es : List Expr) (t : TGs) : Prop where
  get : PGs X es t
structure QI (X : Cx) (tg iter : Expr) (wi : TI) : Prop where
  get : PI X tg iter wi
structure QIf (X : Cx) (ifs : List Expr) (t : TT) : Prop where
  get : PIf X ifs t
structure QO (X : Cx) (e : Option Expr) (t : TO) : Prop where
  get : PO X e t
end L2
namespace L2
open PySem PySem.Spec PyProof.Rows
section
variable {P : Program} {w : World} {K : PySem.W.Frag} {mg : Str → Option Value} {base : Heap}
/-- a def that may raise exceptions of own classes -/
theorem Fun.okX {x qual : Str} {st : Stmt} {f : Addr} {fd : FuncData} {N ps : List Str} {k : Nat} {sp : Sp} (F : Fun K x qual st f fd) (S : FnScope N ps (defScope st)) (len : ∀ vs H Q E, sp vs H Q E → vs.length = ps.length)
    (hbody : ∀ (cdv : Value) (A : Around) (outer : List Env) (s : Shared) (H : Hp) (vs : List V) (Q : VK) (E : XK), Room k (A.deeper (envOfC qual (defScope st) s.heap.objs.size f cdv)) → sp vs H Q E →
      ∃ t, QSs (cxOf (CXE P w) P w K mg base N qual (defScope st) f cdv A outer s H E) (defBody st) t ∧ t { nx := fun _ H' => Q .non H', rt := Q } (start N vs) H) : FnOk P w K mg base (CXE P w) (k + 1) f fd ps sp := by
  obtain ⟨oc, od, kV, doc, pm, an, cdv, ct, osl, rfl, lk, hcd⟩ := F.ex
  refine fn_of lk hcd S len fun A outer s H vs Q E hr hsp => ?_
  obtain ⟨t, h, q⟩ := hbody cdv A outer s H vs Q E hr hsp
  exact ⟨t, h.get, q⟩
end
end L2
namespace L2
open PySem PySem.Spec PyProof.Rows
/-! ### comprehensions over lists, tuples, ranges, texts, enumerate -/
section
variable {K : PySem.W.Frag} {g : TG} {te : TE} {D : Addr} {σ : St} {H0 : Hp} {Q : Hp → Prop}
end
end L2
namespace L2
open PySem PySem.Spec PyProof.Rows
/-! ### exceptions, by the quick rules -/
section
variable {X : Cx} {k : Nat} {f C : Addr} {fd : FuncData} {ps : List Str} {sp : Sp} {XE : St → XK} {x m : Str} {p pos apos np cpos : Pos} {e o : Expr} {es : List Expr} {ta : TE} {t : TA}
theorem qx_call (F : FnOk X.prog X.w X.K X.mg X.base (CXE X.prog X.w) k f fd ps sp) (hr : Room k X.A) (hg : Gl X x) (hm : X.mg x = some (.ref f)) (hk : PySem.W.keepIn X.K (.ref f) = true) (hb : Binds X.K fd ps []) (hx : PassesX X XE)
    (ha : QA X (e :: es) t) (hst : noStars (e :: es) = true := by rfl) (hdb : (x == ("__debug__" : Str)) = false := by decide) : QE X (.Call (.Name x p) (e :: es) [] pos) (tCallX sp XE t) := by
  have h := hst
  unfold noStars at h
  rw [Bool.and_eq_true] at h
  exact ⟨pe_callX F hr hg hm hk hb hx ha.get hdb (star_of h.1) (stars_of h.2 pos)⟩
end
section
variable {P : Program} {w : World} {K : PySem.W.Frag} {mg : Str → Option Value} {base : Heap} {N : List Str} {qual : Str} {scope : Scope} {f C : Addr} {cdv : Value} {A : Around} {outer : List Env} {s : Shared} {H : Hp} {E : XK}
  {x : Str} {np cpos pos : Pos} {e₀ : Expr} {rest : List Expr} {t : TA}
theorem qx_raise (c : XCls K C) (hm : mg x = some (.ref C)) (ha : QA (cxOf (CXE P w) P w K mg base N qual scope f cdv A outer s H E) (e₀ :: rest) t)
    (hg : Gl (cxOf (CXE P w) P w K mg base N qual scope f cdv A outer s H E) x := by rfl) (hst : noStars (e₀ :: rest) = true := by rfl) (hdb : (x == ("__debug__" : Str)) = false := by decide) :
    QS (cxOf (CXE P w) P w K mg base N qual scope f cdv A outer s H E) (.Raise (some (.Call (.Name x np) (e₀ :: rest) [] cpos)) none pos) (tRaise C E t) := by
  have h := hst
  unfold noStars at h
  rw [Bool.and_eq_true] at h
  exact ⟨ps_raise c hm ha.get hg hdb (star_of h.1) (stars_of h.2 cpos)⟩
end
/-! ### texts once more -/
section
variable {X : Cx}
end
end L2
namespace L2
open PySem PySem.Spec PyProof.Rows
/-! ### == and != of lists and tuples, however deep -/
inductive EqL (R : V → V → Bool → Prop) : List V → List V → Bool → Prop
  | nil : EqL R [] [] true
  | left (y : V) (ys : List V) : EqL R [] (y :: ys) false
  | right (x : V) (xs : List V) : EqL R (x :: xs) [] false
  | cons {x y : V} {xs ys : List V} {b c : Bool} : R x y b → EqL R xs ys c → EqL R (x :: xs) (y :: ys) (b && c)
def EqN (K : PySem.W.Frag) (H : Hp) : Nat → V → V → Bool → Prop
  | 0, x, y, b => (flatV x = true ∧ flatV y = true ∧ b = eqV x y) ∨ ∃ a, x = .ref a ∧ y = .ref a ∧ b = true
  | n + 1, x, y, b => EqN K H n x y b ∨ ∃ a c xs ys, x = .ref a ∧ y = .ref c ∧ ((SqT K H a xs ∧ SqT K H c ys) ∨ (SqL K H a xs ∧ SqL K H c ys)) ∧ EqL (EqN K H n) xs ys b
theorem EqL.ans {R : V → V → Bool → Prop} {xs ys : List V} {b : Bool} (h : EqL R xs ys b) :
    ∃ e : Nat → Bool, (∀ (j : Nat) x y, xs[j]? = some x → ys[j]? = some y → R x y (e j)) ∧ b = ((List.range (min xs.length ys.length)).all e && xs.length == ys.length) := by
  induction h with
  | nil => exact ⟨fun _ => true, fun j x y e => by simp at e, rfl⟩
  | left y ys => exact ⟨fun _ => true, fun j x y e => by simp at e, by simp⟩
  | right x xs => exact ⟨fun _ => true, fun j x y _ e => by simp at e, by simp⟩
  | @cons x y xs ys b c hr _ ih =>
    obtain ⟨e, h1, h2⟩ := ih
    refine ⟨fun j => match j with | 0 => b | j + 1 => e j, fun j x' y' ex ey => ?_, ?_⟩
    · cases j with
      | zero =>
        have e1 : x = x' := by simpa using ex
        have e2 : y = y' := by simpa using ey
        subst e1 e2
        exact hr
      | succ j => exact h1 j x' y' (by simpa using ex) (by simpa using ey)
    · have e1 : min (x :: xs).length (y :: ys).length = min xs.length ys.length + 1 := by simp [Nat.min_def]; split <;> rfl
      have e3 : ((x :: xs).length == (y :: ys).length) = (xs.length == ys.length) := by simp
      rw [e1, e3, List.range_succ_eq_map, List.all_cons, List.all_map, h2, Bool.and_assoc]
      rfl
section
variable {X : Cx} {pins : List (Addr × Obj)} {σ : St} {H : Hp} {s : Shared}
theorem eqN_at (I : Inv X pins σ H s) : ∀ (n : Nat) {A : Around} {x y : V} {u v : Value} {b : Bool}, EqN X.K H n x y b → RelV x u → RelV y v → A.units + n < cLine → SeqAt.EqAt A s u v b := by
  intro n
  induction n with
  | zero =>
    intro A x y u v b h ru rv _
    rcases h with ⟨fx, fy, rfl⟩ | ⟨a, rfl, rfl, rfl⟩
    · exact eqAt_V ru rv fx fy
    · cases ru
      cases rv
      exact SeqAt.EqAt.same _
  | succ n ih =>
    intro A x y u v b h ru rv hu
    rcases h with h | ⟨a, c, xs, ys, rfl, rfl, hq, hl⟩
    · exact ih h ru rv (by omega)
    · cases ru
      cases rv
      by_cases hac : a = c
      · subst hac
        have hb : b = true := by
          have key : ∀ {zs ws : List V} {b : Bool}, zs = ws → EqL (EqN X.K H n) zs ws b → (∀ (j : Nat) z, zs[j]? = some z → ∀ b', EqN X.K H n z z b' → b' = true) → b = true := by
            intro zs ws b e hl hz
            induction hl with
            | nil => rfl
            | left => cases e
            | right => cases e
            | cons h1 _ ih2 =>
              cases e
              rw [hz 0 _ rfl _ h1, ih2 rfl fun j z hj b' hb => hz (j + 1) z (by simpa using hj) b' hb]
              rfl
          have refl_true : ∀ (n : Nat) (z : V) (b' : Bool), EqN X.K H n z z b' → b' = true := by
            intro n
            induction n with
            | zero =>
              intro z b' h
              rcases h with ⟨f, _, rfl⟩ | ⟨_, _, _, rfl⟩
              · exact eqV_tail f
              · rfl
            | succ n ihn =>
              intro z b' h
              rcases h with h | ⟨a, c, xs, ys, rfl, e, hq, hl⟩
              · exact ihn z b' h
              · cases e
                have exy : xs = ys := by
                  rcases hq with ⟨h1, h2⟩ | ⟨h1, h2⟩
                  · exact I.tuple_inj h1 h2
                  · exact I.list_inj h1 h2
                have key2 : ∀ {zs ws : List V} {b : Bool}, zs = ws → EqL (EqN X.K H n) zs ws b → b = true := by
                  intro zs ws b e hl
                  induction hl with
                  | nil => rfl
                  | left => cases e
                  | right => cases e
                  | cons h1 _ ih2 =>
                    cases e
                    rw [ihn _ _ h1, ih2 rfl]
                    rfl
                exact key2 exy hl
          have exy : xs = ys := by
            rcases hq with ⟨h1, h2⟩ | ⟨h1, h2⟩
            · exact I.tuple_inj h1 h2
            · exact I.list_inj h1 h2
          exact key exy hl fun j z hj b' hb => refl_true n z b' hb
        subst hb
        exact SeqAt.EqAt.same _
      · obtain ⟨e, he, rfl⟩ := hl.ans
        refine SeqAt.EqAt.of_refs hac ?_
        rcases hq with ⟨h1, h2⟩ | ⟨h1, h2⟩
        · obtain ⟨us, r1, p1, _⟩ := I.tuple h1
          obtain ⟨ws, r2, p2, _⟩ := I.tuple h2
          have l1 := r1.length
          have l2 := r2.length
          have z := SeqAt.RcAt.tuples (A := A) (e := e) (show s.heap.IsTuple a us.toArray from p1) (show s.heap.IsTuple c ws.toArray from p2) (by omega) (fun j j1 j2 => ?_)
          · rw [List.size_toArray, List.size_toArray, ← l1, ← l2] at z
            exact z
          · simp only [List.size_toArray] at j1 j2
            obtain ⟨u, hu', ru⟩ := r1.get (List.getElem?_eq_getElem (show j < xs.length by omega))
            obtain ⟨v, hv', rv⟩ := r2.get (List.getElem?_eq_getElem (show j < ys.length by omega))
            have z1 : us[j] = u := by rw [List.getElem?_eq_getElem j1] at hu'; exact Option.some.inj hu'
            have z2 : ws[j] = v := by rw [List.getElem?_eq_getElem j2] at hv'; exact Option.some.inj hv'
            simp only [List.getElem_toArray]
            rw [z1, z2]
            exact ih (he j _ _ (List.getElem?_eq_getElem (show j < xs.length by omega)) (List.getElem?_eq_getElem (show j < ys.length by omega))) ru rv (by show A.units + 1 + n < cLine; omega)
        · obtain ⟨us, r1, p1, _⟩ := I.list h1
          obtain ⟨ws, r2, p2, _⟩ := I.list h2
          have l1 := r1.length
          have l2 := r2.length
          by_cases hsz : xs.length = ys.length
          · have z := SeqAt.RcAt.lists (A := A) (e := e) p1.isList p2.isList (by simp only [List.size_toArray]; omega) (by omega) (fun j j1 j2 => ?_)
            · rw [List.size_toArray, ← l1] at z
              rw [← hsz, Nat.min_self, beq_self_eq_true, Bool.and_true]
              exact z
            · simp only [List.size_toArray] at j1 j2
              obtain ⟨u, hu', ru⟩ := r1.get (List.getElem?_eq_getElem (show j < xs.length by omega))
              obtain ⟨v, hv', rv⟩ := r2.get (List.getElem?_eq_getElem (show j < ys.length by omega))
              have z1 : us[j] = u := by rw [List.getElem?_eq_getElem j1] at hu'; exact Option.some.inj hu'
              have z2 : ws[j] = v := by rw [List.getElem?_eq_getElem j2] at hv'; exact Option.some.inj hv'
              simp only [List.getElem_toArray]
              rw [z1, z2]
              exact ih (he j _ _ (List.getElem?_eq_getElem (show j < xs.length by omega)) (List.getElem?_eq_getElem (show j < ys.length by omega))) ru rv (by show A.units + 1 + n < cLine; omega)
          · rw [show (xs.length == ys.length) = false by simpa using hsz, Bool.and_false]
            exact SeqAt.RcAt.lists_lengths p1.isList p2.isList (by simp only [List.size_toArray, bne_iff_ne, ne_eq]; omega) (by omega)
def rEqD (K : PySem.W.Frag) (neg : Bool) : R2 := fun x y H Q => ∃ n a c xs ys b, n ≤ 50 ∧ x = .ref a ∧ y = .ref c ∧ ((SqT K H a xs ∧ SqT K H c ys) ∨ (SqL K H a xs ∧ SqL K H c ys)) ∧ EqL (EqN K H n) xs ys b ∧ Q (.bl (if neg then !b else b)) H
theorem eqD_items (I : Inv X pins σ H s) {n : Nat} {A : Around} {xs ys : List V} {us ws : List Value} {e : Nat → Bool} (r1 : Vals xs us) (r2 : Vals ys ws) (he : ∀ (j : Nat) x y, xs[j]? = some x → ys[j]? = some y → EqN X.K H n x y (e j)) (hu : A.units + 1 + n < cLine) :
    ∀ j (h1 : j < us.toArray.size) (h2 : j < ws.toArray.size), SeqAt.EqAt A.in1 s us.toArray[j] ws.toArray[j] (e j) := by
  intro j j1 j2
  have l1 := r1.length
  have l2 := r2.length
  simp only [List.size_toArray] at j1 j2
  obtain ⟨u, hu', ru⟩ := r1.get (List.getElem?_eq_getElem (show j < xs.length by omega))
  obtain ⟨v, hv', rv⟩ := r2.get (List.getElem?_eq_getElem (show j < ys.length by omega))
  have z1 : us[j] = u := by rw [List.getElem?_eq_getElem j1] at hu'; exact Option.some.inj hu'
  have z2 : ws[j] = v := by rw [List.getElem?_eq_getElem j2] at hv'; exact Option.some.inj hv'
  simp only [List.getElem_toArray]
  rw [z1, z2]
  exact eqN_at I n (he j _ _ (List.getElem?_eq_getElem (show j < xs.length by omega)) (List.getElem?_eq_getElem (show j < ys.length by omega))) ru rv hu
end
section
variable {X : Cx}
theorem op_eqD (hu : X.A.units + 100 < cLine) : OpR X (compareOp .Eq) (rEqD X.K false) := by
  intro pins s σ H x y v u Q I rx ry h
  obtain ⟨n, a, c, xs, ys, b, hn, rfl, rfl, hq, hl, q⟩ := h
  cases rx
  cases ry
  obtain ⟨e, he, rfl⟩ := hl.ans
  rcases hq with ⟨h1, h2⟩ | ⟨h1, h2⟩
  · obtain ⟨us, r1, p1, _⟩ := I.tuple h1
    obtain ⟨ws, r2, p2, _⟩ := I.tuple h2
    refine SeqAt.eq_tupleAt (show s.heap.IsTuple a us.toArray from p1) (show s.heap.IsTuple c ws.toArray from p2) (by omega) (eqD_items I r1 r2 he (by omega)) ?_
    rw [List.size_toArray, List.size_toArray, ← r1.length, ← r2.length]
    exact ⟨.bl _, H, I, rfl, q⟩
  · obtain ⟨us, r1, p1, _⟩ := I.list h1
    obtain ⟨ws, r2, p2, _⟩ := I.list h2
    have l1 := r1.length
    have l2 := r2.length
    by_cases hsz : xs.length = ys.length
    · refine SeqAt.eq_listAt p1.isList p2.isList (by simp only [List.size_toArray]; omega) (by omega) (eqD_items I r1 r2 he (by omega)) ?_
      rw [← hsz, Nat.min_self, beq_self_eq_true, Bool.and_true] at q
      rw [List.size_toArray, ← l1]
      exact ⟨.bl _, H, I, rfl, q⟩
    · rw [show (xs.length == ys.length) = false by simpa using hsz, Bool.and_false] at q
      exact SeqAt.eq_list_lengthsAt p1.isList p2.isList (by simp only [List.size_toArray, bne_iff_ne, ne_eq]; omega) (by omega) ⟨.bl false, H, I, rfl, q⟩
theorem op_neD (hu : X.A.units + 100 < cLine) : OpR X (compareOp .NotEq) (rEqD X.K true) := by
  intro pins s σ H x y v u Q I rx ry h
  obtain ⟨n, a, c, xs, ys, b, hn, rfl, rfl, hq, hl, q⟩ := h
  cases rx
  cases ry
  obtain ⟨e, he, rfl⟩ := hl.ans
  rcases hq with ⟨h1, h2⟩ | ⟨h1, h2⟩
  · obtain ⟨us, r1, p1, _⟩ := I.tuple h1
    obtain ⟨ws, r2, p2, _⟩ := I.tuple h2
    refine SeqAt.RcNeAt.tuples (show s.heap.IsTuple a us.toArray from p1) (show s.heap.IsTuple c ws.toArray from p2) (by omega) (eqD_items I r1 r2 he (by omega)) _ _ _ _ ?_
    rw [List.size_toArray, List.size_toArray, ← r1.length, ← r2.length]
    exact ⟨.bl _, H, I, rfl, q⟩
  · obtain ⟨us, r1, p1, _⟩ := I.list h1
    obtain ⟨ws, r2, p2, _⟩ := I.list h2
    have l1 := r1.length
    have l2 := r2.length
    by_cases hsz : xs.length = ys.length
    · refine SeqAt.RcNeAt.lists p1.isList p2.isList (by simp only [List.size_toArray]; omega) (by omega) (eqD_items I r1 r2 he (by omega)) _ _ _ _ ?_
      rw [← hsz, Nat.min_self, beq_self_eq_true, Bool.and_true] at q
      rw [List.size_toArray, ← l1]
      exact ⟨.bl _, H, I, rfl, q⟩
    · rw [show (xs.length == ys.length) = false by simpa using hsz, Bool.and_false] at q
      exact SeqAt.RcNeAt.lists_lengths p1.isList p2.isList (by simp only [List.size_toArray, bne_iff_ne, ne_eq]; omega) (by omega) _ _ _ _ ⟨.bl true, H, I, rfl, q⟩
end
/-- a list of flat things and of things that are the same -/
theorem EqL.refl {K : PySem.W.Frag} {H : Hp} {xs : List V} (h : ∀ x ∈ xs, flatV x = true ∨ ∃ a, x = .ref a) : EqL (EqN K H 0) xs xs true := by
  induction xs with
  | nil => exact .nil
  | cons x r ih =>
    have h1 : EqN K H 0 x x true := by
      rcases h x List.mem_cons_self with f | ⟨a, rfl⟩
      · exact .inl ⟨f, f, (eqV_tail f).symm⟩
      · exact .inr ⟨a, rfl, rfl, rfl⟩
    exact .cons h1 (ih fun y hy => h y (List.mem_cons_of_mem _ hy))
/-! ### C(..) whose __init__ may raise -/
section
variable {X : Cx} {k : Nat} {f C : Addr} {fd : FuncData} {ps : List Str} {sp : Sp} {dvs : List V} {ds : List Value} {XE : St → XK} {x : Str} {p pos : Pos} {e : Expr} {es : List Expr} {t : TA}
def tMakeX (C : Addr) (sp : Sp) (dvs : List V) (XE : St → XK) (t : TA) : TE := fun σ H Q => t σ H fun vs H1 => ∀ x dx, H1 x = none → H1 dx = none → dx ≠ x →
  sp (.ref x :: (vs ++ dvs)) (upd (upd H1 dx (.own x)) x (.ins C dx [])) (fun v H2 => v = .non ∧ Q (.ref x) H2) (XE σ)
end
end L2
namespace L2
open PySem PySem.Spec PyProof.Rows
theorem Room.u100 {k : Nat} {A : Around} (r : Room k A) : A.units + 100 < cLine := by have := r.un; omega
section
variable {X : Cx} {a b c d : Expr} {ta tb tc td : TE} {pos : Pos}
/-- a op1 b op2 c op3 d -/
def tChain3 (r r' r2 : R2) (ta tb tc td : TE) : TE := fun σ H Q => ta σ H fun x H1 => tb σ H1 fun y H2 => r x y H2 fun z H3 => ∃ k, z = .bl k ∧
  (if k = true then tc σ H3 fun w' H4 => r' y w' H4 fun z' H5 => ∃ k', z' = .bl k' ∧ (if k' = true then td σ H5 fun w2 H6 => r2 w' w2 H6 Q else Q (.bl false) H5) else Q (.bl false) H3)
end
end L2
namespace L2
open PySem PySem.Spec PyProof.Rows
/-! ### texts by their signs -/
theorem sg_len (x : Str) : x.length = x.cps.toList.length := by
  show x.cps.size = _
  simp
theorem sg_app (x y : Str) : (x ++ y).cps.toList = x.cps.toList ++ y.cps.toList := by
  show (x.cps ++ y.cps).toList = _
  simp
theorem sl_to {x : Str} {j : Int} (h0 : 0 ≤ j) (h : j ≤ x.cps.toList.length) : (Txt.slice x none (some j)).cps.toList = x.cps.toList.take j.toNat := by
  have := eq_of_beq (slice_closes_to (x := x) (j := j) ⟨h0, h⟩)
  rw [this]
  simp
theorem sl_fr {x : Str} {i : Int} (h0 : 0 ≤ i) (h : i ≤ x.cps.toList.length) : (Txt.slice x (some i) none).cps.toList = x.cps.toList.drop i.toNat := by
  have e := slice_from_eq (x := x) (i := i) (b := (x.length : Int)) h0 (by rw [sg_len]; exact h) rfl
  rw [e]
  show (x.cps.toList.drop i.toNat).take ((x.length : Int) - i).toNat = _
  rw [List.take_of_length_le]
  rw [List.length_drop, sg_len]
  omega
end L2
namespace L2
open PySem PySem.Spec PyProof.Rows
section
variable {X : Cx}
/-! ### where the context hangs on what the block does not know (a comprehension, an except suite), the text's part is named -/
section
variable {K : PySem.W.Frag}
end
end
end L2
namespace L2
open PySem PySem.Spec PyProof.Rows
/-! ### try: .. except C: .. except D: .. -/
def tTry2 (K : PySem.W.Frag) (W1 W2 : Addr) (tb : (St → XK) → TS) (ts1 ts2 : TS) : TS := fun D σ H => ∃ XE : St → XK, tb XE D σ H ∧
  ∀ σ' H' cls, XE σ' cls none H' → ∃ C, cls = .ref C ∧ ((PySem.W.subIn K (.ref C) (.ref W1) = some true ∧ ts1 D σ' H') ∨ (PySem.W.subIn K (.ref C) (.ref W1) = some false ∧ PySem.W.subIn K (.ref C) (.ref W2) = some true ∧ ts2 D σ' H'))
end L2
namespace L2
open PySem PySem.Spec PyProof.Rows
/-! ### list(reversed(xs)) -/
section
variable {prog : Program} {w : World} {A : Around} {s : Shared} {R : Result → Shared → Prop}
variable {I : Addr} {fp wr : List Addr} {n : Nat} {P : Nat → Value → Prop} {St : Nat → Shared → Prop} {G : Array GenState → Array GenState → Prop}
end
section
variable {X : Cx} {e : Expr} {t : TE} {x y : Str} {p p' pos pos' : Pos}
def tRevL (K : PySem.W.Frag) (t : TE) : TE := fun σ H Q => t σ H fun v H1 => ∃ a ys, v = .ref a ∧ SqL K H1 a ys ∧ ∀ l, H1 l = none → Q (.ref l) (upd H1 l (.lst ys.reverse))
end
end L2
namespace L2
open PySem PySem.Spec PyProof.Rows
/-! ### over a list or a tuple -/
section
variable {X : Cx} {tg : Expr}
def iSeq (K : PySem.W.Frag) (tl : TE) : TI := fun σ H R => tl σ H fun x H1 => ∃ a, x = .ref a ∧ (((∃ xs, SqL K H1 a xs) ∧ R (Itl K a) H1) ∨ ((∃ xs, SqT K H1 a xs) ∧ R (Itt K a) H1))
/-! ### isinstance(x, (A, B)) -/
theorem vals_tys : ∀ {cs : List String} {us : List Value}, Vals (cs.map V.ty) us → us = cs.map Value.type
  | [], _, .nil => rfl
  | _ :: _, _, .cons r rs => by rw [List.map_cons, vals_tys rs]; cases r; rfl
def rIsiS (K : PySem.W.Frag) : List V → Hp → VK → Prop := fun xs H Q => ∃ (a tp : Addr) (cs : List String) (b : Bool) (T : String), xs = [.ref a, .ref tp] ∧ (((∃ ys, H a = some (.lst ys)) ∧ T = "list") ∨ ((∃ ys, H a = some (.tup ys)) ∧ T = "tuple")) ∧
  H tp = some (.tup (cs.map V.ty)) ∧ PySem.W.kitAny K (.type T) (cs.map Value.type) = some b ∧ Q (.bl b) H
theorem call_isiS : CallR X (.builtin "isinstance") (rIsiS X.K) := by
  intro pins s σ H xs us Q I r h
  obtain ⟨a, tp, cs, b, T, rfl, ht, hT, e, q⟩ := h
  obtain ⟨u, w', rfl, r1, r2⟩ := vals2 r
  cases r1
  cases r2
  obtain ⟨_, its, rv, ob, ho, hcl, n, hd⟩ := (show ObjOk X.prog X.w H s.heap tp (.tup (cs.map V.ty)) from I.hok tp _ hT)
  have ei := vals_tys rv
  subst ei
  obtain ⟨c0, dd, dt, sl⟩ := ob
  dsimp only at hcl hd
  subst hcl hd
  rcases ht with ⟨⟨ys, ea⟩, rfl⟩ | ⟨⟨ys, ea⟩, rfl⟩
  · obtain ⟨_, _, n', _, h1⟩ := (show ObjOk X.prog X.w H s.heap a (.lst ys) from I.hok a _ ea)
    exact PySem.W.kia_tup PySem.W.kitx_list I.kIn ⟨_, h1, rfl⟩ ho e (fun z => nomatch z) fun tk => ⟨.bl b, H, I.tok tk, rfl, q⟩
  · obtain ⟨_, _, _, p⟩ := (show ObjOk X.prog X.w H s.heap a (.tup ys) from I.hok a _ ea)
    obtain ⟨o, h1, h2, _⟩ := p
    exact PySem.W.kia_tup PySem.W.kitx_tuple I.kIn ⟨o, h1, h2⟩ ho e (fun z => nomatch z) fun tk => ⟨.bl b, H, I.tok tk, rfl, q⟩
end
/-! ### tuple(x) -/
@[irreducible] def rTupOf (K : PySem.W.Frag) : List V → Hp → VK → Prop := fun xs H Q => ∃ p ys, xs = [.ref p] ∧ ((SqL K H p ys ∧ ∀ l, H l = none → Q (.ref l) (upd H l (.tup ys))) ∨ (SqT K H p ys ∧ Q (.ref p) H))
/-! ### a def with defaults -/
structure FunD (K : PySem.W.Frag) (x qual : Str) (st : Stmt) (f : Addr) (fd : FuncData) (ds : List Value) : Prop where
  ex : ∃ (oc : Value) (od : Option Addr) (kV doc pm : Value) (an : Option Addr) (cdv ct : Value) (osl : Array (Option Value)) (D : Addr) (o : Obj) (n : Nat),
    fd = PySem.W.fnOf x qual (defArgs st) (defBody st) (defScope st) (.ref D) kV doc pm an cdv ct ∧ K.lookup f = some ⟨oc, od, .func fd, osl⟩ ∧ PySem.W.codeIn K cdv qual = true ∧ K.lookup D = some o ∧ o.data = .seq ds.toArray n
  kp : PySem.W.keepIn K (.ref f) = true
section
variable {P : Program} {w : World} {K : PySem.W.Frag} {mg : Str → Option Value} {base : Heap}
theorem FunD.okX {x qual : Str} {st : Stmt} {f : Addr} {fd : FuncData} {ds : List Value} {N ps : List Str} {k : Nat} {sp : Sp} (F : FunD K x qual st f fd ds) (S : FnScope N ps (defScope st)) (len : ∀ vs H Q E, sp vs H Q E → vs.length = ps.length)
    (hbody : ∀ (cdv : Value) (A : Around) (outer : List Env) (s : Shared) (H : Hp) (vs : List V) (Q : VK) (E : XK), Room k (A.deeper (envOfC qual (defScope st) s.heap.objs.size f cdv)) → sp vs H Q E →
      ∃ t, QSs (cxOf (CXE P w) P w K mg base N qual (defScope st) f cdv A outer s H E) (defBody st) t ∧ t { nx := fun _ H' => Q .non H', rt := Q } (start N vs) H) : FnOk P w K mg base (CXE P w) (k + 1) f fd ps sp := by
  obtain ⟨oc, od, kV, doc, pm, an, cdv, ct, osl, D, o, n, rfl, lk, hcd, _, _⟩ := F.ex
  refine fn_of lk hcd S len fun A outer s H vs Q E hr hsp => ?_
  obtain ⟨t, h, q⟩ := hbody cdv A outer s H vs Q E hr hsp
  exact ⟨t, h.get, q⟩
theorem FunD.binds {x qual : Str} {st : Stmt} {f : Addr} {fd : FuncData} {ds ds' : List Value} {ps : List Str} (F : FunD K x qual st f fd ds)
    (h : ∀ (D : Addr) (o : Obj) (n : Nat) (kV doc pm : Value) (an : Option Addr) (cdv ct : Value) (s : Shared) (us : List Value), s.heap.get? D = some o → o.data = .seq ds.toArray n → (us ++ ds').length = ps.length → BindsTo s (PySem.W.fnOf x qual (defArgs st) (defBody st) (defScope st) (.ref D) kV doc pm an cdv ct) ⟨us, []⟩ (ps.zip (us ++ ds'))) : Binds K fd ps ds' := by
  obtain ⟨oc, od, kV, doc, pm, an, cdv, ct, osl, D, o, n, rfl, lk, hcd, hD, ho⟩ := F.ex
  intro s us KI hl
  exact h D o n kV doc pm an cdv ct s us (KI _ _ hD) ho hl
end
end L2
namespace L2
open PySem PySem.Spec PyProof.Rows
/-! ### xs += ys, of lists -/
section
variable {X : Cx}
def ipL : TIp := fun x y H Q => ∃ l b xs zs, x = .ref l ∧ y = .ref b ∧ H l = some (.lst xs) ∧ H b = some (.lst zs) ∧ xs.length + zs.length ≤ sizeLine ∧ Q (.ref l) (upd H l (.lst (xs ++ zs)))
end
end L2
namespace MA
theorem gcd_fmod (a b : Int) : Int.gcd b (a.fmod b) = Int.gcd a b := by
  rw [Int.fmod_def, Int.gcd_sub_mul_left_right, Int.gcd_comm]
theorem fmod_lt (a b : Int) (h : b ≠ 0) : (a.fmod b).natAbs < b.natAbs := by
  rcases Int.lt_or_gt_of_ne h with hn | hp
  · have h1 : (-a).fmod (-b) = -(a.fmod b) := by rw [Int.neg_fmod_neg]
    have h2 := Int.fmod_lt_of_pos (-a) (show 0 < -b by omega)
    have h3 := Int.fmod_nonneg_of_pos (-a) (show 0 < -b by omega)
    omega
  · have h2 := Int.fmod_lt_of_pos a hp
    have h3 := Int.fmod_nonneg_of_pos a hp
    omega
/-- in lowest terms, the bottom above nought -/
structure Low (p q : Int) : Prop where
  pos : 0 < q
  cop : Int.gcd p q = 1
theorem gcd_pos {a b : Int} (h : b ≠ 0) : (0 : Int) < (Int.gcd a b : Int) := by
  have : Int.gcd a b ≠ 0 := fun z => h (Int.gcd_eq_zero_iff.mp z).2
  omega
/-- divided by plus or minus the greatest divisor -/
theorem low_of {a b d : Int} (hb : b ≠ 0) (hd : d = (Int.gcd a b : Int) ∨ d = -(Int.gcd a b : Int)) (hs : 0 < b * d) :
    Low (a.fdiv d) (b.fdiv d) ∧ a.fdiv d * b = a * b.fdiv d ∧ (a.fdiv d).natAbs ≤ a.natAbs ∧ (b.fdiv d).natAbs ≤ b.natAbs := by
  have gp := gcd_pos (a := a) hb
  have hd0 : d ≠ 0 := by rcases hd with h | h <;> omega
  have na : d.natAbs = Int.gcd a b := by rcases hd with h | h <;> omega
  have da : d ∣ a := by
    rcases hd with h | h
    · rw [h]; exact Int.gcd_dvd_left a b
    · rw [h]; exact Int.neg_dvd.mpr (Int.gcd_dvd_left a b)
  have db : d ∣ b := by
    rcases hd with h | h
    · rw [h]; exact Int.gcd_dvd_right a b
    · rw [h]; exact Int.neg_dvd.mpr (Int.gcd_dvd_right a b)
  have ea := Int.fdiv_mul_cancel da
  have eb := Int.fdiv_mul_cancel db
  refine ⟨⟨?_, ?_⟩, ?_, Int.natAbs_fdiv_le_natAbs a d, Int.natAbs_fdiv_le_natAbs b d⟩
  · rw [← eb, Int.mul_assoc] at hs
    have hdd : 0 < d * d := by
      rcases Int.lt_or_gt_of_ne hd0 with h | h
      · exact Int.mul_pos_of_neg_of_neg h h
      · exact Int.mul_pos h h
    exact Int.pos_of_mul_pos_left hs hdd
  · have h := Int.gcd_mul_right (a.fdiv d) d (b.fdiv d)
    rw [ea, eb, na] at h
    have g0 : Int.gcd a b ≠ 0 := by omega
    have h' : 1 * Int.gcd a b = Int.gcd (a.fdiv d) (b.fdiv d) * Int.gcd a b := by rw [Nat.one_mul]; exact h
    exact (Nat.eq_of_mul_eq_mul_right (by omega) h').symm
  · have : a.fdiv d * b = a.fdiv d * (b.fdiv d * d) := by rw [eb]
    rw [this]
    have h2 : a * b.fdiv d = a.fdiv d * d * b.fdiv d := by rw [ea]
    rw [h2, Int.mul_assoc, Int.mul_comm d]
theorem dvd_cop {p q r : Int} (h : Int.gcd p q = 1) (k : q ∣ p * r) : q ∣ r := by
  have h1 : Nat.Coprime q.natAbs p.natAbs := by
    show Nat.gcd q.natAbs p.natAbs = 1
    rw [Nat.gcd_comm]
    exact h
  have k1 : q.natAbs ∣ p.natAbs * r.natAbs := by
    rw [← Int.natAbs_mul]
    exact Int.natAbs_dvd_natAbs.mpr k
  exact Int.natAbs_dvd_natAbs.mp (h1.dvd_of_dvd_mul_left k1)
/-- lowest terms are unique -/
theorem Low.uniq {p q p' q' : Int} (h : Low p q) (h' : Low p' q') (e : p * q' = p' * q) : p = p' ∧ q = q' := by
  have d1 : q ∣ q' := dvd_cop h.cop ⟨p', by rw [e, Int.mul_comm]⟩
  have d2 : q' ∣ q := dvd_cop h'.cop ⟨p, by rw [← e, Int.mul_comm]⟩
  have l1 := Int.le_of_dvd h'.pos d1
  have l2 := Int.le_of_dvd h.pos d2
  have eq : q = q' := by omega
  subst eq
  exact ⟨Int.eq_of_mul_eq_mul_right (by have := h.pos; omega) e, rfl⟩
/-- two that stand for one fraction -/
theorem Low.same {p q p' q' a b : Int} (h : Low p q) (h' : Low p' q') (hb : b ≠ 0) (e : p * b = a * q) (e' : p' * b = a * q') : p = p' ∧ q = q' := by
  refine h.uniq h' (Int.eq_of_mul_eq_mul_right hb ?_)
  rw [Int.mul_assoc, Int.mul_comm q', ← Int.mul_assoc, e, Int.mul_assoc p', Int.mul_comm q b, ← Int.mul_assoc, e', Int.mul_assoc, Int.mul_assoc, Int.mul_comm q]
theorem Low.self {p q : Int} (h : Low p q) : p.fdiv (Int.gcd p q : Int) = p ∧ q.fdiv (Int.gcd p q : Int) = q := by
  rw [h.cop]
  exact ⟨Int.fdiv_one p, Int.fdiv_one q⟩
end MA
namespace MA
open L2
/-! ### many fractions together -/
abbrev Fr := Int × Int
def fv (a : Fr) : Rat := (a.1 : Rat) / (a.2 : Rat)
def addF (a b : Fr) : Fr := (a.1 * b.2 + b.1 * a.2, a.2 * b.2)
def mulF (a b : Fr) : Fr := (a.1 * b.1, a.2 * b.2)
def putF (b : Bool) (x y : Fr) : Fr := if b then mulF x y else addF x y
def nbI (b : Bool) : Int := if b then 1 else 0
def putL (b : Bool) (ws : List Fr) : Fr := ws.foldl (putF b) (nbI b, 1)
def fsum : List Fr → Rat
  | [] => 0
  | w :: r => fv w + fsum r
def fprod : List Fr → Rat
  | [] => 1
  | w :: r => fv w * fprod r
def PosL (ws : List Fr) : Prop := ∀ w ∈ ws, 0 < w.2
def pairsOf (b : Bool) (os us : List Fr) : List Fr := os.flatMap fun o => us.map fun u => putL b [o, u]
/-! bounds -/
def BdL (k : Nat) (ws : List Fr) : Prop := ∀ w ∈ ws, Bd k w.1 ∧ Bd k w.2
theorem BdL.take {k : Nat} {ws : List Fr} (h : BdL k ws) (i : Nat) : BdL k (ws.take i) := fun w hw => h w (List.mem_of_mem_take hw)
theorem PosL.take {ws : List Fr} (h : PosL ws) (i : Nat) : PosL (ws.take i) := fun w hw => h w (List.mem_of_mem_take hw)
end MA
namespace L2
open PySem
end L2
namespace MA
/-- the top of a sum -/
def sumT (p q p' q' : Int) : Int := p * q'.fdiv (Int.gcd q q' : Int) + p' * q.fdiv (Int.gcd q q' : Int)
end MA
namespace L2
open PySem PySem.Spec PyProof.Rows
/-! ### deep values: what a thing of the heap stands for -/
inductive D where
  | non | bl (b : Bool) | int (i : Int) | str (x : Str) | ty (n : String) | rf (a : Addr)
  | tup (xs : List D) | lst (xs : List D) | scr (xs : List D) | obj (C : Addr) (fs : List (Str × D)) | dic (kvs : List (Key × D)) | exc (C : Addr)
  deriving Inhabited
mutual
def Rp (K : PySem.W.Frag) (H : Hp) : D → V → Prop
  | .non, v => v = .non
  | .bl b, v => v = .bl b
  | .int i, v => v = .int i
  | .str x, v => v = .str x
  | .ty n, v => v = .ty n
  | .rf a, v => v = .ref a
  | .tup xs, v => ∃ a vs, v = .ref a ∧ H a = some (.tup vs) ∧ Rps K H xs vs
  | .lst xs, v => ∃ a vs, v = .ref a ∧ H a = some (.lst vs) ∧ Rps K H xs vs
  | .scr xs, v => ∃ a vs, v = .ref a ∧ SqL K H a vs ∧ Rps K H xs vs
  | .obj C gs, v => ∃ a dx fs, v = .ref a ∧ H a = some (.ins C dx fs) ∧ Rfs K H gs fs
  | .dic gs, v => ∃ a kvs, v = .ref a ∧ H a = some (.dK kvs) ∧ Rks K H gs kvs
  | .exc C, v => ∃ a, v = .ref a ∧ H a = some (ExcO a C)
def Rps (K : PySem.W.Frag) (H : Hp) : List D → List V → Prop
  | [], vs => vs = []
  | d :: ds, vs => ∃ v us, vs = v :: us ∧ Rp K H d v ∧ Rps K H ds us
def Rfs (K : PySem.W.Frag) (H : Hp) : List (Str × D) → List (Str × V) → Prop
  | [], fs => fs = []
  | (k, d) :: gs, fs => ∃ v us, fs = (k, v) :: us ∧ Rp K H d v ∧ Rfs K H gs us
def Rks (K : PySem.W.Frag) (H : Hp) : List (Key × D) → List (Key × V) → Prop
  | [], fs => fs = []
  | (k, d) :: gs, fs => ∃ v us, fs = (k, v) :: us ∧ Rp K H d v ∧ Rks K H gs us
end
theorem Rd.same {H H' : Hp} {a : Addr} {o : HO} (e : Same H H') (h : Rd H a o) : Rd H' a o := h.elim (fun z => .inl (e _ _ z)) (fun ⟨u, z⟩ => .inr ⟨u, e _ _ z⟩)
theorem SqT.same {K : PySem.W.Frag} {H H' : Hp} {a : Addr} {xs : List V} (e : Same H H') (h : SqT K H a xs) : SqT K H' a xs := by
  rcases h with (h | ⟨o, h⟩) | h
  · exact .inl (.inl (e _ _ h))
  · exact .inl (.inr ⟨o, e _ _ h⟩)
  · exact .inr h
section
variable {K : PySem.W.Frag} {H H' : Hp}
mutual
theorem Rp.same (s : Same H H') : ∀ (d : D) {v : V}, Rp K H d v → Rp K H' d v
  | .non, _, h => h
  | .bl _, _, h => h
  | .int _, _, h => h
  | .str _, _, h => h
  | .ty _, _, h => h
  | .rf _, _, h => h
  | .tup xs, _, ⟨a, vs, e, h1, h2⟩ => ⟨a, vs, e, s _ _ h1, Rps.same s xs h2⟩
  | .lst xs, _, ⟨a, vs, e, h1, h2⟩ => ⟨a, vs, e, s _ _ h1, Rps.same s xs h2⟩
  | .scr xs, _, ⟨a, vs, e, h1, h2⟩ => ⟨a, vs, e, s.seq h1, Rps.same s xs h2⟩
  | .obj _ gs, _, ⟨a, dx, fs, e, h1, h2⟩ => ⟨a, dx, fs, e, s _ _ h1, Rfs.same s gs h2⟩
  | .dic gs, _, ⟨a, fs, e, h1, h2⟩ => ⟨a, fs, e, s _ _ h1, Rks.same s gs h2⟩
  | .exc _, _, ⟨a, e, h1⟩ => ⟨a, e, s _ _ h1⟩
theorem Rps.same (s : Same H H') : ∀ (ds : List D) {vs : List V}, Rps K H ds vs → Rps K H' ds vs
  | [], _, h => h
  | d :: ds, _, ⟨v, us, e, h1, h2⟩ => ⟨v, us, e, Rp.same s d h1, Rps.same s ds h2⟩
theorem Rfs.same (s : Same H H') : ∀ (ds : List (Str × D)) {vs : List (Str × V)}, Rfs K H ds vs → Rfs K H' ds vs
  | [], _, h => h
  | (k, d) :: ds, _, ⟨v, us, e, h1, h2⟩ => ⟨v, us, e, Rp.same s d h1, Rfs.same s ds h2⟩
theorem Rks.same (s : Same H H') : ∀ (ds : List (Key × D)) {vs : List (Key × V)}, Rks K H ds vs → Rks K H' ds vs
  | [], _, h => h
  | (k, d) :: ds, _, ⟨v, us, e, h1, h2⟩ => ⟨v, us, e, Rp.same s d h1, Rks.same s ds h2⟩
end
end
end L2
namespace L2
open PySem PySem.Spec PyProof.Rows
/-! ### a part H0 of the heap that is never written again, and how both grow -/
structure Ext (H0 H H0' H' : Hp) : Prop where
  s : Same H H'
  s0 : Same H0 H0'
  sub : Same H0' H'
  new : ∀ b, H0 b = none → H b ≠ none → H0' b = none
theorem Ext.refl {H0 H : Hp} (h : Same H0 H) : Ext H0 H H0 H := ⟨.refl _, .refl _, h, fun _ z _ => z⟩
theorem Ext.trans {H0 H H1 H2 H3 H4 : Hp} (a : Ext H0 H H1 H2) (b : Ext H1 H2 H3 H4) : Ext H0 H H3 H4 :=
  ⟨a.s.trans b.s, a.s0.trans b.s0, b.sub, fun c z n => b.new c (a.new c z n) (fun q => n (a.s.free q))⟩
theorem Ext.grow {H0 H H' : Hp} (h : Same H0 H) (s : Same H H') : Ext H0 H H0 H' := ⟨s, .refl _, h.trans s, fun _ z _ => z⟩
theorem Ext.put {H0 H : Hp} {p : Addr} {o : HO} (h : Same H0 H) (hp : H p = none) : Ext H0 H (upd H0 p o) (upd H p o) := by
  refine ⟨Same.upd hp, Same.upd (h.free hp), fun b u e => ?_, fun b z n => ?_⟩
  · by_cases hb : b = p
    · subst hb; rw [upd_same] at e ⊢; exact e
    · rw [upd_ne hb] at e ⊢; exact h _ _ e
  · rw [upd_ne (fun y => n (by rw [y]; exact hp))]; exact z
/-! ### slots -/
inductive Slot where
  | un | v (d : D) | own (xs : List D) | ob (a dx C : Addr) (fs : List (Str × D))
abbrev DSt := List Slot
def Slot.isOwn : Slot → Bool
  | .own _ => true
  | .ob _ _ _ _ => true
  | _ => false
def SlotOk (K : PySem.W.Frag) (H0 H : Hp) : Slot → Option V → Prop
  | .un, _ => True
  | .v d, o => ∃ v, o = some v ∧ Rp K H0 d v
  | .own xs, o => ∃ a vs, o = some (.ref a) ∧ H0 a = none ∧ H a = some (.lst vs) ∧ Rps K H0 xs vs
  | .ob a dx C gs, o => ∃ fs, o = some (.ref a) ∧ H0 a = none ∧ H a = some (.ins C dx fs) ∧ Rfs K H0 gs fs
structure Cfg (K : PySem.W.Frag) (B0 B H0 H : Hp) (σ : St) (ds : DSt) : Prop where
  ext : Ext B0 B H0 H
  slot : ∀ (i : Nat) s, ds[i]? = some s → SlotOk K H0 H s ((σ[i]?).getD none)
  young : ∀ (i : Nat) s a, ds[i]? = some s → s.isOwn = true → (σ[i]?).getD none = some (.ref a) → B a = none
  sep : ∀ (i j : Nat) s t a, i ≠ j → ds[i]? = some s → ds[j]? = some t → s.isOwn = true → t.isOwn = true → (σ[i]?).getD none = some (.ref a) → (σ[j]?).getD none = some (.ref a) → False
  len : σ.length = ds.length
section
variable {K : PySem.W.Frag} {B0 B H0 H H0' H' : Hp} {σ : St} {ds : DSt}
theorem SlotOk.ext {s : Slot} {o : Option V} (h : SlotOk K H0 H s o) (e : Ext H0 H H0' H') : SlotOk K H0' H' s o := by
  cases s with
  | un => trivial
  | v d => obtain ⟨v, e1, h1⟩ := h; exact ⟨v, e1, h1.same e.s0⟩
  | own xs =>
    obtain ⟨a, vs, e1, h1, h2, h3⟩ := h
    exact ⟨a, vs, e1, e.new a h1 (by rw [h2]; simp), e.s _ _ h2, h3.same e.s0⟩
  | ob a dx C gs =>
    obtain ⟨fs, e1, h1, h2, h3⟩ := h
    exact ⟨fs, e1, e.new a h1 (by rw [h2]; simp), e.s _ _ h2, h3.same e.s0⟩
theorem Cfg.sub (c : Cfg K B0 B H0 H σ ds) : Same H0 H := c.ext.sub
theorem Cfg.go (c : Cfg K B0 B H0 H σ ds) (e : Ext H0 H H0' H') : Cfg K B0 B H0' H' σ ds :=
  ⟨c.ext.trans e, fun i s q => (c.slot i s q).ext e, c.young, c.sep, c.len⟩
theorem set_getD {σ : St} {i : Nat} {o : Option V} (h : i < σ.length) (j : Nat) : ((σ.set i o)[j]?).getD none = if j = i then o else (σ[j]?).getD none := by
  by_cases e : j = i
  · subst e; rw [if_pos rfl, List.getElem?_set_self h]; rfl
  · rw [if_neg e, List.getElem?_set_ne (fun z => e z.symm)]
theorem set_at {ds : DSt} {i : Nat} {s : Slot} (h : i < ds.length) (j : Nat) : (ds.set i s)[j]? = if j = i then some s else ds[j]? := by
  by_cases e : j = i
  · subst e; rw [if_pos rfl, List.getElem?_set_self h]
  · rw [if_neg e, List.getElem?_set_ne (fun z => e z.symm)]
theorem set_out {α : Type} {l : List α} {i : Nat} {a : α} (h : ¬ i < l.length) : l.set i a = l := List.set_eq_of_length_le (by omega)
/-- a slot that is no owner's -/
theorem Cfg.setN (c : Cfg K B0 B H0 H σ ds) (i : Nat) {s : Slot} {o : Option V} (hs : s.isOwn = false) (h : SlotOk K H0 H s o) : Cfg K B0 B H0 H (σ.set i o) (ds.set i s) := by
  by_cases hi : i < ds.length
  case neg =>
    rw [set_out hi, set_out (by rw [c.len]; exact hi)]
    exact c
  have hi' : i < σ.length := by rw [c.len]; exact hi
  refine ⟨c.ext, fun j t q => ?_, fun j t a q w e => ?_, fun j k t u a ne q r w x e f => ?_, by rw [List.length_set, List.length_set]; exact c.len⟩
  · rw [set_at hi] at q
    rw [set_getD hi']
    split at q
    · cases q
      rw [if_pos (by assumption)]
      exact h
    · rw [if_neg (by assumption)]
      exact c.slot j t q
  · rw [set_at hi] at q
    rw [set_getD hi'] at e
    split at q
    · cases q
      rw [hs] at w
      cases w
    · rw [if_neg (by assumption)] at e
      exact c.young j t a q w e
  · rw [set_at hi] at q r
    rw [set_getD hi'] at e f
    split at q
    · cases q
      rw [hs] at w
      cases w
    · rw [if_neg (by assumption)] at e
      split at r
      · cases r
        rw [hs] at x
        cases x
      · rw [if_neg (by assumption)] at f
        exact c.sep j k t u a ne q r w x e f
theorem Cfg.setV (c : Cfg K B0 B H0 H σ ds) (i : Nat) {d : D} {v : V} (h : Rp K H0 d v) : Cfg K B0 B H0 H (σ.set i (some v)) (ds.set i (.v d)) := c.setN i rfl ⟨v, rfl, h⟩
theorem Cfg.unset (c : Cfg K B0 B H0 H σ ds) (i : Nat) : Cfg K B0 B H0 H (σ.set i none) (ds.set i .un) := c.setN i rfl trivial
/-- an owner's address -/
theorem Cfg.ownAt (c : Cfg K B0 B H0 H σ ds) {i : Nat} {s : Slot} (q : ds[i]? = some s) (w : s.isOwn = true) : ∃ a, (σ[i]?).getD none = some (.ref a) ∧ H0 a = none ∧ H a ≠ none := by
  have h := c.slot i s q
  cases s with
  | own xs =>
    obtain ⟨a, vs, e1, h1, h2, h3⟩ := h
    exact ⟨a, e1, h1, by rw [h2]; simp⟩
  | ob a dx C gs =>
    obtain ⟨fs, e1, h1, h2, h3⟩ := h
    exact ⟨a, e1, h1, by rw [h2]; simp⟩
  | un => cases w
  | v d => cases w
/-- an owner writes -/
theorem Cfg.write (c : Cfg K B0 B H0 H σ ds) {i : Nat} {s s' : Slot} {a : Addr} {o : HO} (q : ds[i]? = some s) (w : s.isOwn = true) (e : (σ[i]?).getD none = some (.ref a)) (w' : s'.isOwn = true)
    (h : SlotOk K H0 (upd H a o) s' (some (.ref a))) : Cfg K B0 B H0 (upd H a o) σ (ds.set i s') := by
  have hi : i < ds.length := (List.getElem?_eq_some_iff.mp q).1
  obtain ⟨a', e1, h0, hn⟩ := c.ownAt q w
  rw [e] at e1
  cases e1
  have hB := c.young i s a q w e
  refine ⟨⟨fun b u z => ?_, c.ext.s0, fun b u z => ?_, c.ext.new⟩, fun j t r => ?_, fun j t b r x f => ?_, fun j k t u b nj r y x z f g => ?_, by rw [List.length_set]; exact c.len⟩
  · rw [upd_ne (fun y => by rw [y, hB] at z; cases z)]
    exact c.ext.s _ _ z
  · rw [upd_ne (fun y => by rw [y, h0] at z; cases z)]
    exact c.sub _ _ z
  · rw [set_at hi] at r
    split at r
    · cases r
      rename_i z
      rw [z, e]
      exact h
    · rename_i z
      have old := c.slot j t r
      have na : ∀ b, (σ[j]?).getD none = some (.ref b) → t.isOwn = true → b ≠ a := fun b f x y => c.sep j i t s a z r q x w (y ▸ f) e
      cases t with
      | un => trivial
      | v d => exact old
      | own xs =>
        obtain ⟨b, vs, e1, h1, h2, h3⟩ := old
        exact ⟨b, vs, e1, h1, by rw [upd_ne (na b e1 rfl)]; exact h2, h3⟩
      | ob b dx C gs =>
        obtain ⟨vs, e1, h1, h2, h3⟩ := old
        exact ⟨vs, e1, h1, by rw [upd_ne (na b e1 rfl)]; exact h2, h3⟩
  · rw [set_at hi] at r
    split at r
    · rename_i z
      rw [z] at f
      rw [e] at f
      cases f
      exact hB
    · exact c.young j t b r x f
  · rw [set_at hi] at r y
    split at r
    · rename_i jz
      rw [if_neg (fun kz => nj (jz.trans kz.symm))] at y
      exact c.sep j k s u b nj (jz ▸ q) y w z f g
    · split at y
      · rename_i kz
        exact c.sep j k t s b nj r (kz ▸ q) x w f g
      · exact c.sep j k t u b nj r y x z f g
theorem Cfg.push (c : Cfg K B0 B H0 H σ ds) {i : Nat} {xs ys : List D} (q : ds[i]? = some (.own xs)) : ∃ a vs, (σ[i]?).getD none = some (.ref a) ∧ H a = some (.lst vs) ∧ Rps K H0 xs vs ∧
    ∀ H0' H' us, Ext H0 H H0' H' → Rps K H0' ys us → Cfg K B0 B H0' (upd H' a (.lst us)) σ (ds.set i (.own ys)) := by
  obtain ⟨a, vs, e1, h1, h2, h3⟩ := c.slot i _ q
  refine ⟨a, vs, e1, h2, h3, fun H0' H' us e r => ?_⟩
  have c' := c.go e
  exact c'.write q rfl e1 rfl ⟨a, us, rfl, e.new a h1 (by rw [h2]; simp), upd_same, r⟩
end
/-! ### lists of owners that are read: frozen for a while -/
def Slot.peek : Slot → Slot
  | .own xs => .v (.lst xs)
  | s => s
mutual
def D.imm : D → Bool
  | .tup xs => D.imms xs
  | .obj _ fs => D.immf fs
  | .lst _ => false
  | .scr _ => false
  | .dic _ => false
  | _ => true
def D.imms : List D → Bool
  | [] => true
  | d :: ds => d.imm && D.imms ds
def D.immf : List (Str × D) → Bool
  | [] => true
  | (_, d) :: ds => d.imm && D.immf ds
end
section
variable {K : PySem.W.Frag} {H0 H1 : Hp}
/-- H0 without some lists -/
def Less (H0 H1 : Hp) : Prop := ∀ b o, H1 b = some o → H0 b = some o ∨ (H0 b = none ∧ ∃ vs, o = .lst vs)
end
def peekAt (pk : List Nat) (ds : DSt) : DSt := pk.foldl (fun ds i => ds.modify i Slot.peek) ds
section
variable {K : PySem.W.Frag} {B0 B H0 H H0' H' : Hp} {σ : St} {ds : DSt}
theorem Cfg.peek1 (c : Cfg K B0 B H0 H σ ds) (i : Nat) : ∃ H1, Cfg K B0 B H1 H σ (ds.modify i Slot.peek) ∧ Same H0 H1 ∧ Less H0 H1 ∧ ∀ b, H1 b ≠ none → H0 b = none → H b ≠ none := by
  have triv : ds.modify i Slot.peek = ds → ∃ H1, Cfg K B0 B H1 H σ (ds.modify i Slot.peek) ∧ Same H0 H1 ∧ Less H0 H1 ∧ ∀ b, H1 b ≠ none → H0 b = none → H b ≠ none := fun e =>
    ⟨H0, by rw [e]; exact c, .refl _, fun b o z => .inl z, fun b z y => absurd y z⟩
  cases q : ds[i]? with
  | none => exact triv (List.modify_eq_self (List.getElem?_eq_none_iff.mp q))
  | some s =>
    have em : ds.modify i Slot.peek = ds.set i s.peek := by
      refine List.ext_getElem? fun j => ?_
      rw [List.getElem?_modify, List.getElem?_set]
      have hi : i < ds.length := (List.getElem?_eq_some_iff.mp q).1
      by_cases z : i = j
      · subst z; simp [hi, (List.getElem?_eq_some_iff.mp q).2]
      · simp [z]
    have hi : i < ds.length := (List.getElem?_eq_some_iff.mp q).1
    have same : s.peek = s → ds.modify i Slot.peek = ds := fun e => by
      rw [em, e]
      refine List.ext_getElem? fun j => ?_
      rw [set_at hi]
      split
      · rename_i z; rw [z, q]
      · rfl
    cases s with
    | un => exact triv (same rfl)
    | v d => exact triv (same rfl)
    | ob a dx C gs => exact triv (same rfl)
    | own xs =>
      obtain ⟨a, vs, e1, h1, h2, h3⟩ := c.slot i _ q
      have s01 : Same H0 (upd H0 a (.lst vs)) := Same.upd h1
      have hB := c.young i _ a q rfl e1
      have sub1 : Same (upd H0 a (.lst vs)) H := fun b o z => by
        by_cases hb : b = a
        · subst hb; rw [upd_same] at z; rw [h2]; exact z
        · rw [upd_ne hb] at z; exact c.sub _ _ z
      refine ⟨upd H0 a (.lst vs), ?_, s01, fun b o z => ?_, fun b z y => ?_⟩
      · rw [em]
        refine ⟨⟨c.ext.s, c.ext.s0.trans s01, sub1, fun b z n => ?_⟩, fun j t r => ?_, fun j t b r x f => ?_, fun j k t u b nj r y x z f g => ?_, by rw [List.length_set]; exact c.len⟩
        · rw [upd_ne (fun y => n (by rw [y]; exact hB))]
          exact c.ext.new b z n
        · rw [set_at hi] at r
          split at r
          · rename_i z
            cases r
            rw [z, e1]
            exact ⟨.ref a, rfl, a, vs, rfl, upd_same, h3.same s01⟩
          · rename_i z
            have old := c.slot j t r
            have na : ∀ b, (σ[j]?).getD none = some (.ref b) → t.isOwn = true → b ≠ a := fun b f x y => c.sep j i t _ a z r q x rfl (y ▸ f) e1
            cases t with
            | un => trivial
            | v d => obtain ⟨v, z1, z2⟩ := old; exact ⟨v, z1, z2.same s01⟩
            | own ys =>
              obtain ⟨b, us, f1, f2, f3, f4⟩ := old
              exact ⟨b, us, f1, by rw [upd_ne (na b f1 rfl)]; exact f2, f3, f4.same s01⟩
            | ob b dx C gs =>
              obtain ⟨us, f1, f2, f3, f4⟩ := old
              exact ⟨us, f1, by rw [upd_ne (na b f1 rfl)]; exact f2, f3, f4.same s01⟩
        · rw [set_at hi] at r
          split at r
          · cases r
            cases x
          · exact c.young j t b r x f
        · rw [set_at hi] at r y
          split at r
          · cases r
            cases x
          · split at y
            · cases y
              cases z
            · exact c.sep j k t u b nj r y x z f g
      · by_cases hb : b = a
        · subst hb
          rw [upd_same] at z
          cases z
          exact .inr ⟨h1, _, rfl⟩
        · rw [upd_ne hb] at z
          exact .inl z
      · by_cases hb : b = a
        · subst hb
          rw [h2]
          simp
        · rw [upd_ne hb] at z
          exact absurd y z
theorem Cfg.peekAt (c : Cfg K B0 B H0 H σ ds) (pk : List Nat) : ∃ H1, Cfg K B0 B H1 H σ (peekAt pk ds) ∧ Same H0 H1 ∧ Less H0 H1 ∧ ∀ b, H1 b ≠ none → H0 b = none → H b ≠ none := by
  induction pk generalizing H0 ds with
  | nil => exact ⟨H0, c, .refl _, fun b o z => .inl z, fun b z y => absurd y z⟩
  | cons i pk ih =>
    obtain ⟨H1, c1, s1, l1, n1⟩ := c.peek1 i
    obtain ⟨H2, c2, s2, l2, n2⟩ := ih c1
    refine ⟨H2, c2, s1.trans s2, fun b o z => ?_, fun b z y => ?_⟩
    · rcases l2 b o z with y | ⟨y, vs, e⟩
      · exact l1 b o y
      · exact .inr ⟨s1.free y, vs, e⟩
    · by_cases q : H1 b = none
      · exact n2 b z q
      · exact n1 b q y
/-- what was frozen for a while is an owner's again -/
theorem Ext.thaw {H1 : Hp} (e : Ext H1 H H0' H') (s : Same H0 H1) (sub : Same H0 H) (l : Less H0 H1) (n : ∀ b, H1 b ≠ none → H0 b = none → H b ≠ none) : ∃ H0'', Ext H0 H H0'' H' ∧ Less H0'' H0' ∧ Same H0'' H0' := by
  classical
  refine ⟨fun b => if H0 b = none ∧ H1 b ≠ none then none else H0' b, ⟨e.s, fun b o z => ?_, fun b o z => ?_, fun b z y => ?_⟩, fun b o z => ?_, fun b o z => ?_⟩
  · show (if _ then none else H0' b) = _
    rw [if_neg (fun y => by rw [z] at y; cases y.1)]
    exact e.s0 _ _ (s _ _ z)
  · have z : (if H0 b = none ∧ H1 b ≠ none then none else H0' b) = some o := z
    split at z
    · cases z
    · exact e.sub _ _ z
  · show (if _ then none else H0' b) = _
    split
    · rfl
    · rename_i q
      refine e.new b ?_ y
      cases r : H1 b with
      | none => rfl
      | some o => exact absurd ⟨z, by rw [r]; simp⟩ q
  · show (if _ then none else H0' b) = _ ∨ (if _ then none else H0' b) = _ ∧ _
    split
    · rename_i q
      right
      refine ⟨rfl, ?_⟩
      cases r : H1 b with
      | none => exact absurd r q.2
      | some u =>
        rcases l b u r with y | ⟨_, vs, y⟩
        · rw [q.1] at y; cases y
        · have := e.s0 _ _ r
          rw [z] at this
          cases this
          exact ⟨vs, y⟩
    · exact .inl z
  · have z : (if H0 b = none ∧ H1 b ≠ none then none else H0' b) = some o := z
    split at z
    · cases z
    · exact z
end
end L2
namespace L2
open PySem PySem.Spec PyProof.Rows
/-! ### readings by deep values: the wanted value, the wanted exception -/
abbrev DE := DSt → (D → Prop) → (Addr → Prop) → Prop
abbrev DT := DSt → (Bool → Prop) → (Addr → Prop) → Prop
abbrev DA := DSt → (List D → Prop) → (Addr → Prop) → Prop
abbrev DO := DSt → (Option Int → Prop) → (Addr → Prop) → Prop
abbrev KE (K : PySem.W.Frag) (H0 H : Hp) (q : D → Prop) (Q : VK) : Prop := ∀ v d H0' H', Ext H0 H H0' H' → Rp K H0' d v → q d → Q v H'
abbrev KX (XE : St → XK) (σ : St) (H : Hp) (x : Addr → Prop) : Prop := ∀ C H', Same H H' → x C → XE σ (.ref C) none H'
theorem KX.go {XE : St → XK} {σ : St} {H H1 : Hp} {x : Addr → Prop} (k : KX XE σ H x) (s : Same H H1) : KX XE σ H1 x := fun C H' s' h => k C H' (s.trans s') h
theorem KE.go {K : PySem.W.Frag} {H0 H H1 H2 : Hp} {q : D → Prop} {Q : VK} (k : KE K H0 H q Q) (e : Ext H0 H H1 H2) : KE K H1 H2 q Q := fun v d H0' H' e' r h => k v d H0' H' (e.trans e') r h
def Den (K : PySem.W.Frag) (XE : St → XK) (te : TE) (de : DE) : Prop := ∀ {B0 B H0 H : Hp} {σ : St} {ds : DSt} {q : D → Prop} {x : Addr → Prop} {Q : VK}, Cfg K B0 B H0 H σ ds → de ds q x → KE K H0 H q Q → KX XE σ H x → te σ H Q
def DenT (K : PySem.W.Frag) (XE : St → XK) (te : TT) (de : DT) : Prop := ∀ {B0 B H0 H : Hp} {σ : St} {ds : DSt} {q : Bool → Prop} {x : Addr → Prop} {Q : Bool → Hp → Prop}, Cfg K B0 B H0 H σ ds → de ds q x → (∀ b H0' H', Ext H0 H H0' H' → q b → Q b H') → KX XE σ H x → te σ H Q
def DenA (K : PySem.W.Frag) (XE : St → XK) (te : TA) (de : DA) : Prop := ∀ {B0 B H0 H : Hp} {σ : St} {ds : DSt} {q : List D → Prop} {x : Addr → Prop} {Q : List V → Hp → Prop}, Cfg K B0 B H0 H σ ds → de ds q x → (∀ vs xs H0' H', Ext H0 H H0' H' → Rps K H0' xs vs → q xs → Q vs H') → KX XE σ H x → te σ H Q
def DenO (K : PySem.W.Frag) (XE : St → XK) (te : TO) (de : DO) : Prop := ∀ {B0 B H0 H : Hp} {σ : St} {ds : DSt} {q : Option Int → Prop} {x : Addr → Prop} {Q : Option Int → Hp → Prop}, Cfg K B0 B H0 H σ ds → de ds q x → (∀ i H0' H', Ext H0 H H0' H' → q i → Q i H') → KX XE σ H x → te σ H Q
structure JE (X : Cx) (XE : St → XK) (e : Expr) (de : DE) : Prop where
  ex : ∃ te, PE X e te ∧ Den X.K XE te de
structure JT (X : Cx) (XE : St → XK) (e : Expr) (de : DT) : Prop where
  ex : ∃ te, PT X e te ∧ DenT X.K XE te de
structure JW (X : Cx) (XE : St → XK) (e : Expr) (de : DT) : Prop where
  ex : ∃ te, PW X e te ∧ DenT X.K XE te de
structure JAs (X : Cx) (XE : St → XK) (es : List Expr) (de : DA) : Prop where
  ex : ∃ te, PA X es te ∧ DenA X.K XE te de
structure JO (X : Cx) (XE : St → XK) (e : Option Expr) (de : DO) : Prop where
  ex : ∃ te, PO X e te ∧ DenO X.K XE te de
section
variable {X : Cx} {XE : St → XK}
/-! ### names and constants -/
def dVar (i : Nat) : DE := fun ds q _ => ∃ d, ds[i]? = some (.v d) ∧ q d
def dC (d : D) : DE := fun _ q _ => q d
theorem slot_at {o : Option (Option V)} {v : V} (h : o.getD none = some v) : o = some (some v) := by
  cases o with
  | none => cases h
  | some o => exact congrArg some h
theorem jv (i : Nat) {x : Str} {pos : Pos} (hN : X.N[i]? = some x := by rfl) (hv : Vis X.env.scope x := by first | exact Or.inl rfl | exact Or.inr (Or.inl rfl) | exact Or.inr (Or.inr rfl)) (hd : (x == ("__debug__" : Str)) = false := by decide)
    (hcd : (x == ("__classdict__" : Str)) = false := by decide) : JE X XE (.Name x pos) (dVar i) :=
  ⟨_, pv i hN hv hd hcd, fun c h k _ => by
    obtain ⟨d, e, h⟩ := h
    obtain ⟨v, e1, r⟩ := c.slot i _ e
    exact ⟨v, slot_at e1, k v d _ _ (.refl c.sub) r h⟩⟩
theorem j_int {i j pos} : JE X XE (.Constant (.int i) j pos) (dC (.int i)) := ⟨_, pe_int, fun c h k _ => k _ (.int i) _ _ (.refl c.sub) rfl h⟩
theorem j_bl {b j pos} : JE X XE (.Constant (.bool b) j pos) (dC (.bl b)) := ⟨_, pe_bl, fun c h k _ => k _ (.bl b) _ _ (.refl c.sub) rfl h⟩
theorem j_str {x : Str} {j pos} : JE X XE (.Constant (.str x) j pos) (dC (.str x)) := ⟨_, pe_str, fun c h k _ => k _ (.str x) _ _ (.refl c.sub) rfl h⟩
theorem j_non {j pos} : JE X XE (.Constant .none j pos) (dC .non) := ⟨_, pe_non, fun c h k _ => k _ .non _ _ (.refl c.sub) rfl h⟩
/-- a global's value -/
theorem j_glob {x : Str} {v : V} {u : Value} {pos : Pos} (d : D) (hg : Gl X x) (hm : X.mg x = some u) (r : RelV v u) (hr : ∀ K H, Rp K H d v) (hd : (x == ("__debug__" : Str)) = false := by decide) : JE X XE (.Name x pos) (dC d) :=
  ⟨_, pe_glob hg hm r hd, fun c h k _ => k _ _ _ _ (.refl c.sub) (hr _ _) h⟩
theorem j_type {x : Str} {n : String} {pos : Pos} (hg : Gl X x) (hm : X.mg x = none) (hv : bootBuiltins x = some (.type n)) (hn : x ≠ ("__name__" : Str) := by decide) (hd : (x == ("__debug__" : Str)) = false := by decide) : JE X XE (.Name x pos) (dC (.ty n)) :=
  ⟨_, pe_bltn (v := .ty n) hg hm hv rfl hn hd, fun c h k _ => k _ (.ty n) _ _ (.refl c.sub) rfl h⟩
/-! ### argument lists -/
def dNil : DA := fun _ q _ => q []
def dCons (da : DE) (dr : DA) : DA := fun ds q x => da ds (fun a => dr ds (fun as => q (a :: as)) x) x
theorem ja_nil : JAs X XE [] dNil := ⟨_, pa_nil, fun c h k _ => k _ [] _ _ (.refl c.sub) rfl h⟩
theorem ja_c {e : Expr} {es : List Expr} {da : DE} {dr : DA} (ha : JE X XE e da) (hr : JAs X XE es dr) (h : noStar e = true := by rfl) : JAs X XE (e :: es) (dCons da dr) := by
  obtain ⟨ta, p1, d1⟩ := ha.ex
  obtain ⟨tr, p2, d2⟩ := hr.ex
  refine ⟨_, pa_c p1 p2 h, fun c h k kx => ?_⟩
  refine d1 c h (fun v a H1 H2 e r h => ?_) kx
  exact d2 (c.go e) h (fun vs as H3 H4 e' r' h' => k _ (a :: as) _ _ (e.trans e') ⟨v, vs, rfl, r.same e'.s0, r'⟩ h') (kx.go e.s)
/-! ### two-place operations -/
def LiftR (K : PySem.W.Frag) (r : R2) (g : D → D → (D → Prop) → Prop) : Prop := ∀ {H0 H : Hp} {x y : V} {a b : D} {q : D → Prop} {Q : VK}, Same H0 H → Rp K H0 a x → Rp K H0 b y → g a b q → KE K H0 H q Q → r x y H Q
structure JOp (X : Cx) (f : Value → Value → Sem Value) (g : D → D → (D → Prop) → Prop) : Prop where
  ex : ∃ r, OpR X f r ∧ LiftR X.K r g
def dOp (g : D → D → (D → Prop) → Prop) (da db : DE) : DE := fun ds q x => da ds (fun a => db ds (fun b => g a b q) x) x
theorem den_op {K : PySem.W.Frag} {ta tb : TE} {da db : DE} {r : R2} {g : D → D → (D → Prop) → Prop} (d1 : Den K XE ta da) (d2 : Den K XE tb db) (l : LiftR K r g) : Den K XE (tOp r ta tb) (dOp g da db) := fun c h k kx =>
  d1 c h (fun v a H1 H2 e r1 h => d2 (c.go e) h (fun u b H3 H4 e' r2 h' => l (c.go (e.trans e')).sub (r1.same e'.s0) r2 h' (k.go (e.trans e'))) (kx.go e.s)) kx
theorem j_op {a b : Expr} {da db : DE} {op : Operator} {pos : Pos} {g : D → D → (D → Prop) → Prop} (ho : JOp X (binaryOp op) g) (ha : JE X XE a da) (hb : JE X XE b db) : JE X XE (.BinOp a op b pos) (dOp g da db) := by
  obtain ⟨r, o, l⟩ := ho.ex
  obtain ⟨ta, p1, d1⟩ := ha.ex
  obtain ⟨tb, p2, d2⟩ := hb.ex
  exact ⟨_, pe_op o p1 p2, den_op d1 d2 l⟩
theorem j_cmp {a b : Expr} {da db : DE} {op : CmpOp} {pos : Pos} {g : D → D → (D → Prop) → Prop} (ho : JOp X (compareOp op) g) (ha : JE X XE a da) (hb : JE X XE b db) (hm : behindInMarks op b = false) : JE X XE (.Compare a [op] [b] pos) (dOp g da db) := by
  obtain ⟨r, o, l⟩ := ho.ex
  obtain ⟨ta, p1, d1⟩ := ha.ex
  obtain ⟨tb, p2, d2⟩ := hb.ex
  exact ⟨_, pe_cmpR o p1 p2 hm, den_op d1 d2 l⟩
/-- a op b op' c -/
def dChain (g g' : D → D → (D → Prop) → Prop) (da db dc : DE) : DE := fun ds q x => da ds (fun a => db ds (fun b => g a b fun z => ∃ k, z = .bl k ∧ if k = true then dc ds (fun c => g' b c q) x else q (.bl false)) x) x
theorem j_chain {a b c : Expr} {da db dc : DE} {op op' : CmpOp} {pos : Pos} {g g' : D → D → (D → Prop) → Prop} (ho : JOp X (compareOp op) g) (ho' : JOp X (compareOp op') g') (ha : JE X XE a da) (hb : JE X XE b db) (hc : JE X XE c dc)
    (hm : lastMarks [op, op'] [b, c] = false := by with_unfolding_all rfl) : JE X XE (.Compare a [op, op'] [b, c] pos) (dChain g g' da db dc) := by
  obtain ⟨r, o, l⟩ := ho.ex
  obtain ⟨r', o', l'⟩ := ho'.ex
  obtain ⟨ta, p1, d1⟩ := ha.ex
  obtain ⟨tb, p2, d2⟩ := hb.ex
  obtain ⟨tc, p3, d3⟩ := hc.ex
  refine ⟨_, pe_chain o o' p1 p2 p3 hm, fun c h k kx => ?_⟩
  refine d1 c h (fun v a H1 H2 e r1 h => d2 (c.go e) h (fun u b H3 H4 e' r2 h' => ?_) (kx.go e.s)) kx
  refine l (c.go (e.trans e')).sub (r1.same e'.s0) r2 h' fun z d H5 H6 e2 r3 ⟨kk, ek, hk⟩ => ?_
  subst ek
  refine ⟨kk, r3, ?_⟩
  have e3 := (e.trans e').trans e2
  cases kk with
  | true =>
    rw [if_pos rfl] at hk ⊢
    exact d3 (c.go e3) hk (fun w' cc H7 H8 e4 r4 h4 => l' (c.go (e3.trans e4)).sub (r2.same (e2.trans e4).s0) r4 h4 (k.go (e3.trans e4))) (kx.go e3.s)
  | false =>
    rw [if_neg Bool.false_ne_true] at hk ⊢
    exact k _ (.bl false) _ _ e3 rfl hk
/-! ### truth -/
def dB (de : DE) : DT := fun ds q x => de ds (fun d => ∃ b, d = .bl b ∧ q b) x
theorem den_test {K : PySem.W.Frag} {te : TE} {de : DE} (d : Den K XE te de) : DenT K XE (tTest te) (dB de) := fun c h k kx =>
  d c h (fun v a H1 H2 e r ⟨b, z, hb⟩ => by subst z; exact ⟨b, r, k b _ _ e hb⟩) kx
theorem jt_cmp {a b : Expr} {da db : DE} {op : CmpOp} {pos : Pos} {g : D → D → (D → Prop) → Prop} (ho : JOp X (compareOp op) g) (ha : JE X XE a da) (hb : JE X XE b db) (hm : behindInMarks op b = false) : JT X XE (.Compare a [op] [b] pos) (dB (dOp g da db)) := by
  obtain ⟨r, o, l⟩ := ho.ex
  obtain ⟨ta, p1, d1⟩ := ha.ex
  obtain ⟨tb, p2, d2⟩ := hb.ex
  exact ⟨_, pt_cmpR o p1 p2 hm, den_test (den_op d1 d2 l)⟩
theorem jt_chain {a b c : Expr} {da db dc : DE} {op op' : CmpOp} {pos : Pos} {g g' : D → D → (D → Prop) → Prop} (ho : JOp X (compareOp op) g) (ho' : JOp X (compareOp op') g') (ha : JE X XE a da) (hb : JE X XE b db) (hc : JE X XE c dc)
    (hm : lastMarks [op, op'] [b, c] = false := by with_unfolding_all rfl) : JT X XE (.Compare a [op, op'] [b, c] pos) (dB (dChain g g' da db dc)) := by
  obtain ⟨r, o, l⟩ := ho.ex
  obtain ⟨r', o', l'⟩ := ho'.ex
  obtain ⟨ta, p1, d1⟩ := ha.ex
  obtain ⟨tb, p2, d2⟩ := hb.ex
  obtain ⟨tc, p3, d3⟩ := hc.ex
  refine ⟨_, pt_chain o o' p1 p2 p3 hm, den_test fun c h k kx => ?_⟩
  refine d1 c h (fun v a H1 H2 e r1 h => d2 (c.go e) h (fun u b H3 H4 e' r2 h' => ?_) (kx.go e.s)) kx
  refine l (c.go (e.trans e')).sub (r1.same e'.s0) r2 h' fun z d H5 H6 e2 r3 ⟨kk, ek, hk⟩ => ?_
  subst ek
  refine ⟨kk, r3, ?_⟩
  have e3 := (e.trans e').trans e2
  cases kk with
  | true =>
    rw [if_pos rfl] at hk ⊢
    exact d3 (c.go e3) hk (fun w' cc H7 H8 e4 r4 h4 => l' (c.go (e3.trans e4)).sub (r2.same (e2.trans e4).s0) r4 h4 (k.go (e3.trans e4))) (kx.go e3.s)
  | false =>
    rw [if_neg Bool.false_ne_true] at hk ⊢
    exact k _ (.bl false) _ _ e3 rfl hk
def D.tru : D → (Bool → Prop) → Prop
  | .non, q => q false
  | .bl b, q => q b
  | .int i, q => q (i != 0)
  | .str y, q => y.length ≤ sizeLine ∧ q ((y.length : Int) != 0)
  | .lst xs, q => q (!xs.isEmpty)
  | .scr xs, q => q (!xs.isEmpty)
  | .tup xs, q => q (!xs.isEmpty)
  | _, _ => False
theorem Rps.empty {K : PySem.W.Frag} {H : Hp} {xs : List D} {vs : List V} (h : Rps K H xs vs) : vs.isEmpty = xs.isEmpty := by
  cases xs with
  | nil => rw [show vs = [] from h]; rfl
  | cons d ds => obtain ⟨v, us, rfl, _⟩ := h; rfl
theorem Rps.length {K : PySem.W.Frag} {H : Hp} : ∀ {xs : List D} {vs : List V}, Rps K H xs vs → vs.length = xs.length
  | [], _, h => by rw [show _ = [] from h]; rfl
  | d :: ds, _, ⟨v, us, e, _, h⟩ => by rw [e, List.length_cons, List.length_cons, Rps.length h]
def dTru (de : DE) : DT := fun ds q x => de ds (fun d => d.tru q) x
theorem tru_lift {K : PySem.W.Frag} {H0 H : Hp} {d : D} {v : V} {q : Bool → Prop} (s : Same H0 H) (r : Rp K H0 d v) (h : d.tru q) : ∃ b, TruV K v H b ∧ q b := by
  cases d with
  | non => rw [show v = .non from r]; exact ⟨false, rfl, h⟩
  | bl b => rw [show v = .bl b from r]; exact ⟨b, rfl, h⟩
  | int i => rw [show v = .int i from r]; exact ⟨_, rfl, h⟩
  | str y => rw [show v = .str y from r]; exact ⟨_, ⟨h.1, rfl⟩, h.2⟩
  | lst xs =>
    obtain ⟨a, vs, rfl, h1, h2⟩ := r
    exact ⟨_, .inl ⟨vs, SqL.of (s _ _ h1), rfl⟩, by rw [h2.empty]; exact h⟩
  | scr xs =>
    obtain ⟨a, vs, rfl, h1, h2⟩ := r
    exact ⟨_, .inl ⟨vs, s.seq h1, rfl⟩, by rw [h2.empty]; exact h⟩
  | tup xs =>
    obtain ⟨a, vs, rfl, h1, h2⟩ := r
    exact ⟨_, .inr (.inl ⟨vs, SqT.of (s _ _ h1), rfl⟩), by rw [h2.empty]; exact h⟩
  | _ => exact h.elim
end
end L2
namespace L2
open PySem PySem.Spec PyProof.Rows
section
variable {X : Cx} {XE : St → XK}
/-! ### tests -/
theorem jt_val {e : Expr} {de : DE} (h : JE X XE e de) (he : ∀ whole, isTrue e X.env whole = (do let v ← whole; standAt e.pos; holding [v] (truthy v)) := by intro _; rfl) : JT X XE e (dTru de) := by
  obtain ⟨te, p, d⟩ := h.ex
  refine ⟨_, pt_truth p he, fun c h k kx => d c h (fun v a H1 H2 e r h => ?_) kx⟩
  obtain ⟨b, h1, h2⟩ := tru_lift (c.go e).sub r h
  exact ⟨b, h1, k b _ _ e h2⟩
def dNot (d : DT) : DT := fun ds q x => d ds (fun b => q (!b)) x
def dAnd (d e : DT) : DT := fun ds q x => d ds (fun b => if b = true then e ds q x else q false) x
def dOr (d e : DT) : DT := fun ds q x => d ds (fun b => if b = true then q true else e ds q x) x
theorem jt_not {a : Expr} {pos : Pos} {d : DT} (h : JT X XE a d) : JT X XE (.UnaryOp .Not a pos) (dNot d) := by
  obtain ⟨te, p, d⟩ := h.ex
  exact ⟨_, pt_not p, fun c h k kx => d c h (fun b H1 H2 e hb => k _ _ _ e hb) kx⟩
theorem jw_and1 {a : Expr} {pos : Pos} {d : DT} (h : JT X XE a d) : JW X XE (.BoolOp .And [a] pos) d := by
  obtain ⟨te, p, d⟩ := h.ex
  exact ⟨_, pw_and1 p, d⟩
theorem jw_or1 {a : Expr} {pos : Pos} {d : DT} (h : JT X XE a d) : JW X XE (.BoolOp .Or [a] pos) d := by
  obtain ⟨te, p, d⟩ := h.ex
  exact ⟨_, pw_or1 p, d⟩
theorem jw_and {a b : Expr} {rest : List Expr} {pos : Pos} {d e : DT} (ha : JT X XE a d) (hb : JW X XE (.BoolOp .And (b :: rest) pos) e) : JW X XE (.BoolOp .And (a :: b :: rest) pos) (dAnd d e) := by
  obtain ⟨ta, p1, d1⟩ := ha.ex
  obtain ⟨tb, p2, d2⟩ := hb.ex
  refine ⟨_, pw_and p1 p2, fun c h k kx => d1 c h (fun b H1 H2 e hb => ?_) kx⟩
  cases b with
  | true =>
    rw [if_pos rfl] at hb ⊢
    exact d2 (c.go e) hb (fun b' H3 H4 e' h' => k _ _ _ (e.trans e') h') (kx.go e.s)
  | false =>
    rw [if_neg Bool.false_ne_true] at hb ⊢
    exact k _ _ _ e hb
theorem jw_or {a b : Expr} {rest : List Expr} {pos : Pos} {d e : DT} (ha : JT X XE a d) (hb : JW X XE (.BoolOp .Or (b :: rest) pos) e) : JW X XE (.BoolOp .Or (a :: b :: rest) pos) (dOr d e) := by
  obtain ⟨ta, p1, d1⟩ := ha.ex
  obtain ⟨tb, p2, d2⟩ := hb.ex
  refine ⟨_, pw_or p1 p2, fun c h k kx => d1 c h (fun b H1 H2 e hb => ?_) kx⟩
  cases b with
  | true =>
    rw [if_pos rfl] at hb ⊢
    exact k _ _ _ e hb
  | false =>
    rw [if_neg Bool.false_ne_true] at hb ⊢
    exact d2 (c.go e) hb (fun b' H3 H4 e' h' => k _ _ _ (e.trans e') h') (kx.go e.s)
theorem jt_w {e : Expr} {d : DT} (h : JW X XE e d) : JT X XE e d := by
  obtain ⟨te, p, d⟩ := h.ex
  exact ⟨_, p.pt, d⟩
/-! ### and, or, not as values (of truths) -/
def dAndV (da db : DE) : DE := fun ds q x => da ds (fun a => ∃ k, a = .bl k ∧ if k = true then db ds q x else q (.bl false)) x
def dOrV (da db : DE) : DE := fun ds q x => da ds (fun a => ∃ k, a = .bl k ∧ if k = true then q (.bl true) else db ds q x) x
def dNotV (da : DE) : DE := fun ds q x => da ds (fun a => ∃ k, a = .bl k ∧ q (.bl (!k))) x
theorem je_one {a : Expr} {pos : Pos} {op : BoolOp} {d : DE} (h : JE X XE a d) : JE X XE (.BoolOp op [a] pos) d := by
  obtain ⟨te, p, d⟩ := h.ex
  exact ⟨_, pe_one p, d⟩
theorem je_and {a b : Expr} {rest : List Expr} {pos : Pos} {da db : DE} (ha : JE X XE a da) (hb : JE X XE (.BoolOp .And (b :: rest) pos) db) : JE X XE (.BoolOp .And (a :: b :: rest) pos) (dAndV da db) := by
  obtain ⟨ta, p1, d1⟩ := ha.ex
  obtain ⟨tb, p2, d2⟩ := hb.ex
  refine ⟨_, pe_and p1 p2, fun c h k kx => d1 c h (fun v a H1 H2 e r ⟨b, z, hb⟩ => ?_) kx⟩
  subst z
  refine ⟨b, r, ?_⟩
  cases b with
  | true =>
    rw [if_pos rfl] at hb ⊢
    exact d2 (c.go e) hb (k.go e) (kx.go e.s)
  | false =>
    rw [if_neg Bool.false_ne_true] at hb ⊢
    exact k _ (.bl false) _ _ e rfl hb
theorem je_or {a b : Expr} {rest : List Expr} {pos : Pos} {da db : DE} (ha : JE X XE a da) (hb : JE X XE (.BoolOp .Or (b :: rest) pos) db) : JE X XE (.BoolOp .Or (a :: b :: rest) pos) (dOrV da db) := by
  obtain ⟨ta, p1, d1⟩ := ha.ex
  obtain ⟨tb, p2, d2⟩ := hb.ex
  refine ⟨_, pe_or p1 p2, fun c h k kx => d1 c h (fun v a H1 H2 e r ⟨b, z, hb⟩ => ?_) kx⟩
  subst z
  refine ⟨b, r, ?_⟩
  cases b with
  | true =>
    rw [if_pos rfl] at hb ⊢
    exact k _ (.bl true) _ _ e rfl hb
  | false =>
    rw [if_neg Bool.false_ne_true] at hb ⊢
    exact d2 (c.go e) hb (k.go e) (kx.go e.s)
theorem je_not {a : Expr} {pos : Pos} {da : DE} (ha : JE X XE a da) : JE X XE (.UnaryOp .Not a pos) (dNotV da) := by
  obtain ⟨ta, p1, d1⟩ := ha.ex
  refine ⟨_, pe_not p1, fun c h k kx => d1 c h (fun v a H1 H2 e r ⟨b, z, hb⟩ => ?_) kx⟩
  subst z
  exact ⟨b, r, k _ (.bl (!b)) _ _ e rfl hb⟩
/-- x if c else y -/
def dIfE (c : DT) (da db : DE) : DE := fun ds q x => c ds (fun b => if b = true then da ds q x else db ds q x) x
/-! ### displays -/
def dTup (da : DA) : DE := fun ds q x => da ds (fun xs => xs.length ≤ sizeLine ∧ q (.tup xs)) x
def dLst (da : DA) : DE := fun ds q x => da ds (fun xs => xs.length ≤ sizeLine ∧ q (.lst xs)) x
theorem rp_tup {K : PySem.W.Frag} {H0 : Hp} {p : Addr} {vs : List V} {xs : List D} (r : Rps K H0 xs vs) (h : H0 p = none) : Rp K (upd H0 p (.tup vs)) (.tup xs) (.ref p) := ⟨p, vs, rfl, upd_same, r.same (Same.upd h)⟩
theorem rp_lst {K : PySem.W.Frag} {H0 : Hp} {p : Addr} {vs : List V} {xs : List D} (r : Rps K H0 xs vs) (h : H0 p = none) : Rp K (upd H0 p (.lst vs)) (.lst xs) (.ref p) := ⟨p, vs, rfl, upd_same, r.same (Same.upd h)⟩
theorem je_tup {es : List Expr} {x1} {pos : Pos} {da : DA} (h : JAs X XE es da) : JE X XE (.Tuple es x1 pos) (dTup da) := by
  obtain ⟨ta, p1, d1⟩ := h.ex
  refine ⟨_, pe_tup p1, fun c h k kx => d1 c h (fun vs xs H1 H2 e r hb => ⟨by rw [r.length]; exact hb.1, fun p hp => ?_⟩) kx⟩
  exact k _ (.tup xs) _ _ (e.trans (.put e.sub hp)) (rp_tup r (e.sub.free hp)) hb.2
theorem je_lst {es : List Expr} {pos : Pos} {da : DA} (h : JAs X XE es da) : JE X XE (.List es pos) (dLst da) := by
  obtain ⟨ta, p1, d1⟩ := h.ex
  refine ⟨_, pe_lst p1, fun c h k kx => d1 c h (fun vs xs H1 H2 e r hb => ⟨by rw [r.length]; exact hb.1, fun p hp => ?_⟩) kx⟩
  exact k _ (.lst xs) _ _ (e.trans (.put e.sub hp)) (rp_lst r (e.sub.free hp)) hb.2
/-! ### lists of values -/
theorem Rps.get {K : PySem.W.Frag} {H : Hp} : ∀ {xs : List D} {vs : List V} {i : Nat} {d : D}, Rps K H xs vs → xs[i]? = some d → ∃ v, vs[i]? = some v ∧ Rp K H d v
  | [], _, _, _, _, e => by simp at e
  | d :: ds, _, 0, _, ⟨v, us, e, h, _⟩, q => by
    simp at q
    subst q e
    exact ⟨v, rfl, h⟩
  | d :: ds, _, i + 1, _, ⟨v, us, e, _, h⟩, q => by
    subst e
    obtain ⟨w, h1, h2⟩ := Rps.get (i := i) h (by simpa using q)
    exact ⟨w, by simpa using h1, h2⟩
theorem Rps.app {K : PySem.W.Frag} {H : Hp} : ∀ {xs ys : List D} {vs us : List V}, Rps K H xs vs → Rps K H ys us → Rps K H (xs ++ ys) (vs ++ us)
  | [], _, _, _, e, h => by rw [show _ = [] from e]; exact h
  | d :: ds, _, _, _, ⟨v, ws, e, h, h'⟩, k => by
    subst e
    exact ⟨v, _, rfl, h, Rps.app h' k⟩
theorem Rps.drop {K : PySem.W.Frag} {H : Hp} : ∀ {xs : List D} {vs : List V} (n : Nat), Rps K H xs vs → Rps K H (xs.drop n) (vs.drop n)
  | _, _, 0, h => h
  | [], _, n + 1, h => by rw [show _ = [] from h]; rfl
  | d :: ds, _, n + 1, ⟨v, ws, e, _, h⟩ => by
    subst e
    exact Rps.drop n h
theorem Rps.take {K : PySem.W.Frag} {H : Hp} : ∀ {xs : List D} {vs : List V} (n : Nat), Rps K H xs vs → Rps K H (xs.take n) (vs.take n)
  | _, _, 0, _ => rfl
  | [], _, n + 1, h => by rw [show _ = [] from h]; rfl
  | d :: ds, _, n + 1, ⟨v, ws, e, h, h'⟩ => by
    subst e
    exact ⟨v, _, rfl, h, Rps.take n h'⟩
theorem Rps.snoc {K : PySem.W.Frag} {H : Hp} {xs : List D} {vs : List V} {d : D} {v : V} (h : Rps K H xs vs) (r : Rp K H d v) : Rps K H (xs ++ [d]) (vs ++ [v]) := h.app ⟨v, [], rfl, r, rfl⟩
def D.flat : D → Bool
  | .non => true
  | .bl _ => true
  | .int _ => true
  | .str _ => true
  | _ => false
def D.toV : D → V
  | .bl b => .bl b
  | .int i => .int i
  | .str x => .str x
  | .ty n => .ty n
  | .rf a => .ref a
  | _ => .non
theorem rp_flat {K : PySem.W.Frag} {H : Hp} {d : D} {v : V} (f : d.flat = true) (r : Rp K H d v) : v = d.toV ∧ flatV v = true := by
  cases d with
  | non => rw [show v = .non from r]; exact ⟨rfl, rfl⟩
  | bl b => rw [show v = .bl b from r]; exact ⟨rfl, rfl⟩
  | int i => rw [show v = .int i from r]; exact ⟨rfl, rfl⟩
  | str x => rw [show v = .str x from r]; exact ⟨rfl, rfl⟩
  | _ => cases f
theorem rps_flat {K : PySem.W.Frag} {H : Hp} : ∀ {xs : List D} {vs : List V}, xs.all D.flat = true → Rps K H xs vs → vs = xs.map D.toV ∧ vs.all flatV = true
  | [], _, _, r => by rw [show _ = [] from r]; exact ⟨rfl, rfl⟩
  | d :: ds, _, f, ⟨v, us, e, h, h'⟩ => by
    rw [List.all_cons, Bool.and_eq_true] at f
    obtain ⟨e1, f1⟩ := rp_flat f.1 h
    obtain ⟨e2, f2⟩ := rps_flat f.2 h'
    subst e
    exact ⟨by rw [e2, e1]; rfl, by rw [List.all_cons, f1, f2]; rfl⟩
/-! ### + -/
def dAdd : D → D → (D → Prop) → Prop
  | .int i, .int j => fun q => q (.int (i + j))
  | .str i, .str j => fun q => i.length + j.length ≤ sizeLine ∧ q (.str (i ++ j))
  | .lst xs, .lst ys => fun q => xs.length + ys.length ≤ sizeLine ∧ q (.lst (xs ++ ys))
  | .scr xs, .lst ys => fun q => xs.length + ys.length ≤ sizeLine ∧ q (.lst (xs ++ ys))
  | .tup xs, .tup ys => fun q => xs ≠ [] ∧ xs.length + ys.length ≤ sizeLine ∧ q (.tup (xs ++ ys))
  | _, _ => fun _ => False
theorem jo_add : JOp X (binaryOp .Add) dAdd := by
  refine ⟨_, op_add.or (op_add_str.or (op_catL.or op_catT)), fun {H0 H x y a b q Q} s ra rb h k => ?_⟩
  unfold dAdd at h
  split at h
  · rename_i i j
    rw [show x = .int i from ra, show y = .int j from rb]
    exact .inl ⟨i, j, rfl, rfl, k _ (.int (i + j)) _ _ (.refl s) rfl h⟩
  · rename_i i j
    rw [show x = .str i from ra, show y = .str j from rb]
    exact .inr (.inl ⟨i, j, rfl, rfl, h.1, k _ (.str (i ++ j)) _ _ (.refl s) rfl h.2⟩)
  · obtain ⟨a1, vs, rfl, h1, h2⟩ := ra
    obtain ⟨b1, us, rfl, h3, h4⟩ := rb
    refine .inr (.inr (.inl ⟨a1, b1, vs, us, rfl, rfl, SqL.of (s _ _ h1), SqL.of (s _ _ h3), by rw [h2.length, h4.length]; exact h.1, fun p hp => ?_⟩))
    exact k _ (.lst _) _ _ (.put s hp) (rp_lst (h2.app h4) (s.free hp)) h.2
  · obtain ⟨a1, vs, rfl, h1, h2⟩ := ra
    obtain ⟨b1, us, rfl, h3, h4⟩ := rb
    refine .inr (.inr (.inl ⟨a1, b1, vs, us, rfl, rfl, s.seq h1, SqL.of (s _ _ h3), by rw [h2.length, h4.length]; exact h.1, fun p hp => ?_⟩))
    exact k _ (.lst _) _ _ (.put s hp) (rp_lst (h2.app h4) (s.free hp)) h.2
  · obtain ⟨a1, vs, rfl, h1, h2⟩ := ra
    obtain ⟨b1, us, rfl, h3, h4⟩ := rb
    refine .inr (.inr (.inr ⟨a1, b1, vs, us, rfl, rfl, SqT.of (s _ _ h1), SqT.of (s _ _ h3), ?_, by rw [h2.length, h4.length]; exact h.2.1, fun z => ?_, fun _ p hp => ?_⟩))
    · intro z
      have := h2.length
      rw [z] at this
      exact h.1 (List.eq_nil_of_length_eq_zero this.symm)
    · refine k _ (.tup _) _ _ (.refl s) ⟨a1, vs, rfl, h1, ?_⟩ h.2.2
      have := h2.app h4
      rw [z, List.append_nil] at this
      exact this
    · exact k _ (.tup _) _ _ (.put s hp) (rp_tup (h2.app h4) (s.free hp)) h.2.2
  · exact h.elim
/-! ### numbers -/
def dII (C : Int → Int → Prop) (g : Int → Int → D) : D → D → (D → Prop) → Prop
  | .int i, .int j => fun q => C i j ∧ q (g i j)
  | _, _ => fun _ => False
def dI0 (g : Int → Int → D) : D → D → (D → Prop) → Prop
  | .int i, .int j => fun q => q (g i j)
  | _, _ => fun _ => False
theorem jo_ii {f : Value → Value → Sem Value} {C C' : Int → Int → Prop} {g : Int → Int → V} {g' : Int → Int → D} (o : OpR X f (rI C g)) (hC : ∀ i j, C' i j → C i j) (hg : ∀ K H i j, C' i j → Rp K H (g' i j) (g i j)) : JOp X f (dII C' g') := by
  refine ⟨_, o, fun {H0 H x y a b q Q} s ra rb h k => ?_⟩
  unfold dII at h
  split at h
  · rename_i i j
    rw [show x = .int i from ra, show y = .int j from rb]
    exact ⟨i, j, rfl, rfl, hC _ _ h.1, k _ (g' i j) _ _ (.refl s) (hg _ _ i j h.1) h.2⟩
  · exact h.elim
theorem jo_i0 {f : Value → Value → Sem Value} {g : Int → Int → V} {g' : Int → Int → D} (o : OpR X f (rI0 g)) (hg : ∀ K H i j, Rp K H (g' i j) (g i j)) : JOp X f (dI0 g') := by
  refine ⟨_, o, fun {H0 H x y a b q Q} s ra rb h k => ?_⟩
  unfold dI0 at h
  split at h
  · rename_i i j
    rw [show x = .int i from ra, show y = .int j from rb]
    exact ⟨i, j, rfl, rfl, k _ (g' i j) _ _ (.refl s) (hg _ _ i j) h⟩
  · exact h.elim
def pdiv (i j : Int) : Int := if 0 ≤ j then i / j else i.fdiv j
def pmod (i j : Int) : Int := if 0 ≤ j then i % j else i.fmod j
theorem pdiv_eq (i j : Int) : pdiv i j = i.fdiv j := by
  unfold pdiv
  split
  · rw [Int.fdiv_eq_ediv_of_nonneg _ (by assumption)]
  · rfl
theorem pmod_eq (i j : Int) : pmod i j = i.fmod j := by
  unfold pmod
  split
  · rw [Int.fmod_eq_emod_of_nonneg _ (by assumption)]
  · rfl
theorem jo_sub : JOp X (binaryOp .Sub) (dI0 fun i j => .int (i - j)) := jo_i0 op_sub fun _ _ _ _ => rfl
def Small (j : Int) : Prop := j.natAbs < 1073741824 ∨ Bd 9000 j
theorem Small.bd {j : Int} (h : Small j) : Bd 9000 j := by
  rcases h with h | h
  · exact Bd.mono (n := 30) (by unfold Bd; exact h) (by decide)
  · exact h
theorem jo_fdiv : JOp X (binaryOp .FloorDiv) (dII (fun _ j => j ≠ 0 ∧ Small j) fun i j => .int (pdiv i j)) := jo_ii op_fdivB (fun i j h => ⟨h.1, h.2.bd⟩) fun _ _ i j _ => by rw [pdiv_eq]; rfl
theorem jo_mod : JOp X (binaryOp .Mod) (dII (fun _ j => j ≠ 0) fun i j => .int (pmod i j)) := jo_ii op_modN (fun i j h => h) fun _ _ i j _ => by rw [pmod_eq]; rfl
theorem jo_pow : JOp X (binaryOp .Pow) (dII CPow fun i j => .int (i ^ j.toNat)) := jo_ii op_pow (fun i j h => h) fun _ _ _ _ _ => rfl
/-- a product of numbers; a text or a list so many times -/
def dMul : D → D → (D → Prop) → Prop
  | .int i, .int j => fun q => CMulX i j ∧ q (.int (i * j))
  | .lst xs, .int k => fun q => -(2 ^ 63) ≤ k ∧ k < 2 ^ 63 ∧ xs.length * k.toNat ≤ sizeLine ∧ q (.lst (List.replicate k.toNat xs).flatten)
  | _, _ => fun _ => False
theorem Rps.flatten {K : PySem.W.Frag} {H : Hp} {xs : List D} {vs : List V} (h : Rps K H xs vs) : ∀ n, Rps K H (List.replicate n xs).flatten (List.replicate n vs).flatten
  | 0 => rfl
  | n + 1 => by
    rw [List.replicate_succ, List.replicate_succ, List.flatten_cons, List.flatten_cons]
    exact h.app (Rps.flatten h n)
theorem jo_mul : JOp X (binaryOp .Mult) dMul := by
  refine ⟨_, op_mulX.or op_rep, fun {H0 H x y a b q Q} s ra rb h k => ?_⟩
  unfold dMul at h
  split at h
  · rename_i i j
    rw [show x = .int i from ra, show y = .int j from rb]
    exact .inl ⟨i, j, rfl, rfl, h.1, k _ (.int (i * j)) _ _ (.refl s) rfl h.2⟩
  · rename_i ys j
    obtain ⟨a1, vs, rfl, h1, h2⟩ := ra
    rw [show y = .int j from rb]
    refine .inr ⟨a1, j, vs, rfl, rfl, s _ _ h1, h.1, h.2.1, by rw [h2.length]; exact h.2.2.1, fun p hp => ?_⟩
    exact k _ (.lst _) _ _ (.put s hp) (rp_lst (h2.flatten _) (s.free hp)) h.2.2.2
  · exact h.elim
def dLe : D → D → (D → Prop) → Prop := dI0 fun i j => .bl (decide (i ≤ j))
def dGt : D → D → (D → Prop) → Prop := dI0 fun i j => .bl (decide (j < i))
def dGe : D → D → (D → Prop) → Prop := dI0 fun i j => .bl (decide (j ≤ i))
theorem jo_le : JOp X (compareOp .LtE) dLe := jo_i0 op_le fun _ _ _ _ => rfl
theorem jo_gt : JOp X (compareOp .Gt) dGt := jo_i0 op_gt fun _ _ _ _ => rfl
def dLt : D → D → (D → Prop) → Prop := dI0 fun i j => .bl (decide (i < j))
theorem jo_lt : JOp X (compareOp .Lt) dLt := jo_i0 op_lt fun _ _ _ _ => rfl
/-! ### is None, is not None -/
def D.isNon : D → Bool
  | .non => true
  | _ => false
def dIsN : D → D → (D → Prop) → Prop
  | a, .non => fun q => q (.bl a.isNon)
  | _, _ => fun _ => False
def dNotN : D → D → (D → Prop) → Prop
  | a, .non => fun q => q (.bl (!a.isNon))
  | _, _ => fun _ => False
theorem rp_non {K : PySem.W.Frag} {H : Hp} {d : D} {v : V} (r : Rp K H d v) : decide (v = .non) = d.isNon := by
  cases d with
  | non => rw [show v = .non from r]; rfl
  | bl b => rw [show v = .bl b from r]; rfl
  | int i => rw [show v = .int i from r]; rfl
  | str i => rw [show v = .str i from r]; rfl
  | ty i => rw [show v = .ty i from r]; rfl
  | rf i => rw [show v = .ref i from r]; rfl
  | tup xs => obtain ⟨a, vs, rfl, _⟩ := r; rfl
  | lst xs => obtain ⟨a, vs, rfl, _⟩ := r; rfl
  | obj C xs => obtain ⟨a, vs, _, rfl, _⟩ := r; rfl
  | dic xs => obtain ⟨a, vs, rfl, _⟩ := r; rfl
  | exc xs => obtain ⟨a, rfl, _⟩ := r; rfl
  | scr xs => obtain ⟨a, vs, rfl, _⟩ := r; rfl
theorem jo_isN : JOp X (compareOp .Is) dIsN := by
  refine ⟨_, op_isN, fun {H0 H x y a b q Q} s ra rb h k => ?_⟩
  unfold dIsN at h
  split at h
  · refine ⟨rb, ?_⟩
    rw [rp_non ra]
    exact k _ (.bl _) _ _ (.refl s) rfl h
  · exact h.elim
theorem jo_notN : JOp X (compareOp .IsNot) dNotN := by
  refine ⟨_, op_notN, fun {H0 H x y a b q Q} s ra rb h k => ?_⟩
  unfold dNotN at h
  split at h
  · refine ⟨rb, ?_⟩
    rw [rp_non ra]
    exact k _ (.bl _) _ _ (.refl s) rfl h
  · exact h.elim
/-! ### in -/
def D.eqF (a b : D) : Bool := eqV a.toV b.toV
def inD (x : D) (xs : List D) : Bool := xs.any fun y => y.eqF x
def inS (i j : Str) : Bool := !(Builtin.Str.occurrences j i 0 j.length 1).isEmpty
def dIn (neg : Bool) : D → D → (D → Prop) → Prop
  | a, .lst xs => fun q => a.flat = true ∧ xs.all D.flat = true ∧ q (.bl (if neg then !inD a xs else inD a xs))
  | a, .tup xs => fun q => a.flat = true ∧ xs.all D.flat = true ∧ q (.bl (if neg then !inD a xs else inD a xs))
  | .str i, .str j => fun q => q (.bl (if neg then !inS i j else inS i j))
  | _, _ => fun _ => False
theorem inV_map (a : D) (xs : List D) : inV a.toV (xs.map D.toV) = inD a xs := by
  unfold inV inD D.eqF
  rw [List.any_map]
  rfl
theorem lift_in {K : PySem.W.Frag} (neg : Bool) : LiftR K (fun x y H Q => rIn K neg x y H Q ∨ ∃ i j, x = .str i ∧ y = .str j ∧ Q (.bl (if neg then !inS i j else inS i j)) H) (dIn neg) := by
  intro H0 H x y a b q Q s ra rb h k
  unfold dIn at h
  split at h
  · obtain ⟨p, vs, rfl, h1, h2⟩ := rb
    obtain ⟨e1, f1⟩ := rp_flat h.1 ra
    obtain ⟨e2, f2⟩ := rps_flat h.2.1 h2
    refine .inl ⟨p, vs, rfl, .inl (SqL.of (s _ _ h1)), f1, f2, ?_⟩
    rw [e1, e2, inV_map]
    exact k _ (.bl _) _ _ (.refl s) rfl h.2.2
  · obtain ⟨p, vs, rfl, h1, h2⟩ := rb
    obtain ⟨e1, f1⟩ := rp_flat h.1 ra
    obtain ⟨e2, f2⟩ := rps_flat h.2.1 h2
    refine .inl ⟨p, vs, rfl, .inr (SqT.of (s _ _ h1)), f1, f2, ?_⟩
    rw [e1, e2, inV_map]
    exact k _ (.bl _) _ _ (.refl s) rfl h.2.2
  · exact .inr ⟨_, _, ra, rb, k _ (.bl _) _ _ (.refl s) rfl h⟩
  · exact h.elim
theorem jo_in : JOp X (compareOp .In) (dIn false) := ⟨_, op_in_seq.or op_in_str, lift_in false⟩
/-! ### an item, a slice -/
def dIx : D → D → (D → Prop) → Prop
  | .lst xs, .int i => fun q => ∃ d, atI xs i = some d ∧ q d
  | .scr xs, .int i => fun q => ∃ d, atI xs i = some d ∧ q d
  | .tup xs, .int i => fun q => ∃ d, atI xs i = some d ∧ q d
  | .str z, .int i => fun q => z.length ≤ sizeLine ∧ ∃ c, atI z.cps.toList i = some c ∧ q (.str ⟨#[c]⟩)
  | _, _ => fun _ => False
theorem rps_at {K : PySem.W.Frag} {H : Hp} {xs : List D} {vs : List V} {i : Int} {d : D} (r : Rps K H xs vs) (h : atI xs i = some d) : ∃ v, atI vs i = some v ∧ Rp K H d v := by
  unfold atI at h ⊢
  rw [r.length]
  cases e : ixN xs.length i with
  | none => rw [e] at h; cases h
  | some j =>
    rw [e] at h
    exact r.get h
theorem lift_ix {K : PySem.W.Frag} : LiftR K (rIx K) dIx := by
  intro H0 H x y a b q Q s ra rb h k
  unfold dIx at h
  split at h
  · obtain ⟨p, vs, rfl, h1, h2⟩ := ra
    obtain ⟨d, e, hq⟩ := h
    obtain ⟨v, e', r⟩ := rps_at h2 e
    exact .inl ⟨p, vs, _, v, rfl, rb, SqL.of (s _ _ h1), e', k _ d _ _ (.refl s) r hq⟩
  · obtain ⟨p, vs, rfl, h1, h2⟩ := ra
    obtain ⟨d, e, hq⟩ := h
    obtain ⟨v, e', r⟩ := rps_at h2 e
    exact .inl ⟨p, vs, _, v, rfl, rb, s.seq h1, e', k _ d _ _ (.refl s) r hq⟩
  · obtain ⟨p, vs, rfl, h1, h2⟩ := ra
    obtain ⟨d, e, hq⟩ := h
    obtain ⟨v, e', r⟩ := rps_at h2 e
    exact .inr (.inl ⟨p, vs, _, v, rfl, rb, SqT.of (s _ _ h1), e', k _ d _ _ (.refl s) r hq⟩)
  · obtain ⟨l, c, e, hq⟩ := h
    exact .inr (.inr ⟨_, _, c, ra, rb, l, e, k _ (.str _) _ _ (.refl s) rfl hq⟩)
  · exact h.elim
theorem je_ix {a b : Expr} {da db : DE} {pos : Pos} (ha : JE X XE a da) (hb : JE X XE b db) (hs : PlainIx b := by exact fun _ _ => rfl) : JE X XE (.Subscript a b pos) (dOp dIx da db) := by
  obtain ⟨ta, p1, d1⟩ := ha.ex
  obtain ⟨tb, p2, d2⟩ := hb.ex
  exact ⟨_, pe_ix ix_seq p1 p2 hs, den_op d1 d2 lift_ix⟩
def cutD (xs : List D) (lo hi : Option Int) : List D := (xs.drop (HT.sIx xs.length 0 lo)).take (HT.sIx xs.length xs.length hi - HT.sIx xs.length 0 lo)
theorem rps_cut {K : PySem.W.Frag} {H : Hp} {xs : List D} {vs : List V} {lo hi : Option Int} (r : Rps K H xs vs) : Rps K H (cutD xs lo hi) (cutV vs lo hi) := by
  unfold cutD cutV
  rw [r.length]
  exact (r.drop _).take _
def dSl : D → Option Int → Option Int → (D → Prop) → Prop
  | .lst xs, lo, hi => fun q => q (.lst (cutD xs lo hi))
  | .scr xs, lo, hi => fun q => q (.lst (cutD xs lo hi))
  | .str y, lo, hi => fun q => y.length ≤ sizeLine ∧ q (.str (Txt.slice y lo hi))
  | _, _, _ => fun _ => False
def dNoPart : DO := fun _ q _ => q none
def dPart (d : DE) : DO := fun ds q x => d ds (fun a => ∃ i, a = .int i ∧ q (some i)) x
theorem jo_none : JO X XE none dNoPart := ⟨_, po_none, fun c h k _ => k none _ _ (.refl c.sub) h⟩
theorem jo_some {e : Expr} {de : DE} (h : JE X XE e de) : JO X XE (some e) (dPart de) := by
  obtain ⟨te, p, d⟩ := h.ex
  exact ⟨_, po_some p, fun c h k kx => d c h (fun v a H1 H2 e r ⟨i, z, hb⟩ => by subst z; exact ⟨i, r, k _ _ _ e hb⟩) kx⟩
def dSlice (de : DE) (dl dh : DO) : DE := fun ds q x => de ds (fun a => dl ds (fun lo => dh ds (fun hi => dSl a lo hi q) x) x) x
theorem je_slice {e : Expr} {de : DE} {lo hi : Option Expr} {dl dh : DO} {pos p2 : Pos} (he : JE X XE e de) (hl : JO X XE lo dl) (hh : JO X XE hi dh) : JE X XE (.Subscript e (.Slice lo hi none p2) pos) (dSlice de dl dh) := by
  obtain ⟨ta, p1, d1⟩ := he.ex
  obtain ⟨tl, p3, d3⟩ := hl.ex
  obtain ⟨th, p4, d4⟩ := hh.ex
  refine ⟨_, pe_slice (sl_list.or sl_str) p1 p3 p4, fun c h k kx => d1 c h (fun v a H1 H2 e r h => d3 (c.go e) h (fun lo H3 H4 e' h' => d4 (c.go (e.trans e')) h' (fun hi H5 H6 e2 h2 => ?_) (kx.go (e.trans e').s)) (kx.go e.s)) kx⟩
  have e3 := (e.trans e').trans e2
  have s3 := (c.go e3).sub
  have r3 := r.same (e'.trans e2).s0
  unfold dSl at h2
  split at h2
  · obtain ⟨p, vs, rfl, h5, h6⟩ := r3
    refine .inl ⟨p, vs, rfl, SqL.of (s3 _ _ h5), fun l hl => ?_⟩
    exact k _ (.lst _) _ _ (e3.trans (.put s3 hl)) (rp_lst (rps_cut h6) (s3.free hl)) h2
  · obtain ⟨p, vs, rfl, h5, h6⟩ := r3
    refine .inl ⟨p, vs, rfl, s3.seq h5, fun l hl => ?_⟩
    exact k _ (.lst _) _ _ (e3.trans (.put s3 hl)) (rp_lst (rps_cut h6) (s3.free hl)) h2
  · exact .inr ⟨_, r3, h2.1, k _ (.str _) _ _ e3 rfl h2.2⟩
  · exact h2.elim
/-! ### one-place operations -/
def dNeg (de : DE) : DE := fun ds q x => de ds (fun a => ∃ i, a = .int i ∧ q (.int (-i))) x
theorem je_neg {a : Expr} {de : DE} {pos : Pos} (h : JE X XE a de) : JE X XE (.UnaryOp .USub a pos) (dNeg de) := by
  obtain ⟨te, p, d⟩ := h.ex
  exact ⟨_, pe_un un_neg p, fun c h k kx => d c h (fun v a H1 H2 e r ⟨i, z, hb⟩ => by subst z; exact ⟨i, r, k _ (.int (-i)) _ _ e rfl hb⟩) kx⟩
/-! ### calls of builtins -/
def LiftC (K : PySem.W.Frag) (r : List V → Hp → VK → Prop) (g : List D → (D → Prop) → Prop) : Prop := ∀ {H0 H : Hp} {vs : List V} {xs : List D} {q : D → Prop} {Q : VK}, Same H0 H → Rps K H0 xs vs → g xs q → KE K H0 H q Q → r vs H Q
structure JCall (X : Cx) (f : Value) (g : List D → (D → Prop) → Prop) : Prop where
  ex : ∃ r, CallR X f r ∧ LiftC X.K r g
def dCB (g : List D → (D → Prop) → Prop) (da : DA) : DE := fun ds q x => da ds (fun xs => g xs q) x
theorem je_b {x : Str} {p pos : Pos} {e : Expr} {es : List Expr} {da : DA} {id : String} {g : List D → (D → Prop) → Prop} (hc : JCall X (.builtin id) g) (hg : Gl X x) (hm : X.mg x = none) (hv : bootBuiltins x = some (.builtin id)) (ha : JAs X XE (e :: es) da)
    (hst : noStars (e :: es) = true := by rfl) (hn : x ≠ ("__name__" : Str) := by decide) (hdb : (x == ("__debug__" : Str)) = false := by decide) : JE X XE (.Call (.Name x p) (e :: es) [] pos) (dCB g da) := by
  obtain ⟨r, o, l⟩ := hc.ex
  obtain ⟨ta, p1, d1⟩ := ha.ex
  exact ⟨_, pe_b o hg hm hv p1 hst hn hdb, fun c h k kx => d1 c h (fun vs xs H1 H2 e r h => l e.sub r h (k.go e)) kx⟩
theorem je_bt {x : Str} {p pos : Pos} {e : Expr} {es : List Expr} {da : DA} {T : String} {g : List D → (D → Prop) → Prop} (hc : JCall X (.type T) g) (hg : Gl X x) (hm : X.mg x = none) (hv : bootBuiltins x = some (.type T)) (ha : JAs X XE (e :: es) da)
    (hst : noStars (e :: es) = true := by rfl) (hn : x ≠ ("__name__" : Str) := by decide) (hdb : (x == ("__debug__" : Str)) = false := by decide) : JE X XE (.Call (.Name x p) (e :: es) [] pos) (dCB g da) := by
  obtain ⟨r, o, l⟩ := hc.ex
  obtain ⟨ta, p1, d1⟩ := ha.ex
  exact ⟨_, pe_bt o hg hm hv p1 hst hn hdb, fun c h k kx => d1 c h (fun vs xs H1 H2 e r h => l e.sub r h (k.go e)) kx⟩
theorem rps1 {K : PySem.W.Frag} {H : Hp} {d : D} {vs : List V} (h : Rps K H [d] vs) : ∃ v, vs = [v] ∧ Rp K H d v := by
  obtain ⟨v, us, rfl, r, e⟩ := h
  exact ⟨v, by rw [show us = [] from e], r⟩
theorem rps2 {K : PySem.W.Frag} {H : Hp} {d e : D} {vs : List V} (h : Rps K H [d, e] vs) : ∃ v u, vs = [v, u] ∧ Rp K H d v ∧ Rp K H e u := by
  obtain ⟨v, us, rfl, r, h⟩ := h
  obtain ⟨u, rfl, r'⟩ := rps1 h
  exact ⟨v, u, rfl, r, r'⟩
def dLen : List D → (D → Prop) → Prop
  | [.lst xs] => fun q => q (.int xs.length)
  | [.scr xs] => fun q => q (.int xs.length)
  | [.tup xs] => fun q => q (.int xs.length)
  | [.str z] => fun q => z.length ≤ sizeLine ∧ q (.int z.length)
  | _ => fun _ => False
theorem jc_len : JCall X (.builtin "len") dLen := by
  refine ⟨_, call_len_seq.or call_len_str, fun {H0 H vs xs q Q} s r h k => ?_⟩
  unfold dLen at h
  split at h
  · obtain ⟨v, rfl, p, ws, rfl, h1, h2⟩ := rps1 r
    refine .inl ⟨p, ws, rfl, .inl (SqL.of (s _ _ h1)), ?_⟩
    rw [h2.length]
    exact k _ (.int _) _ _ (.refl s) rfl h
  · obtain ⟨v, rfl, p, ws, rfl, h1, h2⟩ := rps1 r
    refine .inl ⟨p, ws, rfl, .inl (s.seq h1), ?_⟩
    rw [h2.length]
    exact k _ (.int _) _ _ (.refl s) rfl h
  · obtain ⟨v, rfl, p, ws, rfl, h1, h2⟩ := rps1 r
    refine .inl ⟨p, ws, rfl, .inr (SqT.of (s _ _ h1)), ?_⟩
    rw [h2.length]
    exact k _ (.int _) _ _ (.refl s) rfl h
  · obtain ⟨v, rfl, e⟩ := rps1 r
    rw [show v = .str _ from e]
    exact .inr ⟨_, rfl, h.1, k _ (.int _) _ _ (.refl s) rfl h.2⟩
  · exact h.elim
def dAbs : List D → (D → Prop) → Prop
  | [.int i] => fun q => q (.int (if i < 0 then -i else i))
  | _ => fun _ => False
theorem jc_abs : JCall X (.builtin "abs") dAbs := by
  refine ⟨_, call_abs, fun {H0 H vs xs q Q} s r h k => ?_⟩
  unfold dAbs at h
  split at h
  · obtain ⟨v, rfl, e⟩ := rps1 r
    rw [show v = .int _ from e]
    exact ⟨_, rfl, k _ (.int _) _ _ (.refl s) rfl h⟩
  · exact h.elim
def dMax2 : List D → (D → Prop) → Prop
  | [.int i, .int j] => fun q => q (.int (if j > i then j else i))
  | _ => fun _ => False
def dInt1 : List D → (D → Prop) → Prop
  | [.int i] => fun q => q (.int i)
  | [.bl b] => fun q => q (.int (if b then 1 else 0))
  | _ => fun _ => False
theorem jc_int : JCall X (.type "int") dInt1 := by
  refine ⟨_, call_int1, fun {H0 H vs xs q Q} s r h k => ?_⟩
  unfold dInt1 at h
  split at h
  · obtain ⟨v, rfl, e⟩ := rps1 r
    rw [show v = .int _ from e]
    exact .inl ⟨_, rfl, k _ (.int _) _ _ (.refl s) rfl h⟩
  · obtain ⟨v, rfl, e⟩ := rps1 r
    rw [show v = .bl _ from e]
    exact .inr ⟨_, rfl, k _ (.int _) _ _ (.refl s) rfl h⟩
  · exact h.elim
def dStr1 : List D → (D → Prop) → Prop
  | [.int i] => fun q => i.natAbs.log2 < 1920 ∧ q (.str (toString i))
  | _ => fun _ => False
theorem jc_str : JCall X (.type "str") dStr1 := by
  refine ⟨_, call_str_int, fun {H0 H vs xs q Q} s r h k => ?_⟩
  unfold dStr1 at h
  split at h
  · obtain ⟨v, rfl, e⟩ := rps1 r
    rw [show v = .int _ from e]
    exact ⟨_, rfl, h.1, k _ (.str _) _ _ (.refl s) rfl h.2⟩
  · exact h.elim
def dList1 : List D → (D → Prop) → Prop
  | [.lst xs] => fun q => q (.lst xs)
  | [.scr xs] => fun q => q (.lst xs)
  | [.tup xs] => fun q => q (.lst xs)
  | _ => fun _ => False
def dTup1 : List D → (D → Prop) → Prop
  | [.lst xs] => fun q => q (.tup xs)
  | [.tup xs] => fun q => q (.tup xs)
  | _ => fun _ => False
/-- all, any of a list of truths -/
def bools : List D → Option (List Bool)
  | [] => some []
  | .bl b :: r => (bools r).map (b :: ·)
  | _ :: _ => none
theorem rps_bools {K : PySem.W.Frag} {H : Hp} : ∀ {xs : List D} {bs : List Bool} {vs : List V}, bools xs = some bs → Rps K H xs vs → vs = bs.map V.bl
  | [], _, _, e, r => by cases e; exact r
  | d :: ds, bs, _, e, ⟨v, us, z, h, h'⟩ => by
    cases d with
    | bl b =>
      unfold bools at e
      cases q : bools ds with
      | none => rw [q] at e; cases e
      | some cs =>
        rw [q] at e
        cases e
        rw [z, rps_bools q h', show v = .bl b from h]
        rfl
    | _ => cases e
def dAll : List D → (D → Prop) → Prop
  | [.lst xs] => fun q => ∃ bs, bools xs = some bs ∧ q (.bl (bs.all id))
  | _ => fun _ => False
def dAny : List D → (D → Prop) → Prop
  | [.lst xs] => fun q => ∃ bs, bools xs = some bs ∧ q (.bl (bs.any id))
  | _ => fun _ => False
theorem jc_all (hc : X.calm = true := by rfl) : JCall X (.builtin "all") dAll := by
  refine ⟨_, call_all hc, fun {H0 H vs xs q Q} s r h k => ?_⟩
  unfold dAll at h
  split at h
  · obtain ⟨v, rfl, p, ws, rfl, h1, h2⟩ := rps1 r
    obtain ⟨bs, e, hq⟩ := h
    rw [rps_bools e h2] at h1
    exact ⟨p, bs, rfl, SqL.of (s _ _ h1), k _ (.bl _) _ _ (.refl s) rfl hq⟩
  · exact h.elim
end
end L2
namespace L2
open PySem PySem.Spec PyProof.Rows
/-! ### == and != -/
mutual
def D.eqb : D → D → Bool
  | .tup xs, .tup ys => D.eqbs xs ys
  | .lst xs, .lst ys => D.eqbs xs ys
  | a, b => eqV a.toV b.toV
def D.eqbs : List D → List D → Bool
  | [], [] => true
  | x :: xs, y :: ys => D.eqb x y && D.eqbs xs ys
  | _, _ => false
end
def eqOks (R : D → D → Bool) : List D → List D → Bool
  | x :: xs, y :: ys => R x y && eqOks R xs ys
  | _, _ => true
def D.eqOk : Nat → D → D → Bool
  | 0 => fun a b => a.flat && b.flat
  | n + 1 => fun a b => match a, b with
    | .tup xs, .tup ys => eqOks (D.eqOk n) xs ys
    | .lst xs, .lst ys => eqOks (D.eqOk n) xs ys
    | a, b => a.flat && b.flat
theorem eqb_flat {a b : D} (h : a.flat = true) : D.eqb a b = eqV a.toV b.toV := by
  cases a with
  | tup _ => cases h
  | lst _ => cases h
  | non => unfold D.eqb; rfl
  | bl _ => unfold D.eqb; rfl
  | int _ => unfold D.eqb; rfl
  | str _ => unfold D.eqb; rfl
  | _ => cases h
section
variable {K : PySem.W.Frag} {H : Hp}
theorem eqL_of {R : D → D → Bool} {R' : V → V → Bool → Prop} (h : ∀ {a b x y}, R a b = true → Rp K H a x → Rp K H b y → R' x y (D.eqb a b)) : ∀ {xs ys : List D} {vs us : List V}, eqOks R xs ys = true → Rps K H xs vs → Rps K H ys us → EqL R' vs us (D.eqbs xs ys)
  | [], [], _, _, _, r, r' => by rw [show _ = [] from r, show _ = [] from r']; unfold D.eqbs; exact .nil
  | [], y :: ys, _, _, _, r, ⟨u, us, e, _, _⟩ => by rw [show _ = [] from r, e]; unfold D.eqbs; exact .left _ _
  | x :: xs, [], _, _, _, ⟨v, vs, e, _, _⟩, r => by rw [show _ = [] from r, e]; unfold D.eqbs; exact .right _ _
  | x :: xs, y :: ys, _, _, o, ⟨v, vs, e, r1, r2⟩, ⟨u, us, e', r3, r4⟩ => by
    unfold eqOks at o
    rw [Bool.and_eq_true] at o
    rw [e, e']
    unfold D.eqbs
    exact .cons (h o.1 r1 r3) (eqL_of h o.2 r2 r4)
theorem eqN_of : ∀ (n : Nat) {a b : D} {x y : V}, D.eqOk n a b = true → Rp K H a x → Rp K H b y → EqN K H n x y (D.eqb a b) := by
  have fl : ∀ (n : Nat) {a b : D} {x y : V}, (a.flat && b.flat) = true → Rp K H a x → Rp K H b y → EqN K H n x y (D.eqb a b) := by
    intro n a b x y o r r'
    rw [Bool.and_eq_true] at o
    obtain ⟨e1, f1⟩ := rp_flat o.1 r
    obtain ⟨e2, f2⟩ := rp_flat o.2 r'
    induction n with
    | zero => exact .inl ⟨f1, f2, by rw [eqb_flat o.1, e1, e2]⟩
    | succ n ih => exact .inl ih
  intro n
  induction n with
  | zero => intro a b x y o r r'; exact fl 0 (by unfold D.eqOk at o; exact o) r r'
  | succ n ih =>
    intro a b x y o r r'
    unfold D.eqOk at o
    split at o
    · obtain ⟨p, vs, rfl, h1, h2⟩ := r
      obtain ⟨p', us, rfl, h3, h4⟩ := r'
      unfold D.eqb
      exact .inr ⟨p, p', vs, us, rfl, rfl, .inl ⟨SqT.of h1, SqT.of h3⟩, eqL_of (fun o r r' => ih o r r') o h2 h4⟩
    · obtain ⟨p, vs, rfl, h1, h2⟩ := r
      obtain ⟨p', us, rfl, h3, h4⟩ := r'
      unfold D.eqb
      exact .inr ⟨p, p', vs, us, rfl, rfl, .inr ⟨SqL.of h1, SqL.of h3⟩, eqL_of (fun o r r' => ih o r r') o h2 h4⟩
    · exact fl (n + 1) o r r'
end
def dEq (neg : Bool) : D → D → (D → Prop) → Prop
  | .tup xs, .tup ys => fun q => eqOks (D.eqOk 40) xs ys = true ∧ q (.bl (if neg then !D.eqbs xs ys else D.eqbs xs ys))
  | .lst xs, .lst ys => fun q => eqOks (D.eqOk 40) xs ys = true ∧ q (.bl (if neg then !D.eqbs xs ys else D.eqbs xs ys))
  | a, b => fun q => a.flat = true ∧ b.flat = true ∧ scal a.toV b.toV = true ∧ q (.bl (if neg then !decide (a.toV = b.toV) else decide (a.toV = b.toV)))
theorem lift_eq {K : PySem.W.Frag} (neg : Bool) : LiftR K (fun x y H Q => (scal x y = true ∧ Q (.bl (if neg then !decide (x = y) else decide (x = y))) H) ∨ rEqD K neg x y H Q) (dEq neg) := by
  intro H0 H x y a b q Q s ra rb h k
  unfold dEq at h
  split at h
  · obtain ⟨p, vs, rfl, h1, h2⟩ := ra
    obtain ⟨p', us, rfl, h3, h4⟩ := rb
    exact .inr ⟨40, p, p', vs, us, _, by decide, rfl, rfl, .inl ⟨SqT.of (s _ _ h1), SqT.of (s _ _ h3)⟩, eqL_of (fun o r r' => eqN_of 40 o r r') h.1 (h2.same s) (h4.same s), k _ (.bl _) _ _ (.refl s) rfl h.2⟩
  · obtain ⟨p, vs, rfl, h1, h2⟩ := ra
    obtain ⟨p', us, rfl, h3, h4⟩ := rb
    exact .inr ⟨40, p, p', vs, us, _, by decide, rfl, rfl, .inr ⟨SqL.of (s _ _ h1), SqL.of (s _ _ h3)⟩, eqL_of (fun o r r' => eqN_of 40 o r r') h.1 (h2.same s) (h4.same s), k _ (.bl _) _ _ (.refl s) rfl h.2⟩
  · obtain ⟨h1, h2, h3, h4⟩ := h
    obtain ⟨e1, _⟩ := rp_flat h1 ra
    obtain ⟨e2, _⟩ := rp_flat h2 rb
    rw [e1, e2]
    exact .inl ⟨h3, k _ (.bl _) _ _ (.refl s) rfl h4⟩
section
variable {X : Cx} {XE : St → XK}
theorem jo_eq (hu : X.A.units + 100 < cLine) : JOp X (compareOp .Eq) (dEq false) := ⟨_, op_eq.or (op_eqD hu), lift_eq false⟩
theorem jo_ne (hu : X.A.units + 100 < cLine) : JOp X (compareOp .NotEq) (dEq true) := ⟨_, op_ne.or (op_neD hu), lift_eq true⟩
/-! ### isinstance -/
def D.tyN : D → Option String
  | .non => some "NoneType"
  | .bl _ => some "bool"
  | .int _ => some "int"
  | .str _ => some "str"
  | .lst _ => some "list"
  | .tup _ => some "tuple"
  | _ => none
def isTy (t n : String) : Bool := t == n || (t == "bool" && n == "int")
theorem tyN_of {K : PySem.W.Frag} {H : Hp} {d : D} {v : V} {t : String} (r : Rp K H d v) (e : d.tyN = some t) : TyOf K H v (.type t) := by
  cases d with
  | non => cases e; rw [show v = .non from r]; exact .non
  | bl b => cases e; rw [show v = .bl b from r]; exact .bl b
  | int b => cases e; rw [show v = .int b from r]; exact .int b
  | str b => cases e; rw [show v = .str b from r]; exact .str b
  | lst xs => cases e; obtain ⟨a, vs, rfl, h, _⟩ := r; exact .lst h
  | tup xs => cases e; obtain ⟨a, vs, rfl, h, _⟩ := r; exact .tup h
  | _ => cases e
def types7 : List String := ["int", "str", "bool", "list", "tuple"]
theorem kit_types {K : PySem.W.Frag} {d : D} {t n : String} (e : d.tyN = some t) (hn : n ∈ types7) : PySem.W.kitOne K (.type t) (.type n) = some (isTy t n) := by
  unfold types7 at hn
  simp only [List.mem_cons, List.not_mem_nil, or_false] at hn
  cases d with
  | non => cases e; rcases hn with rfl | rfl | rfl | rfl | rfl <;> with_unfolding_all rfl
  | bl b => cases e; rcases hn with rfl | rfl | rfl | rfl | rfl <;> with_unfolding_all rfl
  | int b => cases e; rcases hn with rfl | rfl | rfl | rfl | rfl <;> with_unfolding_all rfl
  | str b => cases e; rcases hn with rfl | rfl | rfl | rfl | rfl <;> with_unfolding_all rfl
  | lst xs => cases e; rcases hn with rfl | rfl | rfl | rfl | rfl <;> with_unfolding_all rfl
  | tup xs => cases e; rcases hn with rfl | rfl | rfl | rfl | rfl <;> with_unfolding_all rfl
  | _ => cases e
/-- refs of a tuple of classes -/
def refs : List D → Option (List Addr)
  | [] => some []
  | .rf a :: r => (refs r).map (a :: ·)
  | _ :: _ => none
def tys : List D → Option (List String)
  | [] => some []
  | .ty a :: r => (tys r).map (a :: ·)
  | _ :: _ => none
theorem rps_refs {K : PySem.W.Frag} {H : Hp} : ∀ {xs : List D} {bs : List Addr} {vs : List V}, refs xs = some bs → Rps K H xs vs → vs = bs.map V.ref
  | [], _, _, e, r => by cases e; exact r
  | d :: ds, bs, _, e, ⟨v, us, z, h, h'⟩ => by
    cases d with
    | rf b =>
      unfold refs at e
      cases q : refs ds with
      | none => rw [q] at e; cases e
      | some cs =>
        rw [q] at e
        cases e
        rw [z, rps_refs q h', show v = .ref b from h]
        rfl
    | _ => cases e
theorem rps_tys {K : PySem.W.Frag} {H : Hp} : ∀ {xs : List D} {bs : List String} {vs : List V}, tys xs = some bs → Rps K H xs vs → vs = bs.map V.ty
  | [], _, _, e, r => by cases e; exact r
  | d :: ds, bs, _, e, ⟨v, us, z, h, h'⟩ => by
    cases d with
    | ty b =>
      unfold tys at e
      cases q : tys ds with
      | none => rw [q] at e; cases e
      | some cs =>
        rw [q] at e
        cases e
        rw [z, rps_tys q h', show v = .ty b from h]
        rfl
    | _ => cases e
def dIsi (K : PySem.W.Frag) : List D → (D → Prop) → Prop
  | [.exc C, .tup cs] => fun q => ∃ as b, refs cs = some as ∧ XTy K C ∧ PySem.W.kitAny K (.ref C) (as.map Value.ref) = some b ∧ q (.bl b)
  | [.exc C, .rf D] => fun q => ∃ b, XTy K C ∧ PySem.W.kitOne K (.ref C) (.ref D) = some b ∧ q (.bl b)
  | [.exc C, .ty n] => fun q => ∃ b, XTy K C ∧ PySem.W.kitOne K (.ref C) (.type n) = some b ∧ q (.bl b)
  | [.obj C _, .rf D] => fun q => ∃ b, Cls K C ∧ InsTy K C ∧ PySem.W.kitOne K (.ref C) (.ref D) = some b ∧ q (.bl b)
  | [.lst _, .tup cs] => fun q => ∃ as b, tys cs = some as ∧ PySem.W.kitAny K (.type "list") (as.map Value.type) = some b ∧ q (.bl b)
  | [.tup _, .tup cs] => fun q => ∃ as b, tys cs = some as ∧ PySem.W.kitAny K (.type "tuple") (as.map Value.type) = some b ∧ q (.bl b)
  | [x, .ty n] => fun q => ∃ t, x.tyN = some t ∧ n ∈ types7 ∧ q (.bl (isTy t n))
  | _ => fun _ => False
theorem jc_isi {K : PySem.W.Frag} (hK : X.K = K) : JCall X (.builtin "isinstance") (dIsi K) := by
  subst hK
  refine ⟨_, call_isi.or (call_isiX.or call_isiS), fun {H0 H vs xs q Q} s r h k => ?_⟩
  unfold dIsi at h
  split at h
  · obtain ⟨v, u, rfl, ⟨a, rfl, h1⟩, ⟨tp, ws, rfl, h2, h3⟩⟩ := rps2 r
    obtain ⟨as, b, e, ty, kk, hq⟩ := h
    rw [rps_refs e h3] at h2
    exact .inr (.inl ⟨a, _, rfl, s _ _ h1, ty, .inr ⟨tp, as, b, rfl, s _ _ h2, kk, k _ (.bl _) _ _ (.refl s) rfl hq⟩⟩)
  · obtain ⟨v, u, rfl, ⟨a, rfl, h1⟩, h2⟩ := rps2 r
    obtain ⟨b, ty, kk, hq⟩ := h
    rw [show u = .ref _ from h2]
    exact .inr (.inl ⟨a, _, rfl, s _ _ h1, ty, .inl ⟨_, _, b, rfl, fun u h => h, kk, k _ (.bl _) _ _ (.refl s) rfl hq⟩⟩)
  · obtain ⟨v, u, rfl, ⟨a, rfl, h1⟩, h2⟩ := rps2 r
    obtain ⟨b, ty, kk, hq⟩ := h
    rw [show u = .ty _ from h2]
    exact .inr (.inl ⟨a, _, rfl, s _ _ h1, ty, .inl ⟨_, _, b, rfl, fun u h => h, kk, k _ (.bl _) _ _ (.refl s) rfl hq⟩⟩)
  · obtain ⟨v, u, rfl, ⟨a, dx, fs, rfl, h1, _⟩, h2⟩ := rps2 r
    obtain ⟨b, cl, ty, kk, hq⟩ := h
    rw [show u = .ref _ from h2]
    exact .inl ⟨_, _, _, _, b, rfl, fun u h => h, .ins (s _ _ h1) cl ty.ha ty.hn ty.htk ty.hm, kk, k _ (.bl _) _ _ (.refl s) rfl hq⟩
  · obtain ⟨v, u, rfl, ⟨a, ws, rfl, h1, _⟩, ⟨tp, us, rfl, h2, h3⟩⟩ := rps2 r
    obtain ⟨as, b, e, kk, hq⟩ := h
    rw [rps_tys e h3] at h2
    exact .inr (.inr ⟨a, tp, as, b, "list", rfl, .inl ⟨⟨_, s _ _ h1⟩, rfl⟩, s _ _ h2, kk, k _ (.bl _) _ _ (.refl s) rfl hq⟩)
  · obtain ⟨v, u, rfl, ⟨a, ws, rfl, h1, _⟩, ⟨tp, us, rfl, h2, h3⟩⟩ := rps2 r
    obtain ⟨as, b, e, kk, hq⟩ := h
    rw [rps_tys e h3] at h2
    exact .inr (.inr ⟨a, tp, as, b, "tuple", rfl, .inr ⟨⟨_, s _ _ h1⟩, rfl⟩, s _ _ h2, kk, k _ (.bl _) _ _ (.refl s) rfl hq⟩)
  · obtain ⟨v, u, rfl, h1, h2⟩ := rps2 r
    obtain ⟨t, e, hn, hq⟩ := h
    rw [show u = .ty _ from h2]
    exact .inl ⟨_, _, _, _, _, rfl, fun u h => h, tyN_of (h1.same s) e, kit_types e hn, k _ (.bl _) _ _ (.refl s) rfl hq⟩
  · exact h.elim
/-! ### methods of texts -/
def LiftM (K : PySem.W.Frag) (T : String) (r : V → List V → Hp → VK → Prop) (g : D → List D → (D → Prop) → Prop) : Prop := ∀ {H0 H : Hp} {v : V} {vs : List V} {d : D} {xs : List D} {q : D → Prop} {Q : VK}, Same H0 H → Rp K H0 d v → Rps K H0 xs vs → g d xs q → KE K H0 H q Q → r v vs H Q
def tyD (T : String) : D → Prop
  | .str _ => T = "str"
  | .lst _ => T = "list"
  | .scr _ => T = "list"
  | _ => False
theorem tyD_of {K : PySem.W.Frag} {H : Hp} {T : String} {d : D} {v : V} (r : Rp K H d v) (h : tyD T d) : tyV K T v H := by
  cases d with
  | str x => rw [show v = .str x from r]; exact h
  | lst xs => obtain ⟨a, vs, rfl, e, _⟩ := r; exact .inl ⟨h, vs, SqL.of e⟩
  | scr xs => obtain ⟨a, vs, rfl, e, _⟩ := r; exact .inl ⟨h, vs, e⟩
  | _ => exact h.elim
structure JMt (X : Cx) (T id : String) (g : D → List D → (D → Prop) → Prop) : Prop where
  ex : ∃ r, MtR X id r ∧ LiftM X.K T r g
def dBM (T : String) (g : D → List D → (D → Prop) → Prop) (dO : DE) (da : DA) : DE := fun ds q x => dO ds (fun o => tyD T o ∧ da ds (fun xs => g o xs q) x) x
theorem je_bm {o e : Expr} {es : List Expr} {dO : DE} {da : DA} {name : Str} {apos cpos : Pos} {T id : String} {g : D → List D → (D → Prop) → Prop} (pa : PlainAttrs T) (slot : PySem.Slot T name id) (hty : typeOf (.builtin id) = pure (.type "method_descriptor")) (hm : JMt X T id g) (ho : JE X XE o dO) (ha : JAs X XE (e :: es) da)
    (hbase : attributeBase o name X.env (eval o X.env) = eval o X.env := by rfl)
    (hfew : ((backTo cpos (starEach (e :: es) X.env)).all (fun x => !x.1) && (backToKw cpos (keywordEach [] X.env)).all (fun x => x.1.isSome)
      && decide ((e :: es).length + ([] : List Keyword).length + (if ([] : List Keyword).isEmpty then 0 else 1) < 30)) = true := by rfl)
    (hline : (apos.endLine == cpos.line) = true := by rfl) (hs : starEach (e :: es) X.env = (false, eval e X.env) :: starEach es X.env := by rfl) (hplain : (backTo cpos (starEach es X.env)).any (·.1) = false := by rfl) :
    JE X XE (.Call (.Attribute o name apos) (e :: es) [] cpos) (dBM T g dO da) := by
  obtain ⟨r, m, l⟩ := hm.ex
  obtain ⟨to, p1, d1⟩ := ho.ex
  obtain ⟨ta, p2, d2⟩ := ha.ex
  refine ⟨_, pe_bm pa slot hty m p1 p2 hbase hfew hline hs hplain, fun c h k kx => d1 c h (fun v o H1 H2 e r h => ?_) kx⟩
  exact ⟨tyD_of (r.same e.sub) h.1, d2 (c.go e) h.2 (fun vs xs H3 H4 e' r' h' => l (c.go (e.trans e')).sub (r.same e'.s0) r' h' (k.go (e.trans e'))) (kx.go e.s)⟩
def texts : List D → Option (List Str)
  | [] => some []
  | .str a :: r => (texts r).map (a :: ·)
  | _ :: _ => none
def dJoin : D → List D → (D → Prop) → Prop
  | .str sep, [.lst xs] => fun q => ∃ ys, texts xs = some ys ∧ (ys.map (·.length)).sum + ys.length * sep.length ≤ 16777216 ∧ q (.str (Txt.join sep ys))
  | _, _ => fun _ => False
def dUpper : D → List D → (D → Prop) → Prop
  | .str y, [] => fun q => y.length ≤ 5592405 ∧ q (.str (Txt.upper y))
  | _, _ => fun _ => False
def dLower : D → List D → (D → Prop) → Prop
  | .str y, [] => fun q => y.length ≤ 5592405 ∧ q (.str (Txt.lower y))
  | _, _ => fun _ => False
end
end L2
namespace L2
open PySem PySem.Spec PyProof.Rows
/-! ### statements by deep values -/
structure DEnds where
  nx : DSt → Prop
  rt : D → Prop
  xc : DSt → Addr → Prop
  bk : DSt → Prop := fun _ => False
  ct : DSt → Prop := fun _ => False
abbrev DS := DSt → DEnds → Prop
abbrev DG := D → DSt → (DSt → Prop) → Prop
abbrev DGs := List D → DSt → (DSt → Prop) → Prop
structure EndsOk (K : PySem.W.Frag) (XE : St → XK) (B0 B : Hp) (e : DEnds) (T : Ends) : Prop where
  nx : ∀ H0 H σ ds, Cfg K B0 B H0 H σ ds → e.nx ds → T.nx σ H
  rt : ∀ v d H0 H, Ext B0 B H0 H → Rp K H0 d v → e.rt d → T.rt v H
  xc : ∀ H0 H σ ds C, Cfg K B0 B H0 H σ ds → e.xc ds C → XE σ (.ref C) none H
  bk : ∀ H0 H σ ds, Cfg K B0 B H0 H σ ds → e.bk ds → T.bk σ H
  ct : ∀ H0 H σ ds, Cfg K B0 B H0 H σ ds → e.ct ds → T.ct σ H
theorem EndsOk.kx {K : PySem.W.Frag} {XE : St → XK} {B0 B H0 H : Hp} {e : DEnds} {T : Ends} {σ : St} {ds : DSt} (o : EndsOk K XE B0 B e T) (c : Cfg K B0 B H0 H σ ds) : KX XE σ H (e.xc ds) := fun C H' s h => o.xc H0 H' σ ds C (c.go (Ext.grow c.sub s)) h
def DenS (K : PySem.W.Frag) (XE : St → XK) (ts : TS) (s : DS) : Prop := ∀ {B0 B H0 H : Hp} {σ : St} {ds : DSt} {e : DEnds} {T : Ends}, Cfg K B0 B H0 H σ ds → s ds e → EndsOk K XE B0 B e T → ts T σ H
/-- no owner is new -/
def Keeps (ds ds' : DSt) : Prop := ∀ (i : Nat) s, ds'[i]? = some s → s.isOwn = true → ds[i]? = some s
def DenG (K : PySem.W.Frag) (g : TG) (dg : DG) : Prop := ∀ {B0 B H0 H : Hp} {σ : St} {ds : DSt} {v : V} {d : D} {q : DSt → Prop} {Q : St → Hp → Prop}, Cfg K B0 B H0 H σ ds → Rp K H0 d v → dg d ds q → (∀ σ' ds', Cfg K B0 B H0 H σ' ds' → Keeps ds ds' → q ds' → Q σ' H) → g v σ H Q
def DenGs (K : PySem.W.Frag) (g : TGs) (dg : DGs) : Prop := ∀ {B0 B H0 H : Hp} {σ : St} {ds : DSt} {vs : List V} {xs : List D} {q : DSt → Prop} {Q : St → Hp → Prop}, Cfg K B0 B H0 H σ ds → Rps K H0 xs vs → dg xs ds q → (∀ σ' ds', Cfg K B0 B H0 H σ' ds' → Keeps ds ds' → q ds' → Q σ' H) → g vs σ H Q
structure JS (X : Cx) (XE : St → XK) (st : Stmt) (s : DS) : Prop where
  ex : ∃ ts, PS X st ts ∧ DenS X.K XE ts s
structure JSs (X : Cx) (XE : St → XK) (st : List Stmt) (s : DS) : Prop where
  ex : ∃ ts, PSs X st ts ∧ DenS X.K XE ts s
structure JG (X : Cx) (tg : Expr) (g : DG) : Prop where
  ex : ∃ t, PG X tg t ∧ DenG X.K t g
structure JGs (X : Cx) (tg : List Expr) (g : DGs) : Prop where
  ex : ∃ t, PGs X tg t ∧ DenGs X.K t g
section
variable {X : Cx} {XE : St → XK}
/-! ### targets -/
def dgName (i : Nat) : DG := fun d ds q => q (ds.set i (.v d))
def dgNil : DGs := fun xs ds q => xs = [] ∧ q ds
def dgCons (g : DG) (r : DGs) : DGs := fun xs ds q => ∃ d ys, xs = d :: ys ∧ g d ds fun ds' => r ys ds' q
def dgTup (n : Nat) (g : DGs) : DG := fun d ds q => ∃ xs, d = .tup xs ∧ xs.length = n ∧ g xs ds q
theorem keeps_set {ds : DSt} {i : Nat} {d : D} : Keeps ds (ds.set i (.v d)) := fun j s e w => by
  by_cases hi : i < ds.length
  · rw [set_at hi] at e
    split at e
    · cases e; cases w
    · exact e
  · rw [set_out hi] at e; exact e
theorem Keeps.trans {a b c : DSt} (h : Keeps a b) (k : Keeps b c) : Keeps a c := fun i s e w => h i s (k i s e w) w
theorem Keeps.refl {a : DSt} : Keeps a a := fun i s e w => e
theorem den_name {K : PySem.W.Frag} (i : Nat) : DenG K (gName i) (dgName i) := fun c r h k => k _ _ (c.setV i r) keeps_set h
theorem jg_name {i : Nat} {x : Str} {pos : Pos} (hN : X.N.Nodup) (hi : X.N[i]? = some x) (hx : Loc X.env.scope x) (hf : X.fn x = true ∨ X.env.scope.names.lookup x = some .local := by first | exact .inl rfl | exact .inr rfl | assumption) : JG X (.Name x pos) (dgName i) :=
  ⟨_, pg_name hN hi hx hf, den_name i⟩
theorem jgs_nil : JGs X [] dgNil := ⟨_, pgs_nil, fun c r h k => by
  obtain ⟨e, h⟩ := h
  subst e
  exact ⟨r, k _ _ c .refl h⟩⟩
theorem jgs_cons {e : Expr} {es : List Expr} {g : DG} {r : DGs} (h1 : JG X e g) (h2 : JGs X es r) (hs : (assignEach (e :: es) X.env).map (·.2) = assign e X.env :: (assignEach es X.env).map (·.2) := by rfl) : JGs X (e :: es) (dgCons g r) := by
  obtain ⟨t1, p1, d1⟩ := h1.ex
  obtain ⟨t2, p2, d2⟩ := h2.ex
  refine ⟨_, pgs_cons p1 p2 hs, fun c r h k => ?_⟩
  obtain ⟨d, ys, e, h⟩ := h
  subst e
  obtain ⟨v, us, rfl, r1, r2⟩ := r
  exact ⟨v, us, rfl, d1 c r1 h fun σ' ds' c' kp h' => d2 c' r2 h' fun σ2 ds2 c2 kp2 h2 => k σ2 ds2 c2 (kp.trans kp2) h2⟩
theorem jg_tup {es : List Expr} {k n : Nat} {pos : Pos} {g : DGs} (h : JGs X es g) (hc : X.calm = true := by rfl) (hn : (assignEach es X.env).length = n := by rfl) (hst : (assignEach es X.env).findIdx? (·.1) = none := by rfl) : JG X (.Tuple es k pos) (dgTup n g) := by
  obtain ⟨t1, p1, d1⟩ := h.ex
  refine ⟨_, pg_tup hc p1 hn hst, fun c r h k => ?_⟩
  obtain ⟨xs, e, l, h⟩ := h
  subst e
  obtain ⟨a, vs, rfl, h1, h2⟩ := r
  exact ⟨a, vs, rfl, SqT.of (c.sub _ _ h1), by rw [h2.length]; exact l, d1 c h2 h k⟩
/-! ### rows of statements -/
def dNext : DS := fun ds e => e.nx ds
def dSeq (s t : DS) : DS := fun ds e => s ds { e with nx := fun ds' => t ds' e }
theorem jss_nil : JSs X XE [] dNext := ⟨_, pss_nil, fun c h o => o.nx _ _ _ _ c h⟩
theorem jss_one {st : Stmt} {s : DS} (h : JS X XE st s) : JSs X XE [st] s := by
  obtain ⟨t, p, d⟩ := h.ex
  exact ⟨_, pss_one p, d⟩
theorem jss_cons {st : Stmt} {rest : List Stmt} {s t : DS} (h : JS X XE st s) (h2 : JSs X XE rest t) : JSs X XE (st :: rest) (dSeq s t) := by
  obtain ⟨t1, p1, d1⟩ := h.ex
  obtain ⟨t2, p2, d2⟩ := h2.ex
  exact ⟨_, pss_cons p1 p2, fun c h o => d1 c h ⟨fun H0 H σ ds c' h' => d2 c' h' o, o.rt, o.xc, o.bk, o.ct⟩⟩
/-! ### plain statements -/
def dAsg (de : DE) (g : DG) : DS := fun ds e => de ds (fun d => g d ds e.nx) (e.xc ds)
theorem den_asg {K : PySem.W.Frag} {te : TE} {de : DE} {t : TG} {g : DG} (d : Den K XE te de) (dg : DenG K t g) : DenS K XE (tAsg te t) (dAsg de g) := fun c h o =>
  d c h (fun v a H1 H2 e r h => dg (c.go e) r h fun σ' ds' c' _ h' => o.nx _ _ _ _ c' h') (o.kx c)
theorem js_set {i : Nat} {x : Str} {e : Expr} {de : DE} {pos pos' : Pos} (hN : X.N.Nodup) (hi : X.N[i]? = some x) (hx : Loc X.env.scope x) (he : JE X XE e de) (hs : swapsWith e (some (.Name x pos')) pos.line X.env = pure false := by rfl)
    (hf : X.fn x = true ∨ X.env.scope.names.lookup x = some .local := by first | exact .inl rfl | exact .inr rfl | assumption) : JS X XE (.Assign [.Name x pos'] e pos) (dAsg de (dgName i)) := by
  obtain ⟨te, p, d⟩ := he.ex
  exact ⟨_, ps_set hN hi hx p hs hf, den_asg d (den_name i)⟩
theorem js_asg {tg e : Expr} {de : DE} {g : DG} {pos : Pos} (he : JE X XE e de) (hg : JG X tg g) (hs : swapsWithSole [tg] e pos.line X.env = pure false := by rfl) (hw : swappedStores [tg] e X.env = pure none := by rfl)
    (h1 : (assignEach [tg] X.env).map (·.2) = [assign tg X.env] := by rfl) : JS X XE (.Assign [tg] e pos) (dAsg de g) := by
  obtain ⟨te, p, d⟩ := he.ex
  obtain ⟨t, p2, d2⟩ := hg.ex
  exact ⟨_, ps_asg p p2 hs hw h1, den_asg d d2⟩
def dPar (i j : Nat) (da : DA) : DS := fun ds e => da ds (fun xs => ∃ a b, xs = [a, b] ∧ e.nx ((ds.set i (.v a)).set j (.v b))) (e.xc ds)
theorem js_par {i j : Nat} {x y : Str} {a b : Expr} {da : DA} {px py pt pos : Pos} {kt k2 : Nat} {pt2 : Pos} (hN : X.N.Nodup) (hi : X.N[i]? = some x) (hj : X.N[j]? = some y) (hij : i ≠ j) (hx : X.env.scope.names.lookup x = some .local) (hy : X.env.scope.names.lookup y = some .local)
    (ha : JAs X XE [a, b] da) (h : ∀ ta, PA X [a, b] ta → PS X (.Assign [.Tuple [.Name x px, .Name y py] kt pt] (.Tuple [a, b] k2 pt2) pos) (tPar i j ta)) : JS X XE (.Assign [.Tuple [.Name x px, .Name y py] kt pt] (.Tuple [a, b] k2 pt2) pos) (dPar i j da) := by
  obtain ⟨ta, p, d⟩ := ha.ex
  refine ⟨_, h ta p, fun c h o => d c h (fun vs xs H1 H2 e r ⟨a, b, z, h⟩ => ?_) (o.kx c)⟩
  subst z
  obtain ⟨v, u, rfl, r1, r2⟩ := rps2 r
  exact ⟨v, u, rfl, o.nx _ _ _ _ (((c.go e).setV i r1).setV j r2) h⟩
def dDrop (de : DE) : DS := fun ds e => de ds (fun _ => e.nx ds) (e.xc ds)
theorem js_expr {e : Expr} {de : DE} {pos : Pos} (he : JE X XE e de) (hs : swapsWith e none pos.line X.env = pure false := by rfl) : JS X XE (.Expr e pos) (dDrop de) := by
  obtain ⟨te, p, d⟩ := he.ex
  exact ⟨_, ps_expr p hs, fun c h o => d c h (fun v a H1 H2 e r h => o.nx _ _ _ _ (c.go e) h) (o.kx c)⟩
/-- return e: what is owned may be told -/
def dRet (pk : List Nat) (de : DE) : DS := fun ds e => de (peekAt pk ds) e.rt (e.xc ds)
theorem js_ret (pk : List Nat) {e : Expr} {de : DE} {pos : Pos} (he : JE X XE e de) : JS X XE (.Return (some e) pos) (dRet pk de) := by
  obtain ⟨te, p, d⟩ := he.ex
  refine ⟨_, ps_ret p, fun c h o => ?_⟩
  obtain ⟨H1, c1, _⟩ := c.peekAt pk
  exact d c1 h (fun v a H1 H2 e r h => o.rt _ _ _ _ (c1.ext.trans e) r h) (o.kx c)
/-- if: what is owned may be read in the test -/
def dIf (pk : List Nat) (c : DT) (s t : DS) : DS := fun ds e => c (peekAt pk ds) (fun b => if b = true then s ds e else t ds e) (e.xc ds)
theorem js_if (pk : List Nat) {c : Expr} {a b : List Stmt} {pos : Pos} {dc : DT} {s t : DS} (hc : JT X XE c dc) (ha : JSs X XE a s) (hb : JSs X XE b t) : JS X XE (.If c a b pos) (dIf pk dc s t) := by
  obtain ⟨tc, p0, d0⟩ := hc.ex
  obtain ⟨t1, p1, d1⟩ := ha.ex
  obtain ⟨t2, p2, d2⟩ := hb.ex
  refine ⟨_, ps_if p0 p1 p2, fun c h o => ?_⟩
  obtain ⟨H1, c1, s1, l1, n1⟩ := c.peekAt pk
  refine d0 c1 h (fun b H2 H3 e h => ?_) (o.kx c)
  obtain ⟨H4, e4, _⟩ := e.thaw s1 c.sub l1 n1
  cases b with
  | true =>
    rw [if_pos rfl] at h ⊢
    exact d1 (c.go e4) h o
  | false =>
    rw [if_neg Bool.false_ne_true] at h ⊢
    exact d2 (c.go e4) h o
/-- the ends of a statement meet -/
def dCut (s : DS) : DS := fun ds e => ∃ M : DSt → Prop, s ds { e with nx := M } ∧ ∀ ds', M ds' → e.nx ds'
theorem js_cut {st : Stmt} {s : DS} (h : JS X XE st s) : JS X XE st (dCut s) := by
  obtain ⟨t, p, d⟩ := h.ex
  refine ⟨_, p, fun c h o => ?_⟩
  obtain ⟨M, h, k⟩ := h
  exact d c h ⟨fun H0 H σ ds c' h' => o.nx _ _ _ _ c' (k ds h'), o.rt, o.xc, o.bk, o.ct⟩
/-! ### what is walked -/
def Walks (K : PySem.W.Frag) (J : It) (xs : List D) (W0 : Hp) : Prop := ∀ (i : Nat) (H0 H : Hp), Same W0 H0 → Same H0 H →
  (i < xs.length → J.go i H ∧ ∀ x H', J.yld i H x H' → ∃ H0', Ext H0 H H0' H' ∧ ∃ d, xs[i]? = some d ∧ Rp K H0' d x) ∧ (xs.length ≤ i → J.stop i H)
abbrev DI := DSt → (List D → Prop) → (Addr → Prop) → Prop
def DenI (K : PySem.W.Frag) (XE : St → XK) (wi : TI) (di : DI) : Prop := ∀ {B0 B H0 H : Hp} {σ : St} {ds : DSt} {q : List D → Prop} {x : Addr → Prop} {R : It → Hp → Prop}, Cfg K B0 B H0 H σ ds → di ds q x → (∀ J xs H0' H', Ext H0 H H0' H' → Walks K J xs H0' → q xs → R J H') → KX XE σ H x → wi σ H R
structure JI (X : Cx) (XE : St → XK) (tg iter : Expr) (di : DI) : Prop where
  ex : ∃ wi, PI X tg iter wi ∧ DenI X.K XE wi di
def intsFrom (lo : Int) (n : Nat) : List D := (List.range n).map fun i : Nat => .int (lo + i)
def signs (x : Str) : List D := x.cps.toList.map fun c => .str ⟨#[c]⟩
theorem walk_str {K : PySem.W.Frag} {W0 : Hp} {x : Str} : Walks K (Its x) (signs x) W0 := by
  intro i H0 H s0 s
  have hl : (signs x).length = x.cps.size := by unfold signs; simp
  refine ⟨fun hi => ?_, fun hi => by rw [hl] at hi; exact hi⟩
  rw [hl] at hi
  refine ⟨hi, fun v H' y => ?_⟩
  obtain ⟨rfl, c, e, rfl⟩ := y
  refine ⟨H0, .refl s, .str ⟨#[c]⟩, ?_, rfl⟩
  unfold signs
  rw [List.getElem?_map, Array.getElem?_toList, e]
  rfl
def enumF (xs : List D) : List D := xs.mapIdx fun i x => .tup [.int i, x]
theorem walk_enum {K : PySem.W.Frag} {W0 : Hp} {a : Addr} {vs : List V} {xs : List D} (h : SqL K W0 a vs) (r : Rps K W0 xs vs) : Walks K (Ite K a) (enumF xs) W0 := by
  intro i H0 H s0 s
  have hs : SqL K H a vs := (s0.trans s).seq h
  have hl : (enumF xs).length = xs.length := by unfold enumF; simp
  refine ⟨fun hi => ?_, fun hi => ⟨vs, hs, by rw [r.length]; rw [hl] at hi; exact hi⟩⟩
  rw [hl] at hi
  obtain ⟨v, e, rv⟩ := r.get (List.getElem?_eq_getElem hi)
  refine ⟨⟨vs, v, hs, e⟩, fun x H' y => ?_⟩
  obtain ⟨p, w, rfl, hp, rfl, y⟩ := y
  have := y vs hs
  rw [e] at this
  cases this
  refine ⟨upd H0 p (.tup [.int i, v]), .put s hp, .tup [.int i, xs[i]], ?_, ?_⟩
  · unfold enumF
    rw [List.getElem?_mapIdx, List.getElem?_eq_getElem hi]
    rfl
  · exact rp_tup (xs := [.int i, xs[i]]) ⟨_, _, rfl, rfl, _, _, rfl, rv.same s0, rfl⟩ (s.free hp)
/-- a list, a tuple, a text -/
def dIter (de : DE) : DI := fun ds q x => de ds (fun d => match d with
  | .lst xs => q xs
  | .scr xs => q xs
  | .tup xs => q xs
  | .str y => q (signs y)
  | _ => False) x
theorem ji_str {tg l : Expr} {de : DE} (h : JE X XE l de) : JI X XE tg l (fun ds q x => de ds (fun d => match d with | .str y => q (signs y) | _ => False) x) := by
  obtain ⟨te, p, d⟩ := h.ex
  refine ⟨_, pi_str p, fun c h k kx => d c h (fun v a H1 H2 e r h => ?_) kx⟩
  split at h
  · exact ⟨_, r, k _ _ _ _ e walk_str h⟩
  · exact h.elim
/-- a list or a tuple -/
def dSeqI (de : DE) : DI := fun ds q x => de ds (fun d => match d with | .lst xs => q xs | .scr xs => q xs | .tup xs => q xs | _ => False) x
def dRng1 (da : DA) : DI := fun ds q x => da ds (fun xs => ∃ j : Int, xs = [.int j] ∧ -(2 ^ 62) ≤ j ∧ j < 2 ^ 62 ∧ q (intsFrom 0 j.toNat)) x
def dRng2 (da : DA) : DI := fun ds q x => da ds (fun xs => ∃ i j : Int, xs = [.int i, .int j] ∧ (-(2 ^ 62) ≤ i ∧ i < 2 ^ 62 ∧ -(2 ^ 62) ≤ j ∧ j < 2 ^ 62) ∧ q (intsFrom i (j - i).toNat)) x
def dEnum (da : DA) : DI := fun ds q x => da ds (fun xs => match xs with | [.lst ys] => q (enumF ys) | [.scr ys] => q (enumF ys) | _ => False) x
theorem ji_enum {a : Expr} {da : DA} {p pos : Pos} {elts : List Expr} {x1} {tpos : Pos} (hg : Gl X "enumerate") (hm : X.mg "enumerate" = none) (ha : JAs X XE [a] da) (hs : starEach [a] X.env = [(false, eval a X.env)] := by rfl) : JI X XE (.Tuple elts x1 tpos) (.Call (.Name "enumerate" p) [a] [] pos) (dEnum da) := by
  obtain ⟨ta, p, d⟩ := ha.ex
  refine ⟨_, pi_enum hg hm p hs, fun c h k kx => d c h (fun vs xs H1 H2 e r h => ?_) kx⟩
  split at h
  · obtain ⟨v, rfl, a, ws, rfl, h1, h2⟩ := rps1 r
    exact ⟨a, rfl, ⟨ws, SqL.of (e.sub _ _ h1)⟩, k _ _ _ _ e (walk_enum (SqL.of h1) h2) h⟩
  · obtain ⟨v, rfl, a, ws, rfl, h1, h2⟩ := rps1 r
    exact ⟨a, rfl, ⟨ws, e.sub.seq h1⟩, k _ _ _ _ e (walk_enum h1 h2) h⟩
  · exact h.elim
theorem Ext.unbase {B0 B W H0 H : Hp} (e : Ext W B H0 H) (h : Same B0 W) (n : ∀ b, B0 b = none → B b ≠ none → W b = none) : Ext B0 B H0 H := ⟨e.s, h.trans e.s0, e.sub, fun b z y => e.new b (n b z y) y⟩
theorem Cfg.unbase {K : PySem.W.Frag} {B0 B W H0 H : Hp} {σ : St} {ds : DSt} (c : Cfg K W B H0 H σ ds) (h : Same B0 W) (n : ∀ b, B0 b = none → B b ≠ none → W b = none) : Cfg K B0 B H0 H σ ds := ⟨c.ext.unbase h n, c.slot, c.young, c.sep, c.len⟩
theorem Cfg.rebase {K : PySem.W.Frag} {B0 B W H0 H : Hp} {σ : St} {ds : DSt} (c : Cfg K B0 B H0 H σ ds) (h : Same B0 W) (h2 : Same W H0) : Cfg K W B H0 H σ ds :=
  ⟨⟨c.ext.s, h2, c.ext.sub, fun b z y => c.ext.new b (h.free z) y⟩, c.slot, c.young, c.sep, c.len⟩
/-! ### for -/
def loopD (g : DG) (b : DS) (e : DEnds) : List D → DSt → Prop
  | [], ds => e.nx ds
  | x :: xs, ds => g x ds fun ds' => b ds' { e with nx := loopD g b e xs, ct := loopD g b e xs, bk := e.nx }
/-- fz: what is owned and is not written any more -/
def dFor (di : DI) (g : DG) (b : DS) : DS := fun ds e => ∃ fz : List Nat, di (peekAt fz ds) (fun xs => loopD g b e xs (peekAt fz ds)) (e.xc ds)
theorem js_for {tg iter : Expr} {body : List Stmt} {di : DI} {g : DG} {b : DS} {pos : Pos} (hp : PassesOwn (model X.prog X.w) X.A X.env X.xe) (hi : JI X XE tg iter di) (hg : JG X tg g) (hb : JSs X XE body b) (hc : X.calm = true := by rfl)
    (hs : ∀ x, foldedSetIterable iter X.env x = pure x := by intro _; rfl) : JS X XE (.For tg iter body [] pos) (dFor di g b) := by
  obtain ⟨wi, p0, d0⟩ := hi.ex
  obtain ⟨t, p1, d1⟩ := hg.ex
  obtain ⟨tb, p2, d2⟩ := hb.ex
  refine ⟨_, ps_for hp hc p0 p1 p2 hs, fun {B0 B H0 H σ ds e T} c h o => ?_⟩
  obtain ⟨fz, h⟩ := h
  obtain ⟨H1, c1, _⟩ := c.peekAt fz
  refine d0 c1 h (fun J xs H2 H3 e1 w h => ?_) (o.kx c)
  have hB2 : Same B0 H2 := c1.ext.s0.trans e1.s0
  have hN2 : ∀ b, B0 b = none → B b ≠ none → H2 b = none := (c1.ext.trans e1).new
  refine ⟨fun i m σ' H' => m = xs.length - i ∧ i ≤ xs.length ∧ ∃ H0' ds', Cfg X.K B0 B H0' H' σ' ds' ∧ Same H2 H0' ∧ loopD g b e (xs.drop i) ds', ⟨_, rfl, Nat.zero_le _, H2, _, c1.go e1, .refl _, h⟩, ?_⟩
  rintro i m σ' H' ⟨rfl, hi, H0', ds', c', s', hl⟩
  obtain ⟨w1, w2⟩ := w i H0' H' s' c'.sub
  by_cases hi2 : i < xs.length
  · right
    obtain ⟨go, yld⟩ := w1 hi2
    rw [List.drop_eq_getElem_cons hi2] at hl
    unfold loopD at hl
    refine ⟨go, fun σ2 H4 => ∃ H0'' ds2, Cfg X.K B0 B H0'' H4 σ2 ds2 ∧ Same H2 H0'' ∧ loopD g b e (xs.drop (i + 1)) ds2, fun σ2 H4 ⟨H5, ds2, c2, s2, l2⟩ => ⟨_, by omega, rfl, hi2, H5, ds2, c2, s2, l2⟩, fun x H4 y => ?_⟩
    obtain ⟨H5, e5, d, ed, rd⟩ := yld x H4 y
    rw [List.getElem?_eq_getElem hi2] at ed
    cases ed
    refine d1 (c'.go e5) rd hl fun σ2 ds2 c2 _ h2 => ?_
    refine d2 (e := { e with nx := fun ds4 => loopD g b e (xs.drop (i + 1)) ds4, ct := fun ds4 => loopD g b e (xs.drop (i + 1)) ds4, bk := e.nx }) (c2.rebase hB2 (s'.trans e5.s0)) h2 ⟨fun H6 H7 σ3 ds3 c3 l3 => ?_, fun v d' H6 H7 x3 => o.rt v d' H6 H7 (x3.unbase hB2 hN2), fun H6 H7 σ3 ds3 C c3 => o.xc H6 H7 σ3 ds3 C (c3.unbase hB2 hN2), fun H6 H7 σ3 ds3 c3 => o.nx H6 H7 σ3 ds3 (c3.unbase hB2 hN2), fun H6 H7 σ3 ds3 c3 l3 => ?_⟩
    · exact ⟨H6, ds3, c3.unbase hB2 hN2, c3.ext.s0, l3⟩
    · exact ⟨H6, ds3, c3.unbase hB2 hN2, c3.ext.s0, l3⟩
  · left
    have hx : xs.drop i = [] := List.drop_eq_nil_of_le (by omega)
    rw [hx] at hl
    exact ⟨w2 (by omega), o.nx _ _ _ _ c' hl⟩
end
end L2
namespace L2
open PySem PySem.Spec PyProof.Rows
section
variable {X : Cx} {XE : St → XK}
/-! ### while -/
def dWhile (pk : List Nat) (c : DT) (b : DS) : DS := fun ds e => ∃ W : Nat → DSt → Prop, (∃ m, W m ds) ∧ ∀ m ds, W m ds →
  c (peekAt pk ds) (fun k => if k = true then b ds { e with nx := fun ds' => ∃ m', m' < m ∧ W m' ds', ct := fun ds' => ∃ m', m' < m ∧ W m' ds', bk := e.nx } else e.nx ds) (e.xc ds)
theorem js_while (pk : List Nat) {c : Expr} {body : List Stmt} {dc : DT} {b : DS} {pos : Pos} (hp : PassesOwn (model X.prog X.w) X.A X.env X.xe) (hc : JT X XE c dc) (hb : JSs X XE body b) : JS X XE (.While c body [] pos) (dWhile pk dc b) := by
  obtain ⟨tc, p0, d0⟩ := hc.ex
  obtain ⟨tb, p1, d1⟩ := hb.ex
  refine ⟨_, ps_while hp p0 p1, fun {B0 B H0 H σ ds e T} c h o => ?_⟩
  obtain ⟨W, ⟨m, w⟩, h⟩ := h
  refine ⟨fun m σ' H' => ∃ H0' ds', Cfg X.K B0 B H0' H' σ' ds' ∧ W m ds', ⟨m, H0, ds, c, w⟩, ?_⟩
  rintro m σ' H' ⟨H0', ds', c', w'⟩
  obtain ⟨H1, c1, s1, l1, n1⟩ := c'.peekAt pk
  refine d0 c1 (h m ds' w') (fun k H2 H3 e h => ?_) (o.kx c')
  obtain ⟨H4, e4, _⟩ := e.thaw s1 c'.sub l1 n1
  cases k with
  | true =>
    rw [if_pos rfl] at h ⊢
    refine ⟨fun σ2 H5 => ∃ m', m' < m ∧ ∃ H6 ds2, Cfg X.K B0 B H6 H5 σ2 ds2 ∧ W m' ds2, fun σ2 H5 z => z, ?_⟩
    exact d1 (c'.go e4) h ⟨fun H6 H7 σ2 ds2 c2 ⟨m', l, w2⟩ => ⟨m', l, H6, ds2, c2, w2⟩, o.rt, o.xc, o.nx, fun H6 H7 σ2 ds2 c2 ⟨m', l, w2⟩ => ⟨m', l, H6, ds2, c2, w2⟩⟩
  | false =>
    rw [if_neg Bool.false_ne_true] at h ⊢
    exact o.nx _ _ _ _ (c'.go e4) h
/-! ### lists that are new -/
def DenF (K : PySem.W.Frag) (XE : St → XK) (te : TE) (df : DA) : Prop := ∀ {B0 B H0 H : Hp} {σ : St} {ds : DSt} {q : List D → Prop} {x : Addr → Prop} {Q : VK}, Cfg K B0 B H0 H σ ds → df ds q x →
  (∀ a vs xs H0' H', Ext H0 H H0' H' → H a = none → H0' a = none → H' a = some (.lst vs) → Rps K H0' xs vs → q xs → Q (.ref a) H') → KX XE σ H x → te σ H Q
structure JF (X : Cx) (XE : St → XK) (e : Expr) (df : DA) : Prop where
  ex : ∃ te, PE X e te ∧ DenF X.K XE te df
def dFz (df : DA) : DE := fun ds q x => df ds (fun xs => q (.lst xs)) x
theorem ext_fz {H0 H H0' H' : Hp} {a : Addr} {o : HO} (e : Ext H0 H H0' H') (n : H a = none) (n0 : H0' a = none) (h : H' a = some o) : Ext H0 H (upd H0' a o) H' := by
  refine ⟨e.s, e.s0.trans (Same.upd n0), fun b u z => ?_, fun b z y => ?_⟩
  · by_cases hb : b = a
    · subst hb; rw [upd_same] at z; rw [h]; exact z
    · rw [upd_ne hb] at z; exact e.sub _ _ z
  · rw [upd_ne (fun w => y (by rw [w]; exact n))]
    exact e.new b z y
theorem den_fz {K : PySem.W.Frag} {te : TE} {df : DA} (d : DenF K XE te df) : Den K XE te (dFz df) := fun c h k kx =>
  d c h (fun a vs xs H0' H' e n n0 ha r hq => k _ (.lst xs) _ _ (ext_fz e n n0 ha) (rp_lst r n0) hq) kx
theorem JF.je {e : Expr} {df : DA} (h : JF X XE e df) : JE X XE e (dFz df) := by
  obtain ⟨te, p, d⟩ := h.ex
  exact ⟨_, p, den_fz d⟩
/-! ### list comprehensions -/
def XN : St → XK := fun _ _ _ _ => False
def dpre (n : Nat) (fr : List Nat) (ds : DSt) : DSt := List.replicate n .un ++ fr.map fun j => match ds[j]? with
  | some (.v d) => .v d
  | _ => .un
def compD (g : DG) (f : DT) (e : DE) (q : List D → Prop) : List D → DSt → List D → Prop
  | [], _, acc => q acc
  | x :: xs, ds, acc => g x ds fun ds1 => f ds1 (fun b => if b = true then e ds1 (fun y => acc.length < sizeLine ∧ compD g f e q xs ds1 (acc ++ [y])) (fun _ => False) else compD g f e q xs ds1 acc) (fun _ => False)
def dComp (n : Nat) (fr : List Nat) (di : DI) (g : DG) (f : DT) (e : DE) : DA := fun ds q x => di ds (fun xs => compD g f e q xs (dpre n fr ds) []) x
def dYes : DT := fun _ q _ => q true
def NoOwn (ds : DSt) : Prop := ∀ (i : Nat) s, ds[i]? = some s → s.isOwn = false
theorem NoOwn.keeps {ds ds' : DSt} (h : NoOwn ds) (k : Keeps ds ds') : NoOwn ds' := fun i s e => by
  cases w : s.isOwn with
  | false => rfl
  | true => rw [h i s (k i s e w)] at w; cases w
theorem pre_at (n : Nat) (fr : List Nat) (σ : St) (i : Nat) : ((pre n fr σ)[i]?).getD none = if i < n then none else ((fr[i - n]?).map fun j => (σ[j]?).getD none).getD none := by
  unfold pre
  by_cases h : i < n
  · rw [if_pos h, List.getElem?_append_left (by rw [List.length_replicate]; exact h), List.getElem?_replicate, if_pos h]; rfl
  · rw [if_neg h, List.getElem?_append_right (by rw [List.length_replicate]; omega), List.length_replicate, List.getElem?_map]
theorem cfg_pre {K : PySem.W.Frag} {B0 B H0 H H' : Hp} {σ : St} {ds : DSt} (c : Cfg K B0 B H0 H σ ds) (s : Same H H') (n : Nat) (fr : List Nat) : Cfg K H0 H H0 H' (pre n fr σ) (dpre n fr ds) ∧ NoOwn (dpre n fr ds) := by
  have no : NoOwn (dpre n fr ds) := fun i s e => by
    unfold dpre at e
    by_cases h : i < n
    · rw [List.getElem?_append_left (by rw [List.length_replicate]; exact h), List.getElem?_replicate, if_pos h] at e
      cases e; rfl
    · rw [List.getElem?_append_right (by rw [List.length_replicate]; omega), List.length_replicate, List.getElem?_map] at e
      cases q : fr[i - n]? with
      | none => rw [q] at e; cases e
      | some j =>
        rw [q] at e
        cases e
        dsimp only
        split <;> rfl
  refine ⟨⟨.grow c.sub s, fun i t e => ?_, fun i t a e w => ?_, fun i j t u a _ e _ w => ?_, ?_⟩, no⟩
  · rw [pre_at]
    unfold dpre at e
    by_cases h : i < n
    · rw [List.getElem?_append_left (by rw [List.length_replicate]; exact h), List.getElem?_replicate, if_pos h] at e
      cases e; trivial
    · rw [if_neg h]
      rw [List.getElem?_append_right (by rw [List.length_replicate]; omega), List.length_replicate, List.getElem?_map] at e
      cases q : fr[i - n]? with
      | none => rw [q] at e; cases e
      | some j =>
        rw [q] at e
        cases e
        dsimp only [Option.map_some, Option.getD_some]
        split
        · rename_i d qd
          obtain ⟨v, e1, r⟩ := c.slot j _ qd
          exact ⟨v, e1, r⟩
        · trivial
  · rw [no i t e] at w; cases w
  · rw [no i t e] at w; cases w
  · unfold pre dpre
    simp
theorem Cfg.aside {K : PySem.W.Frag} {B0 B H0 H : Hp} {σ : St} {ds : DSt} {a : Addr} {o : HO} (c : Cfg K B0 B H0 H σ ds) (n : NoOwn ds) (hb : B a = none) (h0 : H0 a = none) : Cfg K B0 B H0 (upd H a o) σ ds := by
  refine ⟨⟨fun b u z => ?_, c.ext.s0, fun b u z => ?_, c.ext.new⟩, fun j t r => ?_, c.young, c.sep, c.len⟩
  · rw [upd_ne (fun y => by rw [y, hb] at z; cases z)]
    exact c.ext.s _ _ z
  · rw [upd_ne (fun y => by rw [y, h0] at z; cases z)]
    exact c.sub _ _ z
  · have old := c.slot j t r
    have w := n j t r
    cases t with
    | un => trivial
    | v d => exact old
    | own _ => cases w
    | ob _ _ _ _ => cases w
theorem den_comp {K : PySem.W.Frag} {wi : TI} {t : TG} {tf : TT} {te : TE} {di : DI} {g : DG} {f : DT} {e : DE} (n : Nat) (fr : List Nat) (d0 : DenI K XE wi di) (d1 : DenG K t g) (d2 : DenT K XN tf f) (d3 : Den K XN te e) : DenF K XE (tComp n fr wi t tf te) (dComp n fr di g f e) := by
  intro B0 B H0 H σ ds q x Q c h k kx
  refine d0 c h (fun J xs H1 H2 e1 w h => fun Dd hD => ?_) kx
  obtain ⟨c1, no1⟩ := cfg_pre (c.go e1) (Same.upd (o := .lst []) hD) n fr
  have hD1 : H1 Dd = none := e1.sub.free hD
  refine ⟨fun i m σ' H' => m = xs.length - i ∧ i ≤ xs.length ∧ ∃ H0' ds' acc vs, Cfg K H1 H2 H0' H' σ' ds' ∧ NoOwn ds' ∧ H0' Dd = none ∧ H' Dd = some (.lst vs) ∧ Rps K H0' acc vs ∧ compD g f e q (xs.drop i) ds' acc, ⟨_, rfl, Nat.zero_le _, H1, _, [], [], c1, no1, hD1, upd_same, rfl, h⟩, ?_⟩
  rintro i m σ' H' ⟨rfl, hi, H0', ds', acc, vs, c', no', n', hv, r', hl⟩
  obtain ⟨w1, w2⟩ := w i H0' H' c'.ext.s0 c'.sub
  by_cases hi2 : i < xs.length
  · right
    obtain ⟨go, yld⟩ := w1 hi2
    rw [List.drop_eq_getElem_cons hi2] at hl
    unfold compD at hl
    refine ⟨go, fun σ2 H4 => ∃ H0'' ds2 acc2 vs2, Cfg K H1 H2 H0'' H4 σ2 ds2 ∧ NoOwn ds2 ∧ H0'' Dd = none ∧ H4 Dd = some (.lst vs2) ∧ Rps K H0'' acc2 vs2 ∧ compD g f e q (xs.drop (i + 1)) ds2 acc2, fun σ2 H4 ⟨a1, a2, a3, a4, a5⟩ => ⟨_, by omega, rfl, hi2, a1, a2, a3, a4, a5⟩, fun y H4 z => ?_⟩
    obtain ⟨H5, e5, d, ed, rd⟩ := yld y H4 z
    rw [List.getElem?_eq_getElem hi2] at ed
    cases ed
    have hne : H' Dd ≠ none := by rw [hv]; simp
    refine d1 (c'.go e5) rd hl fun σ2 ds2 c2 kp h2 => ?_
    have no2 := no'.keeps kp
    have n5 : H5 Dd = none := e5.new Dd n' hne
    have v5 : H4 Dd = some (.lst vs) := e5.s _ _ hv
    refine d2 c2 h2 (fun b H6 H7 e6 h6 => ?_) (fun _ _ _ h => h.elim)
    have n6 : H6 Dd = none := e6.new Dd n5 (by rw [v5]; simp)
    have v6 : H7 Dd = some (.lst vs) := e6.s _ _ v5
    cases b with
    | false =>
      rw [if_neg Bool.false_ne_true] at h6 ⊢
      exact ⟨H6, ds2, acc, vs, c2.go e6, no2, n6, v6, r'.same (e5.trans e6).s0, h6⟩
    | true =>
      rw [if_pos rfl] at h6 ⊢
      refine d3 (c2.go e6) h6 (fun u y' H8 H9 e8 r8 h8 => ?_) (fun _ _ _ h => h.elim)
      have n8 : H8 Dd = none := e8.new Dd n6 (by rw [v6]; simp)
      have v8 : H9 Dd = some (.lst vs) := e8.s _ _ v6
      have ra := r'.same (e5.trans (e6.trans e8)).s0
      refine ⟨vs, v8, by rw [ra.length]; exact h8.1, H8, ds2, acc ++ [y'], vs ++ [u], ((c2.go e6).go e8).aside no2 hD n8, no2, n8, upd_same, ra.snoc r8, h8.2⟩
  · left
    have hx : xs.drop i = [] := List.drop_eq_nil_of_le (by omega)
    rw [hx] at hl
    refine ⟨w2 (by omega), k Dd vs acc H0' H' (e1.trans c'.ext) (e1.s.free hD) n' hv r' hl⟩
structure JIf (X : Cx) (XE : St → XK) (ifs : List Expr) (d : DT) : Prop where
  ex : ∃ t, PIf X ifs t ∧ DenT X.K XE t d
theorem jf_none : JIf X XE [] dYes := ⟨_, pf_nil, fun c h k kx => k _ _ _ (.refl c.sub) h⟩
end
end L2
namespace L2
open PySem PySem.Spec PyProof.Rows
/-! ### one reading for all contexts of a family -/
theorem xn_eq {σ : St} {H : Hp} {x : Addr → Prop} (k : KX XN σ H x) : x = fun _ => False := funext fun C => propext ⟨fun h => k C H (.refl _) h, fun h => h.elim⟩
theorem univE {ι : Type} {Xf : ι → Cx} {K : PySem.W.Frag} {e : Expr} {de : DE} (hK : ∀ z, (Xf z).K = K) (h : ∀ z, JE (Xf z) XN e de) : ∃ te, (∀ z, PE (Xf z) e te) ∧ Den K XN te de := by
  refine ⟨fun σ H Q => ∃ B0 B H0 ds q, Cfg K B0 B H0 H σ ds ∧ de ds q (fun _ => False) ∧ KE K H0 H q Q, fun z => ?_, fun c hd k kx => ?_⟩
  · intro pins s σ H Q I ⟨B0, B, H0, ds, q, c, hd, k⟩
    obtain ⟨te, p, d⟩ := (h z).ex
    have kk := hK z
    subst kk
    exact p pins s σ H Q I (d c hd k fun _ _ _ h => h.elim)
  · rw [xn_eq kx] at hd
    exact ⟨_, _, _, _, _, c, hd, k⟩
theorem univI {ι : Type} {Xf : ι → Cx} {K : PySem.W.Frag} {ifs : List Expr} {de : DT} (hK : ∀ z, (Xf z).K = K) (h : ∀ z, JIf (Xf z) XN ifs de) : ∃ te, (∀ z, PIf (Xf z) ifs te) ∧ DenT K XN te de := by
  refine ⟨fun σ H Q => ∃ B0 B H0 ds q, Cfg K B0 B H0 H σ ds ∧ de ds q (fun _ => False) ∧ ∀ b H0' H', Ext H0 H H0' H' → q b → Q b H', fun z => ?_, fun c hd k kx => ?_⟩
  · intro pins s σ H Q I ⟨B0, B, H0, ds, q, c, hd, k⟩
    obtain ⟨te, p, d⟩ := (h z).ex
    have kk := hK z
    subst kk
    exact p pins s σ H Q I (d c hd k fun _ _ _ h => h.elim)
  · rw [xn_eq kx] at hd
    exact ⟨_, _, _, _, _, c, hd, k⟩
theorem univG {ι : Type} {Xf : ι → Cx} {K : PySem.W.Frag} {tg : Expr} {g : DG} (hK : ∀ z, (Xf z).K = K) (h : ∀ z, JG (Xf z) tg g) : ∃ t, (∀ z, PG (Xf z) tg t) ∧ DenG K t g := by
  refine ⟨fun v σ H Q => ∃ B0 B H0 ds d q, Cfg K B0 B H0 H σ ds ∧ Rp K H0 d v ∧ g d ds q ∧ ∀ σ' ds', Cfg K B0 B H0 H σ' ds' → Keeps ds ds' → q ds' → Q σ' H, fun z => ?_, fun c r hd k => ⟨_, _, _, _, _, _, c, r, hd, k⟩⟩
  intro pins s σ H v u Q I rv ⟨B0, B, H0, ds, d, q, c, r, hd, k⟩
  obtain ⟨te, p, dd⟩ := (h z).ex
  have kk := hK z
  subst kk
  exact p pins s σ H v u Q I rv (dd c r hd k)
section
variable {X : Cx} {XE : St → XK}
theorem jf_comp {elt tg iter : Expr} {ifs : List Expr} {own : Scope} {pos : Pos} (ts Nc : List Str) (fr : List Nat) {di : DI} {g : DG} {f : DT} {e : DE} (hi : JI X XE tg iter di)
    (hg : ∀ z, JG (cxComp X own (ts ++ Nc) z) tg g) (hf : ∀ z, JIf (cxComp X own (ts ++ Nc) z) XN ifs f) (he : ∀ z, JE (cxComp X own (ts ++ Nc) z) XN elt e) (hc : X.calm = true := by rfl) (c : compOk own X.env.scope Nc = true := by rfl) (hN : fr.map (X.N[·]?) = Nc.map some := by rfl)
    (hs : ∀ x, foldedSetIterable iter X.env x = pure x := by intro _; rfl) : JF X XE (.ListComp elt [⟨tg, iter, ifs, 0⟩] own pos) (dComp ts.length fr di g f e) := by
  obtain ⟨wi, p0, d0⟩ := hi.ex
  obtain ⟨t, p1, d1⟩ := univG (Xf := fun z => cxComp X own (ts ++ Nc) z) (K := X.K) (fun _ => rfl) hg
  obtain ⟨tf, p2, d2⟩ := univI (Xf := fun z => cxComp X own (ts ++ Nc) z) (K := X.K) (fun _ => rfl) hf
  obtain ⟨te, p3, d3⟩ := univE (Xf := fun z => cxComp X own (ts ++ Nc) z) (K := X.K) (fun _ => rfl) he
  exact ⟨_, pe_comp ts Nc fr p0 p1 p2 p3 hc c hN hs, den_comp _ fr d0 d1 d2 d3⟩
theorem je_comp {elt tg iter : Expr} {ifs : List Expr} {own : Scope} {pos : Pos} (ts Nc : List Str) (fr : List Nat) {di : DI} {g : DG} {f : DT} {e : DE} (hi : JI X XE tg iter di)
    (hg : ∀ z, JG (cxComp X own (ts ++ Nc) z) tg g) (hf : ∀ z, JIf (cxComp X own (ts ++ Nc) z) XN ifs f) (he : ∀ z, JE (cxComp X own (ts ++ Nc) z) XN elt e) (hc : X.calm = true := by rfl) (c : compOk own X.env.scope Nc = true := by rfl) (hN : fr.map (X.N[·]?) = Nc.map some := by rfl)
    (hs : ∀ x, foldedSetIterable iter X.env x = pure x := by intro _; rfl) : JE X XE (.ListComp elt [⟨tg, iter, ifs, 0⟩] own pos) (dFz (dComp ts.length fr di g f e)) := (jf_comp ts Nc fr hi hg hf he hc c hN hs).je
/-! ### name = e, the list of e the name's own, or what is owned read in e -/
/-- a new list is the name's own -/
def dSetO (i : Nat) (df : DA) : DS := fun ds e => df ds (fun xs => e.nx (ds.set i (.own xs))) (e.xc ds)
/-- what is owned is read: a value without lists leaves it so, else it is not written any more -/
def dSetP (pk : List Nat) (de : DE) (g : DG) : DS := fun ds e => de (peekAt pk ds) (fun d => g d (if d.imm = true then ds else peekAt pk ds) e.nx) (e.xc ds)
/-- what is owned is read while a new list is made that is the name's own -/
def dSetOP (pk : List Nat) (i : Nat) (df : DA) : DS := fun ds e => df (peekAt pk ds) (fun xs => e.nx ((if D.imms xs = true then ds else peekAt pk ds).set i (.own xs))) (e.xc ds)
end
end L2
namespace L2
open PySem PySem.Spec PyProof.Rows
section
variable {X : Cx} {XE : St → XK}
/-! ### what an owner does to its list -/
/-- a value is reckoned (what is owned may be read, then it bears no list), and the owner at i writes -/
def dPut (pk : List Nat) (i : Nat) (de : DE) (w : List D → D → (List D → Prop) → Prop) : DS := fun ds e => ∃ xs, ds[i]? = some (.own xs) ∧ de (peekAt pk ds) (fun d => (pk = [] ∨ d.imm = true) ∧ w xs d fun ys => e.nx (ds.set i (.own ys))) (e.xc ds)
def wApp : List D → D → (List D → Prop) → Prop := fun xs d q => xs.length < sizeLine ∧ q (xs ++ [d])
def wExt : List D → D → (List D → Prop) → Prop := fun xs d q => match d with
  | .lst ys => xs.length + ys.length ≤ sizeLine ∧ q (xs ++ ys)
  | _ => False
/-- xs[k] = e -/
def dSetI (pk : List Nat) (i : Nat) (dk de : DE) : DS := fun ds e => ∃ xs, ds[i]? = some (.own xs) ∧ de (peekAt pk ds) (fun d => (pk = [] ∨ d.imm = true) ∧ dk ds (fun k => ∃ n j, k = .int n ∧ ixN xs.length n = some j ∧ e.nx (ds.set i (.own (xs.set j d)))) (e.xc ds)) (e.xc ds)
theorem Rps.set {K : PySem.W.Frag} {H : Hp} {d : D} {v : V} (r : Rp K H d v) : ∀ {xs : List D} {vs : List V} (j : Nat), Rps K H xs vs → Rps K H (xs.set j d) (vs.set j v)
  | [], _, _, h => by rw [show _ = [] from h]; rfl
  | x :: xs, _, 0, ⟨u, us, e, _, h⟩ => by subst e; exact ⟨v, us, rfl, r, h⟩
  | x :: xs, _, j + 1, ⟨u, us, e, h1, h⟩ => by subst e; exact ⟨u, _, rfl, h1, Rps.set r j h⟩
/-- y = xs.pop() -/
def dPop (i : Nat) (g : DG) : DS := fun ds e => ∃ xs d, ds[i]? = some (.own (xs ++ [d])) ∧ g d (ds.set i (.own xs)) e.nx
/-! ### fields -/
theorem Rfs.lookup {K : PySem.W.Frag} {H : Hp} {f : Str} {d : D} : ∀ {gs : List (Str × D)} {fs : List (Str × V)}, Rfs K H gs fs → gs.lookup f = some d → ∃ v, fs.lookup f = some v ∧ Rp K H d v
  | [], _, _, e => by cases e
  | (k, d') :: gs, _, ⟨v, us, e, r, h⟩, q => by
    subst e
    rw [List.lookup_cons] at q ⊢
    cases z : f == k with
    | true => rw [z] at q; cases q; exact ⟨v, rfl, r⟩
    | false => rw [z] at q; exact Rfs.lookup h q
def dFld (K : PySem.W.Frag) (f : Str) (de : DE) : DE := fun ds q x => de ds (fun d => ∃ C gs v, d = .obj C gs ∧ Cls K C ∧ NoAttr K C f ∧ gs.lookup f = some v ∧ q v) x
def putD (f : Str) (v : D) : List (Str × D) → List (Str × D)
  | [] => [(f, v)]
  | (g, w) :: r => if g = f then (g, v) :: r else (g, w) :: putD f v r
end
end L2
namespace L2
open PySem PySem.Spec PyProof.Rows
/-! ### what a def promises, by deep values -/
abbrev DSp := List D → (D → Prop) → (Addr → Prop) → Prop
def spD (K : PySem.W.Frag) (g : DSp) : Sp := fun vs H Q E => ∃ H0 xs q x, Same H0 H ∧ Rps K H0 xs vs ∧ g xs q x ∧ KE K H0 H q Q ∧ ∀ C H', Same H H' → x C → E (.ref C) none H'
section
variable {X : Cx} {XE : St → XK}
def dCall (g : DSp) (da : DA) : DE := fun ds q x => da ds (fun xs => g xs q x) x
theorem je_call {k : Nat} {f : Addr} {fd : FuncData} {ps : List Str} {g : DSp} {x : Str} {p pos : Pos} {e : Expr} {es : List Expr} {da : DA} (F : FnOk X.prog X.w X.K X.mg X.base (CXE X.prog X.w) k f fd ps (spD X.K g)) (hr : Room k X.A) (hg : Gl X x) (hm : X.mg x = some (.ref f)) (hk : PySem.W.keepIn X.K (.ref f) = true) (hb : Binds X.K fd ps []) (hx : PassesX X XE)
    (ha : JAs X XE (e :: es) da) (hst : noStars (e :: es) = true := by rfl) (hdb : (x == ("__debug__" : Str)) = false := by decide) : JE X XE (.Call (.Name x p) (e :: es) [] pos) (dCall g da) := by
  obtain ⟨ta, p1, d1⟩ := ha.ex
  refine ⟨_, (qx_call F hr hg hm hk hb hx ⟨p1⟩ hst hdb).get, fun c h k kx => d1 c h (fun vs xs H1 H2 e r h => ?_) kx⟩
  exact ⟨H1, xs, _, _, e.sub, r, h, k.go e, (kx.go e.s)⟩
/-! ### o.m(..) of an object that is not written -/
structure MOkD (P : Program) (w : World) (K : PySem.W.Frag) (mg : Str → Option Value) (base : Heap) (k : Nat) (C : Addr) (m : Str) (g : DSp) : Prop where
  cl : Cls K C
  ok : ∃ f fd ps, Meth K C m f ∧ FnOk P w K mg base (CXE P w) k f fd ps (spD K g) ∧ Binds K fd ps []
def dMeth (P : Program) (w : World) (K : PySem.W.Frag) (mg : Str → Option Value) (base : Heap) (k : Nat) (m : Str) (dO : DE) (da : DA) : DE := fun ds q x => dO ds (fun o => ∃ C gs g, o = .obj C gs ∧ MOkD P w K mg base k C m g ∧ gs.lookup m = none ∧ da ds (fun xs => g (o :: xs) q x) x) x
def tMethX (X : Cx) (XE : St → XK) (k : Nat) (m : Str) (ta : TE) (t : TA) : TE := fun σ H Q => ta σ H fun x H1 => ∃ a C dx fs sp, x = .ref a ∧ H1 a = some (.ins C dx fs) ∧ (Cls X.K C ∧ ∃ f fd ps, Meth X.K C m f ∧ FnOk X.prog X.w X.K X.mg X.base (CXE X.prog X.w) k f fd ps sp ∧ Binds X.K fd ps []) ∧ fs.lookup m = none ∧
  t σ H1 fun vs H2 => sp (x :: vs) H2 Q (XE σ)
/-! ### C() without __init__ -/
/-! ### C(..) -/
/-- __init__'s promise: the arguments behind self, the fields wanted -/
abbrev DIni := List D → (List (Str × D) → Prop) → (Addr → Prop) → Prop
/-- all but the new object is as it was -/
def SameO (a : Addr) (H H' : Hp) : Prop := ∀ b o, b ≠ a → H b = some o → H' b = some o
def spI (K : PySem.W.Frag) (C : Addr) (g : DIni) : Sp := fun vs H Q E => ∃ a dx us H0 xs q x, vs = .ref a :: us ∧ H a = some (.ins C dx []) ∧ H0 a = none ∧ Same H0 H ∧ Rps K H0 xs us ∧ g xs q x ∧
  (∀ gs fs H0' H', SameO a H H' → Same H0 H0' → Same H0' H' → (∀ b, H0 b = none → H b ≠ none → H0' b = none) → H' a = some (.ins C dx fs) → Rfs K H0' gs fs → q gs → Q .non H') ∧ ∀ C' H', SameO a H H' → x C' → E (.ref C') none H'
def dMake (C : Addr) (g : DIni) (dvs : List D) (da : DA) : DE := fun ds q x => da ds (fun xs => g (xs ++ dvs) (fun gs => q (.obj C gs)) x) x
/-! ### self.f = e -/
theorem Rfs.put {K : PySem.W.Frag} {H : Hp} {f : Str} {d : D} {v : V} (r : Rp K H d v) : ∀ {gs : List (Str × D)} {fs : List (Str × V)}, Rfs K H gs fs → Rfs K H (putD f d gs) (putF f v fs)
  | [], _, h => by rw [show _ = [] from h]; exact ⟨v, [], rfl, r, rfl⟩
  | (k, d') :: gs, _, ⟨u, us, e, r', h⟩ => by
    subst e
    unfold putD putF
    split
    · exact ⟨v, us, rfl, r, h⟩
    · exact ⟨u, _, rfl, r', Rfs.put r h⟩
theorem Rfs.length {K : PySem.W.Frag} {H : Hp} : ∀ {gs : List (Str × D)} {fs : List (Str × V)}, Rfs K H gs fs → fs.length = gs.length
  | [], _, h => by rw [show _ = [] from h]; rfl
  | (k, d') :: gs, _, ⟨u, us, e, r', h⟩ => by subst e; rw [List.length_cons, List.length_cons, Rfs.length h]
def dFldW (K : PySem.W.Frag) (pk : List Nat) (i : Nat) (f : Str) (de : DE) : DS := fun ds e => ∃ a dx C gs, ds[i]? = some (.ob a dx C gs) ∧ Cls K C ∧ NoAttr K C f ∧ gs.length < 1000 ∧ de (peekAt pk ds) (fun d => e.nx ((peekAt pk ds).set i (.ob a dx C (putD f d gs)))) (e.xc ds)
end
/-! ### raise, try -/
section
variable {P : Program} {w : World} {K : PySem.W.Frag} {mg : Str → Option Value} {base : Heap} {N : List Str} {qual : Str} {scope : Scope} {f C : Addr} {cdv : Value} {A : Around} {outer : List Env} {s : Shared} {H : Hp} {E : XK}
  {x : Str} {np cpos pos : Pos} {e₀ : Expr} {rest : List Expr} {da : DA}
def dRaise (C : Addr) (pk : List Nat) (da : DA) : DS := fun ds e => da (peekAt pk ds) (fun xs => xs.length ≤ sizeLine ∧ e.xc ds C) (e.xc ds)
theorem js_raise (pk : List Nat) (c : XCls K C) (hm : mg x = some (.ref C)) (ha : JAs (cxOf (CXE P w) P w K mg base N qual scope f cdv A outer s H E) (fun _ => E) (e₀ :: rest) da)
    (hg : Gl (cxOf (CXE P w) P w K mg base N qual scope f cdv A outer s H E) x := by rfl) (hst : noStars (e₀ :: rest) = true := by rfl) (hdb : (x == ("__debug__" : Str)) = false := by decide) :
    JS (cxOf (CXE P w) P w K mg base N qual scope f cdv A outer s H E) (fun _ => E) (.Raise (some (.Call (.Name x np) (e₀ :: rest) [] cpos)) none pos) (dRaise C pk da) := by
  obtain ⟨ta, p1, d1⟩ := ha.ex
  refine ⟨_, (qx_raise c hm ⟨p1⟩ hg hst hdb).get, fun {B0 B H0 H σ ds e T} c h o => ?_⟩
  obtain ⟨H1, c1, _⟩ := c.peekAt pk
  exact d1 c1 h (fun vs xs H2 H3 ee r hb => ⟨by rw [r.length]; exact hb.1, o.kx c C H3 ee.s hb.2⟩) (o.kx c)
end
section
variable {X : Cx} {XE : St → XK}
theorem univS {ι : Type} {Xf : ι → Cx} {K : PySem.W.Frag} {XE' : St → XK} {st : List Stmt} {s : DS} (hK : ∀ z, (Xf z).K = K) (h : ∀ z, JSs (Xf z) XE' st s) : ∃ t, (∀ z, PSs (Xf z) st t) ∧ DenS K XE' t s := by
  refine ⟨fun T σ H => ∃ B0 B H0 ds e, Cfg K B0 B H0 H σ ds ∧ s ds e ∧ EndsOk K XE' B0 B e T, fun z => ?_, fun c hs o => ⟨_, _, _, _, _, c, hs, o⟩⟩
  intro pins sh σ H T I ⟨B0, B, H0, ds, e, c, hs, o⟩
  obtain ⟨t, p, d⟩ := (h z).ex
  have kk := hK z
  subst kk
  exact p pins sh σ H T I (d c hs o)
/-- try: b except W as n: s -/
def dTryAs (K : PySem.W.Frag) (W : Addr) (j : Nat) (b s : DS) : DS := fun ds e => ∃ x : DSt → Addr → Prop, b ds { e with xc := x } ∧ ∀ ds' C, x ds' C → PySem.W.subIn K (.ref C) (.ref W) = some true ∧
  s (ds'.set j (.v (.exc C))) { e with nx := fun d2 => e.nx (d2.set j .un), bk := fun d2 => e.bk (d2.set j .un), ct := fun d2 => e.ct (d2.set j .un), xc := fun _ _ => False }
theorem js_tryAs {K : PySem.W.Frag} {x n : Str} {W : Addr} {j : Nat} {body suite : List Stmt} {b₀ : Stmt} {np hpos pos : Pos} {b s : DS} (hK : X.K = K) (c : WCls X.K W) (hg : Gl X x) (hm : X.mg x = some (.ref W))
    (hN : X.N.Nodup) (hj : X.N[j]? = some n) (hb : ∀ XE', ∀ pins, JSs (tryCx X pins XE') XE' body b) (hs : ∀ e, JSs (X.handling e) XN (b₀ :: suite) s)
    (hcalm : X.calm = true := by rfl) (hst : X.stack = X.env :: X.outer := by rfl) (hfr : X.env.frame = some X.env.locals := by rfl) (hex : X.ex = [] := by rfl) (hl : X.env.scope.names.lookup n = some .local := by rfl) (hlk : X.env.kindOf n = some .local := by rfl)
    (hfn : X.fn n = true := by rfl) (hdb : (x == ("__debug__" : Str)) = false := by decide) :
    JS X XE (.Try body [.ExceptHandler (some (.Name x np)) (some n) (b₀ :: suite) hpos] [] [] pos) (dTryAs K W j b s) := by
  subst hK
  have hb' : ∀ XE', ∃ t, (∀ pins, PSs (tryCx X pins XE') body t) ∧ DenS X.K XE' t b := fun XE' => univS (Xf := fun pins => tryCx X pins XE') (fun _ => rfl) (hb XE')
  obtain ⟨ts, p2, d2⟩ := univS (Xf := fun e => X.handling e) (K := X.K) (fun _ => rfl) hs
  refine ⟨_, ps_tryAs (tb := fun XE' => (hb' XE').choose) c hg hm hN hj (fun pins XE' => (hb' XE').choose_spec.1 pins) p2 hcalm hst hfr hex hl hlk hfn hdb, fun {B0 B H0 H σ ds e T} c h o => ?_⟩
  obtain ⟨xx, h1, h2⟩ := h
  refine ⟨fun σ' cls _ H' => ∃ H0' ds' C, cls = .ref C ∧ Cfg X.K B0 B H0' H' σ' ds' ∧ xx ds' C, ?_, ?_⟩
  · exact (hb' _).choose_spec.2 c h1 ⟨o.nx, o.rt, fun H0 H σ ds C c' h' => ⟨H0, ds, C, rfl, c', h'⟩, o.bk, o.ct⟩
  · rintro σ' H' cls ⟨H0', ds', C, rfl, c', hx⟩
    obtain ⟨sb, hh⟩ := h2 ds' C hx
    refine ⟨C, rfl, sb, fun ex hexn => ?_⟩
    have ee : Ext H0' H' (upd H0' ex (ExcO ex C)) (upd H' ex (ExcO ex C)) := .put c'.sub hexn
    have c3 := (c'.go ee).setV j (d := .exc C) (v := .ref ex) ⟨ex, rfl, upd_same⟩
    exact d2 c3 hh ⟨fun H0 H σ ds c4 h4 => o.nx _ _ _ _ (c4.unset j) h4, o.rt, fun _ _ _ _ _ _ h => h.elim, fun H0 H σ ds c4 h4 => o.bk _ _ _ _ (c4.unset j) h4, fun H0 H σ ds c4 h4 => o.ct _ _ _ _ (c4.unset j) h4⟩
end
/-! ### a def -/
section
variable {P : Program} {w : World} {K : PySem.W.Frag} {mg : Str → Option Value} {base : Heap}
def dstart (N : List Str) (xs : List D) : DSt := xs.map .v ++ List.replicate (N.length - xs.length) .un
theorem Rps.at {K : PySem.W.Frag} {H : Hp} : ∀ {xs : List D} {vs : List V} {i : Nat} {d : D}, Rps K H xs vs → xs[i]? = some d → ∃ v, vs[i]? = some v ∧ Rp K H d v := fun h e => h.get e
theorem cfg_start {H0 H : Hp} {N : List Str} {xs : List D} {vs : List V} (s : Same H0 H) (r : Rps K H0 xs vs) (hl : xs.length ≤ N.length) : Cfg K H0 H H0 H (start N vs) (dstart N xs) := by
  have no : ∀ (i : Nat) t, (dstart N xs)[i]? = some t → t.isOwn = false := fun i t e => by
    unfold dstart at e
    by_cases h : i < xs.length
    · rw [List.getElem?_append_left (by rw [List.length_map]; exact h), List.getElem?_map, List.getElem?_eq_getElem h] at e
      cases e; rfl
    · rw [List.getElem?_append_right (by rw [List.length_map]; omega), List.length_map, List.getElem?_replicate] at e
      split at e
      · cases e; rfl
      · cases e
  refine ⟨.refl s, fun i t e => ?_, fun i t a e q => ?_, fun i j t u a _ e _ q => ?_, ?_⟩
  · unfold dstart at e
    unfold start
    by_cases h : i < xs.length
    · rw [List.getElem?_append_left (by rw [List.length_map]; exact h), List.getElem?_map, List.getElem?_eq_getElem h] at e
      cases e
      obtain ⟨v, e1, r1⟩ := r.get (List.getElem?_eq_getElem h)
      rw [List.getElem?_append_left (by rw [List.length_map, r.length]; exact h), List.getElem?_map, e1]
      exact ⟨v, rfl, r1⟩
    · rw [List.getElem?_append_right (by rw [List.length_map]; omega), List.length_map, List.getElem?_replicate] at e
      split at e
      · cases e; trivial
      · cases e
  · rw [no i t e] at q; cases q
  · rw [no i t e] at q; cases q
  · unfold start dstart
    simp only [List.length_append, List.length_map, List.length_replicate, r.length]
/-- THE RULE for a def, by deep values -/
theorem Fun.okJ {x qual : Str} {st : Stmt} {f : Addr} {fd : FuncData} {N ps : List Str} {k : Nat} {g : DSp} (F : Fun K x qual st f fd) (S : FnScope N ps (defScope st)) (len : ∀ xs q x, g xs q x → xs.length = ps.length)
    (hbody : ∀ (cdv : Value) (A : Around) (outer : List Env) (s : Shared) (H : Hp) (E : XK), Room k (A.deeper (envOfC qual (defScope st) s.heap.objs.size f cdv)) →
      ∃ b, JSs (cxOf (CXE P w) P w K mg base N qual (defScope st) f cdv A outer s H E) (fun _ => E) (defBody st) b ∧ ∀ xs q x, g xs q x → b (dstart N xs) { nx := fun _ => q .non, rt := q, xc := fun _ => x }) : FnOk P w K mg base (CXE P w) (k + 1) f fd ps (spD K g) := by
  have hpl : ps.length ≤ N.length := by have := congrArg List.length S.pre; rw [List.length_take] at this; omega
  refine F.okX S (fun vs H Q E ⟨H0, xs, q, x, s, r, h, _⟩ => by rw [r.length]; exact len xs q x h) fun cdv A outer s H vs Q E hr hsp => ?_
  obtain ⟨H0, xs, q, x, s0, r, h, kq, kx⟩ := hsp
  obtain ⟨b, j, hb⟩ := hbody cdv A outer s H E hr
  obtain ⟨t, p, d⟩ := j.ex
  refine ⟨t, ⟨p⟩, d (cfg_start s0 r (by rw [len xs q x h]; exact hpl)) (hb xs q x h) ⟨fun H0' H' σ ds c hq => kq _ .non _ _ c.ext rfl hq, fun v d H0' H' e rv hq => kq _ _ _ _ e rv hq, fun H0' H' σ ds C c hx => kx C H' c.ext.s hx, fun _ _ _ _ _ h => h.elim, fun _ _ _ _ _ h => h.elim⟩⟩
end
end L2
namespace L2
open PySem PySem.Spec PyProof.Rows
/-! ### x += e of numbers and texts; the law at the top -/
section
variable {X : Cx} {XE : St → XK}
def dAug (i : Nat) (de : DE) (g : Int → Int → Int) : DS := fun ds e => ∃ a, ds[i]? = some (.v (.int a)) ∧ de ds (fun d => ∃ b, d = .int b ∧ e.nx (ds.set i (.v (.int (g a b))))) (e.xc ds)
end
theorem FnOk.noX {P : Program} {w : World} {K : PySem.W.Frag} {mg : Str → Option Value} {base : Heap} {k : Nat} {f : Addr} {fd : FuncData} {ps : List Str} {sp sp' : Sp} (F : FnOk P w K mg base (CXE P w) k f fd ps sp)
    (h : ∀ vs H Q E, sp' vs H Q E → sp vs H Q (fun _ _ _ => False)) : FnOk P w K mg base CX0 k f fd ps sp' := by
  refine ⟨fun vs H Q E q => F.len vs H Q _ (h _ _ _ _ q), fun A outer s H args us vs Q E hr he hb hv hs => ?_⟩
  refine codeAny_mono (F.run A outer s H args us vs Q _ hr he hb hv (h _ _ _ _ hs)) fun r s' hq => ?_
  cases r with
  | ok fl => cases fl <;> exact hq
  | error e =>
    obtain ⟨_, _, _, _, _, _, _, _, _, _, _, _, _, _, z⟩ := hq
    exact z.elim
/-- what a law's def is to promise -/
def spLaw (K : PySem.W.Frag) : Sp := fun vs H Q _ => ∃ (a : Addr) (ns : List Int), vs = [.ref a] ∧ SqL K H a (ns.map V.int) ∧ ns.length ≤ 63 ∧ ∀ H', Q (.bl true) H'
def gLaw : DSp := fun xs q _ => ∃ ns : List Int, xs = [.scr (ns.map .int)] ∧ ns.length ≤ 63 ∧ q (.bl true)
theorem rps_ints {K : PySem.W.Frag} {H : Hp} : ∀ ns : List Int, Rps K H (ns.map .int) (ns.map V.int)
  | [] => rfl
  | n :: ns => ⟨.int n, _, rfl, rfl, rps_ints ns⟩
theorem FnOk.law {P : Program} {w : World} {K : PySem.W.Frag} {mg : Str → Option Value} {base : Heap} {k : Nat} {f : Addr} {fd : FuncData} {ps : List Str} (F : FnOk P w K mg base (CXE P w) k f fd ps (spD K gLaw)) : FnOk P w K mg base CX0 k f fd ps (spLaw K) :=
  F.noX fun vs H Q E ⟨a, ns, e, hS, hl, kq⟩ => ⟨H, [.scr (ns.map .int)], fun d => d = .bl true, fun _ => False, .refl _, by subst e; exact ⟨_, [], rfl, ⟨a, _, rfl, hS, rps_ints ns⟩, rfl⟩, ⟨ns, rfl, hl, rfl⟩, fun v d H0' H' e r z => by subst z; rw [show v = .bl true from r]; exact kq H', fun _ _ _ h => h.elim⟩
end L2
namespace L2
open PySem PySem.Spec PyProof.Rows
/-! ### readings as rewrite rules: what each operation asks where its values are known -/
section
variable {q : D → Prop} {x : Addr → Prop}
theorem z_add_i {i j : Int} : dAdd (.int i) (.int j) q = q (.int (i + j)) := rfl
theorem z_add_s {i j : Str} : dAdd (.str i) (.str j) q = (i.length + j.length ≤ sizeLine ∧ q (.str (i ++ j))) := rfl
theorem z_add_l {i j : List D} : dAdd (.lst i) (.lst j) q = (i.length + j.length ≤ sizeLine ∧ q (.lst (i ++ j))) := rfl
theorem z_add_c {i j : List D} : dAdd (.scr i) (.lst j) q = (i.length + j.length ≤ sizeLine ∧ q (.lst (i ++ j))) := rfl
theorem z_add_t {i j : List D} : dAdd (.tup i) (.tup j) q = (i ≠ [] ∧ i.length + j.length ≤ sizeLine ∧ q (.tup (i ++ j))) := rfl
theorem z_ii {C : Int → Int → Prop} {g : Int → Int → D} {i j : Int} : dII C g (.int i) (.int j) q = (C i j ∧ q (g i j)) := rfl
theorem z_i0 {g : Int → Int → D} {i j : Int} : dI0 g (.int i) (.int j) q = q (g i j) := rfl
theorem z_mul {i j : Int} : dMul (.int i) (.int j) q = (CMulX i j ∧ q (.int (i * j))) := rfl
theorem z_rep {xs : List D} {k : Int} : dMul (.lst xs) (.int k) q = (-(2 ^ 63) ≤ k ∧ k < 2 ^ 63 ∧ xs.length * k.toNat ≤ sizeLine ∧ q (.lst (List.replicate k.toNat xs).flatten)) := rfl
theorem z_lt {i j : Int} : dLt (.int i) (.int j) q = q (.bl (decide (i < j))) := rfl
theorem z_le {i j : Int} : dLe (.int i) (.int j) q = q (.bl (decide (i ≤ j))) := rfl
theorem z_gt {i j : Int} : dGt (.int i) (.int j) q = q (.bl (decide (j < i))) := rfl
theorem z_ge {i j : Int} : dGe (.int i) (.int j) q = q (.bl (decide (j ≤ i))) := rfl
theorem z_isN {a : D} : dIsN a .non q = q (.bl a.isNon) := rfl
theorem z_notN {a : D} : dNotN a .non q = q (.bl (!a.isNon)) := rfl
theorem z_ix_l {xs : List D} {i : Int} : dIx (.lst xs) (.int i) q = ∃ d, atI xs i = some d ∧ q d := rfl
theorem z_ix_c {xs : List D} {i : Int} : dIx (.scr xs) (.int i) q = ∃ d, atI xs i = some d ∧ q d := rfl
theorem z_ix_t {xs : List D} {i : Int} : dIx (.tup xs) (.int i) q = ∃ d, atI xs i = some d ∧ q d := rfl
theorem z_ix_s {z : Str} {i : Int} : dIx (.str z) (.int i) q = (z.length ≤ sizeLine ∧ ∃ c, atI z.cps.toList i = some c ∧ q (.str ⟨#[c]⟩)) := rfl
theorem z_sl_l {xs : List D} {lo hi : Option Int} : dSl (.lst xs) lo hi q = q (.lst (cutD xs lo hi)) := rfl
theorem z_sl_c {xs : List D} {lo hi : Option Int} : dSl (.scr xs) lo hi q = q (.lst (cutD xs lo hi)) := rfl
theorem z_sl_s {y : Str} {lo hi : Option Int} : dSl (.str y) lo hi q = (y.length ≤ sizeLine ∧ q (.str (Txt.slice y lo hi))) := rfl
theorem z_len_l {xs : List D} : dLen [.lst xs] q = q (.int xs.length) := rfl
theorem z_len_c {xs : List D} : dLen [.scr xs] q = q (.int xs.length) := rfl
theorem z_len_t {xs : List D} : dLen [.tup xs] q = q (.int xs.length) := rfl
theorem z_len_s {z : Str} : dLen [.str z] q = (z.length ≤ sizeLine ∧ q (.int z.length)) := rfl
theorem z_abs {i : Int} : dAbs [.int i] q = q (.int (if i < 0 then -i else i)) := rfl
theorem z_max {i j : Int} : dMax2 [.int i, .int j] q = q (.int (if j > i then j else i)) := rfl
theorem z_int {i : Int} : dInt1 [.int i] q = q (.int i) := rfl
theorem z_int_b {b : Bool} : dInt1 [.bl b] q = q (.int (if b then 1 else 0)) := rfl
theorem z_str {i : Int} : dStr1 [.int i] q = (i.natAbs.log2 < 1920 ∧ q (.str (toString i))) := rfl
theorem z_list_l {xs : List D} : dList1 [.lst xs] q = q (.lst xs) := rfl
theorem z_list_c {xs : List D} : dList1 [.scr xs] q = q (.lst xs) := rfl
theorem z_list_t {xs : List D} : dList1 [.tup xs] q = q (.lst xs) := rfl
theorem z_tup_l {xs : List D} : dTup1 [.lst xs] q = q (.tup xs) := rfl
theorem z_tup_t {xs : List D} : dTup1 [.tup xs] q = q (.tup xs) := rfl
theorem z_eq_i {b : Bool} {i j : Int} : dEq b (.int i) (.int j) q = q (.bl (if b then !decide (i = j) else decide (i = j))) := by
  show (true = true ∧ true = true ∧ true = true ∧ _) = _
  simp only [D.toV, true_and, V.int.injEq]
theorem z_eq_s {b : Bool} {i j : Str} : dEq b (.str i) (.str j) q = q (.bl (if b then !decide (i = j) else decide (i = j))) := by
  show (true = true ∧ true = true ∧ true = true ∧ _) = _
  simp only [D.toV, true_and, V.str.injEq]
theorem z_eq_b {b : Bool} {i j : Bool} : dEq b (.bl i) (.bl j) q = q (.bl (if b then !decide (i = j) else decide (i = j))) := by
  show (true = true ∧ true = true ∧ true = true ∧ _) = _
  simp only [D.toV, true_and, V.bl.injEq]
theorem z_eq_t {b : Bool} {xs ys : List D} : dEq b (.tup xs) (.tup ys) q = (eqOks (D.eqOk 40) xs ys = true ∧ q (.bl (if b then !D.eqbs xs ys else D.eqbs xs ys))) := rfl
theorem z_eq_l {b : Bool} {xs ys : List D} : dEq b (.lst xs) (.lst ys) q = (eqOks (D.eqOk 40) xs ys = true ∧ q (.bl (if b then !D.eqbs xs ys else D.eqbs xs ys))) := rfl
theorem z_in_s {b : Bool} {i j : Str} : dIn b (.str i) (.str j) q = q (.bl (if b then !inS i j else inS i j)) := rfl
theorem flat_strs (zs : List Str) : (zs.map D.str).all D.flat = true := by rw [List.all_map, List.all_eq_true]; intro _ _; rfl
theorem flat_ints (zs : List Int) : (zs.map D.int).all D.flat = true := by rw [List.all_map, List.all_eq_true]; intro _ _; rfl
theorem inD_strs (a : Str) (zs : List Str) : inD (.str a) (zs.map .str) = decide (a ∈ zs) := by
  unfold inD
  rw [List.any_map]
  induction zs with
  | nil => rfl
  | cons z zs ih =>
    rw [List.any_cons, ih]
    have : ((fun y => D.eqF y (.str a)) ∘ D.str) z = decide (z = a) := by
      show (z == a) = _
      rw [Bool.eq_iff_iff]; simp only [beq_iff_eq, decide_eq_true_eq]
    rw [this, Bool.eq_iff_iff]
    simp only [Bool.or_eq_true, decide_eq_true_eq, List.mem_cons]
    exact or_congr eq_comm Iff.rfl
theorem inD_ints (a : Int) (zs : List Int) : inD (.int a) (zs.map .int) = decide (a ∈ zs) := by
  unfold inD
  rw [List.any_map]
  induction zs with
  | nil => rfl
  | cons z zs ih =>
    rw [List.any_cons, ih]
    have : ((fun y => D.eqF y (.int a)) ∘ D.int) z = decide (z = a) := by
      show (z == a) = _
      rw [Bool.eq_iff_iff]; simp only [beq_iff_eq, decide_eq_true_eq]
    rw [this, Bool.eq_iff_iff]
    simp only [Bool.or_eq_true, decide_eq_true_eq, List.mem_cons]
    exact or_congr eq_comm Iff.rfl
theorem z_in_ls {b : Bool} {a : Str} {zs : List Str} : dIn b (.str a) (.lst (zs.map .str)) q = q (.bl (if b then !decide (a ∈ zs) else decide (a ∈ zs))) := by
  show (true = true ∧ _ ∧ _) = _
  rw [flat_strs, inD_strs]
  simp only [true_and]
theorem z_in_ts {b : Bool} {a : Str} {zs : List Str} : dIn b (.str a) (.tup (zs.map .str)) q = q (.bl (if b then !decide (a ∈ zs) else decide (a ∈ zs))) := by
  show (true = true ∧ _ ∧ _) = _
  rw [flat_strs, inD_strs]
  simp only [true_and]
theorem z_in_li {b : Bool} {a : Int} {zs : List Int} : dIn b (.int a) (.lst (zs.map .int)) q = q (.bl (if b then !decide (a ∈ zs) else decide (a ∈ zs))) := by
  show (true = true ∧ _ ∧ _) = _
  rw [flat_ints, inD_ints]
  simp only [true_and]
theorem bools_map (bs : List Bool) : bools (bs.map .bl) = some bs := by
  induction bs with
  | nil => rfl
  | cons b bs ih => rw [List.map_cons]; unfold bools; rw [ih]; rfl
theorem texts_map (bs : List Str) : texts (bs.map .str) = some bs := by
  induction bs with
  | nil => rfl
  | cons b bs ih => rw [List.map_cons]; unfold texts; rw [ih]; rfl
theorem z_all {bs : List Bool} : dAll [.lst (bs.map .bl)] q = q (.bl (bs.all id)) := by
  show (∃ cs, bools _ = some cs ∧ _) = _
  rw [bools_map]
  simp only [Option.some.injEq, exists_eq_left']
theorem z_any {bs : List Bool} : dAny [.lst (bs.map .bl)] q = q (.bl (bs.any id)) := by
  show (∃ cs, bools _ = some cs ∧ _) = _
  rw [bools_map]
  simp only [Option.some.injEq, exists_eq_left']
theorem z_join {sep : Str} {ys : List Str} : dJoin (.str sep) [.lst (ys.map .str)] q = ((ys.map (·.length)).sum + ys.length * sep.length ≤ 16777216 ∧ q (.str (Txt.join sep ys))) := by
  show (∃ cs, texts _ = some cs ∧ _) = _
  rw [texts_map]
  simp only [Option.some.injEq, exists_eq_left']
theorem z_allf {α : Type} {f : α → Bool} {xs : List α} : dAll [.lst (xs.map fun x => .bl (f x))] q = q (.bl (xs.all f)) := by
  have := z_all (q := q) (bs := xs.map f)
  rw [List.map_map, List.all_map] at this
  exact this
theorem z_anyf {α : Type} {f : α → Bool} {xs : List α} : dAny [.lst (xs.map fun x => .bl (f x))] q = q (.bl (xs.any f)) := by
  have := z_any (q := q) (bs := xs.map f)
  rw [List.map_map, List.any_map] at this
  exact this
theorem z_joinf {α : Type} {f : α → Str} {xs : List α} {sep : Str} : dJoin (.str sep) [.lst (xs.map fun x => .str (f x))] q = ((xs.map fun x => (f x).length).sum + xs.length * sep.length ≤ 16777216 ∧ q (.str (Txt.join sep (xs.map f)))) := by
  have := z_join (q := q) (sep := sep) (ys := xs.map f)
  rw [List.map_map, List.map_map, List.length_map] at this
  exact this
theorem z_lower {y : Str} : dLower (.str y) [] q = (y.length ≤ 5592405 ∧ q (.str (Txt.lower y))) := rfl
theorem z_upper {y : Str} : dUpper (.str y) [] q = (y.length ≤ 5592405 ∧ q (.str (Txt.upper y))) := rfl
theorem z_isi {K : PySem.W.Frag} {d : D} {t n : String} (ht : d.tyN = some t) (hn : n ∈ types7) (he : dIsi K [d, .ty n] q = ∃ t, d.tyN = some t ∧ n ∈ types7 ∧ q (.bl (isTy t n))) : dIsi K [d, .ty n] q = q (.bl (isTy t n)) := by
  rw [he, ht]
  simp only [Option.some.injEq, exists_eq_left', hn, true_and]
variable {K : PySem.W.Frag}
theorem z_isi_ii {i : Int} : dIsi K [.int i, .ty "int"] q = q (.bl true) := z_isi (t := "int") rfl (by decide) rfl
theorem z_isi_ib {i : Int} : dIsi K [.int i, .ty "bool"] q = q (.bl false) := z_isi (t := "int") rfl (by decide) rfl
theorem z_isi_is {i : Int} : dIsi K [.int i, .ty "str"] q = q (.bl false) := z_isi (t := "int") rfl (by decide) rfl
theorem z_isi_it {i : Int} : dIsi K [.int i, .ty "tuple"] q = q (.bl false) := z_isi (t := "int") rfl (by decide) rfl
theorem z_isi_il {i : Int} : dIsi K [.int i, .ty "list"] q = q (.bl false) := z_isi (t := "int") rfl (by decide) rfl
theorem z_isi_bb {i : Bool} : dIsi K [.bl i, .ty "bool"] q = q (.bl true) := z_isi (t := "bool") rfl (by decide) rfl
theorem z_isi_bi {i : Bool} : dIsi K [.bl i, .ty "int"] q = q (.bl true) := z_isi (t := "bool") rfl (by decide) rfl
theorem z_isi_ss {i : Str} : dIsi K [.str i, .ty "str"] q = q (.bl true) := z_isi (t := "str") rfl (by decide) rfl
theorem z_isi_si {i : Str} : dIsi K [.str i, .ty "int"] q = q (.bl false) := z_isi (t := "str") rfl (by decide) rfl
theorem z_isi_st {i : Str} : dIsi K [.str i, .ty "tuple"] q = q (.bl false) := z_isi (t := "str") rfl (by decide) rfl
theorem z_isi_tt {i : List D} : dIsi K [.tup i, .ty "tuple"] q = q (.bl true) := z_isi (t := "tuple") rfl (by decide) rfl
theorem z_isi_ti {i : List D} : dIsi K [.tup i, .ty "int"] q = q (.bl false) := z_isi (t := "tuple") rfl (by decide) rfl
theorem z_isi_ts {i : List D} : dIsi K [.tup i, .ty "str"] q = q (.bl false) := z_isi (t := "tuple") rfl (by decide) rfl
theorem z_isi_ll {i : List D} : dIsi K [.lst i, .ty "list"] q = q (.bl true) := z_isi (t := "list") rfl (by decide) rfl
theorem z_isi_lt {i : List D} : dIsi K [.lst i, .ty "tuple"] q = q (.bl false) := z_isi (t := "list") rfl (by decide) rfl
theorem z_isi_l2 {i : List D} : dIsi K [.lst i, .tup [.ty "list", .ty "tuple"]] q = q (.bl true) := by
  show (∃ as b, tys _ = some as ∧ _) = _
  refine propext ⟨?_, fun h => ⟨_, true, rfl, by with_unfolding_all rfl, h⟩⟩
  rintro ⟨as, b, e, k, h⟩
  cases e
  have : PySem.W.kitAny K (.type "list") (["list", "tuple"].map Value.type) = some true := by with_unfolding_all rfl
  rw [this] at k
  cases k
  exact h
theorem z_isi_t2 {i : List D} : dIsi K [.tup i, .tup [.ty "list", .ty "tuple"]] q = q (.bl true) := by
  show (∃ as b, tys _ = some as ∧ _) = _
  refine propext ⟨?_, fun h => ⟨_, true, rfl, by with_unfolding_all rfl, h⟩⟩
  rintro ⟨as, b, e, k, h⟩
  cases e
  have : PySem.W.kitAny K (.type "tuple") (["list", "tuple"].map Value.type) = some true := by with_unfolding_all rfl
  rw [this] at k
  cases k
  exact h
theorem z_tru_n {k : Bool → Prop} : D.tru .non k = k false := rfl
theorem z_tru_b {k : Bool → Prop} {b : Bool} : D.tru (.bl b) k = k b := rfl
theorem z_tru_i {k : Bool → Prop} {i : Int} : D.tru (.int i) k = k (i != 0) := rfl
theorem z_tru_s {k : Bool → Prop} {y : Str} : D.tru (.str y) k = (y.length ≤ sizeLine ∧ k ((y.length : Int) != 0)) := rfl
theorem z_tru_l {k : Bool → Prop} {xs : List D} : D.tru (.lst xs) k = k (!xs.isEmpty) := rfl
theorem z_tru_t {k : Bool → Prop} {xs : List D} : D.tru (.tup xs) k = k (!xs.isEmpty) := rfl
theorem z_non_n : D.isNon .non = true := rfl
theorem z_non_i {i : Int} : D.isNon (.int i) = false := rfl
theorem z_non_b {i : Bool} : D.isNon (.bl i) = false := rfl
theorem z_non_s {i : Str} : D.isNon (.str i) = false := rfl
theorem z_non_t {i : List D} : D.isNon (.tup i) = false := rfl
theorem z_non_l {i : List D} : D.isNon (.lst i) = false := rfl
theorem z_non_o {C : Addr} {i : List (Str × D)} : D.isNon (.obj C i) = false := rfl
theorem z_non_e {C : Addr} : D.isNon (.exc C) = false := rfl
theorem pmod_lit {i : Int} {n : Nat} : pmod i (no_index (@OfNat.ofNat Int n instOfNat)) = i % (@OfNat.ofNat Int n instOfNat) := by
  unfold pmod
  rw [if_pos]
  exact Int.natCast_nonneg n
theorem pdiv_lit {i : Int} {n : Nat} : pdiv i (no_index (@OfNat.ofNat Int n instOfNat)) = i / (@OfNat.ofNat Int n instOfNat) := by
  unfold pdiv
  rw [if_pos]
  exact Int.natCast_nonneg n
theorem pmod_pos {i j : Int} (h : 0 < j) : pmod i j = i % j := by unfold pmod; rw [if_pos (by omega)]
end
/-! ### loops and comprehensions -/
theorem loop_ind {g : DG} {b : DS} {e : DEnds} {xs : List D} {ds : DSt} (I : Nat → DSt → Prop) (h0 : I 0 ds)
    (hs : ∀ i x ds N, xs[i]? = some x → I i ds → (∀ ds', I (i + 1) ds' → N ds') → g x ds fun ds' => b ds' { e with nx := N, ct := N, bk := e.nx })
    (he : ∀ ds, I xs.length ds → e.nx ds) : loopD g b e xs ds := by
  have key : ∀ (k : Nat) (ys : List D) (i : Nat) (ds : DSt), ys.length = k → xs.drop i = ys → i ≤ xs.length → I i ds → loopD g b e ys ds := by
    intro k
    induction k with
    | zero =>
      intro ys i ds hl hd hi h
      have : ys = [] := List.eq_nil_of_length_eq_zero hl
      subst this
      have : i = xs.length := by have := List.drop_eq_nil_iff.mp hd; omega
      subst this
      exact he ds h
    | succ k ih =>
      intro ys i ds hl hd hi h
      cases ys with
      | nil => cases hl
      | cons y ys =>
        have hi2 : i < xs.length := by
          rcases Nat.lt_or_ge i xs.length with z | z
          · exact z
          · rw [List.drop_eq_nil_of_le z] at hd; cases hd
        rw [List.drop_eq_getElem_cons hi2] at hd
        cases hd
        unfold loopD
        exact hs i _ ds _ (List.getElem?_eq_getElem hi2) h fun ds' h' => ih _ (i + 1) ds' (by simp at hl ⊢; omega) rfl hi2 h'
  exact key xs.length xs 0 ds rfl rfl (Nat.zero_le _) h0
/-- .. over a list of typed things -/
theorem loop_map {α : Type} {c : α → D} {g : DG} {b : DS} {e : DEnds} {xs : List α} {ds : DSt} (I : Nat → DSt → Prop) (h0 : I 0 ds)
    (hs : ∀ i x ds N, xs[i]? = some x → I i ds → (∀ ds', I (i + 1) ds' → N ds') → g (c x) ds fun ds' => b ds' { e with nx := N, ct := N, bk := e.nx })
    (he : ∀ ds, I xs.length ds → e.nx ds) : loopD g b e (xs.map c) ds := by
  refine loop_ind I h0 (fun i x ds N hx hi hn => ?_) (by rw [List.length_map]; exact he)
  rw [List.getElem?_map] at hx
  cases q : xs[i]? with
  | none => rw [q] at hx; cases hx
  | some y => rw [q] at hx; cases hx; exact hs i y ds N q hi hn
theorem comp_ind {α : Type} {c : α → D} {g : DG} {f : DT} {e : DE} {q : List D → Prop} {xs : List α} {ds : DSt} {acc : List D} (C : DSt → Prop) (p : α → Bool) (h : α → D) (h0 : C ds)
    (hs : ∀ x ∈ xs, ∀ ds (N0 : DSt → Prop) (N1 : DSt → D → Prop), C ds → (p x = false → ∀ ds', C ds' → N0 ds') → (p x = true → ∀ ds', C ds' → N1 ds' (h x)) → g (c x) ds fun ds1 => f ds1 (fun b => if b = true then e ds1 (fun y => N1 ds1 y) (fun _ => False) else N0 ds1) (fun _ => False))
    (hl : acc.length + xs.length ≤ sizeLine) (hq : q (acc ++ (xs.filter p).map h)) : compD g f e q (xs.map c) ds acc := by
  induction xs generalizing ds acc with
  | nil =>
    unfold compD
    simpa using hq
  | cons x xs ih =>
    rw [List.map_cons]
    unfold compD
    refine hs x (List.mem_cons_self ..) ds _ (fun ds1 y => acc.length < sizeLine ∧ compD g f e q (xs.map c) ds1 (acc ++ [y])) h0 (fun hp ds' h' => ?_) (fun hp ds' h' => ?_)
    · refine ih h' (fun y hy => hs y (List.mem_cons_of_mem _ hy)) (by simp at hl ⊢; omega) ?_
      rw [List.filter_cons, hp] at hq
      exact hq
    · refine ⟨by simp at hl; omega, ih h' (fun y hy => hs y (List.mem_cons_of_mem _ hy)) (by simp at hl ⊢; omega) ?_⟩
      rw [List.filter_cons, hp, if_pos rfl, List.map_cons] at hq
      simpa using hq
theorem filter_yes {α : Type} (xs : List α) : xs.filter (fun _ => true) = xs := List.filter_eq_self.mpr fun _ _ => rfl
/-- [e for x in xs] -/
theorem comp_one {α : Type} {c : α → D} {e : DE} {q : List D → Prop} {xs : List α} {s : Slot} {caps : DSt} (h : α → D) (hl : xs.length ≤ sizeLine)
    (hs : ∀ x ∈ xs, ∀ N : D → Prop, N (h x) → e (.v (c x) :: caps) N (fun _ => False)) (hq : q (xs.map h)) : compD (dgName 0) dYes e q (xs.map c) (s :: caps) [] := by
  refine comp_ind (fun ds => ∃ s, ds = s :: caps) (fun _ => true) h ⟨s, rfl⟩ (fun x hx ds N0 N1 hc _ h1 => ?_) (by simpa using hl) (by rw [filter_yes]; exact hq)
  obtain ⟨s, rfl⟩ := hc
  have z := hs x hx (fun y => N1 (.v (c x) :: caps) y) (h1 rfl _ ⟨_, rfl⟩)
  show (if true = true then e (.v (c x) :: caps) (fun y => N1 (.v (c x) :: caps) y) (fun _ => False) else N0 (.v (c x) :: caps))
  rw [if_pos rfl]
  exact z
end L2
namespace L2
open PySem PySem.Spec PyProof.Rows
/-! ### texts with values in them -/
abbrev TP2 := Str → St → Hp → (Str → Hp → Prop) → Prop
def PP (X : Cx) (n : Nat) (es : List Expr) (t : TP2) : Prop :=
  ∀ (acc : Str) (pins : List (Addr × Obj)) (s : Shared) (σ : St) (H : Hp) (Q : Str → Hp → Prop), acc.length + n ≤ sizeLine → Inv X pins σ H s → t acc σ H Q →
    wpAny (model X.prog X.w) X.A (joinParts acc (evalEach es X.env)) (EP X pins σ fun v H' => ∃ z, v = .str z ∧ Q z H') X.xe s
def D.fmt : D → (Str → Prop) → Prop
  | .str y, q => y.length ≤ 100000 ∧ q y
  | .int i, q => i.natAbs.log2 < 1920 ∧ (toString i : Str).length ≤ 100000 ∧ q (toString i)
  | _, _ => False
def vFmt (K : PySem.W.Frag) (v : V) (q : Str → Prop) : Prop := (∃ y : Str, v = .str y ∧ y.length ≤ 100000 ∧ q y) ∨ (∃ i : Int, v = .int i ∧ i.natAbs.log2 < 1920 ∧ (toString i : Str).length ≤ 100000 ∧ q (toString i))
section
variable {X : Cx} {XE : St → XK}
theorem pp_nil : PP X 0 [] fun acc σ H Q => Q acc H := fun acc pins s σ H Q hn I h => joinParts_nil ⟨.str acc, H, I.tok _, ⟨_, rfl⟩, acc, rfl, h⟩ (by omega)
theorem pp_text {n : Nat} {es : List Expr} {t : TP2} {x : Str} {j pos} (hr : PP X n es t) (hx : x.length ≤ 100000) : PP X (n + 100000) (.Constant (.str x) j pos :: es) fun acc σ H Q => t (acc ++ x) σ H Q :=
  fun acc pins s σ H Q hn I h => by
    have e := strLen_append acc x
    exact joinParts_cons (Calls.Constant_str ⟨by omega, hr _ _ _ _ _ _ (by omega) (I.tok _) h⟩)
theorem pp_val {n : Nat} {es : List Expr} {t : TP2} {e : Expr} {te : TE} {pos} (he : PE X e te) (hr : PP X n es t) : PP X (n + 100000) (.FormattedValue e (-1) none pos :: es) fun acc σ H Q => te σ H fun v H1 => vFmt X.K v fun y => t (acc ++ y) σ H1 Q :=
  fun acc pins s σ H Q hn I h => by
    refine joinParts_cons (FormattedValue_plain (thn (he pins s σ H _ I h) fun u s1 ⟨v, H1, I1, r1, q1⟩ => ?_))
    rcases q1 with ⟨y, rfl, hy, q⟩ | ⟨i, rfl, hi, hy, q⟩
    · obtain ⟨tk, rfl⟩ := r1
      have e := strLen_append acc y
      exact formatField_str (fun t' tk => ⟨by omega, hr _ _ _ _ _ _ (by omega) (I1.tok _) q⟩) (by omega)
    · obtain ⟨tk, rfl⟩ := r1
      have e := strLen_append acc (toString i)
      exact formatField_int_small hi ⟨by omega, hr _ _ _ _ _ _ (by omega) (I1.tok _) q⟩
theorem pe_fstr {n : Nat} {a b : Expr} {es : List Expr} {t : TP2} {pos} (hr : PP X n (a :: b :: es) t) (hn : n ≤ sizeLine) : PE X (.JoinedStr (a :: b :: es) pos) fun σ H Q => t Str.empty σ H fun z H' => Q (.str z) H' :=
  fun pins s σ H Q I h => JoinedStr_many (thn (hr Str.empty pins s σ H _ (by rw [show Str.empty.length = 0 from rfl]; omega) I h) fun u s1 ⟨v, H1, I1, r1, z, e, q⟩ => ⟨v, H1, I1, r1, by rw [e]; exact q⟩)
/-! ### their readings -/
abbrev DP := Str → DSt → (Str → Prop) → (Addr → Prop) → Prop
def DenP (K : PySem.W.Frag) (XE : St → XK) (te : TP2) (de : DP) : Prop := ∀ {acc : Str} {B0 B H0 H : Hp} {σ : St} {ds : DSt} {q : Str → Prop} {x : Addr → Prop} {Q : Str → Hp → Prop}, Cfg K B0 B H0 H σ ds → de acc ds q x → (∀ z H0' H', Ext H0 H H0' H' → q z → Q z H') → KX XE σ H x → te acc σ H Q
structure JP (X : Cx) (XE : St → XK) (n : Nat) (es : List Expr) (de : DP) : Prop where
  ex : ∃ te, PP X n es te ∧ DenP X.K XE te de
def dpNil : DP := fun acc _ q _ => q acc
def dpText (x : Str) (dr : DP) : DP := fun acc ds q y => dr (acc ++ x) ds q y
def dpVal (de : DE) (dr : DP) : DP := fun acc ds q x => de ds (fun d => d.fmt fun y => dr (acc ++ y) ds q x) x
def dFstr (dr : DP) : DE := fun ds q x => dr Str.empty ds (fun z => q (.str z)) x
theorem jp_nil : JP X XE 0 [] dpNil := ⟨_, pp_nil, fun c h k _ => k _ _ _ (.refl c.sub) h⟩
theorem jp_text {n : Nat} {es : List Expr} {dr : DP} {x : Str} {j pos} (hr : JP X XE n es dr) (hx : x.length ≤ 100000 := by decide) : JP X XE (n + 100000) (.Constant (.str x) j pos :: es) (dpText x dr) := by
  obtain ⟨t, p, d⟩ := hr.ex
  exact ⟨_, pp_text p hx, fun c h k kx => d c h k kx⟩
theorem jp_val {n : Nat} {es : List Expr} {dr : DP} {e : Expr} {de : DE} {pos} (he : JE X XE e de) (hr : JP X XE n es dr) : JP X XE (n + 100000) (.FormattedValue e (-1) none pos :: es) (dpVal de dr) := by
  obtain ⟨te, p1, d1⟩ := he.ex
  obtain ⟨t, p, d⟩ := hr.ex
  refine ⟨_, pp_val p1 p, fun {acc _ _ _ _ σ ds q x Q} c h k kx => d1 c h (fun v a H1 H2 e r h => ?_) kx⟩
  have go : ∀ {y : Str}, dr (acc ++ y) ds q x → t (acc ++ y) σ H2 Q := fun h => d (c.go e) h (fun z H0' H' e' hq => k z _ _ (e.trans e') hq) (kx.go e.s)
  cases a with
  | str y => rw [show v = .str y from r]; exact .inl ⟨y, rfl, h.1, go h.2⟩
  | int i => rw [show v = .int i from r]; exact .inr ⟨i, rfl, h.1, h.2.1, go h.2.2⟩
  | _ => exact h.elim
theorem je_fstr {n : Nat} {a b : Expr} {es : List Expr} {dr : DP} {pos} (hr : JP X XE n (a :: b :: es) dr) (hn : n ≤ sizeLine := by decide) : JE X XE (.JoinedStr (a :: b :: es) pos) (dFstr dr) := by
  obtain ⟨t, p, d⟩ := hr.ex
  exact ⟨_, pe_fstr p hn, fun c h k kx => d c h (fun z H0' H' e hq => k (.str z) (.str z) _ _ e rfl hq) kx⟩
end
end L2
namespace L2
open PySem PySem.Spec PyProof.Rows
/-! ### set(xs) of ints and texts -/
instance lawKey : LawfulBEq Key where
  eq_of_beq {a b} h := by
    cases a <;> cases b
    · exact congrArg _ (eq_of_beq h)
    · cases h
    · cases h
    · exact congrArg _ (eq_of_beq h)
  rfl {a} := by
    cases a with
    | inl i => exact (beq_self_eq_true i : (i == i) = true)
    | inr i => exact (beq_self_eq_true i : (i == i) = true)
instance memKey (k : Key) (a : List Key) : Decidable (k ∈ a) := @List.instDecidableMemOfLawfulBEq Key instBEqOfDecidableEq inferInstance k a
/-- the first of each -/
def dedup1 (a : List Key) (k : Key) : List Key := if k ∈ a then a else a ++ [k]
def dedup (ks : List Key) : List Key := ks.foldl dedup1 []
section
variable {P : Program} {w : World} {A : Around}
def setO0 (led : Bool) : Obj := { cls := .type "set", dict := none, data := .set #[] 0 (.fresh 0 0 led) }
end
end L2
namespace L2
open PySem PySem.Spec PyProof.Rows
/-! ### dict(pairs) -/
structure Pr where
  p : Addr
  k : Key
  kv : Value
  vv : Value
def Pr.ok (h : Heap) (r : Pr) : Prop := IsTup h r.p #[r.kv, r.vv] ∧ keyIs r.k r.kv = true
def putAll (xs : List Pr) : List (Key × Value) := xs.foldl (fun a r => stored a r.k r.vv) []
section
variable {P : Program} {w : World} {A : Around}
def dictO0 : Obj := { cls := .type "dict", data := .dict #[] }
end
end L2
namespace L2
open PySem PySem.Spec PyProof.Rows
/-! ### sets whose size alone is known -/
def SetLen (h : Heap) (a : Addr) (n : Nat) : Prop := ∃ o es ep t, h.get? a = some o ∧ o.ExactSet ∧ o.data = .set es ep t ∧ t.fits es.size = true ∧ es.size = n
section
variable {X : Cx} {XE : St → XK}
/-! ### dict(pairs), list(dict) -/
def PairsAt (H : Hp) : List Addr → List (Key × V) → Prop := Paired fun a kv => H a = some (.tup [kV kv.1, kv.2])
theorem z_fmt_s {y : Str} {q : Str → Prop} : D.fmt (.str y) q = (y.length ≤ 100000 ∧ q y) := rfl
theorem z_fmt_i {i : Int} {q : Str → Prop} : D.fmt (.int i) q = (i.natAbs.log2 < 1920 ∧ (toString i : Str).length ≤ 100000 ∧ q (toString i)) := rfl
/-! ### their readings -/
def kD : Key → D
  | .inl i => .int i
  | .inr x => .str x
def D.key : D → Option Key
  | .int i => some (.inl i)
  | .str x => some (.inr x)
  | _ => none
/-- len(set(e)) -/
def dLenSet (de : DE) : DE := fun ds q x => de ds (fun d => ∃ ks : List Key, d = .lst (ks.map kD) ∧ ks.length < 4000 ∧ q (.int (dedup ks).length)) x
/-- what a table holds when pairs are put into it one by one -/
def putKD (kvs : List (Key × D)) (k : Key) (d : D) : List (Key × D) := if kvs.any (fun kv => decide (kv.1 = k)) then kvs.map (fun kv => if kv.1 = k then (kv.1, d) else kv) else kvs ++ [(k, d)]
def mergeD (kvs more : List (Key × D)) : List (Key × D) := more.foldl (fun acc kv => putKD acc kv.1 kv.2) kvs
def prD (kv : Key × D) : D := .tup [kD kv.1, kv.2]
def dDict1 (xs : List D) (q : D → Prop) : Prop := ∃ kvs : List (Key × D), xs = [.lst (kvs.map prD)] ∧ q (.dic (mergeD [] kvs))
def dListD (xs : List D) (q : D → Prop) : Prop := ∃ kvs : List (Key × D), xs = [.dic kvs] ∧ q (.lst (kvs.map fun kv => kD kv.1))
/-- o.f, as a rewrite rule -/
def D.fld (K : PySem.W.Frag) (f : Str) (d : D) (q : D → Prop) : Prop := ∃ C gs v, d = .obj C gs ∧ Cls K C ∧ NoAttr K C f ∧ gs.lookup f = some v ∧ q v
theorem z_dFld {K : PySem.W.Frag} {f : Str} {de : DE} {ds : DSt} {q : D → Prop} {x : Addr → Prop} : dFld K f de ds q x = de ds (fun d => d.fld K f q) x := rfl
end
end L2
namespace L2
open PySem PySem.Spec PyProof.Rows
section
variable {X : Cx}
/-! ### xs.index(a) of a list of texts -/
def isS (a : Str) : Value → Bool
  | .str z _ => z == a
  | _ => false
def dIndex : D → List D → (D → Prop) → Prop
  | .lst xs, [.str a] => fun q => ∃ zs, texts xs = some zs ∧ a ∈ zs ∧ q (.int (zs.idxOf a : Nat))
  | _, _ => fun _ => False
theorem z_index {zs : List Str} {a : Str} {q : D → Prop} : dIndex (.lst (zs.map .str)) [.str a] q = (a ∈ zs ∧ q (.int (zs.idxOf a : Nat))) := by
  show (∃ cs, texts _ = some cs ∧ _) = _
  rw [texts_map]
  simp only [Option.some.injEq, exists_eq_left']
end
end L2
namespace L2
open PySem PySem.Spec PyProof.Rows
section
variable {X : Cx} {XE : St → XK}
/-! ### texts: removeprefix, find, partition, int(text) -/
theorem mt_rmpre : MtR X "str.removeprefix" (fun x xs H Q => ∃ y z, x = .str y ∧ xs = [.str z] ∧ y.length ≤ sizeLine ∧ Q (.str (Txt.removeprefix y z)) H) := by
  intro pins s σ H x xs v us Q I rx r h
  obtain ⟨y, z, rfl, rfl, hl, q⟩ := h
  obtain ⟨t, rfl⟩ := rx
  obtain ⟨u, rfl, ru⟩ := vals1 r
  obtain ⟨t', rfl⟩ := ru
  exact SC.removeprefix (fun t'' k => ⟨.str _, H, I.tok _, ⟨_, rfl⟩, q⟩) hl
theorem mt_find : MtR X "str.find" (fun x xs H Q => ∃ y z, x = .str y ∧ xs = [.str z] ∧ Q (.int (Txt.find y z)) H) := by
  intro pins s σ H x xs v us Q I rx r h
  obtain ⟨y, z, rfl, rfl, q⟩ := h
  obtain ⟨t, rfl⟩ := rx
  obtain ⟨u, rfl, ru⟩ := vals1 r
  obtain ⟨t', rfl⟩ := ru
  exact SC.find ⟨.int _, H, I.tok _, ⟨_, rfl⟩, q⟩
/-- before the first z, z, behind it; or all of it -/
def partF (y z : Str) : Str × Str × Str := match Builtin.Str.occurrences y z 0 y.length 1 with
  | i :: _ => (Builtin.Str.strSub y 0 i, z, Builtin.Str.strSub y (i + z.length) y.length)
  | [] => (y, Str.empty, Str.empty)
theorem mt_part : MtR X "str.partition" (fun x xs H Q => ∃ y z, x = .str y ∧ xs = [.str z] ∧ y.length ≤ sizeLine ∧ z.length ≠ 0 ∧ ∀ p, H p = none → Q (.ref p) (upd H p (.tup [.str (partF y z).1, .str (partF y z).2.1, .str (partF y z).2.2]))) := by
  intro pins s σ H x xs v us Q I rx r h
  obtain ⟨y, z, rfl, rfl, hl, hz, q⟩ := h
  obtain ⟨t, rfl⟩ := rx
  obtain ⟨u, rfl, ru⟩ := vals1 r
  obtain ⟨t', rfl⟩ := ru
  have hz' : (z.length == 0) = false := by simpa using hz
  have fin : ∀ (a b c : Str) (ta tb tc : Tok) (k : Nat), (a, b, c) = partF y z → EP X pins σ Q (.ref s.heap.objs.size) { s with heap := s.heap.push { cls := .type "tuple", data := .seq [.str a ta, .str b tb, .str c tc].toArray }, toks := k } := fun a b c ta tb tc k e => by
    rw [← e] at q
    exact ⟨.ref s.heap.objs.size, _, I.laid (t' := k) (fun b o e => Heap.get?_push_of_some _ e) (Nat.le_refl _) (show ObjOk X.prog X.w _ _ _ (.tup [.str a, .str b, .str c]) from ⟨by show 3 ≤ sizeLine; decide, _, .cons ⟨_, rfl⟩ (.cons ⟨_, rfl⟩ (.cons ⟨_, rfl⟩ .nil)), IsTup.new _ _⟩), rfl, q _ (I.hok.fresh (Nat.le_refl _))⟩
  refine call_meets PySem.F.slot_str_partition (typeIs_str _ _ _) PySem.F.entry_str_partition (PySem.F.args_str_partition_2 _ _) (meets_str_partition y z t t' hz' hl) ?_
  show EP X pins σ Q _ _
  cases e : Builtin.Str.occurrences y z 0 y.length 1 with
  | nil => exact fin _ _ _ _ _ _ _ (by unfold partF; rw [e])
  | cons i r => exact fin _ _ _ _ _ _ _ (by unfold partF; rw [e])
theorem vals_strV : ∀ (l : List (Str × Tok)), Vals ((l.map (·.1)).map V.str) (strValues l)
  | [] => .nil
  | p :: l => .cons ⟨p.2, rfl⟩ (vals_strV l)
theorem vals_from (k : Nat) (ps : List Str) : Vals (ps.map V.str) (strsFrom k ps) := by
  rw [strsFrom_eq]
  have := vals_strV (numbered k ps)
  rw [numbered_texts] at this
  exact this
theorem parts_len (y z : Str) : (Builtin.Str.partsBetween y (Builtin.Str.occurrences y z 0 y.length (y.length + 1)) z.length).length ≤ y.length + 2 := by
  unfold Builtin.Str.partsBetween
  have := StrLaws.occ_length_le y z 0 y.length (y.length + 1)
  simp
  omega
theorem mt_split : MtR X "str.split" (fun x xs H Q => ∃ y z, x = .str y ∧ xs = [.str z] ∧ y.length ≤ 1000000 ∧ z.length ≠ 0 ∧ ∀ p, H p = none → Q (.ref p) (upd H p (.lst ((Txt.split y z).map V.str)))) := by
  intro pins s σ H x xs v us Q I rx r h
  obtain ⟨y, z, rfl, rfl, hl, hz, q⟩ := h
  obtain ⟨t, rfl⟩ := rx
  obtain ⟨u, rfl, ru⟩ := vals1 r
  obtain ⟨t', rfl⟩ := ru
  have hz' : (z.length == 0) = false := by simpa using hz
  have hsz : sizeLine = 16777216 := rfl
  have pl := parts_len y z
  have fin : ∀ (its : List Value) (k : Nat) (ps : List Str), ps = Txt.split y z → ps.length ≤ sizeLine → Vals (ps.map V.str) its → EP X pins σ Q (.ref s.heap.objs.size) { s with heap := s.heap.push { cls := .type "list", data := .seq its.toArray }, toks := k } := fun its k ps e hp rv => by
    rw [← e] at q
    exact ⟨.ref s.heap.objs.size, _, I.laid (t' := k) (fun b o e => Heap.get?_push_of_some _ e) (Nat.le_refl _) (show ObjOk X.prog X.w _ _ _ (.lst (ps.map V.str)) from ⟨by rw [List.length_map]; exact hp, its, 0, rv, Heap.get?_push_size _ rfl⟩), rfl, q _ (I.hok.fresh (Nat.le_refl _))⟩
  have go : ∀ {S : PySem.Spec}, Meets (Builtin.«str.split» ⟨[.str y t, .str z t'], []⟩) S → S X.A (wants (EP X pins σ Q) X.xe) s → wpAny (model X.prog X.w) X.A (call (.builtin "str.split") [.str y t, .str z t']) (EP X pins σ Q) X.xe s := fun g h =>
    call_meets PySem.F.slot_str_split (typeIs_str _ _ _) PySem.F.entry_str_split (PySem.F.args_str_split_2 _ _) g h
  cases h1 : (decide (y.length < z.length) || decide (Builtin.Str.strKind y < Builtin.Str.strKind z)) with
  | true => exact go (meets_str_split_cannot_occur y z t t' h1) (fin [.str y t] s.toks [y] (by unfold Txt.split; rw [if_pos h1]) (by show 1 ≤ sizeLine; decide) (.cons ⟨_, rfl⟩ .nil))
  | false =>
    cases hf : (Builtin.Str.occurrences y z 0 y.length (y.length + 1)).isEmpty with
    | true => exact go (meets_str_split_not_found y z t t' h1 hz' hf) (fin [.str y t] s.toks [y] (by unfold Txt.split; rw [if_neg (by rw [h1]; decide), if_pos hf]) (by show 1 ≤ sizeLine; decide) (.cons ⟨_, rfl⟩ .nil))
    | false => exact go (meets_str_split_sep y z t t' h1 hz' hf (by omega) (by omega)) (fin _ _ _ (by unfold Txt.split; rw [if_neg (by rw [h1]; decide), if_neg (by rw [hf]; decide)]) (by omega) (vals_from _ _))
theorem call_intText : CallR X (.type "int") (fun xs H Q => ∃ (x : Str) (n : Int), xs = [.str x] ∧ PySem.intText? x = some n ∧ x.length ≤ 640 ∧ Q (.int n) H) := by
  intro pins s σ H xs us Q I r h
  obtain ⟨x, n, rfl, hn, hl, q⟩ := h
  obtain ⟨u, rfl, ru⟩ := vals1 r
  obtain ⟨t, rfl⟩ := ru
  exact PySem.W.KIN.call_text hn hl ⟨.int n, H, I.tok _, ⟨_, rfl⟩, q⟩
/-! ### their readings -/
def dRmPre : D → List D → (D → Prop) → Prop
  | .str y, [.str z] => fun q => y.length ≤ sizeLine ∧ q (.str (Txt.removeprefix y z))
  | _, _ => fun _ => False
theorem jm_removeprefix : JMt X "str" "str.removeprefix" dRmPre := by
  refine ⟨_, mt_rmpre, fun {H0 H v vs d xs q Q} s r rs h k => ?_⟩
  unfold dRmPre at h
  split at h
  · obtain ⟨u, rfl, e⟩ := rps1 rs
    rw [show u = .str _ from e]
    exact ⟨_, _, r, rfl, h.1, k _ (.str _) _ _ (.refl s) rfl h.2⟩
  · exact h.elim
def dFind : D → List D → (D → Prop) → Prop
  | .str y, [.str z] => fun q => q (.int (Txt.find y z))
  | _, _ => fun _ => False
theorem jm_find : JMt X "str" "str.find" dFind := by
  refine ⟨_, mt_find, fun {H0 H v vs d xs q Q} s r rs h k => ?_⟩
  unfold dFind at h
  split at h
  · obtain ⟨u, rfl, e⟩ := rps1 rs
    rw [show u = .str _ from e]
    exact ⟨_, _, r, rfl, k _ (.int _) _ _ (.refl s) rfl h⟩
  · exact h.elim
def dPartn : D → List D → (D → Prop) → Prop
  | .str y, [.str z] => fun q => y.length ≤ sizeLine ∧ z.length ≠ 0 ∧ q (.tup [.str (partF y z).1, .str (partF y z).2.1, .str (partF y z).2.2])
  | _, _ => fun _ => False
theorem jm_partition : JMt X "str" "str.partition" dPartn := by
  refine ⟨_, mt_part, fun {H0 H v vs d xs q Q} s r rs h k => ?_⟩
  unfold dPartn at h
  split at h
  · obtain ⟨u, rfl, e⟩ := rps1 rs
    rw [show u = .str _ from e]
    exact ⟨_, _, r, rfl, h.1, h.2.1, fun p hp => k _ (.tup _) _ _ (.put s hp) (rp_tup (xs := [.str _, .str _, .str _]) ⟨_, _, rfl, rfl, _, _, rfl, rfl, _, _, rfl, rfl, rfl⟩ (s.free hp)) h.2.2⟩
  · exact h.elim
theorem rps_strD {K : PySem.W.Frag} {H : Hp} : ∀ (ps : List Str), Rps K H (ps.map D.str) (ps.map V.str)
  | [] => rfl
  | p :: ps => ⟨_, _, rfl, rfl, rps_strD ps⟩
def dSplit : D → List D → (D → Prop) → Prop
  | .str y, [.str z] => fun q => y.length ≤ 1000000 ∧ z.length ≠ 0 ∧ q (.lst ((Txt.split y z).map .str))
  | _, _ => fun _ => False
theorem jm_split : JMt X "str" "str.split" dSplit := by
  refine ⟨_, mt_split, fun {H0 H v vs d xs q Q} s r rs h k => ?_⟩
  unfold dSplit at h
  split at h
  · obtain ⟨u, rfl, e⟩ := rps1 rs
    rw [show u = .str _ from e]
    exact ⟨_, _, r, rfl, h.1, h.2.1, fun p hp => k _ (.lst _) _ _ (.put s hp) (rp_lst (rps_strD _) (s.free hp)) h.2.2⟩
  · exact h.elim
def dInt2 : List D → (D → Prop) → Prop
  | [.str x] => fun q => ∃ n, PySem.intText? x = some n ∧ x.length ≤ 640 ∧ q (.int n)
  | xs => dInt1 xs
theorem jc_int2 : JCall X (.type "int") dInt2 := by
  obtain ⟨r1, c1, l1⟩ := (jc_int (X := X)).ex
  refine ⟨_, c1.or call_intText, fun {H0 H vs xs q Q} s r h k => ?_⟩
  unfold dInt2 at h
  split at h
  · obtain ⟨v, rfl, e⟩ := rps1 r
    obtain ⟨n, h1, h2, h3⟩ := h
    rw [show v = .str _ from e]
    exact .inr ⟨_, n, rfl, h1, h2, k _ (.int _) _ _ (.refl s) rfl h3⟩
  · exact .inl (l1 s r h k)
/-! ### a text so many times: how long it is -/
theorem op_mulS : OpR X (binaryOp .Mult) (fun x y H Q => ∃ z n, x = .str z ∧ y = .int n ∧ 0 ≤ n ∧ n ≤ 4000 ∧ z.length ≤ 4000 ∧ ∀ r : Str, r.length ≤ z.length * n.toNat → Q (.str r) H) := by
  intro pins s σ H x y v u Q I rx ry h
  obtain ⟨z, n, rfl, rfl, h0, hn, hz, q⟩ := h
  obtain ⟨t, rfl⟩ := rx
  obtain ⟨t', rfl⟩ := ry
  have hb : z.length * n.toNat ≤ 16000000 := Nat.mul_le_mul hz (show n.toNat ≤ 4000 by omega)
  have e : sizeLine = 16777216 := rfl
  refine P.mul_str ?_ (fun h1 _ h2 => ?_) (fun _ _ => ?_) ?_
  · rw [decide_eq_false (by omega), decide_eq_false (by omega)]; rfl
  · have h3 : (z.length : Int) > (2 ^ 63 - 1) / n := h2
    have h5 : (4000 : Int) ≤ (2 ^ 63 - 1) / n := (Int.le_ediv_iff_mul_le (by omega)).mpr (by omega)
    omega
  · unfold Builtin.Str.tooLong
    exact decide_eq_false (by omega)
  · split
    · exact ⟨by decide, .str _, H, I.tok _, ⟨_, rfl⟩, q _ (Nat.zero_le _)⟩
    · split
      · rename_i h1 h2
        refine ⟨.str _, H, I, ⟨_, rfl⟩, q _ ?_⟩
        have : n = 1 ∨ z.length = 0 := by simpa using h2
        rcases this with e | e
        · subst e
          exact Nat.le_of_eq (Nat.mul_one _).symm
        · rw [e]; exact Nat.zero_le _
      · have key : ∀ (m : Nat) (acc : Array Nat), ((List.replicate m z.cps).foldl (· ++ ·) acc).size = acc.size + z.cps.size * m := by
          intro m
          induction m with
          | zero => intro acc; simp
          | succ m ih => intro acc; rw [List.replicate_succ, List.foldl_cons, ih, Array.size_append, Nat.mul_succ]; omega
        have hl : (⟨(List.replicate n.toNat z.cps).foldl (· ++ ·) #[]⟩ : Str).length = z.length * n.toNat := by
          show ((List.replicate n.toNat z.cps).foldl (· ++ ·) #[]).size = _
          rw [key]
          simp
          rfl
        exact ⟨by omega, .str _, H, I.tok _, ⟨_, rfl⟩, q _ (Nat.le_of_eq hl)⟩
def dMul2 : D → D → (D → Prop) → Prop
  | .str z, .int n => fun q => 0 ≤ n ∧ n ≤ 4000 ∧ z.length ≤ 4000 ∧ ∀ r : Str, r.length ≤ z.length * n.toNat → q (.str r)
  | a, b => dMul a b
theorem jo_mul2 : JOp X (binaryOp .Mult) dMul2 := by
  obtain ⟨r1, o1, l1⟩ := (jo_mul (X := X)).ex
  refine ⟨_, o1.or op_mulS, fun {H0 H x y a b q Q} s ra rb h k => ?_⟩
  unfold dMul2 at h
  split at h
  · rename_i z n
    rw [show x = .str z from ra, show y = .int n from rb]
    exact .inr ⟨z, n, rfl, rfl, h.1, h.2.1, h.2.2.1, fun r hr => k _ (.str r) _ _ (.refl s) rfl (h.2.2.2 r hr)⟩
  · exact .inl (l1 s ra rb h k)
theorem z_mul2_s {z : Str} {n : Int} {q : D → Prop} : dMul2 (.str z) (.int n) q = (0 ≤ n ∧ n ≤ 4000 ∧ z.length ≤ 4000 ∧ ∀ r : Str, r.length ≤ z.length * n.toNat → q (.str r)) := rfl
theorem z_mul2_i {i j : Int} {q : D → Prop} : dMul2 (.int i) (.int j) q = (CMulX i j ∧ q (.int (i * j))) := rfl
theorem z_int2_s {y : Str} {q : D → Prop} : dInt2 [.str y] q = ∃ n, PySem.intText? y = some n ∧ y.length ≤ 640 ∧ q (.int n) := rfl
theorem z_int2_b {b : Bool} {q : D → Prop} : dInt2 [.bl b] q = q (.int (if b then 1 else 0)) := rfl
theorem z_int2_i {i : Int} {q : D → Prop} : dInt2 [.int i] q = q (.int i) := rfl
end
end L2
namespace My
open PySem L2 MA
def top (i : Nat) : Stmt := PySem.Challenge.pw_kbestwood_k03_fractions_written_and_read.main.body.getD i (.Pass ⟨0, 0, 0, 0⟩)
abbrev s_common_divisor : Stmt := top 16
theorem sc_common_divisor : FnScope ["one", "other"] ["one", "other"] (defScope s_common_divisor) := ⟨rfl, rfl, rfl, by decide +kernel, rfl, by decide +kernel, by decide +kernel⟩
abbrev s_fraction : Stmt := top 17
theorem sc_fraction : FnScope ["top", "bottom", "divisor"] ["top", "bottom"] (defScope s_fraction) := ⟨rfl, rfl, rfl, by decide +kernel, rfl, by decide +kernel, by decide +kernel⟩
abbrev s_fraction_text : Stmt := top 18
theorem sc_fraction_text : FnScope ["one", "top", "bottom"] ["one"] (defScope s_fraction_text) := ⟨rfl, rfl, rfl, by decide +kernel, rfl, by decide +kernel, by decide +kernel⟩
abbrev s_is_figures : Stmt := top 19
theorem sc_is_figures : FnScope ["text"] ["text"] (defScope s_is_figures) := ⟨rfl, rfl, rfl, by decide +kernel, rfl, by decide +kernel, by decide +kernel⟩
abbrev s_is_bottom : Stmt := top 20
theorem sc_is_bottom : FnScope ["text"] ["text"] (defScope s_is_bottom) := ⟨rfl, rfl, rfl, by decide +kernel, rfl, by decide +kernel, by decide +kernel⟩
abbrev s_is_top : Stmt := top 21
theorem sc_is_top : FnScope ["text"] ["text"] (defScope s_is_top) := ⟨rfl, rfl, rfl, by decide +kernel, rfl, by decide +kernel, by decide +kernel⟩
abbrev s_read_fraction : Stmt := top 22
theorem sc_read_fraction : FnScope ["text", "top", "stroke", "bottom"] ["text"] (defScope s_read_fraction) := ⟨rfl, rfl, rfl, by decide +kernel, rfl, by decide +kernel, by decide +kernel⟩
abbrev s_l_mix : Stmt := top 24
theorem sc_l_mix : FnScope ["_law_cell", "_law_k", "_law_factor", "_law_number_here"] ["_law_cell", "_law_k"] (defScope s_l_mix) := ⟨rfl, rfl, rfl, by decide +kernel, rfl, by decide +kernel, by decide +kernel⟩
abbrev s_l_lowest : Stmt := top 25
theorem sc_l_lowest : FnScope ["_law_top", "_law_bottom", "_law_one", "_law_other", "_law_kept"] ["_law_top", "_law_bottom"] (defScope s_l_lowest) := ⟨rfl, rfl, rfl, by decide +kernel, rfl, by decide +kernel, by decide +kernel⟩
abbrev s_l_whole : Stmt := top 26
theorem sc_l_whole : FnScope ["_law_found"] ["_law_found"] (defScope s_l_whole) := ⟨rfl, rfl, rfl, by decide +kernel, rfl, by decide +kernel, by decide +kernel⟩
abbrev s_l_some : Stmt := top 27
theorem sc_l_some : FnScope ["_law_cell", "_law_kept", "_law_k", "_law_m", "_law_top", "_law_bottom"] ["_law_cell", "_law_kept", "_law_k"] (defScope s_l_some) := ⟨rfl, rfl, rfl, by decide +kernel, rfl, by decide +kernel, by decide +kernel⟩
abbrev s_l_sign : Stmt := top 28
theorem sc_l_sign : FnScope ["_law_m", "_law_some_here"] ["_law_m"] (defScope s_l_sign) := ⟨rfl, rfl, rfl, by decide +kernel, rfl, by decide +kernel, by decide +kernel⟩
abbrev s_l_spoilt : Stmt := top 29
theorem sc_l_spoilt : FnScope ["_law_said", "_law_m", "_law_odd", "_law_at", "_law_sign_here"] ["_law_said", "_law_m"] (defScope s_l_spoilt) := ⟨rfl, rfl, rfl, by decide +kernel, rfl, by decide +kernel, by decide +kernel⟩
abbrev s_l_number : Stmt := top 30
theorem sc_l_number : FnScope ["_law_said", "_law_number_here", "_law_sign_here", "_law_at"] ["_law_said"] (defScope s_l_number) := ⟨rfl, rfl, rfl, by decide +kernel, rfl, by decide +kernel, by decide +kernel⟩
abbrev s_l_read : Stmt := top 31
theorem sc_l_read : FnScope ["_law_said", "_law_pieces", "_law_turned", "_law_top", "_law_bottom"] ["_law_said"] (defScope s_l_read) := ⟨rfl, rfl, rfl, by decide +kernel, rfl, by decide +kernel, by decide +kernel⟩
abbrev s_l_refused : Stmt := top 32
theorem sc_l_refused : FnScope ["_law_said", "_law_caught", "error"] ["_law_said"] (defScope s_l_refused) := ⟨rfl, rfl, rfl, by decide +kernel, rfl, by decide +kernel, by decide +kernel⟩
abbrev s_l_alike : Stmt := top 33
theorem sc_l_alike : FnScope ["_law_found", "_law_due"] ["_law_found", "_law_due"] (defScope s_l_alike) := ⟨rfl, rfl, rfl, by decide +kernel, rfl, by decide +kernel, by decide +kernel⟩
abbrev s_law : Stmt := top 34
theorem sc_law : FnScope ["_law_script", "_law_kept", "_law_k", "_law_cell", "_law_one", "_law_m", "_law_said", "_law_found", "_law_small", "_law_many", "_law_other", "_law_due"] ["_law_script"] (defScope s_law) := ⟨rfl, rfl, rfl, by decide +kernel, rfl, by decide +kernel, by decide +kernel⟩
abbrev c_FIGURES : Str := "0123456789"
structure Adr where
  C_WoodError : Addr
  C_NoLine : Addr
  C_NoScale : Addr
  C_NoRule : Addr
  C_NoWeight : Addr
  C_Twice : Addr
  C_NoTitle : Addr
  C_NoKind : Addr
  C_Ring : Addr
  C_NoNet : Addr
  C_TooMany : Addr
  C_NoTree : Addr
  f_common_divisor : Addr
  d_common_divisor : FuncData
  f_fraction : Addr
  d_fraction : FuncData
  f_fraction_text : Addr
  d_fraction_text : FuncData
  f_is_figures : Addr
  d_is_figures : FuncData
  f_is_bottom : Addr
  d_is_bottom : FuncData
  f_is_top : Addr
  d_is_top : FuncData
  f_read_fraction : Addr
  d_read_fraction : FuncData
  f_l_mix : Addr
  d_l_mix : FuncData
  f_l_lowest : Addr
  d_l_lowest : FuncData
  f_l_whole : Addr
  d_l_whole : FuncData
  f_l_some : Addr
  d_l_some : FuncData
  f_l_sign : Addr
  d_l_sign : FuncData
  f_l_spoilt : Addr
  d_l_spoilt : FuncData
  f_l_number : Addr
  d_l_number : FuncData
  f_l_read : Addr
  d_l_read : FuncData
  f_l_refused : Addr
  d_l_refused : FuncData
  f_l_alike : Addr
  d_l_alike : FuncData
  f_law : Addr
  d_law : FuncData
structure Txt (K : PySem.W.Frag) (mg : Str → Option Value) (A : Adr) : Prop where
  M_WoodError : mg "WoodError" = some (.ref A.C_WoodError)
  M_NoLine : mg "NoLine" = some (.ref A.C_NoLine)
  M_NoScale : mg "NoScale" = some (.ref A.C_NoScale)
  M_NoRule : mg "NoRule" = some (.ref A.C_NoRule)
  M_NoWeight : mg "NoWeight" = some (.ref A.C_NoWeight)
  M_Twice : mg "Twice" = some (.ref A.C_Twice)
  M_NoTitle : mg "NoTitle" = some (.ref A.C_NoTitle)
  M_NoKind : mg "NoKind" = some (.ref A.C_NoKind)
  M_Ring : mg "Ring" = some (.ref A.C_Ring)
  M_NoNet : mg "NoNet" = some (.ref A.C_NoNet)
  M_TooMany : mg "TooMany" = some (.ref A.C_TooMany)
  M_NoTree : mg "NoTree" = some (.ref A.C_NoTree)
  x_NoLine : XCls K A.C_NoLine
  xt_NoLine : XTy K A.C_NoLine
  w_WoodError : WCls K A.C_WoodError
  s_NoLine_WoodError : PySem.W.subIn K (.ref A.C_NoLine) (.ref A.C_WoodError) = some true
  i_NoLine_WoodError : PySem.W.kitOne K (.ref A.C_NoLine) (.ref A.C_WoodError) = some true
  s_NoLine_NoLine : PySem.W.subIn K (.ref A.C_NoLine) (.ref A.C_NoLine) = some true
  i_NoLine_NoLine : PySem.W.kitOne K (.ref A.C_NoLine) (.ref A.C_NoLine) = some true
  s_NoLine_NoKind : PySem.W.subIn K (.ref A.C_NoLine) (.ref A.C_NoKind) = some false
  i_NoLine_NoKind : PySem.W.kitOne K (.ref A.C_NoLine) (.ref A.C_NoKind) = some false
  s_NoLine_NoNet : PySem.W.subIn K (.ref A.C_NoLine) (.ref A.C_NoNet) = some false
  i_NoLine_NoNet : PySem.W.kitOne K (.ref A.C_NoLine) (.ref A.C_NoNet) = some false
  s_NoLine_NoRule : PySem.W.subIn K (.ref A.C_NoLine) (.ref A.C_NoRule) = some false
  i_NoLine_NoRule : PySem.W.kitOne K (.ref A.C_NoLine) (.ref A.C_NoRule) = some false
  s_NoLine_NoScale : PySem.W.subIn K (.ref A.C_NoLine) (.ref A.C_NoScale) = some false
  i_NoLine_NoScale : PySem.W.kitOne K (.ref A.C_NoLine) (.ref A.C_NoScale) = some false
  s_NoLine_NoTitle : PySem.W.subIn K (.ref A.C_NoLine) (.ref A.C_NoTitle) = some false
  i_NoLine_NoTitle : PySem.W.kitOne K (.ref A.C_NoLine) (.ref A.C_NoTitle) = some false
  s_NoLine_NoTree : PySem.W.subIn K (.ref A.C_NoLine) (.ref A.C_NoTree) = some false
  i_NoLine_NoTree : PySem.W.kitOne K (.ref A.C_NoLine) (.ref A.C_NoTree) = some false
  s_NoLine_NoWeight : PySem.W.subIn K (.ref A.C_NoLine) (.ref A.C_NoWeight) = some false
  i_NoLine_NoWeight : PySem.W.kitOne K (.ref A.C_NoLine) (.ref A.C_NoWeight) = some false
  s_NoLine_Ring : PySem.W.subIn K (.ref A.C_NoLine) (.ref A.C_Ring) = some false
  i_NoLine_Ring : PySem.W.kitOne K (.ref A.C_NoLine) (.ref A.C_Ring) = some false
  s_NoLine_TooMany : PySem.W.subIn K (.ref A.C_NoLine) (.ref A.C_TooMany) = some false
  i_NoLine_TooMany : PySem.W.kitOne K (.ref A.C_NoLine) (.ref A.C_TooMany) = some false
  s_NoLine_Twice : PySem.W.subIn K (.ref A.C_NoLine) (.ref A.C_Twice) = some false
  i_NoLine_Twice : PySem.W.kitOne K (.ref A.C_NoLine) (.ref A.C_Twice) = some false
  iv_NoLine : PySem.W.kitOne K (.ref A.C_NoLine) (.type "ValueError") = some true
  F_common_divisor : Fun K "common_divisor" "common_divisor" s_common_divisor A.f_common_divisor A.d_common_divisor
  m_common_divisor : mg "common_divisor" = some (.ref A.f_common_divisor)
  k_common_divisor : PySem.W.keepIn K (.ref A.f_common_divisor) = true
  a_common_divisor : Binds K A.d_common_divisor ["one", "other"] []
  F_fraction : Fun K "fraction" "fraction" s_fraction A.f_fraction A.d_fraction
  m_fraction : mg "fraction" = some (.ref A.f_fraction)
  k_fraction : PySem.W.keepIn K (.ref A.f_fraction) = true
  a_fraction : Binds K A.d_fraction ["top", "bottom"] []
  F_fraction_text : Fun K "fraction_text" "fraction_text" s_fraction_text A.f_fraction_text A.d_fraction_text
  m_fraction_text : mg "fraction_text" = some (.ref A.f_fraction_text)
  k_fraction_text : PySem.W.keepIn K (.ref A.f_fraction_text) = true
  a_fraction_text : Binds K A.d_fraction_text ["one"] []
  F_is_figures : Fun K "is_figures" "is_figures" s_is_figures A.f_is_figures A.d_is_figures
  m_is_figures : mg "is_figures" = some (.ref A.f_is_figures)
  k_is_figures : PySem.W.keepIn K (.ref A.f_is_figures) = true
  a_is_figures : Binds K A.d_is_figures ["text"] []
  F_is_bottom : Fun K "is_bottom" "is_bottom" s_is_bottom A.f_is_bottom A.d_is_bottom
  m_is_bottom : mg "is_bottom" = some (.ref A.f_is_bottom)
  k_is_bottom : PySem.W.keepIn K (.ref A.f_is_bottom) = true
  a_is_bottom : Binds K A.d_is_bottom ["text"] []
  F_is_top : Fun K "is_top" "is_top" s_is_top A.f_is_top A.d_is_top
  m_is_top : mg "is_top" = some (.ref A.f_is_top)
  k_is_top : PySem.W.keepIn K (.ref A.f_is_top) = true
  a_is_top : Binds K A.d_is_top ["text"] []
  F_read_fraction : Fun K "read_fraction" "read_fraction" s_read_fraction A.f_read_fraction A.d_read_fraction
  m_read_fraction : mg "read_fraction" = some (.ref A.f_read_fraction)
  k_read_fraction : PySem.W.keepIn K (.ref A.f_read_fraction) = true
  a_read_fraction : Binds K A.d_read_fraction ["text"] []
  F_l_mix : Fun K "_law_mix" "_law_mix" s_l_mix A.f_l_mix A.d_l_mix
  m_l_mix : mg "_law_mix" = some (.ref A.f_l_mix)
  k_l_mix : PySem.W.keepIn K (.ref A.f_l_mix) = true
  a_l_mix : Binds K A.d_l_mix ["_law_cell", "_law_k"] []
  F_l_lowest : Fun K "_law_lowest" "_law_lowest" s_l_lowest A.f_l_lowest A.d_l_lowest
  m_l_lowest : mg "_law_lowest" = some (.ref A.f_l_lowest)
  k_l_lowest : PySem.W.keepIn K (.ref A.f_l_lowest) = true
  a_l_lowest : Binds K A.d_l_lowest ["_law_top", "_law_bottom"] []
  F_l_whole : Fun K "_law_whole" "_law_whole" s_l_whole A.f_l_whole A.d_l_whole
  m_l_whole : mg "_law_whole" = some (.ref A.f_l_whole)
  k_l_whole : PySem.W.keepIn K (.ref A.f_l_whole) = true
  a_l_whole : Binds K A.d_l_whole ["_law_found"] []
  F_l_some : Fun K "_law_some" "_law_some" s_l_some A.f_l_some A.d_l_some
  m_l_some : mg "_law_some" = some (.ref A.f_l_some)
  k_l_some : PySem.W.keepIn K (.ref A.f_l_some) = true
  a_l_some : Binds K A.d_l_some ["_law_cell", "_law_kept", "_law_k"] []
  F_l_sign : Fun K "_law_sign" "_law_sign" s_l_sign A.f_l_sign A.d_l_sign
  m_l_sign : mg "_law_sign" = some (.ref A.f_l_sign)
  k_l_sign : PySem.W.keepIn K (.ref A.f_l_sign) = true
  a_l_sign : Binds K A.d_l_sign ["_law_m"] []
  F_l_spoilt : Fun K "_law_spoilt" "_law_spoilt" s_l_spoilt A.f_l_spoilt A.d_l_spoilt
  m_l_spoilt : mg "_law_spoilt" = some (.ref A.f_l_spoilt)
  k_l_spoilt : PySem.W.keepIn K (.ref A.f_l_spoilt) = true
  a_l_spoilt : Binds K A.d_l_spoilt ["_law_said", "_law_m"] []
  F_l_number : Fun K "_law_number" "_law_number" s_l_number A.f_l_number A.d_l_number
  m_l_number : mg "_law_number" = some (.ref A.f_l_number)
  k_l_number : PySem.W.keepIn K (.ref A.f_l_number) = true
  a_l_number : Binds K A.d_l_number ["_law_said"] []
  F_l_read : Fun K "_law_read" "_law_read" s_l_read A.f_l_read A.d_l_read
  m_l_read : mg "_law_read" = some (.ref A.f_l_read)
  k_l_read : PySem.W.keepIn K (.ref A.f_l_read) = true
  a_l_read : Binds K A.d_l_read ["_law_said"] []
  F_l_refused : Fun K "_law_refused" "_law_refused" s_l_refused A.f_l_refused A.d_l_refused
  m_l_refused : mg "_law_refused" = some (.ref A.f_l_refused)
  k_l_refused : PySem.W.keepIn K (.ref A.f_l_refused) = true
  a_l_refused : Binds K A.d_l_refused ["_law_said"] []
  F_l_alike : Fun K "_law_alike" "_law_alike" s_l_alike A.f_l_alike A.d_l_alike
  m_l_alike : mg "_law_alike" = some (.ref A.f_l_alike)
  k_l_alike : PySem.W.keepIn K (.ref A.f_l_alike) = true
  a_l_alike : Binds K A.d_l_alike ["_law_found", "_law_due"] []
  F_law : Fun K "law" "law" s_law A.f_law A.d_law
  m_law : mg "law" = some (.ref A.f_law)
  k_law : PySem.W.keepIn K (.ref A.f_law) = true
  a_law : Binds K A.d_law ["_law_script"] []
  g_MOST_FIGURES : ∃ t, mg "MOST_FIGURES" = some (.int 40 t)
  g_FIGURES : ∃ t, mg "FIGURES" = some (.str c_FIGURES t)
  b_abs : mg "abs" = none
  b_str : mg "str" = none
  b_all : mg "all" = none
  b_len : mg "len" = none
  b_int : mg "int" = none
  b_isinstance : mg "isinstance" = none
  b_bool : mg "bool" = none
  b_ValueError : mg "ValueError" = none
  b_tuple : mg "tuple" = none
  b_enumerate : mg "enumerate" = none
class TxC (K : PySem.W.Frag) (A : Adr) : Prop where
  ex : ∃ mg, Txt K mg A
section
variable {P : Program} {w : World} {K : PySem.W.Frag} {mg : Str → Option Value} {base : Heap}
def digsL (l : List Nat) : Bool := decide (1 ≤ l.length) && decide (l.length ≤ 40) && l.all fun c => decide (c ∈ c_FIGURES.cps.toList)
def g_is_figures : DSp := fun xs q _ => ∃ z : Str, xs = [.str z] ∧ z.length ≤ sizeLine ∧ q (.bl (digsL z.cps.toList))
theorem zg_is_figures {z : Str} {q : D → Prop} {x : Addr → Prop} : g_is_figures [.str z] q x = (z.length ≤ sizeLine ∧ q (.bl (digsL z.cps.toList))) := by unfold g_is_figures; simp
def botL (l : List Nat) : Bool := digsL l && !decide (l.getD 0 0 = 48)
def g_is_bottom : DSp := fun xs q _ => ∃ z : Str, xs = [.str z] ∧ z.length ≤ sizeLine ∧ q (.bl (botL z.cps.toList))
theorem zg_is_bottom {z : Str} {q : D → Prop} {x : Addr → Prop} : g_is_bottom [.str z] q x = (z.length ≤ sizeLine ∧ q (.bl (botL z.cps.toList))) := by unfold g_is_bottom; simp
def unmin : List Nat → List Nat
  | 45 :: r => r
  | l => l
def topL (l : List Nat) : Bool := decide (l = [48]) || botL (unmin l)
def g_is_top : DSp := fun xs q _ => ∃ z : Str, xs = [.str z] ∧ z.length ≤ sizeLine ∧ q (.bl (topL z.cps.toList))
theorem zg_is_top {z : Str} {q : D → Prop} {x : Addr → Prop} : g_is_top [.str z] q x = (z.length ≤ sizeLine ∧ q (.bl (topL z.cps.toList))) := by unfold g_is_top; simp
def g_l_whole : DSp := fun xs q _ => ∃ i : Int, xs = [.int i] ∧ q (.bl true)
theorem zg_l_whole {i : Int} {q : D → Prop} {x : Addr → Prop} : g_l_whole [.int i] q x = q (.bl true) := by
  unfold g_l_whole
  exact propext ⟨fun ⟨_, e, h⟩ => by cases e; exact h, fun h => ⟨i, rfl, h⟩⟩
local macro_rules | `(tactic| walk_at "rd") => `(tactic| simp only [dSeq, dIf, dFstr, dpVal, dpText, dpNil, z_fmt_s, z_fmt_i, dLenSet, dB, dOp, dVar, dCB, dCons, dNil, dRet, dC, dNext, dAsg, dgName, dgTup, dgCons, dgNil, dTup, dLst, dTru, z_tru_n, z_tru_b, z_tru_i, z_tru_s, z_tru_l, z_tru_t, z_non_n, z_non_i, z_non_b, z_non_s, z_non_t, z_non_l, z_non_o, z_non_e, dAnd, dOr, dNot, dAndV, dOrV, dNotV, dIfE, dSlice, dNoPart, dPart, dNeg, dCall, dBM, tyD, dChain, dDrop, dPar, dSetO, dSetP, dSetOP, dPut, wApp, z_dFld, dFz, dMake, dRaise, dFldW, dAug, dPop,
    z_add_i, z_add_s, z_add_l, z_add_c, z_add_t, z_ii, z_i0, z_mul, z_rep, z_lt, z_le, z_gt, z_ge, z_isN, z_notN, z_ix_l, z_ix_c, z_ix_t, z_ix_s, z_sl_l, z_sl_c, z_sl_s, z_len_l, z_len_c, z_len_t, z_len_s, z_abs, z_max, z_int, z_int_b, z_str, z_list_l, z_list_c, z_list_t, z_index, z_tup_l, z_tup_t, z_eq_i, z_eq_s, z_eq_b, z_eq_t, z_eq_l, z_in_s, z_in_ls, z_in_ts, z_in_li, z_all, z_any, z_join, z_allf, z_anyf, z_joinf, z_lower, z_upper,
    z_isi_ii, z_isi_ib, z_isi_is, z_isi_it, z_isi_il, z_isi_bb, z_isi_bi, z_isi_ss, z_isi_si, z_isi_st, z_isi_tt, z_isi_ti, z_isi_ts, z_isi_ll, z_isi_lt, z_isi_l2, z_isi_t2, pmod_lit, pdiv_lit,
    dSeqI, dRng1, dRng2, dEnum, dComp, dpre, dMeth,
    peekAt, Slot.peek, dstart, List.foldl, List.modify, List.modifyTailIdx, List.modifyTailIdx.go, List.modifyHead_cons, List.modifyHead_nil, List.map_cons, List.map_nil, List.length_cons, List.length_nil, List.replicate, List.cons_append, List.nil_append, Nat.reduceAdd, Nat.reduceSub, Nat.zero_add, List.getElem?_cons_succ, List.getElem?_cons_zero, List.set_cons_zero, List.set_cons_succ,
    Option.some.injEq, Slot.v.injEq, Slot.own.injEq, Slot.ob.injEq, D.int.injEq, D.bl.injEq, D.str.injEq, D.tup.injEq, D.lst.injEq, D.obj.injEq, List.cons.injEq, exists_eq_left', exists_eq_left, and_true, true_and, and_assoc, exists_eq_right, exists_and_left, reduceCtorEq, false_and, and_false, exists_false, if_true, if_false, Bool.false_eq_true, List.length_map, ite_self, Option.getD_some, Option.getD_none, Bool.not_true, Bool.not_false, decide_true, decide_false, D.imm, D.imms, Bool.and_self, Bool.and_true, Bool.true_and, List.lookup, ne_eq, not_false_eq_true, false_or, true_or, or_true, or_false, dRmPre, dFind, dPartn, z_int2_s, z_int2_b, z_int2_i, z_mul2_s, z_mul2_i, dSplit, zg_is_figures, zg_is_bottom, zg_is_top, zg_l_whole])
theorem iteD {c A B : Prop} [Decidable c] (h1 : c → A) (h2 : ¬ c → B) : if decide c = true then A else B := by
  by_cases hc : c
  · rw [if_pos (decide_eq_true hc)]; exact h1 hc
  · rw [if_neg (by simp [hc])]; exact h2 hc
theorem iteN {c A B : Prop} [Decidable c] (h1 : ¬ c → A) (h2 : c → B) : if (!decide c) = true then A else B := by
  by_cases hc : c
  · rw [if_neg (by simp [hc])]; exact h2 hc
  · rw [if_pos (by simp [hc])]; exact h1 hc
theorem atI_of {α : Type} {xs : List α} {i : Int} {j : Nat} (e : i = (j : Int)) (h : j < xs.length) : atI xs i = some xs[j] := by
  subst e
  exact atI_nat (List.getElem?_eq_getElem h)
theorem atI_lit {α β : Type} (f : α → β) (ns : List α) (d : α) {i : Int} (h0 : 0 ≤ i) (h : i < ns.length) : atI (ns.map f) i = some (f (ns.getD i.toNat d)) := by
  have hj : i.toNat < ns.length := by omega
  rw [atI_of (j := i.toNat) (by omega) (by rw [List.length_map]; exact hj), List.getElem_map, List.getD_eq_getElem?_getD, List.getElem?_eq_getElem hj]
  rfl
theorem getD_all {α : Type} {ns : List α} {d : α} {P : α → Prop} (j : Nat) (h : ∀ n ∈ ns, P n) (hd : P d) : P (ns.getD j d) := by
  rw [List.getD_eq_getElem?_getD]
  cases q : ns[j]? with
  | none => exact hd
  | some n => exact h n (List.mem_of_getElem? q)
/-- what is drawn of a cell -/
def mixF (k : Int) : Int := ([48271, 69621, 16807, 40692, 30269, 62089, 45991] : List Int).getD (k % 7).toNat 0
def mix (c k : Int) : Int := ((c % 2147483647 + 97 * k * k + 11) * mixF k % 2147483629) * ((c % 2147483647 + 97 * k * k + 11) * mixF k % 2147483629) % 1999999973
theorem mix_lo (c k : Int) : 0 ≤ mix c k := Int.emod_nonneg _ (by decide)
theorem mix_hi (c k : Int) : mix c k < 1999999973 := Int.emod_lt_of_pos _ (by decide)
def g_l_mix : DSp := fun xs q _ => ∃ (c k : Int), xs = [.int c, .int k] ∧ -(2 ^ 20) < k ∧ k < 2 ^ 20 ∧ q (.int (mix c k))
theorem ok_l_mix {A : Adr} (T : Txt K mg A) : FnOk P w K mg base (CXE P w) 1 A.f_l_mix A.d_l_mix ["_law_cell", "_law_k"] (spD K g_l_mix) := by
  haveI : TxC K A := ⟨⟨_, T⟩⟩
  refine T.F_l_mix.okJ sc_l_mix (fun xs q x h => ?_) (fun cdv Ar outer s H E hr => ⟨_, (jss_cons (js_set (i := 2) sc_l_mix.nd rfl (Or.inl rfl) (je_ix (je_lst (ja_c j_int (ja_c j_int (ja_c j_int (ja_c j_int (ja_c j_int (ja_c j_int (ja_c j_int ja_nil)))))))) (j_op jo_mod (jv 1) j_int)))
      (jss_cons (js_set (i := 3) sc_l_mix.nd rfl (Or.inl rfl) (j_op jo_mod (j_op jo_mul (j_op jo_add (j_op jo_add (j_op jo_mod (jv 0) j_int) (j_op jo_mul (j_op jo_mul j_int (jv 1)) (jv 1))) j_int) (jv 2)) j_int))
      (jss_one (js_ret [] (j_op jo_mod (j_op jo_mul (jv 3) (jv 3)) j_int))))), fun xs q x h => ?_⟩)
  · obtain ⟨c, k, rfl, _⟩ := h
    rfl
  · obtain ⟨c, k, rfl, k1, k2, hq⟩ := h
    walk_at "rd"
    have h1 : (k % 7).toNat < 7 := by omega
    have e1 : k % 7 = ((k % 7).toNat : Int) := by omega
    refine ⟨by decide, by decide, .int (mixF k), ?_, ?_⟩
    · exact atI_lit D.int [48271, 69621, 16807, 40692, 30269, 62089, 45991] 0 (by omega) (by show k % 7 < 7; omega)
    walk_at "rd"
    have f1 : 0 ≤ mixF k ∧ mixF k < 100000 := getD_all (P := fun n : Int => 0 ≤ n ∧ n < 100000) _ (by decide) (by decide)
    refine ⟨by decide, .l (by decide) (by decide), .r (by omega) (by omega), .r (by omega) (by omega), by decide, .l ?_ ?_, by decide, hq⟩
    · have := Int.emod_nonneg ((c % 2147483647 + 97 * k * k + 11) * mixF k) (show (2147483629 : Int) ≠ 0 by decide)
      omega
    · have := Int.emod_lt_of_pos ((c % 2147483647 + 97 * k * k + 11) * mixF k) (show (0 : Int) < 2147483629 by decide)
      omega
theorem inS_one (c : Nat) (j : Str) : inS ⟨#[c]⟩ j = decide (c ∈ j.cps.toList) := by
  unfold inS
  exact StrLaws.found_one _ _
theorem ok_is_figures {A : Adr} (T : Txt K mg A) : FnOk P w K mg base (CXE P w) 1 A.f_is_figures A.d_is_figures ["text"] (spD K g_is_figures) := by
  haveI : TxC K A := ⟨⟨_, T⟩⟩
  refine T.F_is_figures.okJ sc_is_figures (fun xs q x h => ?_) (fun cdv Ar outer s H E hr => ⟨_, (jss_one (js_ret [] (je_and (j_chain jo_le jo_le j_int (je_b jc_len (by rfl) T.b_len PySem.boot_len (ja_c (jv 0) ja_nil)) (j_glob (.int 40) (by rfl) T.g_MOST_FIGURES.choose_spec (show RelV (.int 40) _ from ⟨_, rfl⟩) (fun _ _ => rfl))) (je_one (je_b jc_all (by rfl) T.b_all PyProof.Rows.boot_all (ja_c (je_comp ["sign"] [] [] (ji_str (jv 0)) (fun _ => (jg_name (i := 0) (show @List.Nodup Str ((["sign"] : List Str) ++ ([] : List Str)) by decide +kernel) rfl (Or.inl rfl) (Or.inr rfl))) (fun _ => jf_none) (fun _ => (j_cmp jo_in (jv 0) (j_glob (.str c_FIGURES) (by rfl) T.g_FIGURES.choose_spec (show RelV (.str c_FIGURES) _ from ⟨_, rfl⟩) (fun _ _ => rfl)) (by with_unfolding_all rfl)))) ja_nil)))))), fun xs q x h => ?_⟩)
  · obtain ⟨z, rfl, _⟩ := h
    rfl
  · obtain ⟨z, rfl, hz, hq⟩ := h
    have el : z.cps.toList.length = z.length := (sg_len z).symm
    have kf : digsL z.cps.toList = false → q (.bl false) := fun e => by rw [← e]; exact hq
    walk_at "rd"
    refine ⟨hz, iteD (fun h1 => iteD (fun h2 => ?_) (fun h2 => kf ?_)) (fun h1 => kf ?_)⟩
    · refine comp_one (c := fun c => .str ⟨#[c]⟩) (xs := z.cps.toList) (fun c => .bl (decide (c ∈ c_FIGURES.cps.toList))) (by rw [el]; exact hz) (fun c _ N hN => ?_) ?_
      · walk_at "rd"
        rw [inS_one]
        exact hN
      · rw [z_allf]
        unfold digsL at hq
        rw [el, decide_eq_true (show 1 ≤ z.length by omega), decide_eq_true (show z.length ≤ 40 by omega)] at hq
        exact hq
    · unfold digsL; rw [el, decide_eq_false (show ¬ z.length ≤ 40 by omega)]; simp
    · unfold digsL; rw [el, decide_eq_false (show ¬ 1 ≤ z.length by omega)]; simp
theorem digs_len {l : List Nat} (h : digsL l = true) : 1 ≤ l.length ∧ l.length ≤ 40 := by
  unfold digsL at h
  simp only [Bool.and_eq_true, decide_eq_true_eq] at h
  exact h.1
theorem str_eq1 {a b : Nat} : ((⟨#[a]⟩ : Str) = ⟨#[b]⟩) ↔ a = b := by
  constructor
  · intro e
    have := congrArg (fun z : Str => z.cps.toList) e
    simpa using this
  · intro e; rw [e]
theorem ok_is_bottom {A : Adr} (T : Txt K mg A) : FnOk P w K mg base (CXE P w) 2 A.f_is_bottom A.d_is_bottom ["text"] (spD K g_is_bottom) := by
  have G_is_figures := ok_is_figures (P := P) (w := w) (base := base) T
  haveI : TxC K A := ⟨⟨_, T⟩⟩
  refine T.F_is_bottom.okJ sc_is_bottom (fun xs q x h => ?_) (fun cdv Ar outer s H E hr => ⟨_, (jss_one (js_ret [] (je_and (je_call G_is_figures (hr.mono (by decide)) (by rfl) T.m_is_figures T.k_is_figures T.a_is_figures passX_fn (ja_c (jv 0) ja_nil)) (je_one (j_cmp (jo_ne hr.u100) (je_ix (jv 0) j_int) j_str (nomark _)))))), fun xs q x h => ?_⟩)
  · obtain ⟨z, rfl, _⟩ := h
    rfl
  · obtain ⟨z, rfl, hz, hq⟩ := h
    walk_at "rd"
    refine ⟨hz, ?_⟩
    unfold botL at hq
    cases hn : digsL z.cps.toList with
    | false => rw [hn] at hq; exact hq
    | true =>
      rw [hn] at hq
      have hl := digs_len hn
      rw [if_pos rfl]
      refine ⟨hz, _, atI_of (j := 0) rfl (by omega), ?_⟩
      have e : z.cps.toList[0] = z.cps.toList.getD 0 0 := by rw [List.getD_eq_getElem?_getD, List.getElem?_eq_getElem (by omega)]; rfl
      rw [e]
      have e2 : decide ((⟨#[z.cps.toList.getD 0 0]⟩ : Str) = Str.ofString "0") = decide (z.cps.toList.getD 0 0 = 48) := decide_eq_decide.mpr (str_eq1 (b := 48))
      rw [e2]
      exact hq
theorem rmpre_sg (x : Str) : (Txt.removeprefix x "-").cps.toList = unmin x.cps.toList := by
  have es : Builtin.Str.subAt x "-" 0 = decide (x.cps.toList.take 1 = [45]) := by
    unfold Builtin.Str.subAt
    rw [Bool.eq_iff_iff, beq_iff_eq, decide_eq_true_eq]
    have e1 : (x.cps.extract 0 (0 + (Str.ofString "-").length)).toList = x.cps.toList.take 1 := by
      rw [Array.toList_extract, List.extract_eq_take_drop, List.drop_zero]
      rfl
    constructor
    · intro e
      rw [← e1, e]
      rfl
    · intro e
      refine Array.toList_inj.mp ?_
      rw [e1, e]
      rfl
  unfold Txt.removeprefix
  rw [es]
  have el := sg_len x
  cases e : x.cps.toList with
  | nil => exact e
  | cons c r =>
    rw [e] at el
    by_cases hc : c = 45
    · subst hc
      rw [if_pos (show decide (List.take 1 (45 :: r) = [45]) = true from decide_eq_true rfl)]
      show (if (x.length - (Str.ofString "-").length == x.length) = true then x else Builtin.Str.strSub x (Str.ofString "-").length x.length).cps.toList = r
      rw [show (Str.ofString "-").length = 1 from rfl, if_neg (by simp at el ⊢; omega), StrLaws.strSub_toList, e]
      show List.take (x.length - 1) r = r
      exact List.take_of_length_le (by simp at el; omega)
    · rw [if_neg (by simpa using hc)]
      show x.cps.toList = unmin (c :: r)
      rw [e]
      unfold unmin
      split
      · rename_i z
        cases z
        exact absurd rfl hc
      · rfl
theorem ok_is_top {A : Adr} (T : Txt K mg A) : FnOk P w K mg base (CXE P w) 3 A.f_is_top A.d_is_top ["text"] (spD K g_is_top) := by
  have G_is_bottom := ok_is_bottom (P := P) (w := w) (base := base) T
  haveI : TxC K A := ⟨⟨_, T⟩⟩
  refine T.F_is_top.okJ sc_is_top (fun xs q x h => ?_) (fun cdv Ar outer s H E hr => ⟨_, (jss_one (js_ret [] (je_or (j_cmp (jo_eq hr.u100) (jv 0) j_str (nomark _)) (je_one (je_call G_is_bottom (hr.mono (by decide)) (by rfl) T.m_is_bottom T.k_is_bottom T.a_is_bottom passX_fn (ja_c (je_bm PySem.F.plainAttrs_str PySem.F.slot_str_removeprefix PySem.F.type_str_removeprefix jm_removeprefix (jv 0) (ja_c j_str ja_nil)) ja_nil)))))), fun xs q x h => ?_⟩)
  · obtain ⟨z, rfl, _⟩ := h
    rfl
  · obtain ⟨z, rfl, hz, hq⟩ := h
    walk_at "rd"
    unfold topL at hq
    have e0 : decide (z = Str.ofString "0") = decide (z.cps.toList = [48]) := decide_eq_decide.mpr ⟨fun e => by rw [e]; rfl, fun e => by
      have : z.cps = #[48] := Array.toList_inj.mp (by rw [e])
      cases z
      cases this
      rfl⟩
    rw [e0]
    have ul : (unmin z.cps.toList).length ≤ z.length := by
      rw [sg_len]
      unfold unmin
      split <;> simp_all
    refine iteD (fun e => ?_) (fun e => ⟨hz, by rw [sg_len, rmpre_sg]; omega, ?_⟩)
    · rw [decide_eq_true e] at hq
      exact hq
    · rw [decide_eq_false e] at hq
      rw [rmpre_sg]
      exact hq
theorem occ_stay (s sub : Str) (hi : Nat) : ∀ (l : List Nat) (st : Array Nat × Nat), 1 ≤ st.fst.size → (forIn l st (StrLaws.occBody s sub hi 1)).run.fst = st.fst := by
  intro l
  induction l with
  | nil => intro st _; rfl
  | cons a l ih =>
    intro st h
    rw [List.forIn_cons]
    unfold StrLaws.occBody
    rw [if_neg (by omega)]
    exact ih st h
theorem occ_go (x : Str) (c : Nat) : ∀ (m cur : Nat), (∃ i, cur ≤ i ∧ i < cur + m ∧ x.cps.toList[i]? = some c ∧ (∀ j, cur ≤ j → j < i → x.cps.toList[j]? ≠ some c) ∧ (forIn (List.range' cur m) ((#[] : Array Nat), 0) (StrLaws.occBody x ⟨#[c]⟩ x.length 1)).run.fst.toList = [i]) ∨
    ((∀ j, cur ≤ j → j < cur + m → x.cps.toList[j]? ≠ some c) ∧ (forIn (List.range' cur m) ((#[] : Array Nat), 0) (StrLaws.occBody x ⟨#[c]⟩ x.length 1)).run.fst.toList = []) := by
  intro m
  induction m with
  | zero => exact fun cur => .inr ⟨fun j h1 h2 => by omega, rfl⟩
  | succ m ih =>
    intro cur
    have one := StrLaws.subAt_one x c cur
    by_cases h : x.cps.toList[cur]? = some c
    · refine .inl ⟨cur, Nat.le_refl _, by omega, h, fun j h1 h2 => by omega, ?_⟩
      rw [List.range'_succ, List.forIn_cons]
      have hc := one.mpr h
      have hb : StrLaws.occBody x ⟨#[c]⟩ x.length 1 cur ((#[] : Array Nat), 0) = pure (ForInStep.yield ((#[] : Array Nat).push cur, cur + (⟨#[c]⟩ : Str).length)) := by
        unfold StrLaws.occBody
        rw [if_pos ⟨⟨⟨by simp, Nat.zero_le _⟩, hc.1⟩, hc.2⟩]
      rw [hb]
      have := occ_stay x ⟨#[c]⟩ x.length (List.range' (cur + 1) m) ((#[] : Array Nat).push cur, cur + (⟨#[c]⟩ : Str).length) (by simp)
      exact congrArg Array.toList this
    · have step : (forIn (List.range' cur (m + 1)) ((#[] : Array Nat), 0) (StrLaws.occBody x ⟨#[c]⟩ x.length 1)).run.fst.toList = (forIn (List.range' (cur + 1) m) ((#[] : Array Nat), 0) (StrLaws.occBody x ⟨#[c]⟩ x.length 1)).run.fst.toList := by
        rw [List.range'_succ, List.forIn_cons]
        have hn : ¬ ((((#[] : Array Nat), 0).fst.size < 1 ∧ ((#[] : Array Nat), 0).snd ≤ cur) ∧ cur + (⟨#[c]⟩ : Str).length ≤ x.length) ∨ ¬ Builtin.Str.subAt x ⟨#[c]⟩ cur = true := by
          by_cases q : cur + (⟨#[c]⟩ : Str).length ≤ x.length ∧ Builtin.Str.subAt x ⟨#[c]⟩ cur = true
          · exact absurd (one.mp q) h
          · by_cases q1 : cur + (⟨#[c]⟩ : Str).length ≤ x.length
            · exact .inr fun z => q ⟨q1, z⟩
            · exact .inl fun z => q1 z.2
        have hb : StrLaws.occBody x ⟨#[c]⟩ x.length 1 cur ((#[] : Array Nat), 0) = pure (ForInStep.yield ((#[] : Array Nat), 0)) := by
          unfold StrLaws.occBody
          rw [if_neg (fun z => hn.elim (fun n => n z.1) (fun n => n z.2))]
        rw [hb]
        rfl
      rw [step]
      rcases ih (cur + 1) with ⟨i, h1, h2, h3, h4, h5⟩ | ⟨h1, h2⟩
      · refine .inl ⟨i, by omega, by omega, h3, fun j j1 j2 => ?_, h5⟩
        by_cases e : j = cur
        · rw [e]; exact h
        · exact h4 j (by omega) j2
      · refine .inr ⟨fun j j1 j2 => ?_, h2⟩
        by_cases e : j = cur
        · rw [e]; exact h
        · exact h1 j (by omega) (by omega)
/-- at the first stroke -/
theorem part_sg (x : Str) : (47 ∉ x.cps.toList ∧ partF x "/" = (x, Str.empty, Str.empty)) ∨ ∃ a b : Str, x.cps.toList = a.cps.toList ++ 47 :: b.cps.toList ∧ 47 ∉ a.cps.toList ∧ partF x "/" = (a, ("/" : Str), b) := by
  have el := sg_len x
  have eo := StrLaws.occ_eq x ⟨#[47]⟩ 0 x.length 1
  have eq : (Str.ofString "/" : Str) = ⟨#[47]⟩ := by decide +kernel
  rcases occ_go x 47 (x.length + 1 - 0) 0 with ⟨i, h1, h2, h3, h4, h5⟩ | ⟨h1, h2⟩
  · rw [h5] at eo
    obtain ⟨hi, h3'⟩ := List.getElem?_eq_some_iff.mp h3
    refine .inr ⟨Builtin.Str.strSub x 0 i, Builtin.Str.strSub x (i + 1) x.length, ?_, ?_, ?_⟩
    · rw [StrLaws.strSub_toList, StrLaws.strSub_toList, List.drop_zero, Nat.sub_zero, List.take_of_length_le (l := x.cps.toList.drop (i + 1)) (by rw [List.length_drop]; omega)]
      conv => lhs; rw [← List.take_append_drop i x.cps.toList, List.drop_eq_getElem_cons hi, h3']
    · rw [StrLaws.strSub_toList, List.drop_zero, Nat.sub_zero]
      intro hm
      obtain ⟨j, hj⟩ := List.getElem?_of_mem hm
      have lt : j < i := by
        have := (List.getElem?_eq_some_iff.mp hj).1
        rw [List.length_take] at this
        omega
      rw [List.getElem?_take_of_lt lt] at hj
      exact h4 j (Nat.zero_le _) lt hj
    · unfold partF
      rw [eq, eo]
      rfl
  · rw [h2] at eo
    refine .inl ⟨fun hm => ?_, ?_⟩
    · obtain ⟨j, hj⟩ := List.getElem?_of_mem hm
      have := (List.getElem?_eq_some_iff.mp hj).1
      exact h1 j (Nat.zero_le _) (by omega) hj
    · unfold partF
      rw [eq, eo]
theorem ifB {b : Bool} {A B : Prop} (h1 : b = true → A) (h2 : b = false → B) : if b = true then A else B := by
  cases b
  · exact h2 rfl
  · exact h1 rfl
theorem ifNB {b : Bool} {A B : Prop} (h1 : b = false → A) (h2 : b = true → B) : if (!b) = true then A else B := by
  cases b
  · exact h1 rfl
  · exact h2 rfl
def wD (a b : Int) : D := .tup [.int a, .int b]
def lowP (a b : Int) : Int := a.fdiv (Int.gcd a b : Int)
def lowQ (a b : Int) : Int := b.fdiv (Int.gcd a b : Int)
def g_common_divisor : DSp := fun xs q _ => ∃ a b : Int, xs = [.int a, .int b] ∧ q (.int (Int.gcd a b : Int))
theorem ok_common_divisor {A : Adr} (T : Txt K mg A) : FnOk P w K mg base (CXE P w) 1 A.f_common_divisor A.d_common_divisor ["one", "other"] (spD K g_common_divisor) := by
  haveI : TxC K A := ⟨⟨_, T⟩⟩
  refine T.F_common_divisor.okJ sc_common_divisor (fun xs q x h => ?_) (fun cdv Ar outer s H E hr => ⟨_, (jss_cons (js_while [] PassesOwn.leaving (jt_cmp (jo_ne hr.u100) (jv 1) j_int (nomark _)) (jss_one (js_par (i := 0) (j := 1) sc_common_divisor.nd rfl rfl (by decide) rfl rfl (ja_c (jv 1) (ja_c (j_op jo_mod (jv 0) (jv 1)) ja_nil)) (fun _ p => ps_par rfl sc_common_divisor.nd rfl rfl (by decide) rfl rfl p rfl))))
      (jss_one (js_ret [] (je_b jc_abs (by rfl) T.b_abs PyProof.Rows.boot_abs (ja_c (jv 0) ja_nil))))), fun xs q x h => ?_⟩)
  · obtain ⟨a, b, rfl, _⟩ := h
    rfl
  · obtain ⟨a, b, rfl, hq⟩ := h
    walk_at "rd"
    refine ⟨fun m ds => ∃ x y : Int, ds = [.v (.int x), .v (.int y)] ∧ Int.gcd x y = Int.gcd a b ∧ m = y.natAbs, ⟨_, a, b, rfl, rfl, rfl⟩, ?_⟩
    rintro m _ ⟨x, y, rfl, e, rfl⟩
    walk_at "rd"
    refine iteN (fun hp => ?_) (fun hp => ?_)
    · rw [pmod_eq]
      exact ⟨hp, _, fmod_lt x y hp, (gcd_fmod x y).trans e, rfl⟩
    · subst hp
      rw [Int.gcd_zero_right] at e
      have : (if x < 0 then -x else x) = (Int.gcd a b : Int) := by rw [← e]; split <;> omega
      rw [this]
      exact hq
def g_fraction : DSp := fun xs q _ => ∃ a b : Int, xs = [.int a, .int b] ∧ 0 < b ∧ Bd 9000 b ∧ q (wD (lowP a b) (lowQ a b))
theorem ok_fraction {A : Adr} (T : Txt K mg A) : FnOk P w K mg base (CXE P w) 2 A.f_fraction A.d_fraction ["top", "bottom"] (spD K g_fraction) := by
  have G_common_divisor := ok_common_divisor (P := P) (w := w) (base := base) T
  haveI : TxC K A := ⟨⟨_, T⟩⟩
  refine T.F_fraction.okJ sc_fraction (fun xs q x h => ?_) (fun cdv Ar outer s H E hr => ⟨_, (jss_cons (js_set (i := 2) sc_fraction.nd rfl (Or.inl rfl) (je_call G_common_divisor (hr.mono (by decide)) (by rfl) T.m_common_divisor T.k_common_divisor T.a_common_divisor passX_fn (ja_c (jv 0) (ja_c (jv 1) ja_nil))))
      (jss_cons (js_if [] (jt_cmp jo_lt (jv 1) j_int (nomark _)) (jss_one (js_set (i := 2) sc_fraction.nd rfl (Or.inl rfl) (je_neg (jv 2)))) jss_nil)
      (jss_one (js_ret [] (je_tup (ja_c (j_op jo_fdiv (jv 0) (jv 2)) (ja_c (j_op jo_fdiv (jv 1) (jv 2)) ja_nil))))))), fun xs q x h => ?_⟩)
  · obtain ⟨a, b, rfl, _⟩ := h
    rfl
  · obtain ⟨a, b, rfl, hb, hB, hq⟩ := h
    have gp := gcd_pos (a := a) (b := b) (by omega)
    have gB : Bd 9000 (Int.gcd a b : Int) := hB.le (by
      have := Int.le_of_dvd hb (Int.gcd_dvd_right a b)
      omega)
    walk_at "rd"
    refine ⟨_, _, rfl, ?_⟩
    walk_at "rd"
    refine iteD (fun e => by omega) (fun e => ?_)
    rw [pdiv_eq, pdiv_eq]
    exact ⟨by omega, .inr gB, by omega, .inr gB, by decide, hq⟩
def valB (l : List Nat) : Int := (NumText.digitsVal l : Nat)
def valT : List Nat → Int
  | 45 :: r => -valB r
  | l => valB l
/-- how the program reads a fraction -/
def readP (z : Str) : Option (Int × Int) :=
  let b := if (partF z "/").2.1 = Str.empty then ("1" : Str) else (partF z "/").2.2
  if topL (partF z "/").1.cps.toList && botL b.cps.toList then some (valT (partF z "/").1.cps.toList, valB b.cps.toList) else none
open NumText in
theorem digs_all {l : List Nat} (h : digsL l = true) : AllDigits l := by
  unfold digsL at h
  rw [Bool.and_eq_true] at h
  have fig : ∀ c ∈ c_FIGURES.cps.toList, 48 ≤ c ∧ c ≤ 57 := by decide +kernel
  exact fun c hc => fig c (of_decide_eq_true (List.all_eq_true.mp h.2 c hc))
open NumText in
theorem val_lt : ∀ (l : List Nat), AllDigits l → digitsVal l < 10 ^ l.length := by
  have go : ∀ (l : List Nat) (a : Nat), AllDigits l → l.foldl (fun acc c => acc * 10 + (c - 48)) a + 1 ≤ (a + 1) * 10 ^ l.length := by
    intro l
    induction l with
    | nil => intro a _; simp
    | cons c l ih =>
      intro a h
      rw [List.foldl_cons, List.length_cons]
      have h1 := ih (a * 10 + (c - 48)) h.tail
      have h2 := h.head
      have h3 : (a * 10 + (c - 48) + 1) * 10 ^ l.length ≤ ((a + 1) * 10) * 10 ^ l.length := Nat.mul_le_mul_right _ (by omega)
      have h4 : ((a + 1) * 10) * 10 ^ l.length = (a + 1) * 10 ^ (l.length + 1) := by rw [Nat.pow_succ, Nat.mul_assoc, Nat.mul_comm 10]
      omega
  intro l h
  have := go l 0 h
  unfold digitsVal
  omega
theorem val_bd {l : List Nat} (h : digsL l = true) : valB l < 10 ^ 40 ∧ 0 ≤ valB l := by
  have h1 := val_lt l (digs_all h)
  have h2 : 10 ^ l.length ≤ 10 ^ 40 := Nat.pow_le_pow_right (by decide) (digs_len h).2
  unfold valB
  omega
theorem bd40 {i : Int} (h0 : -(10 ^ 40) < i) (h1 : i < 10 ^ 40) : Bd 9000 i := (Bd.of (n := 200) (by omega) (by omega)).mono (by decide)
open NumText in
theorem int_bot {b : Str} (h : botL b.cps.toList = true) : PySem.intText? b = some (valB b.cps.toList) ∧ 0 < valB b.cps.toList ∧ Bd 9000 (valB b.cps.toList) := by
  unfold botL at h
  rw [Bool.and_eq_true] at h
  have hl := digs_len h.1
  have hd := digs_all h.1
  have v := val_bd h.1
  refine ⟨intText_digits hd (fun z => by rw [z] at hl; simp at hl) (by rw [sg_len]; omega), ?_, bd40 (by omega) v.1⟩
  cases e : b.cps.toList with
  | nil => rw [e] at hl; simp at hl
  | cons c r =>
    rw [e] at h hd
    have hc := hd.head
    have : c ≠ 48 := by simpa using h.2
    unfold valB
    have := digitsVal_pos (c := c) (cs := r) (by omega)
    omega
open NumText in
theorem int_top {a : Str} (h : topL a.cps.toList = true) : PySem.intText? a = some (valT a.cps.toList) := by
  unfold topL at h
  rw [Bool.or_eq_true] at h
  rcases h with h | h
  · have e := of_decide_eq_true h
    have := intText_digits (x := a) (by rw [e]; intro c hc; rw [List.mem_singleton.mp hc]; decide) (by rw [e]; simp) (by rw [sg_len, e]; decide)
    rw [this, e]
    rfl
  · cases e : a.cps.toList with
    | nil => rw [e] at h; exact absurd h (by decide)
    | cons c r =>
      rw [e] at h
      by_cases hc : c = 45
      · subst hc
        have h : botL r = true := h
        unfold botL at h
        rw [Bool.and_eq_true] at h
        have hl := digs_len h.1
        exact intText_neg e (digs_all h.1) (fun z => by rw [z] at hl; simp at hl) (by rw [sg_len, e, List.length_cons]; omega)
      · have eu : unmin (c :: r) = c :: r := by
          unfold unmin
          split
          · rename_i z; cases z; exact absurd rfl hc
          · rfl
        have ev : valT (c :: r) = valB (c :: r) := by
          unfold valT
          split
          · rename_i z; cases z; exact absurd rfl hc
          · rfl
        rw [eu, ← e] at h
        rw [ev, ← e]
        exact (int_bot h).1
theorem part_len (z : Str) : (partF z "/").1.length ≤ z.length ∧ (partF z "/").2.2.length ≤ z.length := by
  rcases part_sg z with ⟨_, e⟩ | ⟨a, b, e, _, e2⟩
  · rw [e]; exact ⟨Nat.le_refl _, Nat.zero_le _⟩
  · rw [e2]
    have := congrArg List.length e
    rw [List.length_append, List.length_cons, ← sg_len, ← sg_len, ← sg_len] at this
    exact ⟨by show a.length ≤ _; omega, by show b.length ≤ _; omega⟩
def g_read_fraction (A : Adr) : DSp := fun xs q x => ∃ z : Str, xs = [.str z] ∧ z.length ≤ 600 ∧ (∀ t b, readP z = some (t, b) → 0 < b ∧ Bd 9000 b ∧ q (wD (lowP t b) (lowQ t b))) ∧ (readP z = none → x A.C_NoLine)
theorem ok_read_fraction {A : Adr} (T : Txt K mg A) : FnOk P w K mg base (CXE P w) 4 A.f_read_fraction A.d_read_fraction ["text"] (spD K (g_read_fraction A)) := by
  have G_fraction := ok_fraction (P := P) (w := w) (base := base) T
  have G_is_top := ok_is_top (P := P) (w := w) (base := base) T
  have G_is_bottom := ok_is_bottom (P := P) (w := w) (base := base) T
  haveI : TxC K A := ⟨⟨_, T⟩⟩
  refine T.F_read_fraction.okJ sc_read_fraction (fun xs q x h => ?_) (fun cdv Ar outer s H E hr => ⟨_, (jss_cons (js_asg (je_bm PySem.F.plainAttrs_str PySem.F.slot_str_partition PySem.F.type_str_partition jm_partition (jv 0) (ja_c j_str ja_nil)) (jg_tup (n := 3) (jgs_cons (jg_name (i := 1) sc_read_fraction.nd rfl (Or.inl rfl)) (jgs_cons (jg_name (i := 2) sc_read_fraction.nd rfl (Or.inl rfl)) (jgs_cons (jg_name (i := 3) sc_read_fraction.nd rfl (Or.inl rfl)) jgs_nil)))))
      (jss_cons (js_if [] (jt_cmp (jo_eq hr.u100) (jv 2) j_str (nomark _)) (jss_one (js_set (i := 3) sc_read_fraction.nd rfl (Or.inl rfl) j_str)) jss_nil)
      (jss_cons (js_if [] (jt_w (jw_or (jt_not (jt_val (je_call G_is_top (hr.mono (by decide)) (by rfl) T.m_is_top T.k_is_top T.a_is_top passX_fn (ja_c (jv 1) ja_nil)))) (jw_or1 (jt_not (jt_val (je_call G_is_bottom (hr.mono (by decide)) (by rfl) T.m_is_bottom T.k_is_bottom T.a_is_bottom passX_fn (ja_c (jv 3) ja_nil))))))) (jss_one (js_raise [] T.x_NoLine T.M_NoLine (ja_c j_str ja_nil))) jss_nil)
      (jss_one (js_ret [] (je_call G_fraction (hr.mono (by decide)) (by rfl) T.m_fraction T.k_fraction T.a_fraction passX_fn (ja_c (je_bt jc_int2 (by rfl) T.b_int PyProof.Rows.boot_int (ja_c (jv 1) ja_nil)) (ja_c (je_bt jc_int2 (by rfl) T.b_int PyProof.Rows.boot_int (ja_c (jv 3) ja_nil)) ja_nil)))))))), fun xs q x h => ?_⟩)
  · obtain ⟨z, rfl, _⟩ := h
    rfl
  · obtain ⟨z, rfl, hz, hg, hb⟩ := h
    have hsz : sizeLine = 16777216 := rfl
    walk_at "rd"
    obtain ⟨l1, l2⟩ := part_len z
    unfold readP at hg hb
    generalize partF z (Str.ofString "/") = p at l1 l2 hg hb ⊢
    obtain ⟨a, st, b⟩ := p
    have tail : ∀ b' : Str, b'.length ≤ 600 → (if st = Str.empty then ("1" : Str) else b) = b' → a.length ≤ sizeLine ∧ (if (!topL a.cps.toList) = true then 1 ≤ sizeLine ∧ x A.C_NoLine else b'.length ≤ sizeLine ∧ (if (!botL b'.cps.toList) = true then 1 ≤ sizeLine ∧ x A.C_NoLine else ∃ n, intText? a = some n ∧ a.length ≤ 640 ∧ ∃ n_1, intText? b' = some n_1 ∧ b'.length ≤ 640 ∧ g_fraction [D.int n, D.int n_1] q x)) := fun b' hl e => by
      simp only [e] at hg hb
      refine ⟨by show a.length ≤ _; have : a.length ≤ z.length := l1; omega, ifNB (fun e1 => ⟨by decide, hb (by rw [e1]; rfl)⟩) (fun e1 => ⟨by omega, ifNB (fun e2 => ⟨by decide, hb (by rw [e1, e2]; rfl)⟩) (fun e2 => ?_)⟩)⟩
      obtain ⟨i1, i2, i3⟩ := int_bot e2
      obtain ⟨_, _, hq⟩ := hg _ _ (by rw [e1, e2]; rfl)
      exact ⟨_, int_top e1, by have : a.length ≤ z.length := l1; omega, _, i1, by omega, _, _, rfl, i2, i3, hq⟩
    refine ⟨by omega, by decide, iteD (fun e => tail "1" (by decide) (if_pos e)) (fun e => tail b (by have : b.length ≤ z.length := l2; omega) (if_neg e))⟩
open NumText PySem.W.KIN in
theorem ds_all (m : Nat) : AllDigits ((Nat.toDigits 10 m).map Char.toNat) := by
  intro c hc
  obtain ⟨ch, hch, e⟩ := List.mem_map.mp hc
  rw [← e]
  exact PyProof.Rows.digit_range (Nat.isDigit_of_mem_toDigits (by decide) (by decide) hch)
theorem ds_len : ∀ (k m : Nat), m < 10 ^ (k + 1) → (Nat.toDigits 10 m).length ≤ k + 1 := by
  intro k
  induction k with
  | zero => intro m h; rw [Nat.toDigits_of_lt_base (by simpa using h)]; exact Nat.le_refl _
  | succ k ih =>
    intro m h
    by_cases hm : m < 10
    · rw [Nat.toDigits_of_lt_base hm]; show 1 ≤ _; omega
    · have t : Nat.toDigits 10 (m / 10) ++ Nat.toDigits 10 (m % 10) = Nat.toDigits 10 (10 * (m / 10) + m % 10) := Nat.toDigits_append_toDigits (by decide) (by omega) (Nat.mod_lt m (by decide))
      rw [Nat.div_add_mod] at t
      rw [← t, List.length_append, Nat.toDigits_of_lt_base (Nat.mod_lt m (by decide))]
      have := ih (m / 10) (by rw [Nat.pow_succ] at h; omega)
      show (Nat.toDigits 10 (m / 10)).length + 1 ≤ _
      omega
theorem ds_ne (m : Nat) : Nat.toDigits 10 m ≠ [] := fun e => by
  have := PySem.W.KIN.val_back m
  have h := Nat.length_toDigits_pos (b := 10) (n := m)
  rw [e] at h
  exact absurd h (by simp)
/-- the signs of a number's text -/
def txtN (m : Nat) : List Nat := (Nat.toDigits 10 m).map Char.toNat
def txtI (i : Int) : List Nat := if i < 0 then 45 :: txtN i.natAbs else txtN i.natAbs
theorem txt_sg (i : Int) : (Str.ofString (toString i)).cps.toList = txtI i := by
  unfold txtI txtN
  cases i with
  | ofNat m =>
    rw [if_neg (by show ¬ (m : Int) < 0; omega)]
    exact PySem.W.KIN.signs_num m
  | negSucc m =>
    rw [if_pos (Int.negSucc_lt_zero m), PyProof.Rows.signs_ofString]
    show ("-" ++ Nat.repr (m + 1)).toList.map Char.toNat = 45 :: (Nat.toDigits 10 (m + 1)).map Char.toNat
    rw [String.toList_append, List.map_append, Nat.toList_repr]
    rfl
theorem txtN_dig {m : Nat} (h : m < 10 ^ 40) : digsL (txtN m) = true := by
  unfold digsL txtN
  have hl := ds_len 39 m h
  have hp : 1 ≤ (Nat.toDigits 10 m).length := List.length_pos_iff.mpr (ds_ne m)
  have fig : ∀ c, 48 ≤ c → c ≤ 57 → c ∈ c_FIGURES.cps.toList := by
    intro c h1 h2
    have : ∀ c, c < 58 → 48 ≤ c → c ∈ c_FIGURES.cps.toList := by decide +kernel
    exact this c (by omega) h1
  rw [List.length_map, decide_eq_true hp, decide_eq_true hl]
  exact List.all_eq_true.mpr fun c hc => decide_eq_true (fig c (ds_all m c hc).1 (ds_all m c hc).2)
theorem txtN_val (m : Nat) : valB (txtN m) = m := by
  unfold valB txtN
  rw [PySem.W.KIN.val_back]
theorem txtN_head {m : Nat} (h : 0 < m) : (txtN m).getD 0 0 ≠ 48 := by
  unfold txtN
  induction m using Nat.strongRecOn with
  | _ m ih =>
    by_cases hm : m < 10
    · rw [Nat.toDigits_of_lt_base hm]
      have : ∀ d : Nat, d < 10 → 0 < d → ([Nat.digitChar d].map Char.toNat).getD 0 0 ≠ 48 := by decide
      exact this m hm h
    · have t : Nat.toDigits 10 (m / 10) ++ Nat.toDigits 10 (m % 10) = Nat.toDigits 10 (10 * (m / 10) + m % 10) := Nat.toDigits_append_toDigits (by decide) (by omega) (Nat.mod_lt m (by decide))
      rw [Nat.div_add_mod] at t
      rw [← t, List.map_append]
      have i := ih (m / 10) (by omega) (by omega)
      have hp := List.length_pos_iff.mpr (ds_ne (m / 10))
      rw [List.getD_eq_getElem?_getD, List.getElem?_append_left (by rw [List.length_map]; exact hp), ← List.getD_eq_getElem?_getD]
      exact i
theorem txtN_bot {m : Nat} (h : 0 < m) (h2 : m < 10 ^ 40) : botL (txtN m) = true := by
  unfold botL
  rw [txtN_dig h2, decide_eq_false (txtN_head h)]
  rfl
theorem txtI_top {i : Int} (h : i.natAbs < 10 ^ 40) : topL (txtI i) = true ∧ valT (txtI i) = i := by
  unfold txtI
  by_cases hi : i < 0
  · rw [if_pos hi]
    refine ⟨?_, ?_⟩
    · show (decide _ || botL (txtN i.natAbs)) = true
      rw [txtN_bot (by omega) h]
      simp
    · show -valB (txtN i.natAbs) = i
      rw [txtN_val]
      omega
  · rw [if_neg hi]
    have h45 : ∀ r, txtN i.natAbs ≠ 45 :: r := fun r e => by
      have := ds_all i.natAbs 45 (by show 45 ∈ txtN i.natAbs; rw [e]; simp)
      omega
    have ev : valT (txtN i.natAbs) = valB (txtN i.natAbs) := by
      unfold valT
      split
      · rename_i r z; exact absurd z (h45 r)
      · rfl
    have eu : unmin (txtN i.natAbs) = txtN i.natAbs := by
      unfold unmin
      split
      · rename_i r z; exact absurd z (h45 r)
      · rfl
    refine ⟨?_, by rw [ev, txtN_val]; omega⟩
    unfold topL
    rw [eu]
    by_cases h0 : i = 0
    · subst h0
      rfl
    · rw [txtN_bot (by omega) h]
      simp
theorem txtI_free (i : Int) : 47 ∉ txtI i := by
  intro h
  have hn : 47 ∉ txtN i.natAbs := fun h => by have := ds_all i.natAbs 47 h; omega
  unfold txtI at h
  split at h
  · rcases List.mem_cons.mp h with e | h
    · cases e
    · exact hn h
  · exact hn h
-- SPLIT
theorem cut_uniq {c : Nat} : ∀ {a a' b b' : List Nat}, c ∉ a → c ∉ a' → a ++ c :: b = a' ++ c :: b' → a = a' ∧ b = b'
  | [], [], _, _, _, _, e => ⟨rfl, by simpa using e⟩
  | [], x :: a', _, _, _, h, e => by simp at e; exact absurd (e.1 ▸ List.mem_cons_self ..) h
  | x :: a, [], _, _, h, _, e => by simp at e; exact absurd (e.1 ▸ List.mem_cons_self ..) h
  | x :: a, y :: a', b, b', h, h', e => by
    simp at e
    obtain ⟨e1, e2⟩ := cut_uniq (fun z => h (List.mem_cons_of_mem _ z)) (fun z => h' (List.mem_cons_of_mem _ z)) e.2
    exact ⟨by rw [e.1, e1], e2⟩
theorem str_sg {a b : Str} (h : a.cps.toList = b.cps.toList) : a = b := by
  cases a; cases b
  have := Array.toList_inj.mp h
  simp only at this
  rw [this]
theorem part_of {z a b : Str} (e : z.cps.toList = a.cps.toList ++ 47 :: b.cps.toList) (h : 47 ∉ a.cps.toList) : partF z "/" = (a, ("/" : Str), b) := by
  rcases part_sg z with ⟨n, _⟩ | ⟨a', b', e', h', p⟩
  · exact absurd (by rw [e]; simp) n
  · rw [e] at e'
    obtain ⟨e1, e2⟩ := cut_uniq h h' e'
    rw [p, str_sg e1, str_sg e2]
theorem part_none {z : Str} (h : 47 ∉ z.cps.toList) : partF z "/" = (z, Str.empty, Str.empty) := by
  rcases part_sg z with ⟨_, p⟩ | ⟨a', b', e', _⟩
  · exact p
  · exact absurd (by rw [e']; simp) h
/-- the text of a fraction -/
def sT (i : Int) : Str := Str.ofString (toString i)
def frT (t b : Int) : Str := if b = 1 then sT t else sT t ++ "/" ++ sT b
theorem read_two {t b : Int} (ht : t.natAbs < 10 ^ 40) (hb : 0 < b) (hb2 : b < 10 ^ 40) : readP (sT t ++ "/" ++ sT b) = some (t, b) := by
  have e : (sT t ++ ("/" : Str) ++ sT b).cps.toList = (sT t).cps.toList ++ 47 :: (sT b).cps.toList := by
    rw [sg_app, sg_app, List.append_assoc]
    rfl
  have hf : 47 ∉ (sT t).cps.toList := by unfold sT; rw [txt_sg]; exact txtI_free t
  unfold readP
  rw [part_of e hf]
  show (if topL (sT t).cps.toList && botL (if ("/" : Str) = Str.empty then ("1" : Str) else sT b).cps.toList then some (valT (sT t).cps.toList, valB (if ("/" : Str) = Str.empty then ("1" : Str) else sT b).cps.toList) else none) = _
  rw [if_neg (show ¬ ("/" : Str) = Str.empty by decide +kernel)]
  have eb : (sT b).cps.toList = txtN b.natAbs := by unfold sT; rw [txt_sg]; unfold txtI; rw [if_neg (by omega)]
  have et : (sT t).cps.toList = txtI t := by unfold sT; rw [txt_sg]
  rw [eb, et, (txtI_top ht).1, (txtI_top ht).2, txtN_bot (by omega) (by omega), txtN_val]
  simp
  omega
theorem read_one {t : Int} (ht : t.natAbs < 10 ^ 40) : readP (sT t) = some (t, 1) := by
  have et : (sT t).cps.toList = txtI t := by unfold sT; rw [txt_sg]
  unfold readP
  rw [part_none (by rw [et]; exact txtI_free t)]
  show (if topL (sT t).cps.toList && botL (if Str.empty = Str.empty then ("1" : Str) else Str.empty).cps.toList then some (valT (sT t).cps.toList, valB (if Str.empty = Str.empty then ("1" : Str) else Str.empty).cps.toList) else none) = _
  rw [if_pos rfl, et, (txtI_top ht).1, (txtI_top ht).2]
  have : botL ("1" : Str).cps.toList = true ∧ valB ("1" : Str).cps.toList = 1 := by decide +kernel
  rw [this.1, this.2]
  rfl
theorem log_small {i : Int} (h : i.natAbs < 10 ^ 80) : i.natAbs.log2 < 1920 := by
  by_cases h0 : i.natAbs = 0
  · rw [h0]; decide
  · have h2 : i.natAbs < 2 ^ 300 := Nat.lt_trans h (by decide +kernel)
    have := (Nat.log2_lt h0).mpr h2
    omega
theorem sT_len {i : Int} (h : i.natAbs < 10 ^ 80) : (sT i).length ≤ 81 := by
  unfold sT
  rw [sg_len, txt_sg]
  have := ds_len 79 i.natAbs h
  unfold txtI txtN
  split <;> simp <;> omega
def g_fraction_text : DSp := fun xs q _ => ∃ t b : Int, xs = [wD t b] ∧ t.natAbs < 10 ^ 80 ∧ b.natAbs < 10 ^ 80 ∧ q (.str (frT t b))
theorem empty_app (x : Str) : Str.empty ++ x = x := str_sg (by rw [sg_app]; rfl)
theorem ok_fraction_text {A : Adr} (T : Txt K mg A) : FnOk P w K mg base (CXE P w) 1 A.f_fraction_text A.d_fraction_text ["one"] (spD K g_fraction_text) := by
  haveI : TxC K A := ⟨⟨_, T⟩⟩
  refine T.F_fraction_text.okJ sc_fraction_text (fun xs q x h => ?_) (fun cdv Ar outer s H E hr => ⟨_, (jss_cons (js_asg (jv 0) (jg_tup (n := 2) (jgs_cons (jg_name (i := 1) sc_fraction_text.nd rfl (Or.inl rfl)) (jgs_cons (jg_name (i := 2) sc_fraction_text.nd rfl (Or.inl rfl)) jgs_nil))))
      (jss_cons (js_if [] (jt_cmp (jo_eq hr.u100) (jv 2) j_int (nomark _)) (jss_one (js_ret [] (je_bt jc_str (by rfl) T.b_str PyProof.Rows.boot_str (ja_c (jv 1) ja_nil)))) jss_nil)
      (jss_one (js_ret [] (je_fstr (jp_val (jv 1) (jp_text (jp_val (jv 2) jp_nil)))))))), fun xs q x h => ?_⟩)
  · obtain ⟨t, b, rfl, _⟩ := h
    rfl
  · obtain ⟨t, b, rfl, ht, hb, hq⟩ := h
    have e1 : (toString t : Str).length ≤ 81 := sT_len ht
    have e2 : (toString b : Str).length ≤ 81 := sT_len hb
    unfold wD
    walk_at "rd"
    unfold frT at hq
    refine iteD (fun e => ⟨log_small ht, ?_⟩) (fun e => ⟨log_small ht, by omega, log_small hb, by omega, ?_⟩)
    · rw [if_pos e] at hq
      exact hq
    · rw [if_neg e] at hq
      rw [empty_app]
      exact hq
def g_l_lowest : DSp := fun xs q _ => ∃ a b : Int, xs = [.int a, .int b] ∧ 0 < b ∧ Bd 9000 b ∧ q (wD (lowP a b) (lowQ a b))
theorem ok_l_lowest {A : Adr} (T : Txt K mg A) : FnOk P w K mg base (CXE P w) 1 A.f_l_lowest A.d_l_lowest ["_law_top", "_law_bottom"] (spD K g_l_lowest) := by
  haveI : TxC K A := ⟨⟨_, T⟩⟩
  refine T.F_l_lowest.okJ sc_l_lowest (fun xs q x h => ?_) (fun cdv Ar outer s H E hr => ⟨_, (jss_cons (js_set (i := 2) sc_l_lowest.nd rfl (Or.inl rfl) (je_b jc_abs (by rfl) T.b_abs PyProof.Rows.boot_abs (ja_c (jv 0) ja_nil)))
      (jss_cons (js_set (i := 3) sc_l_lowest.nd rfl (Or.inl rfl) (jv 1))
      (jss_cons (js_while [] PassesOwn.leaving (jt_cmp jo_gt (jv 3) j_int (nomark _)) (jss_cons (js_set (i := 4) sc_l_lowest.nd rfl (Or.inl rfl) (j_op jo_mod (jv 2) (jv 3)))
      (jss_cons (js_set (i := 2) sc_l_lowest.nd rfl (Or.inl rfl) (jv 3))
      (jss_one (js_set (i := 3) sc_l_lowest.nd rfl (Or.inl rfl) (jv 4))))))
      (jss_one (js_ret [] (je_tup (ja_c (j_op jo_fdiv (jv 0) (jv 2)) (ja_c (j_op jo_fdiv (jv 1) (jv 2)) ja_nil)))))))), fun xs q x h => ?_⟩)
  · obtain ⟨a, b, rfl, _⟩ := h
    rfl
  · obtain ⟨a, b, rfl, hb, hB, hq⟩ := h
    have gp := gcd_pos (a := a) (b := b) (by omega)
    have gB : Bd 9000 (Int.gcd a b : Int) := hB.le (by
      have := Int.le_of_dvd hb (Int.gcd_dvd_right a b)
      omega)
    walk_at "rd"
    refine ⟨fun m ds => ∃ (x y : Int) (s : L2.Slot), ds = [.v (.int a), .v (.int b), .v (.int x), .v (.int y), s] ∧ 0 ≤ x ∧ 0 ≤ y ∧ Int.gcd x y = Int.gcd a b ∧ m = y.natAbs, ⟨_, _, b, .un, rfl, by split <;> omega, by omega, by split <;> simp [Int.neg_gcd], rfl⟩, ?_⟩
    rintro m _ ⟨x, y, s, rfl, hx, hy, e, rfl⟩
    walk_at "rd"
    refine iteD (fun hp => ?_) (fun hp => ?_)
    · rw [pmod_eq]
      exact ⟨by omega, _, fmod_lt x y (by omega), by omega, Int.fmod_nonneg hx hy, (gcd_fmod x y).trans e, rfl⟩
    · have ey : y = 0 := by omega
      subst ey
      have ex : x = (Int.gcd a b : Int) := by
        rw [← e, Int.gcd_zero_right]
        omega
      subst ex
      rw [pdiv_eq, pdiv_eq]
      exact ⟨by omega, .inr gB, by omega, .inr gB, by decide, hq⟩
theorem sm_of {i : Int} (a : -(2 ^ 64) < i) (b : i < 2 ^ 64) : Small i := .inr ((Bd.of a b).mono (by decide))
theorem ok_l_whole {A : Adr} (T : Txt K mg A) : FnOk P w K mg base (CXE P w) 1 A.f_l_whole A.d_l_whole ["_law_found"] (spD K g_l_whole) := by
  haveI : TxC K A := ⟨⟨_, T⟩⟩
  refine T.F_l_whole.okJ sc_l_whole (fun xs q x h => ?_) (fun cdv Ar outer s H E hr => ⟨_, (jss_one (js_ret [] (je_and (je_b (jc_isi (K := K) rfl) (by rfl) T.b_isinstance PyProof.Rows.boot_isinstance (ja_c (jv 0) (ja_c (j_type (n := "int") (by rfl) T.b_int PyProof.Rows.boot_int) ja_nil))) (je_one (je_not (je_b (jc_isi (K := K) rfl) (by rfl) T.b_isinstance PyProof.Rows.boot_isinstance (ja_c (jv 0) (ja_c (j_type (n := "bool") (by rfl) T.b_bool PyProof.Rows.boot_bool) ja_nil)))))))), fun xs q x h => ?_⟩)
  · obtain ⟨i, rfl, _⟩ := h
    rfl
  · obtain ⟨i, rfl, hq⟩ := h
    walk_at "rd"
    exact hq
theorem low_small {t b : Int} (hb : 0 < b) : Low (lowP t b) (lowQ t b) ∧ (lowP t b).natAbs ≤ t.natAbs ∧ (lowQ t b).natAbs ≤ b.natAbs := by
  have gp := gcd_pos (a := t) (b := b) (by omega)
  obtain ⟨l, _, l1, l2⟩ := low_of (a := t) (b := b) (d := (Int.gcd t b : Int)) (by omega) (.inl rfl) (Int.mul_pos hb gp)
  exact ⟨l, l1, l2⟩
def g_l_some : DSp := fun xs q _ => ∃ c p k : Int, xs = [.int c, .int p, .int k] ∧ -(2 ^ 20) < k ∧ k < 2 ^ 20 ∧ ∀ t b, Low t b → t.natAbs < 10 ^ 40 → b < 10 ^ 40 → q (wD t b)
theorem ok_l_some {A : Adr} (T : Txt K mg A) : FnOk P w K mg base (CXE P w) 2 A.f_l_some A.d_l_some ["_law_cell", "_law_kept", "_law_k"] (spD K g_l_some) := by
  have G_l_mix := ok_l_mix (P := P) (w := w) (base := base) T
  have G_l_lowest := ok_l_lowest (P := P) (w := w) (base := base) T
  haveI : TxC K A := ⟨⟨_, T⟩⟩
  refine T.F_l_some.okJ sc_l_some (fun xs q x h => ?_) (fun cdv Ar outer s H E hr => ⟨_, (jss_cons (js_set (i := 3) sc_l_some.nd rfl (Or.inl rfl) (je_call G_l_mix (hr.mono (by decide)) (by rfl) T.m_l_mix T.k_l_mix T.a_l_mix passX_fn (ja_c (jv 0) (ja_c (jv 2) ja_nil))))
      (jss_cons (js_set (i := 4) sc_l_some.nd rfl (Or.inl rfl) (j_op jo_mod (jv 0) (j_op jo_pow j_int j_int)))
      (jss_cons (js_set (i := 5) sc_l_some.nd rfl (Or.inl rfl) (j_op jo_add j_int (j_op jo_mod (jv 1) (j_op jo_pow j_int j_int))))
      (jss_cons (js_if [] (jt_cmp (jo_eq hr.u100) (j_op jo_mod (jv 3) j_int) j_int (nomark _)) (jss_one (js_set (i := 4) sc_l_some.nd rfl (Or.inl rfl) (j_op jo_mod (j_op jo_fdiv (jv 3) j_int) j_int))) jss_nil)
      (jss_cons (js_if [] (jt_cmp jo_gt (j_op jo_mod (jv 3) j_int) j_int (nomark _)) (jss_one (js_set (i := 5) sc_l_some.nd rfl (Or.inl rfl) (j_op jo_add j_int (j_op jo_mod (j_op jo_fdiv (jv 3) j_int) j_int)))) jss_nil)
      (jss_cons (js_if [] (jt_cmp (jo_eq hr.u100) (j_op jo_mod (j_op jo_fdiv (jv 3) j_int) j_int) j_int (nomark _)) (jss_one (js_set (i := 4) sc_l_some.nd rfl (Or.inl rfl) (je_neg (jv 4)))) jss_nil)
      (jss_one (js_ret [] (je_call G_l_lowest (hr.mono (by decide)) (by rfl) T.m_l_lowest T.k_l_lowest T.a_l_lowest passX_fn (ja_c (jv 4) (ja_c (jv 5) ja_nil))))))))))), fun xs q x h => ?_⟩)
  · obtain ⟨c, p, k, rfl, _⟩ := h
    rfl
  · obtain ⟨c, p, k, rfl, k1, k2, hq⟩ := h
    walk_at "rd"
    refine ⟨_, _, rfl, k1, k2, ?_⟩
    have m1 := mix_lo c k
    have m2 := mix_hi c k
    generalize mix c k = m at m1 m2 ⊢
    walk_at "rd"
    rw [show pmod c (10 ^ Int.toNat 40) = c % 10 ^ 40 from pmod_pos (by decide), show pmod p (10 ^ Int.toNat 39) = p % 10 ^ 39 from pmod_pos (by decide)]
    have c1 := Int.emod_nonneg c (show (10 : Int) ^ 40 ≠ 0 by decide)
    have c2 := Int.emod_lt_of_pos c (show (0 : Int) < 10 ^ 40 by decide)
    have p1 := Int.emod_nonneg p (show (10 : Int) ^ 39 ≠ 0 by decide)
    have p2 := Int.emod_lt_of_pos p (show (0 : Int) < 10 ^ 39 by decide)
    generalize c % 10 ^ 40 = cc at c1 c2 ⊢
    generalize p % 10 ^ 39 = pp at p1 p2 ⊢
    have fin : ∀ t b : Int, -(10 ^ 40) < t → t < 10 ^ 40 → 0 < b → b < 10 ^ 40 → g_l_lowest [.int t, .int b] q x := fun t b h0 h1 h2 h3 => by
      obtain ⟨l, l1, l2⟩ := low_small (t := t) h2
      have := l.pos
      exact ⟨t, b, rfl, h2, bd40 (by omega) h3, hq _ _ l (by omega) (by omega)⟩
    have two : ∀ t b : Int, 0 ≤ t → t < 10 ^ 40 → 0 < b → b < 10 ^ 40 → ¬(15 : Int) = 0 ∧ Small 15 ∧ ¬(2 : Int) = 0 ∧ (if decide (m / 15 % 2 = 1) = true then g_l_lowest [.int (-t), .int b] q x else g_l_lowest [.int t, .int b] q x) := fun t b h0 h1 h2 h3 =>
      ⟨by decide, sm_of (by decide) (by decide), by decide, iteD (fun _ => fin _ _ (by omega) (by omega) h2 h3) (fun _ => fin _ _ (by omega) h1 h2 h3)⟩
    refine ⟨⟨by decide, by decide, by decide⟩, by decide, ⟨by decide, by decide, by decide⟩, by decide, by decide, iteD (fun _ => ⟨by decide, sm_of (by decide) (by decide), by decide, by decide, iteD (fun _ => ⟨by decide, sm_of (by decide) (by decide), by decide, two _ _ (by omega) (by omega) (by omega) (by omega)⟩) (fun _ => two _ _ (by omega) (by omega) (by omega) (by omega))⟩)
      (fun _ => ⟨by decide, iteD (fun _ => ⟨by decide, sm_of (by decide) (by decide), by decide, two _ _ c1 c2 (by omega) (by omega)⟩) (fun _ => two _ _ c1 c2 (by omega) (by omega))⟩)⟩
def g_l_sign : DSp := fun xs q _ => ∃ m : Int, xs = [.int m] ∧ 0 ≤ m ∧ ∀ z : Str, z.length = 1 → q (.str z)
theorem at_mod {α : Type} (xs : List α) (i : Int) {n : Nat} (h : n = xs.length) (h0 : 0 < n) : ∃ c, atI xs (i % (n : Int)) = some c ∧ c ∈ xs := by
  have h1 := Int.emod_nonneg i (show (n : Int) ≠ 0 by omega)
  have h2 := Int.emod_lt_of_pos i (show (0 : Int) < n by omega)
  have hl : (i % (n : Int)).toNat < xs.length := by omega
  exact ⟨_, atI_of (by omega) hl, List.getElem_mem hl⟩
theorem ok_l_sign {A : Adr} (T : Txt K mg A) : FnOk P w K mg base (CXE P w) 1 A.f_l_sign A.d_l_sign ["_law_m"] (spD K g_l_sign) := by
  haveI : TxC K A := ⟨⟨_, T⟩⟩
  refine T.F_l_sign.okJ sc_l_sign (fun xs q x h => ?_) (fun cdv Ar outer s H E hr => ⟨_, (jss_cons (js_set (i := 1) sc_l_sign.nd rfl (Or.inl rfl) j_str)
      (jss_cons (js_set (i := 1) sc_l_sign.nd rfl (Or.inl rfl) (j_op jo_add (jv 1) j_str))
      (jss_cons (js_if [] (jt_cmp (jo_eq hr.u100) (j_op jo_mod (jv 0) j_int) j_int (nomark _)) (jss_one (js_ret [] (je_ix j_str (j_op jo_mod (j_op jo_fdiv (jv 0) j_int) j_int)))) jss_nil)
      (jss_one (js_ret [] (je_ix (jv 1) (j_op jo_mod (j_op jo_fdiv (jv 0) j_int) (je_b jc_len (by rfl) T.b_len PySem.boot_len (ja_c (jv 1) ja_nil))))))))), fun xs q x h => ?_⟩)
  · obtain ⟨m, rfl, _⟩ := h
    rfl
  · obtain ⟨m, rfl, m0, hq⟩ := h
    walk_at "rd"
    generalize e1 : (Str.ofString " !\"#$&'()*+,-./0123456789:;<=>?@ABCDEFGHIJKLMNOPQRSTUVWXYZ[\\]^_`" ++ Str.ofString "abcdefghijklmnopqrstuvwxyz{|}~" : Str) = w
    have wl : w.length = 94 := by rw [← e1]; decide +kernel
    have hsz : sizeLine = 16777216 := rfl
    obtain ⟨c, hc, _⟩ := at_mod (Str.ofString "0123456789-/").cps.toList (m / 3) (n := 12) (by decide +kernel) (by decide)
    obtain ⟨d, hd, _⟩ := at_mod w.cps.toList (m / 3) (n := w.length) (sg_len w) (by omega)
    rw [pmod_pos (show (0 : Int) < w.length by omega)]
    exact ⟨by decide +kernel, by decide, iteD (fun _ => ⟨by decide, sm_of (by decide) (by decide), by decide, by decide +kernel, c, hc, hq _ rfl⟩) (fun _ => ⟨by decide, sm_of (by decide) (by decide), by omega, by omega, by omega, d, hd, hq _ rfl⟩)⟩
def g_l_spoilt : DSp := fun xs q _ => ∃ (z : Str) (m : Int), xs = [.str z, .int m] ∧ z.length ≤ 200 ∧ 0 ≤ m ∧ ∀ r : Str, r.length ≤ 450 → q (.str r)
theorem ok_l_spoilt {A : Adr} (T : Txt K mg A) : FnOk P w K mg base (CXE P w) 2 A.f_l_spoilt A.d_l_spoilt ["_law_said", "_law_m"] (spD K g_l_spoilt) := by
  have G_l_sign := ok_l_sign (P := P) (w := w) (base := base) T
  haveI : TxC K A := ⟨⟨_, T⟩⟩
  refine T.F_l_spoilt.okJ sc_l_spoilt (fun xs q x h => ?_) (fun cdv Ar outer s H E hr => ⟨_, (jss_cons (js_set (i := 2) sc_l_spoilt.nd rfl (Or.inl rfl) (je_lst (ja_c j_str (ja_c j_str (ja_c j_str (ja_c j_str (ja_c j_str (ja_c j_str (ja_c j_str (ja_c j_str (ja_c j_str (ja_c j_str (ja_c j_str (ja_c j_str (ja_c j_str (ja_c j_str ja_nil))))))))))))))))
      (jss_cons (js_set (i := 2) sc_l_spoilt.nd rfl (Or.inl rfl) (j_op jo_add (jv 2) (je_lst (ja_c j_str (ja_c j_str (ja_c j_str (ja_c j_str (ja_c j_str (ja_c j_str (ja_c j_str (ja_c j_str (ja_c j_str (ja_c j_str ja_nil)))))))))))))
      (jss_cons (js_set (i := 3) sc_l_spoilt.nd rfl (Or.inl rfl) (j_op jo_mod (j_op jo_fdiv (jv 1) j_int) (j_op jo_add (je_b jc_len (by rfl) T.b_len PySem.boot_len (ja_c (jv 0) ja_nil)) j_int)))
      (jss_cons (js_set (i := 4) sc_l_spoilt.nd rfl (Or.inl rfl) (je_call G_l_sign (hr.mono (by decide)) (by rfl) T.m_l_sign T.k_l_sign T.a_l_sign passX_fn (ja_c (j_op jo_fdiv (jv 1) j_int) ja_nil)))
      (jss_cons (js_if [] (jt_cmp (jo_eq hr.u100) (j_op jo_mod (jv 1) j_int) j_int (nomark _)) (jss_one (js_ret [] (je_ix (jv 2) (j_op jo_mod (j_op jo_fdiv (jv 1) j_int) (je_b jc_len (by rfl) T.b_len PySem.boot_len (ja_c (jv 2) ja_nil)))))) jss_nil)
      (jss_cons (js_if [] (jt_cmp (jo_eq hr.u100) (j_op jo_mod (jv 1) j_int) j_int (nomark _)) (jss_one (js_ret [] (j_op jo_add (jv 0) (j_op jo_mul2 j_str (j_op jo_mod (j_op jo_fdiv (jv 1) j_int) j_int))))) jss_nil)
      (jss_cons (js_if [] (jt_cmp (jo_eq hr.u100) (j_op jo_mod (jv 1) j_int) j_int (nomark _)) (jss_one (js_ret [] (j_op jo_add (je_slice (jv 0) jo_none (jo_some (jv 3))) (je_slice (jv 0) (jo_some (j_op jo_add (jv 3) j_int)) jo_none)))) jss_nil)
      (jss_cons (js_if [] (jt_cmp (jo_eq hr.u100) (j_op jo_mod (jv 1) j_int) j_int (nomark _)) (jss_one (js_ret [] (j_op jo_add (j_op jo_add (je_slice (jv 0) jo_none (jo_some (jv 3))) (jv 4)) (je_slice (jv 0) (jo_some (j_op jo_add (jv 3) j_int)) jo_none)))) jss_nil)
      (jss_one (js_ret [] (j_op jo_add (j_op jo_add (je_slice (jv 0) jo_none (jo_some (jv 3))) (jv 4)) (je_slice (jv 0) (jo_some (jv 3)) jo_none)))))))))))), fun xs q x h => ?_⟩)
  · obtain ⟨z, m, rfl, _⟩ := h
    rfl
  · obtain ⟨z, m, rfl, hz, m0, hq⟩ := h
    have hsz : sizeLine = 16777216 := rfl
    walk_at "rd"
    have g6 : ∃ y : Str, atI ([("" : Str), "-", "/", "3/", "/4", "3/0", "-3/0", "3/-4", "+3", "-0", "-0/5", "0/5", "03", "3/04", "00", "--3", " 3", "3 ", "3/4/5", "3 /4", "1.5", "1e3", "0x1", "1_0"].map D.str) (m / 6 % ((24 : Nat) : Int)) = some (.str y) ∧ y.length ≤ 450 := by
      obtain ⟨d, hd, hm⟩ := at_mod ([("" : Str), "-", "/", "3/", "/4", "3/0", "-3/0", "3/-4", "+3", "-0", "-0/5", "0/5", "03", "3/04", "00", "--3", " 3", "3 ", "3/4/5", "3 /4", "1.5", "1e3", "0x1", "1_0"].map D.str) (m / 6) (n := 24) rfl (by decide)
      obtain ⟨y, hy, rfl⟩ := List.mem_map.mp hm
      have all : ∀ y ∈ [("" : Str), "-", "/", "3/", "/4", "3/0", "-3/0", "3/-4", "+3", "-0", "-0/5", "0/5", "03", "3/04", "00", "--3", " 3", "3 ", "3/4/5", "3 /4", "1.5", "1e3", "0x1", "1_0"], y.length ≤ 450 := by decide +kernel
      exact ⟨y, hd, all y hy⟩
    obtain ⟨y, hy, yl⟩ := g6
    generalize pmod (m / 6) ((z.length : Int) + 1) = ah
    have s1 : ∀ lo hi, (Txt.slice z lo hi).length ≤ z.length := fun lo hi => Txt.slice_le z lo hi
    have ap : ∀ a b : Str, (a ++ b).length = a.length + b.length := fun a b => by
      show (a.cps ++ b.cps).size = _
      rw [Array.size_append]; rfl
    refine ⟨by decide, by decide, by decide, by decide, sm_of (by decide) (by decide), by omega, by omega, by decide, sm_of (by decide) (by decide), m / 600, rfl, by omega, fun sg hsg => ⟨by decide, iteD (fun _ => ⟨by decide, sm_of (by decide) (by decide), by decide, .str y, ?_, hq y yl⟩) (fun _ => ⟨by decide, iteD (fun _ => ⟨by decide, sm_of (by decide) (by decide), by decide, by omega, by omega, by decide, fun r hr => ?_⟩) (fun _ => ⟨by decide, iteD (fun _ => ?_) (fun _ => ⟨by decide, iteD (fun _ => ?_) (fun _ => ?_)⟩)⟩)⟩)⟩⟩
    · rw [pmod_pos (by decide)]
      exact hy
    · rw [show (Str.ofString "1").length = 1 from rfl] at hr
      exact ⟨by omega, hq _ (by rw [ap]; omega)⟩
    · have a1 := s1 none (some ah)
      have a2 := s1 (some (ah + 1)) none
      exact ⟨by omega, by omega, by omega, hq _ (by rw [ap]; omega)⟩
    · have a1 := s1 none (some ah)
      have a2 := s1 (some (ah + 1)) none
      exact ⟨by omega, by omega, by omega, by rw [ap]; omega, hq _ (by rw [ap, ap]; omega)⟩
    · have a1 := s1 none (some ah)
      have a2 := s1 (some ah) none
      exact ⟨by omega, by omega, by omega, by rw [ap]; omega, hq _ (by rw [ap, ap]; omega)⟩
/-- how the law reads a number -/
def numO (l : List Nat) : Option Int := if (decide (1 ≤ l.length) && decide (l.length ≤ 40)) = false ∨ (1 < l.length ∧ l.getD 0 0 = 48) then none else if l.all (fun c => decide (c ∈ c_FIGURES.cps.toList)) = true then some (valB l) else none
def optD : Option Int → D
  | none => .non
  | some i => .int i
theorem fig_at : ∀ i, i < 10 → (Str.ofString "0123456789").cps.toList[i]? = some (48 + i) := by decide +kernel
theorem fig_is : (Str.ofString "0123456789").cps.toList = c_FIGURES.cps.toList := by decide +kernel
theorem find_fig (c : Nat) : Txt.find (Str.ofString "0123456789") ⟨#[c]⟩ = if c ∈ c_FIGURES.cps.toList then (c : Int) - 48 else -1 := by
  unfold Txt.find
  have hl : (Str.ofString "0123456789").length = 10 := by decide +kernel
  have ll : (Str.ofString "0123456789").cps.toList.length = 10 := by decide +kernel
  have eo := StrLaws.occ_eq (Str.ofString "0123456789") ⟨#[c]⟩ 0 (Str.ofString "0123456789").length 1
  rcases occ_go (Str.ofString "0123456789") c ((Str.ofString "0123456789").length + 1 - 0) 0 with ⟨i, h1, h2, h3, h4, h5⟩ | ⟨h1, h2⟩
  · rw [h5] at eo
    have hi : i < 10 := by
      have := (List.getElem?_eq_some_iff.mp h3).1
      omega
    rw [fig_at i hi] at h3
    have e : c = 48 + i := (Option.some.inj h3).symm
    rw [eo, if_pos (by rw [← fig_is, e]; exact List.mem_of_getElem? (fig_at i hi))]
    show (i : Int) = _
    omega
  · rw [h2] at eo
    rw [eo, if_neg (fun hm => ?_)]
    rw [← fig_is] at hm
    obtain ⟨j, hj⟩ := List.getElem?_of_mem hm
    have := (List.getElem?_eq_some_iff.mp hj).1
    exact h1 j (Nat.zero_le _) (by omega) hj
def g_l_number : DSp := fun xs q _ => ∃ z : Str, xs = [.str z] ∧ z.length ≤ 1000 ∧ q (optD (numO z.cps.toList))
open NumText in
theorem num_loop {z : Str} {q : D → Prop} {x : Addr → Prop} (hl : z.length ≤ 40) (hq : q (optD (if z.cps.toList.all (fun c => decide (c ∈ c_FIGURES.cps.toList)) = true then some (valB z.cps.toList) else none))) :
    loopD (dgName 2) (dSeq (dAsg (dBM "str" dFind (dC (D.str (Str.ofString "0123456789"))) (dCons (dVar 2) dNil)) (dgName 3)) (dSeq (dIf [] (dB (dOp dLt (dVar 3) (dC (D.int 0)))) (dRet [] (dC D.non)) dNext) (dAsg (dOp dAdd (dOp dMul (dC (D.int 10)) (dVar 1)) (dVar 3)) (dgName 1))))
      { nx := fun ds' => ∃ d, ds'[1]? = some (Slot.v d) ∧ q d, rt := q, xc := fun _ => x } (z.cps.toList.map fun c => D.str ⟨#[c]⟩) [Slot.v (D.str z), Slot.v (D.int 0), Slot.un, Slot.un] := by
  refine loop_map (fun i ds => ∃ s2 s3 : L2.Slot, ds = [.v (.str z), .v (.int (valB (z.cps.toList.take i))), s2, s3] ∧ (z.cps.toList.take i).all (fun c => decide (c ∈ c_FIGURES.cps.toList)) = true) ⟨_, _, rfl, rfl⟩ (fun i c ds N hc hi hn => ?_) (fun ds hi => ?_)
  · obtain ⟨s2, s3, rfl, ha⟩ := hi
    walk_at "rd"
    rw [find_fig]
    by_cases hm : c ∈ c_FIGURES.cps.toList
    · rw [if_pos hm]
      have fig : ∀ c ∈ c_FIGURES.cps.toList, 48 ≤ c ∧ c ≤ 57 := by decide +kernel
      have hcr := fig c hm
      refine iteD (fun e => by omega) (fun _ => ⟨.l (by decide) (by decide), hn _ ⟨.v (.str ⟨#[c]⟩), .v (.int ((c : Int) - 48)), ?_, ?_⟩⟩)
      · rw [List.take_add_one, hc]
        have : valB (z.cps.toList.take i ++ [c]) = 10 * valB (z.cps.toList.take i) + ((c : Int) - 48) := by
          unfold valB
          rw [digitsVal_snoc]
          omega
        show _ = [Slot.v (D.str z), Slot.v (D.int (valB (z.cps.toList.take i ++ [c]))), _, _]
        rw [this]
      · rw [List.take_add_one, hc, List.all_append, ha]
        simp only [Option.toList_some, List.all_cons, List.all_nil, Bool.and_true, Bool.true_and]
        exact decide_eq_true hm
    · rw [if_neg hm]
      refine iteD (fun _ => ?_) (fun e => by omega)
      rw [if_neg (by
        intro h
        exact hm (of_decide_eq_true (List.all_eq_true.mp h c (List.mem_of_getElem? hc))))] at hq
      exact hq
  · obtain ⟨s2, s3, rfl, ha⟩ := hi
    rw [List.take_of_length_le (Nat.le_refl _)] at ha
    rw [if_pos ha] at hq
    refine ⟨_, rfl, ?_⟩
    rw [List.take_of_length_le (Nat.le_refl _)]
    exact hq
theorem ok_l_number {A : Adr} (T : Txt K mg A) : FnOk P w K mg base (CXE P w) 1 A.f_l_number A.d_l_number ["_law_said"] (spD K g_l_number) := by
  haveI : TxC K A := ⟨⟨_, T⟩⟩
  refine T.F_l_number.okJ sc_l_number (fun xs q x h => ?_) (fun cdv Ar outer s H E hr => ⟨_, (jss_cons (js_if [] (jt_w (jw_or (jt_not (jt_chain jo_le jo_le j_int (je_b jc_len (by rfl) T.b_len PySem.boot_len (ja_c (jv 0) ja_nil)) j_int)) (jw_or1 (jt_w (jw_and (jt_cmp jo_gt (je_b jc_len (by rfl) T.b_len PySem.boot_len (ja_c (jv 0) ja_nil)) j_int (nomark _)) (jw_and1 (jt_cmp (jo_eq hr.u100) (je_ix (jv 0) j_int) j_str (nomark _)))))))) (jss_one (js_ret [] j_non)) jss_nil)
      (jss_cons (js_set (i := 1) sc_l_number.nd rfl (Or.inl rfl) j_int)
      (jss_cons (js_for PassesOwn.leaving (ji_str (jv 0)) (jg_name (i := 2) sc_l_number.nd rfl (Or.inl rfl)) (jss_cons (js_set (i := 3) sc_l_number.nd rfl (Or.inl rfl) (je_bm PySem.F.plainAttrs_str PySem.F.slot_str_find PySem.F.type_str_find jm_find j_str (ja_c (jv 2) ja_nil)))
      (jss_cons (js_if [] (jt_cmp jo_lt (jv 3) j_int (nomark _)) (jss_one (js_ret [] j_non)) jss_nil)
      (jss_one (js_set (i := 1) sc_l_number.nd rfl (Or.inl rfl) (j_op jo_add (j_op jo_mul j_int (jv 1)) (jv 3)))))))
      (jss_one (js_ret [] (jv 1)))))), fun xs q x h => ?_⟩)
  · obtain ⟨z, rfl, _⟩ := h
    rfl
  · obtain ⟨z, rfl, hz, hq⟩ := h
    have hsz : sizeLine = 16777216 := rfl
    have el : z.cps.toList.length = z.length := (sg_len z).symm
    unfold numO at hq
    rw [el] at hq
    walk_at "rd"
    refine ⟨by omega, iteD (fun h1 => iteN (fun h2 => ?_) (fun h2 => ⟨by omega, iteD (fun h3 => ⟨by omega, z.cps.toList.getD 0 0, ?_, iteD (fun h4 => ?_) (fun h4 => ⟨[], ?_⟩)⟩) (fun h3 => ⟨[], ?_⟩)⟩)) (fun h1 => ?_)⟩
    · rw [if_pos (.inl (by rw [decide_eq_false (show ¬ z.length ≤ 40 by omega)]; simp))] at hq
      exact hq
    · have := atI_of (xs := z.cps.toList) (i := 0) (j := 0) rfl (by omega)
      rw [this, List.getD_eq_getElem?_getD, List.getElem?_eq_getElem (by omega)]
      rfl
    · have e : z.cps.toList.getD 0 0 = 48 := (str_eq1 (b := 48)).mp h4
      rw [if_pos (.inr ⟨by omega, e⟩)] at hq
      exact hq
    · have e : ¬ z.cps.toList.getD 0 0 = 48 := fun z' => h4 ((str_eq1 (b := 48)).mpr z')
      rw [if_neg (fun h => h.elim (fun h => by rw [decide_eq_true (show 1 ≤ z.length by omega), decide_eq_true (show z.length ≤ 40 by omega)] at h; cases h) (fun h => e h.2))] at hq
      exact ⟨_, rfl, num_loop (by omega) hq⟩
    · rw [if_neg (fun h => h.elim (fun h => by rw [decide_eq_true (show 1 ≤ z.length by omega), decide_eq_true (show z.length ≤ 40 by omega)] at h; cases h) (fun h => by omega))] at hq
      exact ⟨_, rfl, num_loop (by omega) hq⟩
    · rw [if_pos (.inl (by rw [decide_eq_false (show ¬ 1 ≤ z.length by omega)]; simp))] at hq
      exact hq
def g_l_alike : DSp := fun xs q _ => ∃ a b c d : Int, xs = [wD a b, wD c d] ∧ q (.bl (decide (a = c) && decide (b = d)))
theorem ok_l_alike {A : Adr} (T : Txt K mg A) : FnOk P w K mg base (CXE P w) 2 A.f_l_alike A.d_l_alike ["_law_found", "_law_due"] (spD K g_l_alike) := by
  have G_l_whole := ok_l_whole (P := P) (w := w) (base := base) T
  haveI : TxC K A := ⟨⟨_, T⟩⟩
  refine T.F_l_alike.okJ sc_l_alike (fun xs q x h => ?_) (fun cdv Ar outer s H E hr => ⟨_, (jss_cons (js_if [] (jt_w (jw_or (jt_not (jt_val (je_b (jc_isi (K := K) rfl) (by rfl) T.b_isinstance PyProof.Rows.boot_isinstance (ja_c (jv 0) (ja_c (j_type (n := "tuple") (by rfl) T.b_tuple PyProof.Rows.boot_tuple) ja_nil))))) (jw_or (jt_cmp (jo_ne hr.u100) (je_b jc_len (by rfl) T.b_len PySem.boot_len (ja_c (jv 0) ja_nil)) j_int (nomark _)) (jw_or (jt_not (jt_val (je_call G_l_whole (hr.mono (by decide)) (by rfl) T.m_l_whole T.k_l_whole T.a_l_whole passX_fn (ja_c (je_ix (jv 0) j_int) ja_nil)))) (jw_or1 (jt_not (jt_val (je_call G_l_whole (hr.mono (by decide)) (by rfl) T.m_l_whole T.k_l_whole T.a_l_whole passX_fn (ja_c (je_ix (jv 0) j_int) ja_nil))))))))) (jss_one (js_ret [] j_bl)) jss_nil)
      (jss_one (js_ret [] (j_cmp (jo_eq hr.u100) (jv 0) (jv 1) (nomark _))))), fun xs q x h => ?_⟩)
  · obtain ⟨a, b, c, d, rfl, _⟩ := h
    rfl
  · obtain ⟨a, b, c, d, rfl, hq⟩ := h
    unfold wD
    walk_at "rd"
    rw [if_neg (by decide)]
    refine ⟨.int a, rfl, ?_⟩
    walk_at "rd"
    refine ⟨.int b, rfl, ?_⟩
    walk_at "rd"
    have e : D.eqbs [D.int a, D.int b] [D.int c, D.int d] = (decide (a = c) && decide (b = d)) := by
      have e1 : D.eqbs [D.int a, D.int b] [D.int c, D.int d] = ((a == c) && ((b == d) && true)) := by with_unfolding_all rfl
      rw [e1, Bool.and_true]
      rfl
    rw [e]
    exact ⟨rfl, hq⟩
def g_l_refused (A : Adr) : DSp := fun xs q _ => ∃ z : Str, xs = [.str z] ∧ z.length ≤ 600 ∧ readP z = none ∧ q (.bl true)
theorem ok_l_refused {A : Adr} (T : Txt K mg A) : FnOk P w K mg base (CXE P w) 5 A.f_l_refused A.d_l_refused ["_law_said"] (spD K (g_l_refused A)) := by
  have G_read_fraction := ok_read_fraction (P := P) (w := w) (base := base) T
  haveI : TxC K A := ⟨⟨_, T⟩⟩
  refine T.F_l_refused.okJ sc_l_refused (fun xs q x h => ?_) (fun cdv Ar outer s H E hr => ⟨_, (jss_cons (js_set (i := 1) sc_l_refused.nd rfl (Or.inl rfl) j_non)
      (jss_cons (js_tryAs (j := 2) rfl T.w_WoodError (by rfl) T.M_WoodError sc_l_refused.nd rfl (fun _ _ => (jss_one (js_expr (je_call G_read_fraction (hr.mono (by decide)) (by rfl) T.m_read_fraction T.k_read_fraction T.a_read_fraction passX_try (ja_c (jv 0) ja_nil))))) (fun _ => (jss_one (js_set (i := 1) sc_l_refused.nd rfl (Or.inl rfl) (jv 2)))))
      (jss_cons (js_if [] (jt_w (jw_or (jt_not (jt_val (je_b (jc_isi (K := K) rfl) (by rfl) T.b_isinstance PyProof.Rows.boot_isinstance (ja_c (jv 1) (ja_c (j_glob (.rf A.C_NoLine) (by rfl) T.M_NoLine (show RelV (.ref _) _ from rfl) (fun _ _ => rfl)) ja_nil))))) (jw_or1 (jt_not (jt_val (je_b (jc_isi (K := K) rfl) (by rfl) T.b_isinstance PyProof.Rows.boot_isinstance (ja_c (jv 1) (ja_c (j_type (n := "ValueError") (by rfl) T.b_ValueError (by decide +kernel)) ja_nil)))))))) (jss_one (js_ret [] j_bl)) jss_nil)
      (jss_cons (js_if [] (jt_val (je_b (jc_isi (K := K) rfl) (by rfl) T.b_isinstance PyProof.Rows.boot_isinstance (ja_c (jv 1) (ja_c (je_tup (ja_c (j_glob (.rf A.C_NoKind) (by rfl) T.M_NoKind (show RelV (.ref _) _ from rfl) (fun _ _ => rfl)) (ja_c (j_glob (.rf A.C_NoNet) (by rfl) T.M_NoNet (show RelV (.ref _) _ from rfl) (fun _ _ => rfl)) (ja_c (j_glob (.rf A.C_NoRule) (by rfl) T.M_NoRule (show RelV (.ref _) _ from rfl) (fun _ _ => rfl)) (ja_c (j_glob (.rf A.C_NoScale) (by rfl) T.M_NoScale (show RelV (.ref _) _ from rfl) (fun _ _ => rfl)) (ja_c (j_glob (.rf A.C_NoTitle) (by rfl) T.M_NoTitle (show RelV (.ref _) _ from rfl) (fun _ _ => rfl)) ja_nil)))))) ja_nil)))) (jss_one (js_ret [] j_bl)) jss_nil)
      (jss_one (js_ret [] (je_not (je_b (jc_isi (K := K) rfl) (by rfl) T.b_isinstance PyProof.Rows.boot_isinstance (ja_c (jv 1) (ja_c (je_tup (ja_c (j_glob (.rf A.C_NoTree) (by rfl) T.M_NoTree (show RelV (.ref _) _ from rfl) (fun _ _ => rfl)) (ja_c (j_glob (.rf A.C_NoWeight) (by rfl) T.M_NoWeight (show RelV (.ref _) _ from rfl) (fun _ _ => rfl)) (ja_c (j_glob (.rf A.C_Ring) (by rfl) T.M_Ring (show RelV (.ref _) _ from rfl) (fun _ _ => rfl)) (ja_c (j_glob (.rf A.C_TooMany) (by rfl) T.M_TooMany (show RelV (.ref _) _ from rfl) (fun _ _ => rfl)) (ja_c (j_glob (.rf A.C_Twice) (by rfl) T.M_Twice (show RelV (.ref _) _ from rfl) (fun _ _ => rfl)) ja_nil)))))) ja_nil)))))))))), fun xs q x h => ?_⟩)
  · obtain ⟨z, rfl, _⟩ := h
    rfl
  · obtain ⟨z, rfl, hz, hn, hq⟩ := h
    walk_at "rd"
    refine ⟨fun ds' C => ds' = [.v (.str z), .v .non, .un] ∧ C = A.C_NoLine, ?_, ?_⟩
    · walk_at "rd"
      exact ⟨z, rfl, hz, fun t b e => (by rw [hn] at e; cases e), fun _ => rfl⟩
    rintro _ _ ⟨rfl, rfl⟩
    refine ⟨T.s_NoLine_WoodError, ?_⟩
    walk_at "rd"
    refine ⟨true, T.xt_NoLine, T.i_NoLine_NoLine, ?_⟩
    walk_at "rd"
    refine ⟨true, T.xt_NoLine, T.iv_NoLine, ?_⟩
    walk_at "rd"
    refine ⟨by decide, [A.C_NoKind, A.C_NoNet, A.C_NoRule, A.C_NoScale, A.C_NoTitle], false, rfl, T.xt_NoLine, ?_, ?_⟩
    · simp only [List.map, PySem.W.kitAny, T.i_NoLine_NoKind, T.i_NoLine_NoNet, T.i_NoLine_NoRule, T.i_NoLine_NoScale, T.i_NoLine_NoTitle]
    walk_at "rd"
    refine ⟨by decide, [A.C_NoTree, A.C_NoWeight, A.C_Ring, A.C_TooMany, A.C_Twice], false, rfl, T.xt_NoLine, ?_, ?_⟩
    · simp only [List.map, PySem.W.kitAny, T.i_NoLine_NoTree, T.i_NoLine_NoWeight, T.i_NoLine_Ring, T.i_NoLine_TooMany, T.i_NoLine_Twice]
    walk_at "rd"
    exact hq
/-- cut at each stroke -/
def glue (p : Str) (ps : List Str) : List Nat := p.cps.toList ++ (ps.map fun q => 47 :: q.cps.toList).flatten
theorem at_one (x : Str) (k : Nat) : StrLaws.At x ⟨#[47]⟩ x.length k ↔ x.cps.toList[k]? = some 47 := StrLaws.subAt_one x 47 k
theorem parts_go (x : Str) : ∀ (cuts : List Nat) (a f : Nat), a ≤ x.length → StrLaws.ChainG x ⟨#[47]⟩ x.length a cuts f → (∀ k, f ≤ k → ¬ StrLaws.At x ⟨#[47]⟩ x.length k) →
    ∃ p ps, (((a :: cuts.map (· + 1)).zip (cuts ++ [x.length])).map fun (i, j) => Builtin.Str.strSub x i j) = p :: ps ∧ x.cps.toList.drop a = glue p ps ∧ ∀ q ∈ p :: ps, 47 ∉ q.cps.toList := by
  have el := sg_len x
  intro cuts
  induction cuts with
  | nil =>
    intro a f ha hc hn
    have e : f = a := hc
    subst e
    refine ⟨Builtin.Str.strSub x f x.length, [], rfl, ?_, fun q hq => ?_⟩
    · unfold glue
      rw [StrLaws.strSub_toList, List.take_of_length_le (by rw [List.length_drop]; omega)]
      simp
    · rw [List.mem_singleton.mp hq]
      exact StrLaws.part_free x 47 f x.length (Nat.le_refl _) fun k h1 _ => hn k h1
  | cons c r ih =>
    intro a f ha hc hn
    obtain ⟨h1, h2, h3, h4⟩ := hc
    have h2' := (at_one x c).mp h2
    obtain ⟨hi, hv⟩ := List.getElem?_eq_some_iff.mp h2'
    obtain ⟨p, ps, e1, e2, e3⟩ := ih (c + 1) f (by omega) h4 hn
    refine ⟨Builtin.Str.strSub x a c, p :: ps, ?_, ?_, fun q hq => ?_⟩
    · rw [List.map_cons, List.cons_append, List.zip_cons_cons, List.map_cons, e1]
    · unfold glue at e2 ⊢
      rw [StrLaws.strSub_toList, List.map_cons, List.flatten_cons]
      show _ = _ ++ (47 :: p.cps.toList ++ _)
      rw [List.cons_append, ← e2]
      have d : x.cps.toList.drop a = (x.cps.toList.drop a).take (c - a) ++ (x.cps.toList.drop a).drop (c - a) := (List.take_append_drop _ _).symm
      rw [List.drop_drop, show a + (c - a) = c by omega, List.drop_eq_getElem_cons hi, hv] at d
      exact d
    · rcases List.mem_cons.mp hq with rfl | hq
      · exact StrLaws.part_free x 47 a c (by omega) fun k k1 k2 => h3 k k1 k2
      · exact e3 q hq
theorem split_sg (x : Str) : ∃ p ps, Txt.split x "/" = p :: ps ∧ x.cps.toList = glue p ps ∧ ∀ q ∈ p :: ps, 47 ∉ q.cps.toList := by
  have eq : (Str.ofString "/" : Str) = ⟨#[47]⟩ := by decide +kernel
  obtain ⟨f, h1, h2⟩ := StrLaws.occ_tight x ⟨#[47]⟩ (Nat.le_refl 1)
  have whole : 47 ∉ x.cps.toList → ∃ p ps, [x] = p :: ps ∧ x.cps.toList = glue p ps ∧ ∀ q ∈ p :: ps, 47 ∉ q.cps.toList := fun h => ⟨x, [], rfl, by unfold glue; simp, fun q hq => by rw [List.mem_singleton.mp hq]; exact h⟩
  unfold Txt.split
  rw [eq]
  split
  · rename_i h
    refine whole fun hm => ?_
    have hl : 1 ≤ x.length := by rw [sg_len]; exact List.length_pos_of_mem hm
    have hk : 1 ≤ Builtin.Str.strKind x := by unfold Builtin.Str.strKind; split; decide; split <;> decide
    have k1 : Builtin.Str.strKind ⟨#[47]⟩ = 1 := by decide +kernel
    rw [k1] at h
    have e1 : (⟨#[47]⟩ : Str).length = 1 := rfl
    rw [e1, decide_eq_false (by omega), decide_eq_false (by omega)] at h
    cases h
  · split
    · rename_i h
      rw [List.isEmpty_iff.mp h] at h1
      have e : f = 0 := h1
      refine whole fun hm => ?_
      obtain ⟨j, hj⟩ := List.getElem?_of_mem hm
      exact h2 j (by omega) ((at_one x j).mpr hj)
    · obtain ⟨p, ps, e1, e2, e3⟩ := parts_go x _ 0 f (Nat.zero_le _) h1 h2
      exact ⟨p, ps, e1, by simpa using e2, e3⟩
theorem numO_dig {l : List Nat} (h : digsL l = true) (h2 : ¬ (1 < l.length ∧ l.getD 0 0 = 48)) : numO l = some (valB l) := by
  have hl := digs_len h
  unfold digsL at h
  rw [Bool.and_eq_true] at h
  unfold numO
  rw [if_neg (fun z => z.elim (fun z => by rw [decide_eq_true hl.1, decide_eq_true hl.2] at z; cases z) h2), if_pos h.2]
theorem numO_none {l : List Nat} (h : digsL l = false) : numO l = none := by
  unfold numO
  unfold digsL at h
  split
  · rfl
  · rename_i hc
    rw [if_neg (fun z => ?_)]
    rw [z, Bool.and_true] at h
    exact hc (.inl h)
theorem num_bot (l : List Nat) : (botL l = true → numO l = some (valB l) ∧ valB l ≠ 0) ∧ (botL l = false → numO l = none ∨ numO l = some 0) := by
  refine ⟨fun h => ?_, fun h => ?_⟩
  · have hb := int_bot (b := ⟨l.toArray⟩) (by simpa using h)
    unfold botL at h
    rw [Bool.and_eq_true] at h
    refine ⟨numO_dig h.1 (fun z => by have := h.2; rw [decide_eq_true z.2] at this; cases this), ?_⟩
    have := hb.2.1
    simp at this
    omega
  · unfold botL at h
    cases hd : digsL l with
    | false => exact .inl (numO_none hd)
    | true =>
      rw [hd, Bool.true_and] at h
      have e : l.getD 0 0 = 48 := by simpa using h
      have hl := digs_len hd
      by_cases h1 : 1 < l.length
      · left
        unfold numO
        rw [if_pos (.inr ⟨h1, e⟩)]
      · right
        obtain ⟨c, rfl⟩ := List.length_eq_one_iff.mp (show l.length = 1 by omega)
        have ec : c = 48 := e
        subst ec
        rw [numO_dig hd (fun z => by simp at z)]
        rfl
theorem num_zero {r : List Nat} (h : botL r = false) (z : numO r = some 0) : r = [48] := by
  unfold numO at z
  split at z
  · cases z
  · rename_i hcond
    split at z
    · rename_i hall
      have hd : digsL r = true := by
        unfold digsL
        cases q : (decide (1 ≤ r.length) && decide (r.length ≤ 40)) with
        | false => exact absurd (.inl q) hcond
        | true => exact hall
      unfold botL at h
      rw [hd, Bool.true_and] at h
      have h48 : r.getD 0 0 = 48 := by simpa using h
      have hl := digs_len hd
      by_cases h1 : 1 < r.length
      · exact absurd (.inr ⟨h1, h48⟩) hcond
      · obtain ⟨c, rfl⟩ := List.length_eq_one_iff.mp (show r.length = 1 by omega)
        have ec : c = 48 := h48
        rw [ec]
    · cases z
def tuL (l : List Nat) : Bool := decide (l.take 1 = [45])
def restL (l : List Nat) : List Nat := if tuL l = true then l.drop 1 else l
theorem num_top (l : List Nat) : (topL l = true → ∃ v, numO (restL l) = some v ∧ ¬ (tuL l = true ∧ l = [45, 48]) ∧ valT l = if tuL l = true then -v else v) ∧ (topL l = false → numO (restL l) = none ∨ (tuL l = true ∧ l = [45, 48])) := by
  cases l with
  | nil => exact ⟨fun h => absurd h (by decide), fun _ => .inl (by decide)⟩
  | cons c r =>
    by_cases hc : c = 45
    · subst hc
      have et : tuL (45 :: r) = true := by unfold tuL; simp
      have er : restL (45 :: r) = r := by unfold restL; rw [if_pos et]; rfl
      have etop : topL (45 :: r) = botL r := by unfold topL; rw [decide_eq_false (by simp)]; rfl
      obtain ⟨n1, n2⟩ := num_bot r
      rw [etop, er]
      refine ⟨fun h => ⟨valB r, (n1 h).1, fun z => ?_, by rw [if_pos et]; rfl⟩, fun h => ?_⟩
      · have : r = [48] := by simpa using z.2
        rw [this] at h
        exact absurd h (by decide +kernel)
      · rcases n2 h with z | z
        · exact .inl z
        · by_cases e : r = [48]
          · right
            exact ⟨et, by rw [e]⟩
          · exact absurd (num_zero h z) e
    · have et : tuL (c :: r) = false := by unfold tuL; simp [hc]
      have er : restL (c :: r) = c :: r := by unfold restL; rw [if_neg (by rw [et]; decide)]
      have eu : unmin (c :: r) = c :: r := by
        unfold unmin
        split
        · rename_i z; cases z; exact absurd rfl hc
        · rfl
      have ev : valT (c :: r) = valB (c :: r) := by
        unfold valT
        split
        · rename_i z; cases z; exact absurd rfl hc
        · rfl
      have etop : topL (c :: r) = (decide (c :: r = [48]) || botL (c :: r)) := by unfold topL; rw [eu]
      obtain ⟨n1, n2⟩ := num_bot (c :: r)
      rw [etop, er, ev, et]
      refine ⟨fun h => ?_, fun h => ?_⟩
      · rw [Bool.or_eq_true] at h
        rcases h with h | h
        · have e := of_decide_eq_true h
          rw [e]
          exact ⟨0, by decide +kernel, fun z => (by cases z.1), by decide +kernel⟩
        · exact ⟨_, (n1 h).1, fun z => (by cases z.1), rfl⟩
      · rw [Bool.or_eq_false_iff] at h
        rcases n2 h.2 with z | z
        · exact .inl z
        · have e := num_zero h.2 z
          rw [e] at h
          exact absurd h.1 (by decide)
theorem bot_free {l : List Nat} (h : botL l = true) : 47 ∉ l := fun hm => by
  unfold botL at h
  rw [Bool.and_eq_true] at h
  have := digs_all h.1 47 hm
  omega
theorem read_split {z p : Str} {ps : List Str} (eg : z.cps.toList = glue p ps) (ef : ∀ q ∈ p :: ps, 47 ∉ q.cps.toList) :
    (ps = [] → readP z = if topL p.cps.toList = true then some (valT p.cps.toList, 1) else none) ∧ (∀ p1, ps = [p1] → readP z = if topL p.cps.toList = true ∧ botL p1.cps.toList = true then some (valT p.cps.toList, valB p1.cps.toList) else none) ∧ (∀ p1 p2 r, ps = p1 :: p2 :: r → readP z = none) := by
  have fp := ef p (List.mem_cons_self ..)
  refine ⟨fun e => ?_, fun p1 e => ?_, fun p1 p2 r e => ?_⟩
  · subst e
    have ez : z = p := str_sg (by rw [eg]; unfold glue; simp)
    subst ez
    unfold readP
    rw [part_none fp]
    have e1 : botL ("1" : Str).cps.toList = true ∧ valB ("1" : Str).cps.toList = 1 := by decide +kernel
    show (if topL z.cps.toList && botL (if Str.empty = Str.empty then ("1" : Str) else Str.empty).cps.toList then some (valT z.cps.toList, valB (if Str.empty = Str.empty then ("1" : Str) else Str.empty).cps.toList) else none) = _
    rw [if_pos rfl, e1.1, e1.2, Bool.and_true]
  · subst e
    unfold readP
    rw [part_of (a := p) (b := p1) (by rw [eg]; unfold glue; simp) fp]
    show (if topL p.cps.toList && botL (if ("/" : Str) = Str.empty then ("1" : Str) else p1).cps.toList then some (valT p.cps.toList, valB (if ("/" : Str) = Str.empty then ("1" : Str) else p1).cps.toList) else none) = _
    rw [if_neg (show ¬ ("/" : Str) = Str.empty by decide +kernel)]
    simp only [Bool.and_eq_true]
  · subst e
    have hb : ∃ b : Str, b.cps.toList = p1.cps.toList ++ 47 :: (p2.cps.toList ++ (r.map fun q => 47 :: q.cps.toList).flatten) := ⟨⟨(p1.cps.toList ++ 47 :: (p2.cps.toList ++ (r.map fun q => 47 :: q.cps.toList).flatten)).toArray⟩, by simp⟩
    obtain ⟨b, hb⟩ := hb
    unfold readP
    rw [part_of (a := p) (b := b) (by rw [eg, hb]; unfold glue; simp) fp]
    show (if topL p.cps.toList && botL (if ("/" : Str) = Str.empty then ("1" : Str) else b).cps.toList then some (valT p.cps.toList, valB (if ("/" : Str) = Str.empty then ("1" : Str) else b).cps.toList) else none) = _
    rw [if_neg (show ¬ ("/" : Str) = Str.empty by decide +kernel)]
    have : botL b.cps.toList = false := by
      cases q : botL b.cps.toList with
      | false => rfl
      | true => exact absurd (by rw [hb]; simp) (bot_free q)
    rw [this, Bool.and_false]
    rfl
theorem sl_first (x : Str) : (Txt.slice x none (some 1)).cps.toList = x.cps.toList.take 1 := by
  by_cases h : 1 ≤ x.cps.toList.length
  · exact sl_to (by decide) (by omega)
  · have e : x.cps.toList = [] := List.eq_nil_of_length_eq_zero (by omega)
    have := Txt.slice_le x none (some 1)
    rw [sg_len, sg_len, e] at this
    rw [e, List.eq_nil_of_length_eq_zero (l := (Txt.slice x none (some 1)).cps.toList) (by simpa using this)]
    rfl
theorem tu_eq (p : Str) : decide (Txt.slice p none (some 1) = Str.ofString "-") = tuL p.cps.toList := by
  unfold tuL
  refine decide_eq_decide.mpr ⟨fun e => ?_, fun e => str_sg ?_⟩
  · rw [← sl_first, e]; rfl
  · rw [sl_first, e]; rfl
theorem rest_sg (p : Str) : (Txt.slice p (some (if tuL p.cps.toList = true then 1 else 0)) none).cps.toList = restL p.cps.toList := by
  unfold restL
  cases e : tuL p.cps.toList with
  | true =>
    rw [if_pos rfl, if_pos rfl]
    have : 1 ≤ p.cps.toList.length := by
      unfold tuL at e
      have := of_decide_eq_true e
      cases q : p.cps.toList with
      | nil => rw [q] at this; cases this
      | cons a b => simp
    exact sl_fr (by decide) (by omega)
  | false =>
    rw [if_neg (by decide), if_neg (by decide)]
    exact sl_fr (by decide) (by omega)
def g_l_read : DSp := fun xs q _ => ∃ z : Str, xs = [.str z] ∧ z.length ≤ 600 ∧ (∀ t b, readP z = some (t, b) → 0 < b ∧ q (wD (lowP t b) (lowQ t b))) ∧ (readP z = none → q .non)
theorem ok_l_read {A : Adr} (T : Txt K mg A) : FnOk P w K mg base (CXE P w) 2 A.f_l_read A.d_l_read ["_law_said"] (spD K g_l_read) := by
  have G_l_number := ok_l_number (P := P) (w := w) (base := base) T
  have G_l_lowest := ok_l_lowest (P := P) (w := w) (base := base) T
  haveI : TxC K A := ⟨⟨_, T⟩⟩
  refine T.F_l_read.okJ sc_l_read (fun xs q x h => ?_) (fun cdv Ar outer s H E hr => ⟨_, (jss_cons (js_set (i := 1) sc_l_read.nd rfl (Or.inl rfl) (je_bm PySem.F.plainAttrs_str PySem.F.slot_str_split PySem.F.type_str_split jm_split (jv 0) (ja_c j_str ja_nil)))
      (jss_cons (js_set (i := 2) sc_l_read.nd rfl (Or.inl rfl) (j_cmp (jo_eq hr.u100) (je_slice (je_ix (jv 1) j_int) jo_none (jo_some j_int)) j_str (nomark _)))
      (jss_cons (js_set (i := 3) sc_l_read.nd rfl (Or.inl rfl) (je_call G_l_number (hr.mono (by decide)) (by rfl) T.m_l_number T.k_l_number T.a_l_number passX_fn (ja_c (je_slice (je_ix (jv 1) j_int) (jo_some (je_bt jc_int2 (by rfl) T.b_int PyProof.Rows.boot_int (ja_c (jv 2) ja_nil))) jo_none) ja_nil)))
      (jss_cons (js_set (i := 4) sc_l_read.nd rfl (Or.inl rfl) j_int)
      (jss_cons (js_if [] (jt_cmp jo_gt (je_b jc_len (by rfl) T.b_len PySem.boot_len (ja_c (jv 1) ja_nil)) j_int (nomark _)) (jss_one (js_set (i := 4) sc_l_read.nd rfl (Or.inl rfl) (je_call G_l_number (hr.mono (by decide)) (by rfl) T.m_l_number T.k_l_number T.a_l_number passX_fn (ja_c (je_ix (jv 1) j_int) ja_nil)))) jss_nil)
      (jss_cons (js_if [] (jt_w (jw_or (jt_cmp jo_gt (je_b jc_len (by rfl) T.b_len PySem.boot_len (ja_c (jv 1) ja_nil)) j_int (nomark _)) (jw_or (jt_cmp jo_isN (jv 3) j_non (nomark _)) (jw_or (jt_cmp jo_isN (jv 4) j_non (nomark _)) (jw_or (jt_cmp (jo_eq hr.u100) (jv 4) j_int (nomark _)) (jw_or1 (jt_w (jw_and (jt_val (jv 2)) (jw_and1 (jt_cmp (jo_eq hr.u100) (je_ix (jv 1) j_int) j_str (nomark _))))))))))) (jss_one (js_ret [] j_non)) jss_nil)
      (jss_one (js_ret [] (je_call G_l_lowest (hr.mono (by decide)) (by rfl) T.m_l_lowest T.k_l_lowest T.a_l_lowest passX_fn (ja_c (j_op jo_mul (jv 3) (j_op jo_sub j_int (j_op jo_mul j_int (je_bt jc_int2 (by rfl) T.b_int PyProof.Rows.boot_int (ja_c (jv 2) ja_nil))))) (ja_c (jv 4) ja_nil))))))))))), fun xs q x h => ?_⟩)
  · obtain ⟨z, rfl, _⟩ := h
    rfl
  · obtain ⟨z, rfl, hz, hg, hb⟩ := h
    have hsz : sizeLine = 16777216 := rfl
    obtain ⟨p, ps, es, eg, ef⟩ := split_sg z
    obtain ⟨r0, r1, r2⟩ := read_split eg ef
    have zl : p.length ≤ 600 ∧ ∀ q ∈ ps, q.length ≤ 600 := by
      have e := congrArg List.length eg
      unfold glue at e
      rw [← sg_len, List.length_append, ← sg_len] at e
      refine ⟨by omega, fun q hq => ?_⟩
      have : (47 :: q.cps.toList).length ≤ ((ps.map fun q => 47 :: q.cps.toList).flatten).length := by
        clear e r0 r1 r2 es eg ef
        induction ps with
        | nil => cases hq
        | cons a ps ih =>
          rw [List.map_cons, List.flatten_cons, List.length_append]
          rcases List.mem_cons.mp hq with rfl | hq
          · omega
          · have := ih hq
            omega
      rw [List.length_cons, ← sg_len] at this
      omega
    walk_at "rd"
    rw [es]
    have a0 : atI (List.map D.str (p :: ps)) 0 = some (.str p) := atI_nat (j := 0) rfl
    refine ⟨by omega, by decide, .str p, a0, ?_⟩
    walk_at "rd"
    rw [tu_eq]
    refine ⟨by omega, .str p, a0, ?_⟩
    walk_at "rd"
    obtain ⟨t1, t2⟩ := num_top p.cps.toList
    refine ⟨by omega, _, rfl, Nat.le_trans (Txt.slice_le _ _ _) (by omega), ?_⟩
    rw [rest_sg]
    have a0' : atI (D.str p :: List.map D.str ps) 0 = some (.str p) := a0
    have e0 : decide (p = Str.ofString "-0") = decide (p.cps.toList = [45, 48]) := decide_eq_decide.mpr ⟨fun e => by rw [e]; rfl, fun e => str_sg (by rw [e]; rfl)⟩
    have tail : ∀ (d : D) (b : Int), d = optD (numO (restL p.cps.toList)) → 0 < b → Bd 9000 b → (topL p.cps.toList = true → q (wD (lowP (valT p.cps.toList) b) (lowQ (valT p.cps.toList) b))) → (topL p.cps.toList = false → q .non) →
        (if d.isNon = true then q D.non else if tuL p.cps.toList = true then ∃ d_1, atI (D.str p :: List.map D.str ps) 0 = some d_1 ∧ dEq false d_1 (D.str (Str.ofString "-0")) fun d_2 => ∃ b', d_2 = D.bl b' ∧ if b' = true then q D.non else CMulX 2 (if tuL p.cps.toList = true then 1 else 0) ∧ dMul d (D.int (1 - 2 * if tuL p.cps.toList = true then 1 else 0)) fun a => g_l_lowest [a, D.int b] q x
          else CMulX 2 (if tuL p.cps.toList = true then 1 else 0) ∧ dMul d (D.int (1 - 2 * if tuL p.cps.toList = true then 1 else 0)) fun a => g_l_lowest [a, D.int b] q x) := fun d b ed hb0 hB hq1 hq2 => by
      subst ed
      cases ht : topL p.cps.toList with
      | false =>
        rcases t2 ht with e | ⟨e, e'⟩
        · rw [e]; exact hq2 ht
        · cases hn : numO (restL p.cps.toList) with
          | none => exact hq2 ht
          | some v =>
            show (if false = true then _ else _)
            rw [if_neg (by decide), if_pos e]
            refine ⟨_, a0', ?_⟩
            walk_at "rd"
            rw [e0, decide_eq_true e', if_pos rfl]
            exact hq2 ht
      | true =>
        obtain ⟨v, hv, hne, hval⟩ := t1 ht
        rw [hv]
        show (if false = true then _ else _)
        rw [if_neg (by decide)]
        cases e : tuL p.cps.toList with
        | true =>
          rw [if_pos rfl]
          refine ⟨_, a0', ?_⟩
          walk_at "rd"
          rw [e0, decide_eq_false (fun z => hne ⟨e, z⟩), if_neg (by decide)]
          rw [e, if_pos rfl] at hval
          refine ⟨.l (by decide) (by decide), .r (by decide) (by decide), _, b, rfl, hb0, hB, ?_⟩
          have : v * (1 - 2 * 1) = valT p.cps.toList := by rw [hval]; omega
          rw [this]
          exact hq1 ht
        | false =>
          rw [if_neg (by decide)]
          rw [e, if_neg (by decide)] at hval
          refine ⟨.l (by decide) (by decide), ?_⟩
          walk_at "rd"
          refine ⟨.r (by decide) (by decide), _, b, rfl, hb0, hB, ?_⟩
          have : v * (1 - 2 * 0) = valT p.cps.toList := by rw [hval]; omega
          rw [this]
          exact hq1 ht
    cases ps with
    | nil =>
      have r0 := r0 rfl
      have tl := tail _ 1 rfl (by decide) ((Bd.of (n := 64) (by decide) (by decide)).mono (by decide)) (fun ht => (hg _ _ (by rw [r0, if_pos ht])).2) (fun ht => hb (by rw [r0, if_neg (by rw [ht]; decide)]))
      show (if decide ((1 : Int) < ((0 + 1 : Nat) : Int)) = true then _ else if decide ((2 : Int) < ((0 + 1 : Nat) : Int)) = true then _ else if _ then _ else if decide ((1 : Int) = 0) = true then _ else _)
      rw [if_neg (by decide), if_neg (by decide), if_neg (show ¬ decide ((1 : Int) = 0) = true by decide)]
      exact tl
    | cons p1 r =>
      have a1 : atI (D.str p :: List.map D.str (p1 :: r)) 1 = some (.str p1) := atI_nat (j := 1) rfl
      have l1 := zl.2 p1 (List.mem_cons_self ..)
      show (if decide ((1 : Int) < (((p1 :: r).length + 1 : Nat) : Int)) = true then _ else _)
      rw [if_pos (decide_eq_true (by rw [List.length_cons]; omega))]
      refine ⟨_, a1, p1, rfl, by omega, ?_⟩
      cases r with
      | cons p2 r =>
        show (if decide ((2 : Int) < (((p1 :: p2 :: r).length + 1 : Nat) : Int)) = true then _ else _)
        rw [if_pos (decide_eq_true (by rw [List.length_cons, List.length_cons]; omega))]
        exact hb (r2 p1 p2 r rfl)
      | nil =>
        have r1 := r1 p1 rfl
        show (if decide ((2 : Int) < (((1 : Nat) + 1 : Nat) : Int)) = true then _ else _)
        rw [if_neg (by decide)]
        obtain ⟨n1, n2⟩ := num_bot p1.cps.toList
        cases hbt : botL p1.cps.toList with
        | false =>
          have no : q .non := hb (by rw [r1, if_neg (fun z => by rw [hbt] at z; cases z.2)])
          refine ifB (fun _ => no) (fun _ => ?_)
          rcases n2 hbt with e | e
          · rw [e]; exact no
          · rw [e]
            show (if false = true then _ else dEq false (.int 0) (.int 0) _)
            rw [if_neg (by decide), z_eq_i]
            refine ⟨_, rfl, ?_⟩
            rw [if_pos (by decide)]
            exact no
        | true =>
          obtain ⟨e1, e2⟩ := n1 hbt
          have ib := int_bot hbt
          have tl := tail _ (valB p1.cps.toList) rfl ib.2.1 ib.2.2 (fun ht => (hg _ _ (by rw [r1, if_pos ⟨ht, hbt⟩])).2) (fun ht => hb (by rw [r1, if_neg (fun z => by rw [ht] at z; cases z.1)]))
          rw [e1]
          refine ifB (fun hnn => by rw [if_pos hnn] at tl; exact tl) (fun hnn => ?_)
          rw [if_neg (by rw [hnn]; decide)] at tl
          show (if false = true then _ else dEq false (.int (valB p1.cps.toList)) (.int 0) _)
          rw [if_neg (by decide), z_eq_i]
          refine ⟨_, rfl, ?_⟩
          rw [if_neg (by show ¬ decide (valB p1.cps.toList = 0) = true; simpa using e2)]
          exact tl
theorem read_pos {z : Str} {t b : Int} (e : readP z = some (t, b)) : 0 < b ∧ Bd 9000 b := by
  have key : ∀ (l : List Nat) (bb : Str), (if topL l && botL bb.cps.toList then some (valT l, valB bb.cps.toList) else none) = some (t, b) → 0 < b ∧ Bd 9000 b := fun l bb e => by
    split at e
    · rename_i h
      rw [Bool.and_eq_true] at h
      have := int_bot h.2
      cases e
      exact this.2
    · cases e
  exact key _ _ e
theorem ok_law {A : Adr} (T : Txt K mg A) : FnOk P w K mg base (CXE P w) 6 A.f_law A.d_law ["_law_script"] (spD K gLaw) := by
  have G_l_some := ok_l_some (P := P) (w := w) (base := base) T
  have G_l_mix := ok_l_mix (P := P) (w := w) (base := base) T
  have G_fraction_text := ok_fraction_text (P := P) (w := w) (base := base) T
  have G_l_lowest := ok_l_lowest (P := P) (w := w) (base := base) T
  have G_l_spoilt := ok_l_spoilt (P := P) (w := w) (base := base) T
  have G_l_read := ok_l_read (P := P) (w := w) (base := base) T
  have G_l_alike := ok_l_alike (P := P) (w := w) (base := base) T
  have G_read_fraction := ok_read_fraction (P := P) (w := w) (base := base) T
  have G_l_refused := ok_l_refused (P := P) (w := w) (base := base) T
  haveI : TxC K A := ⟨⟨_, T⟩⟩
  refine T.F_law.okJ sc_law (fun xs q x h => ?_) (fun cdv Ar outer s H E hr => ⟨_, (jss_cons (js_set (i := 1) sc_law.nd rfl (Or.inl rfl) j_int)
      (jss_cons (js_for PassesOwn.leaving (ji_enum (by rfl) T.b_enumerate (ja_c (j_op jo_add (jv 0) (je_lst (ja_c j_int (ja_c (j_op jo_add (j_op jo_pow j_int j_int) j_int) ja_nil)))) ja_nil)) (jg_tup (n := 2) (jgs_cons (jg_name (i := 2) sc_law.nd rfl (Or.inl rfl)) (jgs_cons (jg_name (i := 3) sc_law.nd rfl (Or.inl rfl)) jgs_nil))) (jss_cons (js_set (i := 4) sc_law.nd rfl (Or.inl rfl) (je_call G_l_some (hr.mono (by decide)) (by rfl) T.m_l_some T.k_l_some T.a_l_some passX_fn (ja_c (jv 3) (ja_c (jv 1) (ja_c (jv 2) ja_nil)))))
      (jss_cons (js_set (i := 5) sc_law.nd rfl (Or.inl rfl) (je_call G_l_mix (hr.mono (by decide)) (by rfl) T.m_l_mix T.k_l_mix T.a_l_mix passX_fn (ja_c (jv 1) (ja_c (j_op jo_add (jv 2) j_int) ja_nil))))
      (jss_cons (js_set (i := 6) sc_law.nd rfl (Or.inl rfl) (je_bt jc_str (by rfl) T.b_str PyProof.Rows.boot_str (ja_c (je_ix (jv 4) j_int) ja_nil)))
      (jss_cons (js_cut (js_if [] (jt_cmp (jo_ne hr.u100) (je_ix (jv 4) j_int) j_int (nomark _)) (jss_one (js_set (i := 6) sc_law.nd rfl (Or.inl rfl) (j_op jo_add (j_op jo_add (jv 6) j_str) (je_bt jc_str (by rfl) T.b_str PyProof.Rows.boot_str (ja_c (je_ix (jv 4) j_int) ja_nil))))) jss_nil))
      (jss_cons (js_set (i := 7) sc_law.nd rfl (Or.inl rfl) (je_call G_fraction_text (hr.mono (by decide)) (by rfl) T.m_fraction_text T.k_fraction_text T.a_fraction_text passX_fn (ja_c (jv 4) ja_nil)))
      (jss_cons (js_if [] (jt_w (jw_or (jt_not (jt_val (je_b (jc_isi (K := K) rfl) (by rfl) T.b_isinstance PyProof.Rows.boot_isinstance (ja_c (jv 7) (ja_c (j_type (n := "str") (by rfl) T.b_str PyProof.Rows.boot_str) ja_nil))))) (jw_or (jt_cmp (jo_ne hr.u100) (jv 7) (jv 6) (nomark _)) (jw_or1 (jt_not (jt_val (je_call G_l_alike (hr.mono (by decide)) (by rfl) T.m_l_alike T.k_l_alike T.a_l_alike passX_fn (ja_c (je_call G_read_fraction (hr.mono (by decide)) (by rfl) T.m_read_fraction T.k_read_fraction T.a_read_fraction passX_fn (ja_c (jv 6) ja_nil)) (ja_c (jv 4) ja_nil))))))))) (jss_one (js_ret [] j_bl)) jss_nil)
      (jss_cons (js_set (i := 8) sc_law.nd rfl (Or.inl rfl) (je_call G_l_lowest (hr.mono (by decide)) (by rfl) T.m_l_lowest T.k_l_lowest T.a_l_lowest passX_fn (ja_c (j_op jo_sub (j_op jo_mod (je_ix (jv 4) j_int) (j_op jo_pow j_int j_int)) (j_op jo_mul (j_op jo_mod (jv 3) j_int) (j_op jo_pow j_int j_int))) (ja_c (j_op jo_add j_int (j_op jo_mod (je_ix (jv 4) j_int) (j_op jo_pow j_int j_int))) ja_nil))))
      (jss_cons (js_set (i := 9) sc_law.nd rfl (Or.inl rfl) (j_op jo_add j_int (j_op jo_mod (jv 5) (j_op jo_pow j_int j_int))))
      (jss_cons (js_if [] (jt_not (jt_val (je_call G_l_alike (hr.mono (by decide)) (by rfl) T.m_l_alike T.k_l_alike T.a_l_alike passX_fn (ja_c (je_call G_read_fraction (hr.mono (by decide)) (by rfl) T.m_read_fraction T.k_read_fraction T.a_read_fraction passX_fn (ja_c (j_op jo_add (j_op jo_add (je_bt jc_str (by rfl) T.b_str PyProof.Rows.boot_str (ja_c (j_op jo_mul (je_ix (jv 8) j_int) (jv 9)) ja_nil)) j_str) (je_bt jc_str (by rfl) T.b_str PyProof.Rows.boot_str (ja_c (j_op jo_mul (je_ix (jv 8) j_int) (jv 9)) ja_nil))) ja_nil)) (ja_c (jv 8) ja_nil))))) (jss_one (js_ret [] j_bl)) jss_nil)
      (jss_cons (js_set (i := 10) sc_law.nd rfl (Or.inl rfl) (je_call G_l_spoilt (hr.mono (by decide)) (by rfl) T.m_l_spoilt T.k_l_spoilt T.a_l_spoilt passX_fn (ja_c (jv 6) (ja_c (jv 5) ja_nil))))
      (jss_cons (js_set (i := 11) sc_law.nd rfl (Or.inl rfl) (je_call G_l_read (hr.mono (by decide)) (by rfl) T.m_l_read T.k_l_read T.a_l_read passX_fn (ja_c (jv 10) ja_nil)))
      (jss_cons (js_if [] (jt_w (jw_and (jt_cmp jo_isN (jv 11) j_non (nomark _)) (jw_and1 (jt_not (jt_val (je_call G_l_refused (hr.mono (by decide)) (by rfl) T.m_l_refused T.k_l_refused T.a_l_refused passX_fn (ja_c (jv 10) ja_nil))))))) (jss_one (js_ret [] j_bl)) jss_nil)
      (jss_cons (js_if [] (jt_w (jw_and (jt_cmp jo_notN (jv 11) j_non (nomark _)) (jw_and1 (jt_not (jt_val (je_call G_l_alike (hr.mono (by decide)) (by rfl) T.m_l_alike T.k_l_alike T.a_l_alike passX_fn (ja_c (je_call G_read_fraction (hr.mono (by decide)) (by rfl) T.m_read_fraction T.k_read_fraction T.a_read_fraction passX_fn (ja_c (jv 10) ja_nil)) (ja_c (jv 11) ja_nil)))))))) (jss_one (js_ret [] j_bl)) jss_nil)
      (jss_one (js_set (i := 1) sc_law.nd rfl (Or.inl rfl) (jv 3)))))))))))))))))
      (jss_one (js_ret [] j_bl)))), fun xs q x h => ?_⟩)
  · obtain ⟨ns, rfl, _⟩ := h
    rfl
  · obtain ⟨ns, rfl, hl, hq⟩ := h
    have hsz : sizeLine = 16777216 := rfl
    walk_at "rd"
    refine ⟨[], ?_⟩
    walk_at "rd"
    refine ⟨⟨by decide, by decide, by decide⟩, by decide, by omega, ?_⟩
    have ex : (ns.map D.int ++ [D.int 1, D.int (10 ^ Int.toNat 39 + 7)]) = (ns ++ [1, 10 ^ Int.toNat 39 + 7]).map D.int := by rw [List.map_append]; rfl
    rw [ex]
    have cl : (ns ++ [1, 10 ^ Int.toNat 39 + 7]).length ≤ 65 := by rw [List.length_append]; show ns.length + 2 ≤ 65; omega
    generalize ns ++ [1, 10 ^ Int.toNat 39 + 7] = cs at cl ⊢
    refine loop_ind (fun i ds => ∃ (kept : Int) (s2 s3 s4 s5 s6 s7 s8 s9 s10 s11 : L2.Slot), ds = [.v (.scr (ns.map .int)), .v (.int kept), s2, s3, s4, s5, s6, s7, s8, s9, s10, s11]) ⟨_, _, _, _, _, _, _, _, _, _, _, rfl⟩ (fun i x ds N hx hi hn => ?_) (fun ds _ => hq)
    obtain ⟨kept, s2, s3, s4, s5, s6, s7, s8, s9, s10, s11, rfl⟩ := hi
    obtain ⟨c, hi, rfl⟩ : ∃ c : Int, i < 65 ∧ x = .tup [.int i, .int c] := by
      unfold enumF at hx
      rw [List.getElem?_mapIdx, List.getElem?_map] at hx
      cases q : cs[i]? with
      | none => rw [q] at hx; cases hx
      | some c =>
        rw [q] at hx
        have := (List.getElem?_eq_some_iff.mp q).1
        exact ⟨c, by omega, (Option.some.inj hx).symm⟩
    walk_at "rd"
    refine ⟨_, _, _, rfl, by omega, by omega, fun t b hlow ht hb => ?_⟩
    have bp := hlow.pos
    unfold wD
    walk_at "rd"
    refine ⟨_, _, rfl, by omega, by omega, ?_⟩
    have m1 := mix_lo kept (i + 3)
    have m2 := mix_hi kept (i + 3)
    generalize mix kept (i + 3) = m at m1 m2 ⊢
    walk_at "rd"
    refine ⟨.int t, rfl, ?_⟩
    walk_at "rd"
    have t80 : t.natAbs < 10 ^ 80 := by omega
    have b80 : b.natAbs < 10 ^ 80 := by omega
    have lt := sT_len t80
    have lb := sT_len b80
    have lf : (frT t b).length ≤ 200 := by
      unfold frT
      split
      · omega
      · have ap : ∀ a b : Str, (a ++ b).length = a.length + b.length := fun a b => by
          show (a.cps ++ b.cps).size = _
          rw [Array.size_append]; rfl
        rw [ap, ap]
        have : ("/" : Str).length = 1 := rfl
        omega
    have rd1 : readP (frT t b) = some (t, b) := by
      unfold frT
      split
      · rename_i e; rw [e]; exact read_one ht
      · exact read_two ht bp hb
    have self := hlow.self
    refine ⟨log_small t80, fun ds' => ds' = [.v (.scr (ns.map .int)), .v (.int kept), .v (.int i), .v (.int c), .v (wD t b), .v (.int m), .v (.str (frT t b)), s7, s8, s9, s10, s11], ?_, ?_⟩
    · walk_at "rd"
      refine ⟨.int b, rfl, ?_⟩
      walk_at "rd"
      refine iteN (fun e => ⟨?_, .int b, rfl, ?_⟩) (fun e => ⟨rfl, by unfold frT; rw [if_pos e]; rfl⟩)
      · show (sT t).length + 1 ≤ sizeLine
        omega
      · walk_at "rd"
        refine ⟨log_small b80, ?_, rfl, by unfold frT; rw [if_neg e]; rfl⟩
        show (sT t ++ ("/" : Str)).length + (sT b).length ≤ sizeLine
        rw [strLen_append]
        have : ("/" : Str).length = 1 := rfl
        omega
    rintro _ rfl
    walk_at "rd"
    refine ⟨t, b, rfl, t80, b80, ?_⟩
    walk_at "rd"
    refine ⟨_, rfl, by omega, fun t' b' e => ?_, fun e => by rw [rd1] at e; cases e⟩
    rw [rd1] at e
    cases e
    refine ⟨bp, bd40 (by omega) hb, ?_⟩
    rw [show lowP t b = t from self.1, show lowQ t b = b from self.2]
    refine ⟨t, b, t, b, rfl, ?_⟩
    rw [decide_eq_true rfl, decide_eq_true rfl]
    unfold wD
    walk_at "rd"
    have p30 : pmod t (10 ^ Int.toNat 30) = t % 10 ^ 30 := pmod_pos (by decide)
    have p29 : pmod b (10 ^ Int.toNat 29) = b % 10 ^ 29 := pmod_pos (by decide)
    refine ⟨.int t, rfl, ⟨by decide, by decide, by decide⟩, ?_⟩
    walk_at "rd"
    rw [p30]
    refine ⟨by decide, by decide, ⟨by decide, by decide, by decide⟩, .l (by omega) (by omega), .int b, rfl, ⟨by decide, by decide, by decide⟩, ?_⟩
    walk_at "rd"
    rw [p29]
    have u1 := Int.emod_nonneg t (show (10 : Int) ^ 30 ≠ 0 by decide)
    have u2 := Int.emod_lt_of_pos t (show (0 : Int) < 10 ^ 30 by decide)
    have u3 := Int.emod_nonneg b (show (10 : Int) ^ 29 ≠ 0 by decide)
    have u4 := Int.emod_lt_of_pos b (show (0 : Int) < 10 ^ 29 by decide)
    have c30 : (10 : Int) ^ Int.toNat 30 = 10 ^ 30 := rfl
    rw [c30]
    generalize t % 10 ^ 30 = tt at u1 u2 ⊢
    generalize b % 10 ^ 29 = bb at u3 u4 ⊢
    have T1 : -(10 ^ 30) ≤ tt - c % 2 * 10 ^ 30 ∧ tt - c % 2 * 10 ^ 30 < 10 ^ 30 := by constructor <;> omega
    generalize tt - c % 2 * 10 ^ 30 = T' at T1 ⊢
    refine ⟨by decide, T', 1 + bb, rfl, by omega, bd40 (by omega) (by omega), ?_⟩
    obtain ⟨slow, sp1, sp2⟩ := low_small (t := T') (b := 1 + bb) (by omega)
    generalize lowP T' (1 + bb) = sp at slow sp1 ⊢
    generalize lowQ T' (1 + bb) = sq at slow sp2 ⊢
    have sqp := slow.pos
    unfold wD
    walk_at "rd"
    rw [show pmod m (10 ^ Int.toNat 9) = m % 10 ^ 9 from pmod_pos (by decide)]
    have w1 := Int.emod_nonneg m (show (10 : Int) ^ 9 ≠ 0 by decide)
    have w2 := Int.emod_lt_of_pos m (show (0 : Int) < 10 ^ 9 by decide)
    have n1 : 0 < 1 + m % 10 ^ 9 ∧ 1 + m % 10 ^ 9 ≤ 10 ^ 9 := by constructor <;> omega
    generalize 1 + m % 10 ^ 9 = n at n1 ⊢
    have big : ∀ k : Int, k.natAbs ≤ 10 ^ 30 → (k * n).natAbs < 10 ^ 40 := fun k hk => by
      rw [Int.natAbs_mul]
      have : k.natAbs * n.natAbs ≤ 10 ^ 30 * 10 ^ 9 := Nat.mul_le_mul hk (by omega)
      omega
    have bsp := big sp (by omega)
    have bsq := big sq (by omega)
    have sqn : 0 < sq * n := Int.mul_pos sqp n1.1
    have l1 := sT_len (i := sp * n) (by omega)
    have l2 := sT_len (i := sq * n) (by omega)
    refine ⟨⟨by decide, by decide, by decide⟩, by decide, .int sp, rfl, ?_⟩
    walk_at "rd"
    refine ⟨.r (by omega) (by omega), log_small (by omega), ?_, .int sq, rfl, ?_⟩
    · show (sT (sp * n)).length + 1 ≤ sizeLine
      omega
    walk_at "rd"
    have lall : (sT (sp * n) ++ ("/" : Str)).length = (sT (sp * n)).length + 1 := by rw [strLen_append]; rfl
    refine ⟨.r (by omega) (by omega), log_small (by omega), ?_, ?_⟩
    · show (sT (sp * n) ++ ("/" : Str)).length + (sT (sq * n)).length ≤ sizeLine
      omega
    have rd2 : readP (sT (sp * n) ++ "/" ++ sT (sq * n)) = some (sp * n, sq * n) := read_two bsp sqn (by omega)
    refine ⟨sT (sp * n) ++ "/" ++ sT (sq * n), rfl, by rw [strLen_append, lall]; omega, fun t' b' e => ?_, fun e => by rw [rd2] at e; cases e⟩
    rw [rd2] at e
    cases e
    refine ⟨sqn, bd40 (by omega) (by omega), ?_⟩
    have gp := gcd_pos (a := sp * n) (b := sq * n) (by omega)
    obtain ⟨lo, le, _, _⟩ := low_of (a := sp * n) (b := sq * n) (d := (Int.gcd (sp * n) (sq * n) : Int)) (by omega) (.inl rfl) (Int.mul_pos sqn gp)
    obtain ⟨s1, s2⟩ := Low.same lo slow (by omega) le (by rw [Int.mul_comm sq n, Int.mul_assoc])
    rw [show lowP (sp * n) (sq * n) = sp from s1, show lowQ (sp * n) (sq * n) = sq from s2]
    refine ⟨sp, sq, sp, sq, rfl, ?_⟩
    rw [decide_eq_true rfl, decide_eq_true rfl]
    walk_at "rd"
    refine ⟨frT t b, m, rfl, lf, m1, fun r hr => ?_⟩
    have fin : ∀ (d : D), N [.v (.scr (ns.map .int)), .v (.int c), .v (.int i), .v (.int c), .v (.tup [.int t, .int b]), .v (.int m), .v (.str (frT t b)), .v (.str (frT t b)), .v (.tup [.int sp, .int sq]), .v (.int n), .v (.str r), .v d] := fun d => hn _ ⟨c, _, _, _, _, _, _, _, _, _, _, rfl⟩
    refine ⟨r, rfl, by omega, fun t' b' e => ?_, fun e => ?_⟩
    · have pb := read_pos e
      refine ⟨pb.1, ?_⟩
      unfold wD
      walk_at "rd"
      refine ⟨r, rfl, by omega, fun t2 b2 e2 => ?_, fun e2 => by rw [e] at e2; cases e2⟩
      rw [e] at e2
      cases e2
      refine ⟨pb.1, pb.2, _, _, _, _, rfl, ?_⟩
      rw [decide_eq_true rfl, decide_eq_true rfl]
      walk_at "rd"
      exact fin _
    · walk_at "rd"
      refine ⟨r, rfl, by omega, e, ?_⟩
      walk_at "rd"
      exact fin _
end

theorem all_mk {l : PySem.W.OpenLaw} {w : World} {K : PySem.W.Frag} {h : Heap} {mg : Str → Option Value} {fa : Addr} (X : K.In h) (G : h.Ns mainGlobals mg) (hfa : mg "law" = some (.ref fa))
    {C_WoodError : Addr}
    {C_NoLine : Addr}
    {C_NoScale : Addr}
    {C_NoRule : Addr}
    {C_NoWeight : Addr}
    {C_Twice : Addr}
    {C_NoTitle : Addr}
    {C_NoKind : Addr}
    {C_Ring : Addr}
    {C_NoNet : Addr}
    {C_TooMany : Addr}
    {C_NoTree : Addr}
    {f_common_divisor : Addr} {od_common_divisor an_common_divisor : Option Addr} {sl_common_divisor : Array (Option Value)} {oc_common_divisor kV_common_divisor dc_common_divisor pm_common_divisor cd_common_divisor ct_common_divisor : Value}
    {f_fraction : Addr} {od_fraction an_fraction : Option Addr} {sl_fraction : Array (Option Value)} {oc_fraction kV_fraction dc_fraction pm_fraction cd_fraction ct_fraction : Value}
    {f_fraction_text : Addr} {od_fraction_text an_fraction_text : Option Addr} {sl_fraction_text : Array (Option Value)} {oc_fraction_text kV_fraction_text dc_fraction_text pm_fraction_text cd_fraction_text ct_fraction_text : Value}
    {f_is_figures : Addr} {od_is_figures an_is_figures : Option Addr} {sl_is_figures : Array (Option Value)} {oc_is_figures kV_is_figures dc_is_figures pm_is_figures cd_is_figures ct_is_figures : Value}
    {f_is_bottom : Addr} {od_is_bottom an_is_bottom : Option Addr} {sl_is_bottom : Array (Option Value)} {oc_is_bottom kV_is_bottom dc_is_bottom pm_is_bottom cd_is_bottom ct_is_bottom : Value}
    {f_is_top : Addr} {od_is_top an_is_top : Option Addr} {sl_is_top : Array (Option Value)} {oc_is_top kV_is_top dc_is_top pm_is_top cd_is_top ct_is_top : Value}
    {f_read_fraction : Addr} {od_read_fraction an_read_fraction : Option Addr} {sl_read_fraction : Array (Option Value)} {oc_read_fraction kV_read_fraction dc_read_fraction pm_read_fraction cd_read_fraction ct_read_fraction : Value}
    {f_l_mix : Addr} {od_l_mix an_l_mix : Option Addr} {sl_l_mix : Array (Option Value)} {oc_l_mix kV_l_mix dc_l_mix pm_l_mix cd_l_mix ct_l_mix : Value}
    {f_l_lowest : Addr} {od_l_lowest an_l_lowest : Option Addr} {sl_l_lowest : Array (Option Value)} {oc_l_lowest kV_l_lowest dc_l_lowest pm_l_lowest cd_l_lowest ct_l_lowest : Value}
    {f_l_whole : Addr} {od_l_whole an_l_whole : Option Addr} {sl_l_whole : Array (Option Value)} {oc_l_whole kV_l_whole dc_l_whole pm_l_whole cd_l_whole ct_l_whole : Value}
    {f_l_some : Addr} {od_l_some an_l_some : Option Addr} {sl_l_some : Array (Option Value)} {oc_l_some kV_l_some dc_l_some pm_l_some cd_l_some ct_l_some : Value}
    {f_l_sign : Addr} {od_l_sign an_l_sign : Option Addr} {sl_l_sign : Array (Option Value)} {oc_l_sign kV_l_sign dc_l_sign pm_l_sign cd_l_sign ct_l_sign : Value}
    {f_l_spoilt : Addr} {od_l_spoilt an_l_spoilt : Option Addr} {sl_l_spoilt : Array (Option Value)} {oc_l_spoilt kV_l_spoilt dc_l_spoilt pm_l_spoilt cd_l_spoilt ct_l_spoilt : Value}
    {f_l_number : Addr} {od_l_number an_l_number : Option Addr} {sl_l_number : Array (Option Value)} {oc_l_number kV_l_number dc_l_number pm_l_number cd_l_number ct_l_number : Value}
    {f_l_read : Addr} {od_l_read an_l_read : Option Addr} {sl_l_read : Array (Option Value)} {oc_l_read kV_l_read dc_l_read pm_l_read cd_l_read ct_l_read : Value}
    {f_l_refused : Addr} {od_l_refused an_l_refused : Option Addr} {sl_l_refused : Array (Option Value)} {oc_l_refused kV_l_refused dc_l_refused pm_l_refused cd_l_refused ct_l_refused : Value}
    {f_l_alike : Addr} {od_l_alike an_l_alike : Option Addr} {sl_l_alike : Array (Option Value)} {oc_l_alike kV_l_alike dc_l_alike pm_l_alike cd_l_alike ct_l_alike : Value}
    {f_law : Addr} {od_law an_law : Option Addr} {sl_law : Array (Option Value)} {oc_law kV_law dc_law pm_law cd_law ct_law : Value}
    (aC_WoodError : PySem.W.nsIn K mainGlobals "WoodError" = some (some (.ref C_WoodError))) (ct_WoodError : PySem.W.typeIn K (.ref C_WoodError) = some (.type "type")) (ck_WoodError : PySem.W.isClsIn K C_WoodError = true) (cb_WoodError : PySem.W.subIn K (.ref C_WoodError) (.type "BaseException") = some true) (dd_WoodError : PySem.W.hasDictIn K C_WoodError = true) (dt_WoodError : PySem.W.typeIn K (.ref C_WoodError) = some (.type "type")) (dr_WoodError : PySem.W.subIn K (.ref C_WoodError) (.ref C_WoodError) = some true)
    (aC_NoLine : PySem.W.nsIn K mainGlobals "NoLine" = some (some (.ref C_NoLine))) (xc_NoLine : PySem.W.excIn K C_NoLine [.type "ValueError", .type "Exception", .type "BaseException", .type "object"] "ValueError.__new__" = true) (ga_NoLine : PySem.W.findIn K (.ref C_NoLine) "__getattribute__" = some (some (.builtin "BaseException.__getattribute__"))) (gn_NoLine : PySem.W.findIn K (.ref C_NoLine) "__getattr__" = some none) (ec_NoLine : PySem.W.findIn K (.ref C_NoLine) "__class__" = some (some (.builtin "object.__class__"))) (eo_NoLine : PySem.W.mroIn K C_NoLine (.type "object") = some true) (eb_NoLine : PySem.W.mroIn K C_NoLine (.type "BaseException") = some true) (ei_NoLine : PySem.W.isClsIn K C_NoLine = true) (ev_NoLine : PySem.W.mroIn K C_NoLine (.type "ValueError") = some true) (dd_NoLine : PySem.W.hasDictIn K C_NoLine = true) (dt_NoLine : PySem.W.typeIn K (.ref C_NoLine) = some (.type "type")) (dr_NoLine : PySem.W.subIn K (.ref C_NoLine) (.ref C_NoLine) = some true)
    (aC_NoScale : PySem.W.nsIn K mainGlobals "NoScale" = some (some (.ref C_NoScale))) (dd_NoScale : PySem.W.hasDictIn K C_NoScale = true) (dt_NoScale : PySem.W.typeIn K (.ref C_NoScale) = some (.type "type")) (dr_NoScale : PySem.W.subIn K (.ref C_NoScale) (.ref C_NoScale) = some true)
    (aC_NoRule : PySem.W.nsIn K mainGlobals "NoRule" = some (some (.ref C_NoRule))) (dd_NoRule : PySem.W.hasDictIn K C_NoRule = true) (dt_NoRule : PySem.W.typeIn K (.ref C_NoRule) = some (.type "type")) (dr_NoRule : PySem.W.subIn K (.ref C_NoRule) (.ref C_NoRule) = some true)
    (aC_NoWeight : PySem.W.nsIn K mainGlobals "NoWeight" = some (some (.ref C_NoWeight))) (dd_NoWeight : PySem.W.hasDictIn K C_NoWeight = true) (dt_NoWeight : PySem.W.typeIn K (.ref C_NoWeight) = some (.type "type")) (dr_NoWeight : PySem.W.subIn K (.ref C_NoWeight) (.ref C_NoWeight) = some true)
    (aC_Twice : PySem.W.nsIn K mainGlobals "Twice" = some (some (.ref C_Twice))) (dd_Twice : PySem.W.hasDictIn K C_Twice = true) (dt_Twice : PySem.W.typeIn K (.ref C_Twice) = some (.type "type")) (dr_Twice : PySem.W.subIn K (.ref C_Twice) (.ref C_Twice) = some true)
    (aC_NoTitle : PySem.W.nsIn K mainGlobals "NoTitle" = some (some (.ref C_NoTitle))) (dd_NoTitle : PySem.W.hasDictIn K C_NoTitle = true) (dt_NoTitle : PySem.W.typeIn K (.ref C_NoTitle) = some (.type "type")) (dr_NoTitle : PySem.W.subIn K (.ref C_NoTitle) (.ref C_NoTitle) = some true)
    (aC_NoKind : PySem.W.nsIn K mainGlobals "NoKind" = some (some (.ref C_NoKind))) (dd_NoKind : PySem.W.hasDictIn K C_NoKind = true) (dt_NoKind : PySem.W.typeIn K (.ref C_NoKind) = some (.type "type")) (dr_NoKind : PySem.W.subIn K (.ref C_NoKind) (.ref C_NoKind) = some true)
    (aC_Ring : PySem.W.nsIn K mainGlobals "Ring" = some (some (.ref C_Ring))) (dd_Ring : PySem.W.hasDictIn K C_Ring = true) (dt_Ring : PySem.W.typeIn K (.ref C_Ring) = some (.type "type")) (dr_Ring : PySem.W.subIn K (.ref C_Ring) (.ref C_Ring) = some true)
    (aC_NoNet : PySem.W.nsIn K mainGlobals "NoNet" = some (some (.ref C_NoNet))) (dd_NoNet : PySem.W.hasDictIn K C_NoNet = true) (dt_NoNet : PySem.W.typeIn K (.ref C_NoNet) = some (.type "type")) (dr_NoNet : PySem.W.subIn K (.ref C_NoNet) (.ref C_NoNet) = some true)
    (aC_TooMany : PySem.W.nsIn K mainGlobals "TooMany" = some (some (.ref C_TooMany))) (dd_TooMany : PySem.W.hasDictIn K C_TooMany = true) (dt_TooMany : PySem.W.typeIn K (.ref C_TooMany) = some (.type "type")) (dr_TooMany : PySem.W.subIn K (.ref C_TooMany) (.ref C_TooMany) = some true)
    (aC_NoTree : PySem.W.nsIn K mainGlobals "NoTree" = some (some (.ref C_NoTree))) (dd_NoTree : PySem.W.hasDictIn K C_NoTree = true) (dt_NoTree : PySem.W.typeIn K (.ref C_NoTree) = some (.type "type")) (dr_NoTree : PySem.W.subIn K (.ref C_NoTree) (.ref C_NoTree) = some true)
    (es_NoLine_WoodError : PySem.W.subIn K (.ref C_NoLine) (.ref C_WoodError) = some true)
    (es_NoLine_NoLine : PySem.W.subIn K (.ref C_NoLine) (.ref C_NoLine) = some true)
    (es_NoLine_NoKind : PySem.W.subIn K (.ref C_NoLine) (.ref C_NoKind) = some false)
    (es_NoLine_NoNet : PySem.W.subIn K (.ref C_NoLine) (.ref C_NoNet) = some false)
    (es_NoLine_NoRule : PySem.W.subIn K (.ref C_NoLine) (.ref C_NoRule) = some false)
    (es_NoLine_NoScale : PySem.W.subIn K (.ref C_NoLine) (.ref C_NoScale) = some false)
    (es_NoLine_NoTitle : PySem.W.subIn K (.ref C_NoLine) (.ref C_NoTitle) = some false)
    (es_NoLine_NoTree : PySem.W.subIn K (.ref C_NoLine) (.ref C_NoTree) = some false)
    (es_NoLine_NoWeight : PySem.W.subIn K (.ref C_NoLine) (.ref C_NoWeight) = some false)
    (es_NoLine_Ring : PySem.W.subIn K (.ref C_NoLine) (.ref C_Ring) = some false)
    (es_NoLine_TooMany : PySem.W.subIn K (.ref C_NoLine) (.ref C_TooMany) = some false)
    (es_NoLine_Twice : PySem.W.subIn K (.ref C_NoLine) (.ref C_Twice) = some false)
    (a_common_divisor : PySem.W.nsIn K mainGlobals "common_divisor" = some (some (.ref f_common_divisor))) (l_common_divisor : K.lookup f_common_divisor = some ⟨oc_common_divisor, od_common_divisor, .func (PySem.W.fnOf "common_divisor" "common_divisor" (defArgs s_common_divisor) (defBody s_common_divisor) (defScope s_common_divisor) .none kV_common_divisor dc_common_divisor pm_common_divisor an_common_divisor cd_common_divisor ct_common_divisor), sl_common_divisor⟩) (c_common_divisor : PySem.W.codeIn K cd_common_divisor "common_divisor" = true) (k_common_divisor : PySem.W.keepIn K (.ref f_common_divisor) = true)
    (a_fraction : PySem.W.nsIn K mainGlobals "fraction" = some (some (.ref f_fraction))) (l_fraction : K.lookup f_fraction = some ⟨oc_fraction, od_fraction, .func (PySem.W.fnOf "fraction" "fraction" (defArgs s_fraction) (defBody s_fraction) (defScope s_fraction) .none kV_fraction dc_fraction pm_fraction an_fraction cd_fraction ct_fraction), sl_fraction⟩) (c_fraction : PySem.W.codeIn K cd_fraction "fraction" = true) (k_fraction : PySem.W.keepIn K (.ref f_fraction) = true)
    (a_fraction_text : PySem.W.nsIn K mainGlobals "fraction_text" = some (some (.ref f_fraction_text))) (l_fraction_text : K.lookup f_fraction_text = some ⟨oc_fraction_text, od_fraction_text, .func (PySem.W.fnOf "fraction_text" "fraction_text" (defArgs s_fraction_text) (defBody s_fraction_text) (defScope s_fraction_text) .none kV_fraction_text dc_fraction_text pm_fraction_text an_fraction_text cd_fraction_text ct_fraction_text), sl_fraction_text⟩) (c_fraction_text : PySem.W.codeIn K cd_fraction_text "fraction_text" = true) (k_fraction_text : PySem.W.keepIn K (.ref f_fraction_text) = true)
    (a_is_figures : PySem.W.nsIn K mainGlobals "is_figures" = some (some (.ref f_is_figures))) (l_is_figures : K.lookup f_is_figures = some ⟨oc_is_figures, od_is_figures, .func (PySem.W.fnOf "is_figures" "is_figures" (defArgs s_is_figures) (defBody s_is_figures) (defScope s_is_figures) .none kV_is_figures dc_is_figures pm_is_figures an_is_figures cd_is_figures ct_is_figures), sl_is_figures⟩) (c_is_figures : PySem.W.codeIn K cd_is_figures "is_figures" = true) (k_is_figures : PySem.W.keepIn K (.ref f_is_figures) = true)
    (a_is_bottom : PySem.W.nsIn K mainGlobals "is_bottom" = some (some (.ref f_is_bottom))) (l_is_bottom : K.lookup f_is_bottom = some ⟨oc_is_bottom, od_is_bottom, .func (PySem.W.fnOf "is_bottom" "is_bottom" (defArgs s_is_bottom) (defBody s_is_bottom) (defScope s_is_bottom) .none kV_is_bottom dc_is_bottom pm_is_bottom an_is_bottom cd_is_bottom ct_is_bottom), sl_is_bottom⟩) (c_is_bottom : PySem.W.codeIn K cd_is_bottom "is_bottom" = true) (k_is_bottom : PySem.W.keepIn K (.ref f_is_bottom) = true)
    (a_is_top : PySem.W.nsIn K mainGlobals "is_top" = some (some (.ref f_is_top))) (l_is_top : K.lookup f_is_top = some ⟨oc_is_top, od_is_top, .func (PySem.W.fnOf "is_top" "is_top" (defArgs s_is_top) (defBody s_is_top) (defScope s_is_top) .none kV_is_top dc_is_top pm_is_top an_is_top cd_is_top ct_is_top), sl_is_top⟩) (c_is_top : PySem.W.codeIn K cd_is_top "is_top" = true) (k_is_top : PySem.W.keepIn K (.ref f_is_top) = true)
    (a_read_fraction : PySem.W.nsIn K mainGlobals "read_fraction" = some (some (.ref f_read_fraction))) (l_read_fraction : K.lookup f_read_fraction = some ⟨oc_read_fraction, od_read_fraction, .func (PySem.W.fnOf "read_fraction" "read_fraction" (defArgs s_read_fraction) (defBody s_read_fraction) (defScope s_read_fraction) .none kV_read_fraction dc_read_fraction pm_read_fraction an_read_fraction cd_read_fraction ct_read_fraction), sl_read_fraction⟩) (c_read_fraction : PySem.W.codeIn K cd_read_fraction "read_fraction" = true) (k_read_fraction : PySem.W.keepIn K (.ref f_read_fraction) = true)
    (a_l_mix : PySem.W.nsIn K mainGlobals "_law_mix" = some (some (.ref f_l_mix))) (l_l_mix : K.lookup f_l_mix = some ⟨oc_l_mix, od_l_mix, .func (PySem.W.fnOf "_law_mix" "_law_mix" (defArgs s_l_mix) (defBody s_l_mix) (defScope s_l_mix) .none kV_l_mix dc_l_mix pm_l_mix an_l_mix cd_l_mix ct_l_mix), sl_l_mix⟩) (c_l_mix : PySem.W.codeIn K cd_l_mix "_law_mix" = true) (k_l_mix : PySem.W.keepIn K (.ref f_l_mix) = true)
    (a_l_lowest : PySem.W.nsIn K mainGlobals "_law_lowest" = some (some (.ref f_l_lowest))) (l_l_lowest : K.lookup f_l_lowest = some ⟨oc_l_lowest, od_l_lowest, .func (PySem.W.fnOf "_law_lowest" "_law_lowest" (defArgs s_l_lowest) (defBody s_l_lowest) (defScope s_l_lowest) .none kV_l_lowest dc_l_lowest pm_l_lowest an_l_lowest cd_l_lowest ct_l_lowest), sl_l_lowest⟩) (c_l_lowest : PySem.W.codeIn K cd_l_lowest "_law_lowest" = true) (k_l_lowest : PySem.W.keepIn K (.ref f_l_lowest) = true)
    (a_l_whole : PySem.W.nsIn K mainGlobals "_law_whole" = some (some (.ref f_l_whole))) (l_l_whole : K.lookup f_l_whole = some ⟨oc_l_whole, od_l_whole, .func (PySem.W.fnOf "_law_whole" "_law_whole" (defArgs s_l_whole) (defBody s_l_whole) (defScope s_l_whole) .none kV_l_whole dc_l_whole pm_l_whole an_l_whole cd_l_whole ct_l_whole), sl_l_whole⟩) (c_l_whole : PySem.W.codeIn K cd_l_whole "_law_whole" = true) (k_l_whole : PySem.W.keepIn K (.ref f_l_whole) = true)
    (a_l_some : PySem.W.nsIn K mainGlobals "_law_some" = some (some (.ref f_l_some))) (l_l_some : K.lookup f_l_some = some ⟨oc_l_some, od_l_some, .func (PySem.W.fnOf "_law_some" "_law_some" (defArgs s_l_some) (defBody s_l_some) (defScope s_l_some) .none kV_l_some dc_l_some pm_l_some an_l_some cd_l_some ct_l_some), sl_l_some⟩) (c_l_some : PySem.W.codeIn K cd_l_some "_law_some" = true) (k_l_some : PySem.W.keepIn K (.ref f_l_some) = true)
    (a_l_sign : PySem.W.nsIn K mainGlobals "_law_sign" = some (some (.ref f_l_sign))) (l_l_sign : K.lookup f_l_sign = some ⟨oc_l_sign, od_l_sign, .func (PySem.W.fnOf "_law_sign" "_law_sign" (defArgs s_l_sign) (defBody s_l_sign) (defScope s_l_sign) .none kV_l_sign dc_l_sign pm_l_sign an_l_sign cd_l_sign ct_l_sign), sl_l_sign⟩) (c_l_sign : PySem.W.codeIn K cd_l_sign "_law_sign" = true) (k_l_sign : PySem.W.keepIn K (.ref f_l_sign) = true)
    (a_l_spoilt : PySem.W.nsIn K mainGlobals "_law_spoilt" = some (some (.ref f_l_spoilt))) (l_l_spoilt : K.lookup f_l_spoilt = some ⟨oc_l_spoilt, od_l_spoilt, .func (PySem.W.fnOf "_law_spoilt" "_law_spoilt" (defArgs s_l_spoilt) (defBody s_l_spoilt) (defScope s_l_spoilt) .none kV_l_spoilt dc_l_spoilt pm_l_spoilt an_l_spoilt cd_l_spoilt ct_l_spoilt), sl_l_spoilt⟩) (c_l_spoilt : PySem.W.codeIn K cd_l_spoilt "_law_spoilt" = true) (k_l_spoilt : PySem.W.keepIn K (.ref f_l_spoilt) = true)
    (a_l_number : PySem.W.nsIn K mainGlobals "_law_number" = some (some (.ref f_l_number))) (l_l_number : K.lookup f_l_number = some ⟨oc_l_number, od_l_number, .func (PySem.W.fnOf "_law_number" "_law_number" (defArgs s_l_number) (defBody s_l_number) (defScope s_l_number) .none kV_l_number dc_l_number pm_l_number an_l_number cd_l_number ct_l_number), sl_l_number⟩) (c_l_number : PySem.W.codeIn K cd_l_number "_law_number" = true) (k_l_number : PySem.W.keepIn K (.ref f_l_number) = true)
    (a_l_read : PySem.W.nsIn K mainGlobals "_law_read" = some (some (.ref f_l_read))) (l_l_read : K.lookup f_l_read = some ⟨oc_l_read, od_l_read, .func (PySem.W.fnOf "_law_read" "_law_read" (defArgs s_l_read) (defBody s_l_read) (defScope s_l_read) .none kV_l_read dc_l_read pm_l_read an_l_read cd_l_read ct_l_read), sl_l_read⟩) (c_l_read : PySem.W.codeIn K cd_l_read "_law_read" = true) (k_l_read : PySem.W.keepIn K (.ref f_l_read) = true)
    (a_l_refused : PySem.W.nsIn K mainGlobals "_law_refused" = some (some (.ref f_l_refused))) (l_l_refused : K.lookup f_l_refused = some ⟨oc_l_refused, od_l_refused, .func (PySem.W.fnOf "_law_refused" "_law_refused" (defArgs s_l_refused) (defBody s_l_refused) (defScope s_l_refused) .none kV_l_refused dc_l_refused pm_l_refused an_l_refused cd_l_refused ct_l_refused), sl_l_refused⟩) (c_l_refused : PySem.W.codeIn K cd_l_refused "_law_refused" = true) (k_l_refused : PySem.W.keepIn K (.ref f_l_refused) = true)
    (a_l_alike : PySem.W.nsIn K mainGlobals "_law_alike" = some (some (.ref f_l_alike))) (l_l_alike : K.lookup f_l_alike = some ⟨oc_l_alike, od_l_alike, .func (PySem.W.fnOf "_law_alike" "_law_alike" (defArgs s_l_alike) (defBody s_l_alike) (defScope s_l_alike) .none kV_l_alike dc_l_alike pm_l_alike an_l_alike cd_l_alike ct_l_alike), sl_l_alike⟩) (c_l_alike : PySem.W.codeIn K cd_l_alike "_law_alike" = true) (k_l_alike : PySem.W.keepIn K (.ref f_l_alike) = true)
    (a_law : PySem.W.nsIn K mainGlobals "law" = some (some (.ref f_law))) (l_law : K.lookup f_law = some ⟨oc_law, od_law, .func (PySem.W.fnOf "law" "law" (defArgs s_law) (defBody s_law) (defScope s_law) .none kV_law dc_law pm_law an_law cd_law ct_law), sl_law⟩) (c_law : PySem.W.codeIn K cd_law "law" = true) (k_law : PySem.W.keepIn K (.ref f_law) = true)
    {t_MOST_FIGURES : Tok} (q_MOST_FIGURES : PySem.W.nsIn K mainGlobals "MOST_FIGURES" = some (some (.int 40 t_MOST_FIGURES)))
    {t_FIGURES : Tok} (q_FIGURES : PySem.W.nsIn K mainGlobals "FIGURES" = some (some (.str c_FIGURES t_FIGURES)))
    (z_abs : PySem.W.nsIn K mainGlobals "abs" = some none) (z_str : PySem.W.nsIn K mainGlobals "str" = some none) (z_all : PySem.W.nsIn K mainGlobals "all" = some none) (z_len : PySem.W.nsIn K mainGlobals "len" = some none) (z_int : PySem.W.nsIn K mainGlobals "int" = some none) (z_isinstance : PySem.W.nsIn K mainGlobals "isinstance" = some none) (z_bool : PySem.W.nsIn K mainGlobals "bool" = some none) (z_ValueError : PySem.W.nsIn K mainGlobals "ValueError" = some none) (z_tuple : PySem.W.nsIn K mainGlobals "tuple" = some none) (z_enumerate : PySem.W.nsIn K mainGlobals "enumerate" = some none) :
    ∃ fd : FuncData, (∀ (s : Shared) (v : Value), BindsTo s fd ⟨[v], []⟩ [("_law_script", v)]) ∧ ∀ base : Heap, K.In base → base.Ns mainGlobals mg → FnOk l.prog w K mg base CX0 6 fa fd ["_law_script"] (spLaw K) := by
  have e := hfa.symm.trans (PySem.W.mg_of X G a_law)
  cases e
  have F_common_divisor := fun_mk (st := s_common_divisor) l_common_divisor c_common_divisor k_common_divisor
  have b_common_divisor := F_common_divisor.binds (ps := ["one", "other"]) fun _ _ _ _ _ _ us hl => match us, hl with | [_, _], _ => rfl
  have F_fraction := fun_mk (st := s_fraction) l_fraction c_fraction k_fraction
  have b_fraction := F_fraction.binds (ps := ["top", "bottom"]) fun _ _ _ _ _ _ us hl => match us, hl with | [_, _], _ => rfl
  have F_fraction_text := fun_mk (st := s_fraction_text) l_fraction_text c_fraction_text k_fraction_text
  have b_fraction_text := F_fraction_text.binds (ps := ["one"]) fun _ _ _ _ _ _ us hl => match us, hl with | [_], _ => rfl
  have F_is_figures := fun_mk (st := s_is_figures) l_is_figures c_is_figures k_is_figures
  have b_is_figures := F_is_figures.binds (ps := ["text"]) fun _ _ _ _ _ _ us hl => match us, hl with | [_], _ => rfl
  have F_is_bottom := fun_mk (st := s_is_bottom) l_is_bottom c_is_bottom k_is_bottom
  have b_is_bottom := F_is_bottom.binds (ps := ["text"]) fun _ _ _ _ _ _ us hl => match us, hl with | [_], _ => rfl
  have F_is_top := fun_mk (st := s_is_top) l_is_top c_is_top k_is_top
  have b_is_top := F_is_top.binds (ps := ["text"]) fun _ _ _ _ _ _ us hl => match us, hl with | [_], _ => rfl
  have F_read_fraction := fun_mk (st := s_read_fraction) l_read_fraction c_read_fraction k_read_fraction
  have b_read_fraction := F_read_fraction.binds (ps := ["text"]) fun _ _ _ _ _ _ us hl => match us, hl with | [_], _ => rfl
  have F_l_mix := fun_mk (st := s_l_mix) l_l_mix c_l_mix k_l_mix
  have b_l_mix := F_l_mix.binds (ps := ["_law_cell", "_law_k"]) fun _ _ _ _ _ _ us hl => match us, hl with | [_, _], _ => rfl
  have F_l_lowest := fun_mk (st := s_l_lowest) l_l_lowest c_l_lowest k_l_lowest
  have b_l_lowest := F_l_lowest.binds (ps := ["_law_top", "_law_bottom"]) fun _ _ _ _ _ _ us hl => match us, hl with | [_, _], _ => rfl
  have F_l_whole := fun_mk (st := s_l_whole) l_l_whole c_l_whole k_l_whole
  have b_l_whole := F_l_whole.binds (ps := ["_law_found"]) fun _ _ _ _ _ _ us hl => match us, hl with | [_], _ => rfl
  have F_l_some := fun_mk (st := s_l_some) l_l_some c_l_some k_l_some
  have b_l_some := F_l_some.binds (ps := ["_law_cell", "_law_kept", "_law_k"]) fun _ _ _ _ _ _ us hl => match us, hl with | [_, _, _], _ => rfl
  have F_l_sign := fun_mk (st := s_l_sign) l_l_sign c_l_sign k_l_sign
  have b_l_sign := F_l_sign.binds (ps := ["_law_m"]) fun _ _ _ _ _ _ us hl => match us, hl with | [_], _ => rfl
  have F_l_spoilt := fun_mk (st := s_l_spoilt) l_l_spoilt c_l_spoilt k_l_spoilt
  have b_l_spoilt := F_l_spoilt.binds (ps := ["_law_said", "_law_m"]) fun _ _ _ _ _ _ us hl => match us, hl with | [_, _], _ => rfl
  have F_l_number := fun_mk (st := s_l_number) l_l_number c_l_number k_l_number
  have b_l_number := F_l_number.binds (ps := ["_law_said"]) fun _ _ _ _ _ _ us hl => match us, hl with | [_], _ => rfl
  have F_l_read := fun_mk (st := s_l_read) l_l_read c_l_read k_l_read
  have b_l_read := F_l_read.binds (ps := ["_law_said"]) fun _ _ _ _ _ _ us hl => match us, hl with | [_], _ => rfl
  have F_l_refused := fun_mk (st := s_l_refused) l_l_refused c_l_refused k_l_refused
  have b_l_refused := F_l_refused.binds (ps := ["_law_said"]) fun _ _ _ _ _ _ us hl => match us, hl with | [_], _ => rfl
  have F_l_alike := fun_mk (st := s_l_alike) l_l_alike c_l_alike k_l_alike
  have b_l_alike := F_l_alike.binds (ps := ["_law_found", "_law_due"]) fun _ _ _ _ _ _ us hl => match us, hl with | [_, _], _ => rfl
  have F_law := fun_mk (st := s_law) l_law c_law k_law
  have b_law := F_law.binds (ps := ["_law_script"]) fun _ _ _ _ _ _ us hl => match us, hl with | [_], _ => rfl
  have T : Txt K mg ⟨C_WoodError, C_NoLine, C_NoScale, C_NoRule, C_NoWeight, C_Twice, C_NoTitle, C_NoKind, C_Ring, C_NoNet, C_TooMany, C_NoTree, f_common_divisor, _, f_fraction, _, f_fraction_text, _, f_is_figures, _, f_is_bottom, _, f_is_top, _, f_read_fraction, _, f_l_mix, _, f_l_lowest, _, f_l_whole, _, f_l_some, _, f_l_sign, _, f_l_spoilt, _, f_l_number, _, f_l_read, _, f_l_refused, _, f_l_alike, _, fa, _⟩ := ⟨PySem.W.mg_of X G aC_WoodError, PySem.W.mg_of X G aC_NoLine, PySem.W.mg_of X G aC_NoScale, PySem.W.mg_of X G aC_NoRule, PySem.W.mg_of X G aC_NoWeight, PySem.W.mg_of X G aC_Twice, PySem.W.mg_of X G aC_NoTitle, PySem.W.mg_of X G aC_NoKind, PySem.W.mg_of X G aC_Ring, PySem.W.mg_of X G aC_NoNet, PySem.W.mg_of X G aC_TooMany, PySem.W.mg_of X G aC_NoTree, ⟨xc_NoLine⟩, ⟨ga_NoLine, gn_NoLine, ec_NoLine, eo_NoLine, eb_NoLine, ei_NoLine⟩, ⟨ct_WoodError, ck_WoodError, cb_WoodError⟩, es_NoLine_WoodError, kit_ref dd_WoodError dt_WoodError es_NoLine_WoodError dr_WoodError, es_NoLine_NoLine, kit_ref dd_NoLine dt_NoLine es_NoLine_NoLine dr_NoLine, es_NoLine_NoKind, kit_ref dd_NoKind dt_NoKind es_NoLine_NoKind dr_NoKind, es_NoLine_NoNet, kit_ref dd_NoNet dt_NoNet es_NoLine_NoNet dr_NoNet, es_NoLine_NoRule, kit_ref dd_NoRule dt_NoRule es_NoLine_NoRule dr_NoRule, es_NoLine_NoScale, kit_ref dd_NoScale dt_NoScale es_NoLine_NoScale dr_NoScale, es_NoLine_NoTitle, kit_ref dd_NoTitle dt_NoTitle es_NoLine_NoTitle dr_NoTitle, es_NoLine_NoTree, kit_ref dd_NoTree dt_NoTree es_NoLine_NoTree dr_NoTree, es_NoLine_NoWeight, kit_ref dd_NoWeight dt_NoWeight es_NoLine_NoWeight dr_NoWeight, es_NoLine_Ring, kit_ref dd_Ring dt_Ring es_NoLine_Ring dr_Ring, es_NoLine_TooMany, kit_ref dd_TooMany dt_TooMany es_NoLine_TooMany dr_TooMany, es_NoLine_Twice, kit_ref dd_Twice dt_Twice es_NoLine_Twice dr_Twice, kit_type rfl ev_NoLine, F_common_divisor, PySem.W.mg_of X G a_common_divisor, k_common_divisor, b_common_divisor, F_fraction, PySem.W.mg_of X G a_fraction, k_fraction, b_fraction, F_fraction_text, PySem.W.mg_of X G a_fraction_text, k_fraction_text, b_fraction_text, F_is_figures, PySem.W.mg_of X G a_is_figures, k_is_figures, b_is_figures, F_is_bottom, PySem.W.mg_of X G a_is_bottom, k_is_bottom, b_is_bottom, F_is_top, PySem.W.mg_of X G a_is_top, k_is_top, b_is_top, F_read_fraction, PySem.W.mg_of X G a_read_fraction, k_read_fraction, b_read_fraction, F_l_mix, PySem.W.mg_of X G a_l_mix, k_l_mix, b_l_mix, F_l_lowest, PySem.W.mg_of X G a_l_lowest, k_l_lowest, b_l_lowest, F_l_whole, PySem.W.mg_of X G a_l_whole, k_l_whole, b_l_whole, F_l_some, PySem.W.mg_of X G a_l_some, k_l_some, b_l_some, F_l_sign, PySem.W.mg_of X G a_l_sign, k_l_sign, b_l_sign, F_l_spoilt, PySem.W.mg_of X G a_l_spoilt, k_l_spoilt, b_l_spoilt, F_l_number, PySem.W.mg_of X G a_l_number, k_l_number, b_l_number, F_l_read, PySem.W.mg_of X G a_l_read, k_l_read, b_l_read, F_l_refused, PySem.W.mg_of X G a_l_refused, k_l_refused, b_l_refused, F_l_alike, PySem.W.mg_of X G a_l_alike, k_l_alike, b_l_alike, F_law, PySem.W.mg_of X G a_law, k_law, b_law, ⟨_, PySem.W.mg_of X G q_MOST_FIGURES⟩, ⟨_, PySem.W.mg_of X G q_FIGURES⟩, PySem.W.mg_none_of X G z_abs, PySem.W.mg_none_of X G z_str, PySem.W.mg_none_of X G z_all, PySem.W.mg_none_of X G z_len, PySem.W.mg_none_of X G z_int, PySem.W.mg_none_of X G z_isinstance, PySem.W.mg_none_of X G z_bool, PySem.W.mg_none_of X G z_ValueError, PySem.W.mg_none_of X G z_tuple, PySem.W.mg_none_of X G z_enumerate⟩
  exact ⟨PySem.W.fnOf "law" "law" (defArgs s_law) (defBody s_law) (defScope s_law) .none kV_law dc_law pm_law an_law cd_law ct_law, fun s v => .of_eq rfl, fun base _ _ => (ok_law T).law⟩
theorem walk {l : PySem.W.OpenLaw} {q : Program} {loose : List Str} {XP : (Str → Option Value) → Heap → Prop} {YP : World → Heap → Prop} {d : DefRec} {K : Params → PySem.W.Frag} (hn : l.most = some 63) (hdf : d.params.defaults = [])
    (hY : ∀ (w : World) (h : Heap), YP w h → (K w.params).In h)
    (F : ∀ (w : World) (mg : Str → Option Value) (fa : Addr) (h : Heap), (K w.params).In h → h.Ns mainGlobals mg → mg d.name = some (.ref fa) →
      ∃ fd : FuncData, (∀ (s : Shared) (u : Value), BindsTo s fd ⟨[u], []⟩ [("_law_script", u)]) ∧ ∀ base : Heap, (K w.params).In base → base.Ns mainGlobals mg → FnOk l.prog w (K w.params) mg base CX0 6 fa fd ["_law_script"] (spLaw (K w.params))) :
    PySem.W.WalkO q loose XP YP l.row.toRowW d [] (fun f vs => PySem.call f vs) :=
  L2.walk_of (n := 63) (k := 6) (x := "_law_script") (CX := fun _ => CX0) (sp := fun w => spLaw (K w.params)) hn (by decide) hdf ⟨rfl, by decide, by decide⟩ hY F (fun _ _ a ns hl _ hS => ⟨a, ns, rfl, hS, hl, fun _ => rfl⟩) fun _ _ _ _ _ z => z
end My
namespace PySem.W.Fast
def tw13621712631994554072:=0
def tw9141353525642469538:=0
def tw5932731928999556369:=0
def tw3654418613695003888:=0
def tw10003836628394308623:=0
def tw7500544449740391560:=0
def tw9301911801143064878:=0
def tw13917600829074318856:=0
def tw16949514631604538501:=0
def tw7422985025537180387:=0
def tw9394351156394937745:=0
def tw7304194082535037077:=0
def tw11237957455710894902:=0
def tw899226472244354507:=0
def tw17570458872639473113:=0
def tw1193438808795155817:=0
def tw8180626047438713966:=0
def tw11481843262124830321:=0
def tw12033427906973450352:=0
def tw17459665793002573386:=0
def tw833190392182023183:=0
def tw7604469827664841424:=0
def tw15999678419943503470:=0
def tw10129206934727496059:=0
def tw5324356351944967544:=0
def tw16741972506751644135:=0
def tw13214436136274153332:=0
def tw1646780109622824252:=0
def tw1523141579898180431:=0
def tw12251164797328940262:=0
def tw1985947321282976456:=0
def tw8216335863444488421:=0
def tw15227122293501255383:=0
def tw16773651163465920209:=0
def tw11369841807657376632:=0
def tw12489807968875605034:=0
def tw586215150757921628:=0
def tw17977349318213939345:=0
def tw13912054011119200247:=0
def tw13620450842549823852:=0
def tw7669295910599503915:=0
def tw8319074198588580850:=0
def tw11545075715252773007:=0
def tw16619953752886514876:=0
def tw16365178248911502481:=0
def tw6439775575299972634:=0
def tw10995041694045579495:=0
def tw5520687895242483825:=0
def tw7467924967909353082:=0
def tw9456143426313630461:=0
def tw15598591406117011889:=0
def tw7505156063880615283:=0
def tw10634501941555686642:=0
def tw7446432114474648066:=0
def tw9457193861894823091:=0
def tw1929538951030732282:=0
def tw12006145507522908285:=0
def tw12191669337543366054:=0
def tw8204454670411322506:=0
def tw3747101590065323755:=0
def tw5729467997815673164:=0
def tw17255041714723209105:=0
def tw16417990263084401944:=0
def tw225313623905594230:=0
def tw1563055108429382723:=0
def tw7769016258449016204:=0
def tw15846787588937280675:=0
def tw1693404212579603591:=0
def tw6874282948209959460:=0
def tw6390894156568904572:=0
def tw8716294242216371109:=0
def tw14173812597098645474:=0
def tw8670045857214256576:=0
def tw6575857027740820832:=0
def tw8019185717929770759:=0
def tw4195543916406683127:=0
def tw9426643393700410105:=0
def tw1629167212642773394:=0
def tw9498410958567968489:=0
def tw5300287250453564984:=0
def tw6724356252200748796:=0
def tw8219585333420187070:=0
def tw14019079796021720302:=0
def tw13840892051683118002:=0
def tw4575684953914789904:=0
def tw17789101972013925264:=0
def tw11105994246990939776:=0
def tw15654745260932520057:=0
def tw5275595674271211342:=0
def tw16540056595453666761:=0
def tw2692614316184710811:=0
def tw4923683469102609885:=0
def tw6941732986827137350:=0
def tw13168944263548197292:=0
def tw9148306846779856887:=0
def tw17016998668072615730:=0
def tw4619539319192089796:=0
def tw7996747200441519018:=0
def tw267387228061877920:=0
def tw17043866218581808521:=0
def tw3159064413168010365:=0
def tw16958872905166410391:=0
def tw9377508550604718463:=0
def tw6388619870527445033:=0
def tw11778198032541528381:=0
def tw9000826185942186543:=0
def tw15619423313548146720:=0
def tw3412721904700412183:=0
def tw9960157048855528138:=0
def tw3008174975437740210:=0
def tw14947247617146849947:=0
def tw11360174273154424154:=0
def tw8983079986862253876:=0
def tw10994334412319675703:=0
def tw9571852065591786329:=0
def tw2142346215131443733:=0
def tw11789859479914582447:=0
def tw1159217933746919959:=0
def tw7451003127547478878:=0
def tw3290713625858404019:=0
def tw16931910270917983041:=0
def tw12259394944959508982:=0
def tw2142240843780033863:=0
def tw8464373359787738679:=0
def tw7586995266017871111:=0
def tw9277959430058938096:=0
def tw4694573092951973050:=0
def tw9036870800191801638:=0
def tw5297342247461334681:=0
def tw11018654536251219455:=0
def tw7606985565234916733:=0
def tw16995058734764980807:=0
def tw17277716724123311256:=0
def tw8855987875015232606:=0
def tw9913948736774586536:=0
def tw1642865818135362432:=0
def tw2242242344707389809:=0
def tw7270747834506660155:=0
def tw2758985059507329938:=0
def tw7799108581330233612:=0
def tw3889864953562947206:=0
def tw591739274108643814:=0
def tw3281545941823923754:=0
def tw11805955589376888950:=0
def tw11763931132693161426:=0
def tw7076197028207564251:=0
def tw18350801336275633995:=0
def tw6777409792117179230:=0
def tw9704819960877426857:=0
def tw15381424765903607658:=0
def tw7220393996973246987:=0
def tw9057901795307546474:=0
def tw12848437290515179963:=0
def tw12599585432903047836:=0
def tw6009274070044592293:=0
def tw6159545483764970231:=0
def tw765377199276583809:=0
def tw16752306672240515241:=0
def tw13390513280851526541:=0
def tw16574978273344876788:=0
def tw542286879369527827:=0
def tw15246101176618847423:=0
def tw6781203319205080703:=0
def tw17406497061227870001:=0
def tw8808770261284568940:=0
def tw8130681453962323196:=0
def tw18390084375813881790:=0
def tw14696132905792576637:=0
def tw2553758957836500209:=0
def tw13515629757621698896:=0
def tw5395031896422896654:=0
def tw12225702685565178433:=0
def tw16792608050440311155:=0
def tw9440316652491795301:=0
def tw4033751996048844907:=0
def tw13286742176415089659:=0
def tw16550971907061662678:=0
def tw5103709217812788098:=0
def tw1115031061406466703:=0
def tw5924274951411848555:=0
def tw1911132898143395592:=0
def tw10917549303359388703:=0
def tw394683117047420721:=0
def tw12893850021358345698:=0
def tw7687347692423997343:=0
def tw15596202381829695198:=0
def tw15953497809891901879:=0
def tw17338926451779997940:=0
def tw3295656730685314873:=0
def tw17736588362324212856:=0
def tw9415040315773572995:=0
def tw4719721798961083777:=0
def tw1322583329570213705:=0
def tw16667789419765540232:=0
def tw9448739681345967638:=0
def tw10080363321575905820:=0
def tw5622394727120949184:=0
def tw10175501155150179855:=0
def tw15282584386339268399:=0
def tw16030764774931472050:=0
def tw7281255181269790037:=0
def tw107788731790379464:=0
def tw14510159828866316257:=0
def tw158284285390816084:=0
def tw10427823712471904183:=0
def tw7490792922105454647:=0
def tw13088294582147945034:=0
def tw15031760819366806051:=0
def tw5842220028707008873:=0
def tw5761122309569172860:=0
def tw18152186128497976899:=0
def tw15788177861968054392:=0
def tw16523939787107877156:=0
def tw11016876077012951459:=0
def tw5354715912959100197:=0
def tw18121723887393475182:=0
def tw13112562139706175229:=0
def tw16181250046350991320:=0
def tw17284174370229522892:=0
def tw4342341403839265996:=0
def tw13420387840159353821:=0
def tw3031653548368008339:=0
def tw14007963220371673317:=0
def tw1256766143616155673:=0
def tw4894682921493891384:=0
def tw17963191255355776834:=0
def tw1361328656444093932:=0
def tw11990024774256869558:=0
def tw5684022855106249649:=0
def tw9996196856949658466:=0
def tw16435497095297775329:=0
def tw9383698848577272995:=0
def tw6163911616218738464:=0
def tw13386999609670839171:=0
def tw545979586137481074:=0
def tw13844048324143236145:=0
def tw8679279018927780063:=0
def tw13786156119381848253:=0
def tw17508682269559306625:=0
def tw16415017930787188377:=0
def tw2695989462583917515:=0
def tw3531035322779197448:=0
def tw3815886145937046802:=0
def tw3322366305797675156:=0
def tw14606698601299497569:=0
def tw2271241995834835057:=0
def tw293014125965974803:=0
def tw8264680031834111232:=0
def tw3838154857732580140:=0
def tw12464355921526917559:=0
def tw9314639902161979001:=0
def tw5124575067120507433:=0
def tw5304569862714981386:=0
def tw16064880141784584038:=0
def tw10013571470392413539:=0
def tw150976007451845288:=0
def tw10481201917638026531:=0
def tw8042701328663514926:=0
def tw164886374171771703:=0
def tw924085221000897693:=0
def tw8936912575551930796:=0
def tw4552635658787532941:=0
def tw5959820174071240179:=0
def tw4404981119458163568:=0
def tw15439402876387447698:=0
def tw2806230297355668248:=0
def tw3905302936026767460:=0
def tw9689144739152502695:=0
def tw10455546870518852555:=0
def tw9597480830553655426:=0
def tw15990486402961334226:=0
def tw15433057538846452772:=0
def tw14072572255971929712:=0
def tw6293728217054460823:=0
def tw18127098025309147922:=0
def tw315456095359107641:=0
def tw5841443923459241056:=0
def tw11287744250379777326:=0
def tw11430639693978797668:=0
def tw16084065481195773910:=0
def tw11712756880642150319:=0
def tw4886700129340557436:=0
def tw13275099444000398807:=0
def tw8330623846965652779:=0
def tw9619385239110762871:=0
def tw8000805823927853063:=0
def tw1490058320909516543:=0
def tw11682022465532694568:=0
def tw765716842697185693:=0
def tw17728768194063277949:=0
def tw12470516081973853084:=0
def tw15310538210649168079:=0
def tw4908278365365931452:=0
def tw10067043127525419204:=0
def tw10820936047181366135:=0
def tw16672700492850730541:=0
def tw17048980393036666132:=0
def tw14646158731184462052:=0
def tw18135208106042038412:=0
def tw6084703431664842259:=0
def tw7622864091343220588:=0
def tw7118162960107790599:=0
def tw1356989968046926141:=0
end PySem.W.Fast
open PySem PySem.W PyProof.Rows
set_option maxRecDepth 100000 in
set_option maxHeartbeats 0 in
theorem PySem.Challenge.cw_kbestwood_k03_fractions_written_and_read_holds : PySem.Challenge.rw_kbestwood_k03_fractions_written_and_read.Holds := by
  w_on; o_law; k_head; (case hw => w_witness2)
  k_fill
  refine My.walk (l := PySem.Challenge.rw_kbestwood_k03_fractions_written_and_read) rfl rfl (fun w h Y => PySem.W.kIn_of Y) ?F
  case F =>
    intro w mg fa h KX G hmg
    refine' My.all_mk KX G hmg ?aC_WoodError ?ct_WoodError ?ck_WoodError ?cb_WoodError ?dd_WoodError ?dt_WoodError ?dr_WoodError ?aC_NoLine ?xc_NoLine ?ga_NoLine ?gn_NoLine ?ec_NoLine ?eo_NoLine ?eb_NoLine ?ei_NoLine ?ev_NoLine ?dd_NoLine ?dt_NoLine ?dr_NoLine ?aC_NoScale ?dd_NoScale ?dt_NoScale ?dr_NoScale ?aC_NoRule ?dd_NoRule ?dt_NoRule ?dr_NoRule ?aC_NoWeight ?dd_NoWeight ?dt_NoWeight ?dr_NoWeight ?aC_Twice ?dd_Twice ?dt_Twice ?dr_Twice ?aC_NoTitle ?dd_NoTitle ?dt_NoTitle ?dr_NoTitle ?aC_NoKind ?dd_NoKind ?dt_NoKind ?dr_NoKind ?aC_Ring ?dd_Ring ?dt_Ring ?dr_Ring ?aC_NoNet ?dd_NoNet ?dt_NoNet ?dr_NoNet ?aC_TooMany ?dd_TooMany ?dt_TooMany ?dr_TooMany ?aC_NoTree ?dd_NoTree ?dt_NoTree ?dr_NoTree ?es_NoLine_WoodError ?es_NoLine_NoLine ?es_NoLine_NoKind ?es_NoLine_NoNet ?es_NoLine_NoRule ?es_NoLine_NoScale ?es_NoLine_NoTitle ?es_NoLine_NoTree ?es_NoLine_NoWeight ?es_NoLine_Ring ?es_NoLine_TooMany ?es_NoLine_Twice ?a_common_divisor ?l_common_divisor ?c_common_divisor ?k_common_divisor ?a_fraction ?l_fraction ?c_fraction ?k_fraction ?a_fraction_text ?l_fraction_text ?c_fraction_text ?k_fraction_text ?a_is_figures ?l_is_figures ?c_is_figures ?k_is_figures ?a_is_bottom ?l_is_bottom ?c_is_bottom ?k_is_bottom ?a_is_top ?l_is_top ?c_is_top ?k_is_top ?a_read_fraction ?l_read_fraction ?c_read_fraction ?k_read_fraction ?a_l_mix ?l_l_mix ?c_l_mix ?k_l_mix ?a_l_lowest ?l_l_lowest ?c_l_lowest ?k_l_lowest ?a_l_whole ?l_l_whole ?c_l_whole ?k_l_whole ?a_l_some ?l_l_some ?c_l_some ?k_l_some ?a_l_sign ?l_l_sign ?c_l_sign ?k_l_sign ?a_l_spoilt ?l_l_spoilt ?c_l_spoilt ?k_l_spoilt ?a_l_number ?l_l_number ?c_l_number ?k_l_number ?a_l_read ?l_l_read ?c_l_read ?k_l_read ?a_l_refused ?l_l_refused ?c_l_refused ?k_l_refused ?a_l_alike ?l_l_alike ?c_l_alike ?k_l_alike ?a_law ?l_law ?c_law ?k_law ?q_MOST_FIGURES ?q_FIGURES ?z_abs ?z_str ?z_all ?z_len ?z_int ?z_isinstance ?z_bool ?z_ValueError ?z_tuple ?z_enumerate
    (case aC_WoodError => k_is)
    (case ct_WoodError => k_is)
    (case ck_WoodError => k_is)
    (case cb_WoodError => k_is)
    (case dd_WoodError => k_is)
    (case dt_WoodError => k_is)
    (case dr_WoodError => k_is)
    (case aC_NoLine => k_is)
    (case xc_NoLine => k_exc)
    (case ga_NoLine => k_is)
    (case gn_NoLine => k_is)
    (case ec_NoLine => k_is)
    (case eo_NoLine => k_is)
    (case eb_NoLine => k_is)
    (case ei_NoLine => k_is)
    (case ev_NoLine => k_is)
    (case dd_NoLine => k_is)
    (case dt_NoLine => k_is)
    (case dr_NoLine => k_is)
    (case aC_NoScale => k_is)
    (case dd_NoScale => k_is)
    (case dt_NoScale => k_is)
    (case dr_NoScale => k_is)
    (case aC_NoRule => k_is)
    (case dd_NoRule => k_is)
    (case dt_NoRule => k_is)
    (case dr_NoRule => k_is)
    (case aC_NoWeight => k_is)
    (case dd_NoWeight => k_is)
    (case dt_NoWeight => k_is)
    (case dr_NoWeight => k_is)
    (case aC_Twice => k_is)
    (case dd_Twice => k_is)
    (case dt_Twice => k_is)
    (case dr_Twice => k_is)
    (case aC_NoTitle => k_is)
    (case dd_NoTitle => k_is)
    (case dt_NoTitle => k_is)
    (case dr_NoTitle => k_is)
    (case aC_NoKind => k_is)
    (case dd_NoKind => k_is)
    (case dt_NoKind => k_is)
    (case dr_NoKind => k_is)
    (case aC_Ring => k_is)
    (case dd_Ring => k_is)
    (case dt_Ring => k_is)
    (case dr_Ring => k_is)
    (case aC_NoNet => k_is)
    (case dd_NoNet => k_is)
    (case dt_NoNet => k_is)
    (case dr_NoNet => k_is)
    (case aC_TooMany => k_is)
    (case dd_TooMany => k_is)
    (case dt_TooMany => k_is)
    (case dr_TooMany => k_is)
    (case aC_NoTree => k_is)
    (case dd_NoTree => k_is)
    (case dt_NoTree => k_is)
    (case dr_NoTree => k_is)
    (case es_NoLine_WoodError => k_is)
    (case es_NoLine_NoLine => k_is)
    (case es_NoLine_NoKind => k_is)
    (case es_NoLine_NoNet => k_is)
    (case es_NoLine_NoRule => k_is)
    (case es_NoLine_NoScale => k_is)
    (case es_NoLine_NoTitle => k_is)
    (case es_NoLine_NoTree => k_is)
    (case es_NoLine_NoWeight => k_is)
    (case es_NoLine_Ring => k_is)
    (case es_NoLine_TooMany => k_is)
    (case es_NoLine_Twice => k_is)
    (case a_common_divisor => k_is)
    (case l_common_divisor => k_is)
    (case c_common_divisor => k_is)
    (case k_common_divisor => k_is)
    (case a_fraction => k_is)
    (case l_fraction => k_is)
    (case c_fraction => k_is)
    (case k_fraction => k_is)
    (case a_fraction_text => k_is)
    (case l_fraction_text => k_is)
    (case c_fraction_text => k_is)
    (case k_fraction_text => k_is)
    (case a_is_figures => k_is)
    (case l_is_figures => k_is)
    (case c_is_figures => k_is)
    (case k_is_figures => k_is)
    (case a_is_bottom => k_is)
    (case l_is_bottom => k_is)
    (case c_is_bottom => k_is)
    (case k_is_bottom => k_is)
    (case a_is_top => k_is)
    (case l_is_top => k_is)
    (case c_is_top => k_is)
    (case k_is_top => k_is)
    (case a_read_fraction => k_is)
    (case l_read_fraction => k_is)
    (case c_read_fraction => k_is)
    (case k_read_fraction => k_is)
    (case a_l_mix => k_is)
    (case l_l_mix => k_is)
    (case c_l_mix => k_is)
    (case k_l_mix => k_is)
    (case a_l_lowest => k_is)
    (case l_l_lowest => k_is)
    (case c_l_lowest => k_is)
    (case k_l_lowest => k_is)
    (case a_l_whole => k_is)
    (case l_l_whole => k_is)
    (case c_l_whole => k_is)
    (case k_l_whole => k_is)
    (case a_l_some => k_is)
    (case l_l_some => k_is)
    (case c_l_some => k_is)
    (case k_l_some => k_is)
    (case a_l_sign => k_is)
    (case l_l_sign => k_is)
    (case c_l_sign => k_is)
    (case k_l_sign => k_is)
    (case a_l_spoilt => k_is)
    (case l_l_spoilt => k_is)
    (case c_l_spoilt => k_is)
    (case k_l_spoilt => k_is)
    (case a_l_number => k_is)
    (case l_l_number => k_is)
    (case c_l_number => k_is)
    (case k_l_number => k_is)
    (case a_l_read => k_is)
    (case l_l_read => k_is)
    (case c_l_read => k_is)
    (case k_l_read => k_is)
    (case a_l_refused => k_is)
    (case l_l_refused => k_is)
    (case c_l_refused => k_is)
    (case k_l_refused => k_is)
    (case a_l_alike => k_is)
    (case l_l_alike => k_is)
    (case c_l_alike => k_is)
    (case k_l_alike => k_is)
    (case a_law => k_is)
    (case l_law => k_is)
    (case c_law => k_is)
    (case k_law => k_is)
    (case q_MOST_FIGURES => k_is)
    (case q_FIGURES => k_is)
    (case z_abs => k_is)
    (case z_str => k_is)
    (case z_all => k_is)
    (case z_len => k_is)
    (case z_int => k_is)
    (case z_isinstance => k_is)
    (case z_bool => k_is)
    (case z_ValueError => k_is)
    (case z_tuple => k_is)
    (case z_enumerate => k_is)
