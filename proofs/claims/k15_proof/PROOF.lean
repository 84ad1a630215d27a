import PyProof.Rows.All
import Wide.All
import OpenK.AllK
import Wide.FinOn
import Lean
import PyProof.EqAt
import PyProof.EqKinds
import PyProof.TupleCall
import PySem.Challenge.RW_pilewheel_k15_rings_counted
set_option Elab.async false
-- CHANGE: your row's module here, as the last of these rows
set_option Elab.async false
set_option linter.all false
set_option maxRecDepth 100000
/-! THE HAND LAYER, for ints, bools, texts, own classes, LISTS and tuples (index, slices, in, append, pop ..), calls, loops. Paste it whole ahead of your own text; what your proof does not reach may be deleted. -/
namespace L2
open PySem PySem.Spec PyProof.Rows

/-- a key: an int or a str -/
abbrev Key := Sum Int Str
def keyIs : Key → Value → Bool
  | .inl k, v => Value.isInt k v
  | .inr x, v => Value.isStrOf x v
def keyH (w : World) : Key → Int
  | .inl k => hashInt k
  | .inr x => hashStr w x
theorem keyIs_shape : ∀ {k : Key} {v : Value}, keyIs k v = true → (∃ i t, k = Sum.inl i ∧ v = Value.int i t) ∨ (∃ x t, k = Sum.inr x ∧ v = Value.str x t)
  | .inl i, v, h => by
    obtain ⟨t, e⟩ := Value.isInt_shape (k := i) (v := v) h
    exact .inl ⟨i, t, rfl, e⟩
  | .inr x, v, h => by
    obtain ⟨t, e⟩ := Value.isStrOf_shape (x := x) (v := v) h
    exact .inr ⟨x, t, rfl, e⟩
theorem key_ll (a b : Int) : decide ((Sum.inl a : Key) = Sum.inl b) = (a == b) := by
  by_cases e : a = b
  · subst e; simp
  · have h : ¬ (Sum.inl a : Key) = Sum.inl b := fun q => e (Sum.inl.inj q)
    rw [decide_eq_false h]
    exact (beq_eq_false_iff_ne.mpr e).symm
theorem key_rr (a b : Str) : decide ((Sum.inr a : Key) = Sum.inr b) = decide (a = b) := by
  by_cases e : a = b
  · subst e; simp
  · have h : ¬ (Sum.inr a : Key) = Sum.inr b := fun q => e (Sum.inr.inj q)
    rw [decide_eq_false h, decide_eq_false e]
theorem key_lr (a : Int) (b : Str) : decide ((Sum.inl a : Key) = Sum.inr b) = false := decide_eq_false (fun q => nomatch q)
theorem key_rl (a : Str) (b : Int) : decide ((Sum.inr a : Key) = Sum.inl b) = false := decide_eq_false (fun q => nomatch q)

def mixKind (prog : Program) (w : World) : PySem.KeyKind prog w Key where
  is := keyIs
  hash := keyH w
  inj := fun v a b ha hb => by
    rcases keyIs_shape ha with ⟨i, t, rfl, rfl⟩ | ⟨x, t, rfl, rfl⟩
    · rcases keyIs_shape hb with ⟨j, u, rfl, e⟩ | ⟨y, u, rfl, e⟩
      · injection e with e1 _; rw [e1]
      · exact nomatch e
    · rcases keyIs_shape hb with ⟨j, u, rfl, e⟩ | ⟨y, u, rfl, e⟩
      · exact nomatch e
      · injection e with e1 _; rw [e1]
  byValue := fun k v h => by
    rcases keyIs_shape h with ⟨i, t, rfl, rfl⟩ | ⟨x, t, rfl, rfl⟩ <;> rfl
  pyHash := fun hv h => by
    rcases keyIs_shape hv with ⟨i, t, rfl, rfl⟩ | ⟨x, t, rfl, rfl⟩
    · exact wpAny_pyHash_int h
    · exact wpAny_pyHash_str h
  eqBool := fun hu hv h => by
    rcases keyIs_shape hu with ⟨i, t, rfl, rfl⟩ | ⟨x, t, rfl, rfl⟩
    · rcases keyIs_shape hv with ⟨j, u, rfl, rfl⟩ | ⟨y, u, rfl, rfl⟩
      · rw [key_ll] at h; exact wpAny_eqBool_int h
      · rw [key_lr] at h; exact SeqAt.EqAt.int_str i t y u _ _ _ _ h
    · rcases keyIs_shape hv with ⟨j, u, rfl, rfl⟩ | ⟨y, u, rfl, rfl⟩
      · rw [key_rl] at h; exact SeqAt.EqAt.str_int x t j u _ _ _ _ h
      · rw [key_rr] at h; exact wpAny_eqBool_str h
  «strs» := fun k x t v h => by
    rcases keyIs_shape h with ⟨i, u, rfl, e⟩ | ⟨y, u, rfl, e⟩
    · exact nomatch e
    · injection e with e1 _
      subst e1
      cases v <;> rfl

end L2

namespace L2
open PySem PySem.Spec PyProof.Rows

/-- a value, without the heap -/
inductive V where
  | non | bl (b : Bool) | int (i : Int) | str (x : Str) | byt (b : Array UInt8) | flt (b : UInt64) | ref (a : Addr) | ty (n : String)
  deriving DecidableEq

def RelV : V → Value → Prop
  | .non, u => u = Value.none
  | .bl b, u => u = Value.bool b
  | .int i, u => ∃ t, u = Value.int i t
  | .str x, u => ∃ t, u = Value.str x t
  | .byt b, u => ∃ t, u = Value.bytes b t
  | .flt b, u => ∃ t, u = Value.float b t
  | .ref a, u => u = Value.ref a
  | .ty n, u => u = Value.type n

abbrev Vals : List V → List Value → Prop := Paired RelV
theorem Vals.length {xs : List V} {us : List Value} (r : Vals xs us) : xs.length = us.length := Paired.length r
theorem Vals.get : ∀ {xs : List V} {us : List Value} {i : Nat} {x : V}, Vals xs us → xs[i]? = some x → ∃ u, us[i]? = some u ∧ RelV x u
  | _, _, _, _, .nil, e => by simp at e
  | _, _, 0, _, .cons r _, e => by simp at e; subst e; exact ⟨_, rfl, r⟩
  | _, _, i + 1, x, .cons _ t, e => by
    obtain ⟨u, h1, h2⟩ := Vals.get (i := i) (x := x) t (by simpa using e)
    exact ⟨u, by simpa using h1, h2⟩
theorem Vals.set {x : V} {u : Value} (r : RelV x u) : ∀ {xs : List V} {us : List Value} (i : Nat), Vals xs us → Vals (xs.set i x) (us.set i u)
  | _, _, _, .nil => .nil
  | _, _, 0, .cons _ t => .cons r t
  | _, _, i + 1, .cons q t => .cons q (Vals.set r i t)
theorem Vals.append : ∀ {xs ys : List V} {us ws : List Value}, Vals xs us → Vals ys ws → Vals (xs ++ ys) (us ++ ws)
  | _, _, _, _, .nil, s => s
  | _, _, _, _, .cons r t, s => .cons r (Vals.append t s)
theorem Vals.take : ∀ {xs : List V} {us : List Value} (n : Nat), Vals xs us → Vals (xs.take n) (us.take n)
  | _, _, 0, _ => .nil
  | _, _, _ + 1, .nil => .nil
  | _, _, n + 1, .cons r t => .cons r (Vals.take n t)
theorem Vals.drop : ∀ {xs : List V} {us : List Value} (n : Nat), Vals xs us → Vals (xs.drop n) (us.drop n)
  | _, _, 0, r => r
  | _, _, _ + 1, .nil => .nil
  | _, _, n + 1, .cons _ t => Vals.drop n t
def RelO : Option V → Option Value → Prop
  | some v, some u => RelV v u
  | none, none => True
  | _, _ => False
def KV {κ : Type} : List (κ × V) → List (κ × Value) → Prop := Paired fun (p : κ × V) (q : κ × Value) => p.1 = q.1 ∧ RelV p.2 q.2

/-- a key of a dict (00_mix): an int or a text -/
def kV : Key → V
  | .inl i => .int i
  | .inr x => .str x

/-- what stands at a tracked address -/
inductive HO where
  /-- a list -/
  | lst (xs : List V)
  /-- a tuple (never changes) -/
  | tup (xs : List V)
  /-- a dict whose keys are ints and texts; one whose keys are tuples of ints and texts (the empty one is both) -/
  | dK (kvs : List (Key × V)) | dT (kvs : List (List Key × V))
  /-- a set of ints: its members, its size -/
  | set (S : Int → Bool) (n : Nat)
  /-- an instance of the class at C, its dict at dx, its attributes -/
  | ins (C dx : Addr) (fs : List (Str × V))
  /-- the dict of the instance at x -/
  | own (x : Addr)
  /-- the dict of an exception -/
  | xd (fs : List (Str × V))
  /-- a bound method, f of x -/
  | met (f x : Addr)
  /-- a range object lo, lo + 1, .. below hi -/
  | rng (lo hi : Int)
  /-- a thing that is known to the object (the script; a dict while a loop walks it): read, never written while it is so -/
  | frz (o : Obj) (u : HO)
  /-- a code object's table -/
  | tbl (ps : Array Value)
  /-- any other thing, by what is true of its one object (a def of one's own: SetO a S n := HO.ext fun h => ..) -/
  | ext (φ : Heap → Prop)

abbrev Hp := Addr → Option HO
def upd (H : Hp) (a : Addr) (o : HO) : Hp := fun b => if b = a then some o else H b
theorem upd_same {H : Hp} {a : Addr} {o : HO} : upd H a o a = some o := by unfold upd; rw [if_pos rfl]
theorem upd_ne {H : Hp} {a b : Addr} {o : HO} (h : b ≠ a) : upd H a o b = H b := by unfold upd; rw [if_neg h]
theorem upd_upd {H : Hp} {a : Addr} {o u : HO} : upd (upd H a o) a u = upd H a u := by
  funext b; unfold upd; split <;> rfl
theorem ne_of_none {H : Hp} {a b : Addr} {o : HO} (h : H a = some o) (h' : H b = none) : a ≠ b := by
  intro e; subst e; rw [h] at h'; cases h'

section
variable (P : Program) (w : World)
def ObjOk (H : Hp) (h : Heap) (a : Addr) : HO → Prop
  | .lst xs => xs.length ≤ sizeLine ∧ ∃ (its : List Value) (n : Nat), Vals xs its ∧ h.get? a = some { cls := .type "list", data := .seq its.toArray n }
  | .tup xs => xs.length ≤ sizeLine ∧ ∃ its : List Value, Vals xs its ∧ IsTup h a its.toArray
  | .dK kvs => kvs.length ≤ sizeLine ∧ (a == sysModules) = false ∧ ∃ vs, KV kvs vs ∧ h.DictOf (mixKind P w) a vs
  | .dT kvs => kvs.length ≤ sizeLine ∧ (a == sysModules) = false ∧ ∃ xs : List (List Key × Addr × Value),
      Paired (fun (p : List Key × V) (q : List Key × Addr × Value) => p.1 = q.1 ∧ H q.2.1 = some (.tup (p.1.map kV)) ∧ RelV p.2 q.2.2) kvs xs ∧
      ∃ o es ep, h.get? a = some o ∧ o.ExactDict ∧ o.data = .dict es ep ∧ es.toList = xs.map (entryOfKey (tupleKind (mixKind P w))) ∧ (xs.map (·.1)).Nodup
  | .set S n => h.SetOf (intKind P w) a S n
  | .ins C dx fs => H dx = some (.own a) ∧ fs.length ≤ 1000 ∧ dx ≠ a ∧ h.get? a = some (PySem.W.instObj C dx) ∧
      ∃ mA, h.Ns1 dx mA ∧ (∀ f, RelO (fs.lookup f) (mA f)) ∧ PySem.Within mA (fs.map (·.1))
  | .own _ => ∃ o, h.get? a = some o
  | .xd fs => ∃ mA, h.Ns1 a mA ∧ ∀ f, RelO (fs.lookup f) (mA f)
  | .rng lo hi => ∃ t u v, h.get? a = some { cls := .type "range", data := .fields #[.int lo t, .int hi u, .int 1 v] }
  | .frz o u => h.get? a = some o ∧ ObjOk H h a u
  | .tbl ps => h.get? a = some { cls := .none, data := .fields ps }
  | .met f x => h.get? a = some (PySem.W.methodObj (.ref f) (.ref x))
  | .ext φ => φ h ∧ (∃ o, h.get? a = some o) ∧ ∀ h1 h2 : Heap, φ h1 → (∀ o, h1.get? a = some o → h2.get? a = some o) → φ h2
/-- the abstract heap is held -/
def HOk (H : Hp) (h : Heap) : Prop := ∀ a o, H a = some o → ObjOk P w H h a o
end

section
variable {P : Program} {w : World} {H H' : Hp} {h h' : Heap} {a : Addr} {o : HO}
theorem ObjOk.lt (x : ObjOk P w H h a o) : a < h.objs.size := by
  cases o with
  | lst xs => obtain ⟨_, _, _, _, e⟩ := x; exact Heap.lt_size e
  | tup xs => obtain ⟨_, _, _, p⟩ := x; exact p.lt
  | dK kvs => obtain ⟨_, _, _, _, o, _, _, e, _⟩ := x; exact Heap.lt_size e
  | dT kvs => obtain ⟨_, _, _, _, o, _, _, e, _⟩ := x; exact Heap.lt_size e
  | set S n => obtain ⟨o, _, _, _, e, _⟩ := x; exact Heap.lt_size e
  | ins C dx fs => obtain ⟨_, _, _, e, _⟩ := x; exact Heap.lt_size e
  | own y => obtain ⟨_, e⟩ := x; exact Heap.lt_size e
  | xd fs => obtain ⟨_, ⟨_, _, _, e, _⟩, _⟩ := x; exact Heap.lt_size e
  | rng lo hi => obtain ⟨_, _, _, e⟩ := x; exact Heap.lt_size e
  | frz ob u => obtain ⟨e, _⟩ := x; exact Heap.lt_size e
  | tbl ps => exact Heap.lt_size (show h.get? a = some _ from x)
  | met f y => exact Heap.lt_size (show h.get? a = some _ from x)
  | ext φ => obtain ⟨_, ⟨_, e⟩, _⟩ := x; exact Heap.lt_size e
theorem Paired.mapP {α β : Type} {F G : α → β → Prop} : ∀ {l₁ : List α} {l₂ : List β}, Paired F l₁ l₂ → (∀ a b, F a b → G a b) → Paired G l₁ l₂
  | _, _, .nil, _ => .nil
  | _, _, .cons r t, f => .cons (f _ _ r) (Paired.mapP t f)
/-- what an object's description leans on: its own object, its own dict, the tuples -/
theorem ObjOk.stay (x : ObjOk P w H h a o) (k : ∀ b u, (b = a ∨ H b = some (.own a)) → h.get? b = some u → h'.get? b = some u)
    (ho : ∀ b, H b = some (.own a) → H' b = some (.own a)) (ht : ∀ b xs, H b = some (.tup xs) → H' b = some (.tup xs)) : ObjOk P w H' h' a o := by
  induction o with
  | lst xs => obtain ⟨z, its, n, r, e⟩ := x; exact ⟨z, its, n, r, k _ _ (.inl rfl) e⟩
  | tup xs => obtain ⟨z, its, r, ob, e, c⟩ := x; exact ⟨z, its, r, ob, k _ _ (.inl rfl) e, c⟩
  | dK kvs => obtain ⟨z, y, vs, r, ob, es, ep, e, c⟩ := x; exact ⟨z, y, vs, r, ob, es, ep, k _ _ (.inl rfl) e, c⟩
  | dT kvs =>
    obtain ⟨z, y, xs, r, ob, es, ep, e, c⟩ := x
    exact ⟨z, y, xs, Paired.mapP r fun p q z => ⟨z.1, ht _ _ z.2.1, z.2.2⟩, ob, es, ep, k _ _ (.inl rfl) e, c⟩
  | set S n => obtain ⟨ob, es, ep, t, e, c⟩ := x; exact ⟨ob, es, ep, t, k _ _ (.inl rfl) e, c⟩
  | ins C dx fs =>
    obtain ⟨d, z, ne, e, mA, ⟨od, es, ep, e2, c⟩, r⟩ := x
    exact ⟨ho _ d, z, ne, k _ _ (.inl rfl) e, mA, ⟨od, es, ep, k _ _ (.inr d) e2, c⟩, r⟩
  | own y => obtain ⟨ob, e⟩ := x; exact ⟨ob, k _ _ (.inl rfl) e⟩
  | xd fs => obtain ⟨mA, ⟨od, es, ep, e, c⟩, r⟩ := x; exact ⟨mA, ⟨od, es, ep, k _ _ (.inl rfl) e, c⟩, r⟩
  | rng lo hi => obtain ⟨t, u, v, e⟩ := x; exact ⟨t, u, v, k _ _ (.inl rfl) e⟩
  | frz ob u ih => obtain ⟨e, q⟩ := x; exact ⟨k _ _ (.inl rfl) e, ih q⟩
  | tbl ps =>
    have e : h.get? a = some { cls := .none, data := .fields ps } := x
    show h'.get? a = some { cls := .none, data := .fields ps }
    exact k a _ (.inl rfl) e
  | met f y =>
    have e : h.get? a = some (PySem.W.methodObj (.ref f) (.ref y)) := x
    show h'.get? a = some (PySem.W.methodObj (.ref f) (.ref y))
    exact k a _ (.inl rfl) e
  | ext φ => obtain ⟨p, ⟨o, e⟩, st⟩ := x; exact ⟨st _ _ p fun o q => k _ _ (.inl rfl) q, ⟨o, k _ _ (.inl rfl) e⟩, st⟩
theorem HOk.lt (x : HOk P w H h) (e : H a = some o) : a < h.objs.size := (x a o e).lt
theorem HOk.fresh (x : HOk P w H h) (e : h.objs.size ≤ a) : H a = none := by
  cases q : H a with
  | none => rfl
  | some u => exact absurd (Nat.lt_of_lt_of_le (x.lt q) e) (Nat.lt_irrefl _)
/-- every object of the heap is kept -/
theorem HOk.kept (x : HOk P w H h) (k : ∀ b u, h.get? b = some u → h'.get? b = some u) : HOk P w H h' := fun a o e =>
  (x a o e).stay (fun b u _ q => k b u q) (fun _ q => q) fun _ _ q => q
/-- a new object is laid and tracked -/
theorem HOk.laid (x : HOk P w H h) (k : ∀ b u, h.get? b = some u → h'.get? b = some u) (hp : h.objs.size ≤ a) (new : ObjOk P w (upd H a o) h' a o) : HOk P w (upd H a o) h' := fun b u e => by
  have hn := x.fresh hp
  by_cases hb : b = a
  · subst hb; rw [upd_same] at e; cases e; exact new
  · rw [upd_ne hb] at e
    exact (x b u e).stay (fun c v _ q => k c v q) (fun c q => by rw [upd_ne (ne_of_none q hn)]; exact q) fun c xs q => by rw [upd_ne (ne_of_none q hn)]; exact q
end

/-- what may be read as u: it is u, or a known u -/
def Rd (H : Hp) (a : Addr) (u : HO) : Prop := H a = some u ∨ ∃ o, H a = some (.frz o u)
theorem Rd.of {H : Hp} {a : Addr} {u : HO} (h : H a = some u) : Rd H a u := .inl h
theorem Rd.ok {P : Program} {w : World} {H : Hp} {h : Heap} {a : Addr} {u : HO} (r : Rd H a u) (x : HOk P w H h) : ObjOk P w H h a u := by
  rcases r with r | ⟨o, r⟩
  · exact x a u r
  · obtain ⟨_, q⟩ := x a _ r
    exact q
/-- what may be written -/
def Mut : Option HO → Prop
  | some (.lst _) => True
  | some (.dK _) => True
  | some (.dT _) => True
  | some (.set _ _) => True
  | some (.ins _ _ _) => True
  | some (.ext _) => True
  | _ => False
section
variable {P : Program} {w : World} {H : Hp} {h h' : Heap} {x e : Addr} {o' : HO}
/-- the object at e is changed: x itself, or the dict of the instance x -/
theorem HOk.write (ok : HOk P w H h) (mu : Mut (H x)) (he : e = x ∨ H e = some (.own x)) (k : ∀ b u, b ≠ e → h.get? b = some u → h'.get? b = some u) (heo : ∃ u, h'.get? e = some u)
    (new : ObjOk P w (upd H x o') h' x o') : HOk P w (upd H x o') h' := fun b u q => by
  have nown : ∀ c y, H c = some (.own y) → c ≠ x := fun c y r z => by subst z; rw [r] at mu; exact mu
  have ntup : ∀ c xs, H c = some (.tup xs) → c ≠ x := fun c xs r z => by subst z; rw [r] at mu; exact mu
  by_cases hb : b = x
  · subst hb; rw [upd_same] at q; cases q; exact new
  · rw [upd_ne hb] at q
    by_cases hbe : b = e
    · have q' : H b = some (.own x) := by
        rcases he with z | z
        · exact absurd (hbe.trans z) hb
        · rw [hbe]; exact z
      rw [q] at q'; cases q'
      obtain ⟨v, hv⟩ := heo
      exact ⟨v, by rw [hbe]; exact hv⟩
    · refine (ok b u q).stay (fun c v hc r => k c v ?_ r) (fun c r => by rw [upd_ne (nown c b r)]; exact r) fun c xs r => by rw [upd_ne (ntup c xs r)]; exact r
      rcases hc with rfl | hc
      · exact hbe
      · rintro rfl
        rcases he with z | z
        · exact nown c b hc z
        · rw [hc] at z; cases z; exact hb rfl
end

/-! ### kept unless tracked; of the frames at fs (the callers') the slots may change (an exception that passes writes there); of the records at ex (iterators) nothing is said -/
structure Un (fs ex : List Addr) (H H' : Hp) (h h' : Heap) : Prop where
  keep : ∀ b o, h.get? b = some o → H b = none → b ∉ fs → b ∉ ex → h'.get? b = some o
  slot : ∀ b o, h.get? b = some o → H b = none → b ∈ fs → b ∉ ex → ∃ sl, h'.get? b = some { o with slots := sl }
  free : ∀ b o, h.get? b = some o → H b = none → b ∉ ex → H' b = none
  there : ∀ b o, h.get? b = some o → b ∉ ex → ∃ o', h'.get? b = some o'
  tups : ∀ b xs, H b = some (.tup xs) → H' b = some (.tup xs)
  frzs : ∀ b o u, H b = some (.frz o u) → H' b = some (.frz o u)
  tbls : ∀ b ps, H b = some (.tbl ps) → ∃ more, H' b = some (.tbl (ps ++ more))
section
variable {fs fs' ex ex' : List Addr} {H H1 H2 : Hp} {h h1 h2 h' : Heap} {a x e : Addr} {o : HO}
theorem Un.any (u : Un fs ex H H1 h h1) {b : Addr} {ob : Obj} (q : h.get? b = some ob) (n : H b = none) (hx : b ∉ ex) : ∃ sl, h1.get? b = some { ob with slots := sl } := by
  by_cases hb : b ∈ fs
  · exact u.slot b ob q n hb hx
  · exact ⟨ob.slots, u.keep b ob q n hb hx⟩
theorem Un.trans (a : Un fs ex H H1 h h1) (b : Un fs ex H1 H2 h1 h2) : Un fs ex H H2 h h2 where
  keep := fun c ob q n hc hx => b.keep c ob (a.keep c ob q n hc hx) (a.free c ob q n hx) hc hx
  slot := fun c ob q n hc hx => by
    obtain ⟨sl, e1⟩ := a.slot c ob q n hc hx
    obtain ⟨sl', e2⟩ := b.slot c _ e1 (a.free c ob q n hx) hc hx
    exact ⟨sl', e2⟩
  free := fun c ob q n hx => by
    obtain ⟨o', e1⟩ := a.there c ob q hx
    exact b.free c o' e1 (a.free c ob q n hx) hx
  there := fun c ob q hx => by
    obtain ⟨o', e1⟩ := a.there c ob q hx
    exact b.there c o' e1 hx
  tups := fun c xs q => b.tups c xs (a.tups c xs q)
  frzs := fun c ob xs q => b.frzs c ob xs (a.frzs c ob xs q)
  tbls := fun c ps q => by
    obtain ⟨m1, e1⟩ := a.tbls c ps q
    obtain ⟨m2, e2⟩ := b.tbls c _ e1
    exact ⟨m1 ++ m2, by rw [e2, Array.append_assoc]⟩
theorem Un.kept (k : ∀ b u, h.get? b = some u → h'.get? b = some u) : Un fs ex H H h h' :=
  ⟨fun b ob q _ _ _ => k b ob q, fun b ob q _ _ _ => ⟨ob.slots, k b ob q⟩, fun _ _ _ n _ => n, fun b ob q _ => ⟨ob, k b ob q⟩, fun _ _ q => q, fun _ _ _ q => q, fun _ ps q => ⟨#[], by rw [q]; simp⟩⟩
theorem Un.refl : Un fs ex H H h h := Un.kept fun _ _ q => q
theorem Un.laid (k : ∀ b u, h.get? b = some u → h'.get? b = some u) (hp : h.objs.size ≤ a) (hn : H a = none) : Un fs ex H (upd H a o) h h' where
  keep := fun b u q _ _ _ => k b u q
  slot := fun b u q _ _ _ => ⟨u.slots, k b u q⟩
  free := fun b u q n _ => by rw [upd_ne (Nat.ne_of_lt (Nat.lt_of_lt_of_le (Heap.lt_size q) hp))]; exact n
  there := fun b u q _ => ⟨u, k b u q⟩
  tups := fun b xs q => by rw [upd_ne (ne_of_none q hn)]; exact q
  frzs := fun b u xs q => by rw [upd_ne (ne_of_none q hn)]; exact q
  tbls := fun b ps q => ⟨#[], by rw [upd_ne (ne_of_none q hn), q]; simp⟩
theorem Un.write (mu : Mut (H x)) (he : e = x ∨ H e = some (.own x)) (k : ∀ b u, b ≠ e → h.get? b = some u → h'.get? b = some u) (heo : ∃ u, h'.get? e = some u) : Un fs ex H (upd H x o) h h' := by
  have hx : ∀ b, H b = none → b ≠ x := fun b n z => by subst z; rw [n] at mu; exact mu
  have hb : ∀ b, H b = none → b ≠ e := fun b n z => by
    subst z
    rcases he with r | r
    · exact hx b n r
    · rw [n] at r; cases r
  have hm : ∀ b u, H b = some u → ¬ Mut (some u) → b ≠ x := fun b u q nm z => by subst z; rw [q] at mu; exact nm mu
  refine ⟨fun b u q n _ _ => k b u (hb b n) q, fun b u q n _ _ => ⟨u.slots, k b u (hb b n) q⟩, fun b u q n _ => by rw [upd_ne (hx b n)]; exact n, fun b u q _ => ?_,
    fun b xs q => by rw [upd_ne (hm b _ q fun z => z)]; exact q, fun b u xs q => by rw [upd_ne (hm b _ q fun z => z)]; exact q, fun b ps q => ⟨#[], by rw [upd_ne (hm b _ q fun z => z), q]; simp⟩⟩
  by_cases hbe : b = e
  · subst hbe; exact heo
  · exact ⟨u, k b u hbe q⟩
theorem Un.mono (u : Un fs ex H H1 h h1) (hs : ∀ b ∈ fs, b ∈ fs') (hx : ∀ b ∈ ex, b ∈ ex') : Un fs' ex' H H1 h h1 :=
  ⟨fun b ob q n hb he => u.keep b ob q n (fun z => hb (hs b z)) fun z => he (hx b z), fun _ _ q n _ he => u.any q n fun z => he (hx _ z), fun b ob q n he => u.free b ob q n fun z => he (hx b z), fun b ob q he => u.there b ob q fun z => he (hx b z), u.tups, u.frzs, u.tbls⟩
end

/-! ### the heap without what is tracked -/
def trk (h : Heap) (H : Hp) : List Addr := (List.range h.objs.size).filter fun a => (H a).isSome
def hidT (h : Heap) (H : Hp) : Heap := PySem.W.hideAll h (trk h H)
theorem hidT_size (h : Heap) (H : Hp) : (hidT h H).objs.size = h.objs.size := PySem.W.hideAll_size _ _
theorem hidT_get {h : Heap} {H : Hp} {b : Addr} {o : Obj} (e : h.get? b = some o) (n : H b = none) : (hidT h H).get? b = some o :=
  PySem.W.hideAll_get _ e fun hm => by
    have q : (H b).isSome = true := (List.mem_filter.mp hm).2
    rw [n] at q; simp at q
theorem of_hidT {h : Heap} {H : Hp} {b : Addr} {o : Obj} (e : (hidT h H).get? b = some o) : h.get? b = some o ∧ H b = none := by
  have e' : h.get? b = some o := PySem.W.of_hideAll (trk h H) e
  refine ⟨e', ?_⟩
  cases q : H b with
  | none => rfl
  | some x =>
    have hm : b ∈ trk h H := List.mem_filter.mpr ⟨List.mem_range.mpr (Heap.lt_size e'), by simp [q]⟩
    have z : (hidT h H).get? b = none := PySem.W.hideAll_none (trk h H) hm
    rw [z] at e; cases e

/-! ### OpenK's ledger, filled with every new object but one -/
def allNews (g h : Heap) (L : Addr) : List (Addr × Obj) := (List.range h.objs.size).filterMap fun a => if a = L ∨ (g.get? a).isSome = true then none else (h.get? a).map fun o => (a, o)
def rest (g h : Heap) (L d : Addr) : List (Addr × Obj) := (allNews g h L).filter fun p => decide (p.1 ≠ d)
end L2

namespace L2
open PySem PySem.Spec PyProof.Rows

/-- the module's facts, over the base: the heap at the law's entry without what is tracked there -/
structure Mod (K : PySem.W.Frag) (mg : Str → Option Value) (base : Heap) : Prop where
  kin : K.In base
  glob : base.Ns mainGlobals mg
  blt : ∃ mb, base.Ns builtinsNs mb ∧ ∀ x : Str, x ≠ "__name__" → mb x = bootBuiltins x
  nolimit : base.NoLimit

/-- the context: a def's body (or a comprehension's block) running. base: fixed through the whole law; s₀, H₀: the entry; outer: the frames whose slots others may change (a def's callers); stack: all frames that run;
   ex: iterators that were made ahead of the entry and are walked here (a comprehension's); fn: the names whose cells were made at the entry (a def: all; a comprehension's block: its own); calm: not within an except suite; pn: pins that every state bears; xe: what is wanted of an exception that leaves the code -/
structure Cx where
  prog : Program
  w : World
  K : PySem.W.Frag
  mg : Str → Option Value
  base : Heap
  A : Around
  N : List Str
  s₀ : Shared
  H₀ : Hp
  env : Env
  outer : List Env
  stack : List Env
  ex : List Addr
  fn : Str → Bool
  calm : Bool
  pn : List (Addr × Obj)
  xe : Value → Shared → Prop
/-- the callers' frames -/
def frs (l : List Env) : List Addr := l.filterMap (·.frame)
abbrev Cx.fs (X : Cx) : List Addr := frs X.outer

def Vis (sc : Scope) (x : Str) : Prop := sc.names.lookup x = some .local ∨ sc.names.lookup x = some .cell ∨ sc.names.lookup x = some .free
def Loc (sc : Scope) (x : Str) : Prop := sc.names.lookup x = some .local ∨ sc.names.lookup x = some .cell
def Look (env : Env) (h : Heap) (m : Str → Option Value) (x : Str) (u : Value) : Prop :=
  (env.kindOf x = some .local ∧ m x = some u) ∨ ((env.kindOf x = some .cell ∨ env.kindOf x = some .free) ∧ ∃ c, env.cells.lookup x = some c ∧ h.IsCell c (some u))

structure Cx.Ok (X : Cx) : Prop where
  mod : Mod X.K X.mg X.base
  kind : X.env.scope.kind = .function
  glob : X.env.globals = mainGlobals
  blt : X.env.builtins = builtinsNs
  above : X.s₀.heap.objs.size ≤ X.env.locals
  inj : ∀ x y c, X.env.cells.lookup x = some c → X.env.cells.lookup y = some c → x = y
  has : ∀ x, (X.env.kindOf x = some .cell ∨ X.env.kindOf x = some .free) → ∃ c, X.env.cells.lookup x = some c
  cab : ∀ x c, X.fn x = true → X.env.cells.lookup x = some c → X.s₀.heap.objs.size ≤ c
  hd : X.calm = true → X.A.handled = none
  frames : X.A.frames = some X.stack
  stk : X.stack = X.outer ∨ (X.stack = X.env :: X.outer ∧ X.env.frame = some X.env.locals)
  exf : ∀ b ∈ X.ex, b ≠ X.env.locals ∧ ∀ x c, X.env.cells.lookup x = some c → c ≠ b
  bs : ∀ b o, X.base.get? b = some o → X.s₀.heap.get? b = some o ∧ X.H₀ b = none
  bsz : X.base.objs.size ≤ X.s₀.heap.objs.size
  noex : ∀ b o, X.base.get? b = some o → b ∉ X.ex
  exfs : ∀ b ∈ X.ex, b ∉ X.fs
  funs : X.s₀.heap.FunFrames X.base X.outer
  frf : ∀ b ∈ X.fs, X.H₀ b = none

structure Inv (X : Cx) (pins : List (Addr × Obj)) (σ : List (Option V)) (H : Hp) (s : Shared) : Prop where
  ok : X.Ok
  os : s.os = X.s₀.os
  bare : AllBare s.gens
  base : Un X.fs X.ex X.H₀ H X.s₀.heap s.heap
  loc : ∃ m, s.heap.Ns X.env.locals m ∧ ∀ (i : Nat) (x : Str) (v : V), X.N[i]? = some x → σ[i]? = some (some v) → Vis X.env.scope x → ∃ u, RelV v u ∧ Look X.env s.heap m x u
  cell : ∀ x c, X.env.cells.lookup x = some c → ∃ v, s.heap.IsCell c v
  free : H X.env.locals = none
  freeC : ∀ x c, X.env.cells.lookup x = some c → H c = none
  pin : ∀ p ∈ X.pn ++ pins, s.heap.get? p.1 = some p.2 ∧ H p.1 = none ∧ p.1 ≠ X.env.locals ∧ p.1 ∉ X.fs ∧ ∀ v, p.2.data ≠ .cell v
  hok : HOk X.prog X.w H s.heap
  len : σ.length = X.N.length

section
variable {X : Cx} {pins : List (Addr × Obj)} {σ : List (Option V)} {H H' : Hp} {s : Shared} {h' : Heap}

theorem Cx.Ok.nofr (ok : X.Ok) {b : Addr} {o : Obj} (e : X.base.get? b = some o) : b ∉ X.fs := fun hb => by
  have := (ok.funs.mem hb).1
  rw [e] at this; cases this
theorem Inv.bs (I : Inv X pins σ H s) : ∀ b o, X.base.get? b = some o → s.heap.get? b = some o ∧ H b = none := fun b o e =>
  ⟨I.base.keep b o (I.ok.bs b o e).1 (I.ok.bs b o e).2 (I.ok.nofr e) (I.ok.noex b o e), I.base.free b o (I.ok.bs b o e).1 (I.ok.bs b o e).2 (I.ok.noex b o e)⟩
theorem Inv.bk (I : Inv X pins σ H s) : ∀ b o, X.base.get? b = some o → s.heap.get? b = some o := fun b o e => (I.bs b o e).1
theorem Inv.mod (I : Inv X pins σ H s) : Mod X.K X.mg X.base := I.ok.mod
theorem Inv.kIn (I : Inv X pins σ H s) : X.K.In s.heap := I.ok.mod.kin.keeps I.bk
theorem Inv.nolimit (I : Inv X pins σ H s) : s.heap.NoLimit := I.ok.mod.nolimit.keeps I.bk
/-- the frame over the base: for OpenK's rules (K.In X.base is I.mod.kin) -/
theorem Inv.fr (I : Inv X pins σ H s) : ∃ m, Fr X.base X.env.locals s.heap m :=
  let ⟨m, hn, _⟩ := I.loc
  ⟨m, hn, I.bk, Nat.le_trans I.ok.bsz I.ok.above⟩
theorem Inv.lt (I : Inv X pins σ H s) : X.env.locals < s.heap.objs.size := let ⟨_, hn, _⟩ := I.loc; hn.lt
theorem Inv.sz (I : Inv X pins σ H s) : X.s₀.heap.objs.size ≤ s.heap.objs.size := Nat.le_trans I.ok.above (Nat.le_of_lt I.lt)
theorem Inv.nofs (I : Inv X pins σ H s) {a : Addr} (h : s.heap.objs.size ≤ a) : a ∉ X.fs := fun hb => by
  obtain ⟨_, o, ho, _⟩ := I.ok.funs.mem hb
  exact absurd (Nat.lt_of_lt_of_le (Heap.lt_size ho) (Nat.le_trans I.sz h)) (Nat.lt_irrefl _)
theorem Inv.cne (I : Inv X pins σ H s) : ∀ x c, X.env.cells.lookup x = some c → c ≠ X.env.locals := fun x c e z => by
  obtain ⟨v, o, ho, hd⟩ := I.cell x c e
  obtain ⟨m, ⟨o', es, ep, ho', hd', _⟩, _⟩ := I.loc
  rw [z, ho'] at ho; cases ho; rw [hd'] at hd; cases hd
theorem Inv.funs (I : Inv X pins σ H s) : s.heap.FunFrames X.base X.outer := by
  have all : ∀ (l : List Env), (∀ b ∈ frs l, b ∈ X.fs) → X.s₀.heap.FunFrames X.base l → s.heap.FunFrames X.base l := by
    intro l
    induction l with
    | nil => intro _ _; trivial
    | cons env r ih =>
      intro hs hl
      obtain ⟨hk, ⟨L, o, hf, hn, ho, hd⟩, hr⟩ := hl
      have hL : L ∈ X.fs := hs L (by unfold frs; rw [List.filterMap_cons, hf]; exact List.mem_cons_self)
      obtain ⟨sl, e⟩ := I.base.slot L o ho (I.ok.frf L hL) hL fun z => I.ok.exfs L z hL
      exact ⟨hk, ⟨L, _, hf, hn, e, hd⟩, ih (fun b hb => hs b (by unfold frs; rw [List.filterMap_cons, hf]; exact List.mem_cons_of_mem _ hb)) hr⟩
  exact all X.outer (fun _ hb => hb) I.ok.funs

/-- the frames that run, for a call -/
theorem Inv.stack (I : Inv X pins σ H s) : s.heap.FunFrames X.base X.stack := by
  rcases I.ok.stk with e | ⟨e, hf⟩
  · rw [e]; exact I.funs
  · rw [e]
    obtain ⟨m, hn, _⟩ := I.loc
    refine .cons (by rw [I.ok.kind]; decide) hf hn ?_ I.funs
    exact Heap.get?_none_of_le (Nat.le_trans I.ok.bsz I.ok.above)
theorem Inv.stkSub (I : Inv X pins σ H s) : ∀ b ∈ frs X.stack, b ∈ X.env.locals :: X.fs := fun b hb => by
  rcases I.ok.stk with e | ⟨e, hf⟩
  · rw [e] at hb; exact List.mem_cons_of_mem _ hb
  · rw [e] at hb
    unfold frs at hb
    rw [List.filterMap_cons, hf] at hb
    exact hb
theorem Inv.stkFree (I : Inv X pins σ H s) : ∀ b ∈ frs X.stack, H b = none := fun b hb => by
  rcases List.mem_cons.mp (I.stkSub b hb) with e | hb
  · rw [e]; exact I.free
  · obtain ⟨_, o, ho, _⟩ := I.ok.funs.mem hb
    exact I.base.free b o ho (I.ok.frf b hb) fun z => I.ok.exfs b z hb

/-- THE STEP: the untracked objects but the frame and the records at ch are kept (the callers' frames up to slots), the frame's map is kept, the new abstract heap is held -/
theorem Inv.step {g' : Array GenState} {t' : Nat} {d' : Drawn} {ch : List Addr} (I : Inv X pins σ H s)
    (hch : ∀ b ∈ ch, (b ∈ X.ex ∨ X.s₀.heap.objs.size ≤ b) ∧ b ≠ X.env.locals ∧ (∀ x c, X.env.cells.lookup x = some c → c ≠ b) ∧ ∀ p ∈ X.pn ++ pins, p.1 ≠ b)
    (keep : ∀ b o, b ≠ X.env.locals → b ∉ X.fs → b ∉ ch → s.heap.get? b = some o → H b = none → h'.get? b = some o)
    (slot : ∀ b o, b ≠ X.env.locals → b ∈ X.fs → b ∉ ch → s.heap.get? b = some o → H b = none → ∃ sl, h'.get? b = some { o with slots := sl }) (free : ∀ b o, b ∉ ch → s.heap.get? b = some o → H b = none → H' b = none)
    (there : ∀ b o, b ∉ ch → s.heap.get? b = some o → ∃ o', h'.get? b = some o')
    (tups : ∀ b xs, H b = some (.tup xs) → H' b = some (.tup xs)) (frzs : ∀ b o u, H b = some (.frz o u) → H' b = some (.frz o u)) (tbls : ∀ b ps, H b = some (.tbl ps) → ∃ more, H' b = some (.tbl (ps ++ more)))
    (ns : ∀ m, s.heap.Ns X.env.locals m → h'.Ns X.env.locals m) (hok : HOk X.prog X.w H' h') (hg : AllBare g') :
    Inv X pins σ H' { s with heap := h', gens := g', drawn := d', toks := t' } := by
  have neL : ∀ b o, X.s₀.heap.get? b = some o → b ≠ X.env.locals := fun b o e => Nat.ne_of_lt (Nat.lt_of_lt_of_le (Heap.lt_size e) I.ok.above)
  have neC : ∀ b o, X.s₀.heap.get? b = some o → b ∉ X.ex → b ∉ ch := fun b o e hx hb => by
    rcases (hch b hb).1 with z | z
    · exact hx z
    · exact absurd (Nat.lt_of_lt_of_le (Heap.lt_size e) z) (Nat.lt_irrefl _)
  have cellK : ∀ x c, X.env.cells.lookup x = some c → ∀ v, s.heap.IsCell c v → h'.IsCell c v := fun x c e v ⟨o, ho, hd⟩ => by
    have nch : c ∉ ch := fun z => (hch c z).2.2.1 x c e rfl
    by_cases hc : c ∈ X.fs
    · obtain ⟨sl, q⟩ := slot c o (I.cne x c e) hc nch ho (I.freeC x c e)
      exact ⟨_, q, hd⟩
    · exact ⟨o, keep c o (I.cne x c e) hc nch ho (I.freeC x c e), hd⟩
  refine ⟨I.ok, I.os, hg, ⟨fun b o e n hb hx => ?_, fun b o e n hb hx => ?_, fun b o e n hx => ?_, fun b o e hx => ?_, fun b xs e => tups b xs (I.base.tups b xs e), fun b o xs e => frzs b o xs (I.base.frzs b o xs e), fun b ps e => ?_⟩, ?_, fun x c e => ?_, ?_, fun x c e => ?_, fun p hp => ?_, hok, I.len⟩
  · exact keep b o (neL b o e) hb (neC b o e hx) (I.base.keep b o e n hb hx) (I.base.free b o e n hx)
  · obtain ⟨sl, e1⟩ := I.base.slot b o e n hb hx
    obtain ⟨sl', e2⟩ := slot b _ (neL b o e) hb (neC b o e hx) e1 (I.base.free b o e n hx)
    exact ⟨sl', e2⟩
  · obtain ⟨o', e1⟩ := I.base.there b o e hx
    exact free b o' (neC b o e hx) e1 (I.base.free b o e n hx)
  · obtain ⟨o', e1⟩ := I.base.there b o e hx
    exact there b o' (neC b o e hx) e1
  · obtain ⟨m1, e1⟩ := I.base.tbls b ps e
    obtain ⟨m2, e2⟩ := tbls b _ e1
    exact ⟨m1 ++ m2, by rw [e2, Array.append_assoc]⟩
  · obtain ⟨m, hn, hl⟩ := I.loc
    refine ⟨m, ns m hn, fun i x v e1 e2 e3 => ?_⟩
    obtain ⟨u, r, l⟩ := hl i x v e1 e2 e3
    refine ⟨u, r, ?_⟩
    rcases l with l | ⟨k, c, e, z⟩
    · exact .inl l
    · exact .inr ⟨k, c, e, cellK x c e _ z⟩
  · obtain ⟨v, z⟩ := I.cell x c e
    exact ⟨v, cellK x c e v z⟩
  · obtain ⟨m, ⟨o, _, _, ho, _⟩, _⟩ := I.loc
    exact free _ o (fun z => (hch _ z).2.1 rfl) ho I.free
  · obtain ⟨v, o, ho, hd⟩ := I.cell x c e
    exact free c o (fun z => (hch c z).2.2.1 x c e rfl) ho (I.freeC x c e)
  · obtain ⟨e, n, ne, nf, d⟩ := I.pin p hp
    have nch : p.1 ∉ ch := fun z => (hch p.1 z).2.2.2 p hp rfl
    exact ⟨keep p.1 p.2 ne nf nch e n, free p.1 p.2 nch e n, ne, nf, d⟩
/-- .. where the frame's own object is kept too -/
theorem Inv.un {t' : Nat} (I : Inv X pins σ H s) (u : Un X.fs [] H H' s.heap h') (hok : HOk X.prog X.w H' h') : Inv X pins σ H' { s with heap := h', toks := t' } := by
  obtain ⟨m, ⟨o, es, ep, ho, r⟩, _⟩ := id I.loc
  obtain ⟨sl, hL⟩ := u.any ho I.free (by simp)
  exact I.step (g' := s.gens) (d' := s.drawn) (ch := []) (fun _ z => nomatch z) (fun b o _ hb _ e n => u.keep b o e n hb (by simp)) (fun b o _ hb _ e n => u.slot b o e n hb (by simp)) (fun b o _ e n => u.free b o e n (by simp)) (fun b o _ e => u.there b o e (by simp)) u.tups u.frzs u.tbls (fun m' hm => by
    obtain ⟨o', es', ep', ho', r'⟩ := hm
    rw [ho] at ho'; cases ho'
    exact ⟨_, es', ep', hL, r'⟩) hok I.bare
/-- behind a call (or a comprehension's block): the slots of this frame may have changed too, the records at ch may have turned -/
theorem Inv.call {g' : Array GenState} {t' : Nat} {d' : Drawn} {ch : List Addr} (I : Inv X pins σ H s) (u : Un (frs X.stack) ch H H' s.heap h') (hok : HOk X.prog X.w H' h') (hg : AllBare g')
    (hch : ∀ b ∈ ch, (b ∈ X.ex ∨ X.s₀.heap.objs.size ≤ b) ∧ b ≠ X.env.locals ∧ (∀ x c, X.env.cells.lookup x = some c → c ≠ b) ∧ ∀ p ∈ X.pn ++ pins, p.1 ≠ b) :
    Inv X pins σ H' { s with heap := h', gens := g', drawn := d', toks := t' } := by
  obtain ⟨m, ⟨o, es, ep, ho, r⟩, _⟩ := id I.loc
  obtain ⟨sl, hL⟩ := u.any ho I.free fun z => (hch _ z).2.1 rfl
  exact I.step (ch := ch) hch (fun b o hL hb hc e n => u.keep b o e n (fun z => (List.mem_cons.mp (I.stkSub b z)).elim hL hb) hc) (fun b o _ _ hc e n => u.any e n hc) (fun b o hc e n => u.free b o e n hc) (fun b o hc e => u.there b o e hc) u.tups u.frzs u.tbls (fun m' hm => by
    obtain ⟨o', es', ep', ho', r'⟩ := hm
    rw [ho] at ho'; cases ho'
    exact ⟨_, es', ep', hL, r'⟩) hok hg
/-- an untracked record of ours (an iterator) has turned -/
theorem Inv.turned {t' : Nat} {it : Addr} (I : Inv X pins σ H s) (k : ∀ b o, b ≠ it → s.heap.get? b = some o → h'.get? b = some o) (hn : H it = none) (hL : it ≠ X.env.locals)
    (h1 : it ∈ X.ex ∨ X.s₀.heap.objs.size ≤ it) (h2 : ∀ x c, X.env.cells.lookup x = some c → c ≠ it) (h3 : ∀ p ∈ X.pn ++ pins, p.1 ≠ it) : Inv X pins σ H { s with heap := h', toks := t' } := by
  have nit : ∀ b u, H b = some u → b ≠ it := fun b u e z => by rw [z, hn] at e; cases e
  refine I.step (g' := s.gens) (d' := s.drawn) (ch := [it]) (fun b hb => ?_) (fun b o _ _ hc e _ => k b o (fun z => hc (by simp [z])) e) (fun b o _ _ hc e _ => ⟨o.slots, k b o (fun z => hc (by simp [z])) e⟩) (fun _ _ _ _ n => n)
    (fun b o hc e => ⟨o, k b o (fun z => hc (by simp [z])) e⟩) (fun _ _ e => e) (fun _ _ _ e => e) (fun b ps e => ⟨#[], by rw [e]; simp⟩) (fun m hm => ?_) (fun b u e => ?_) I.bare
  · have e : b = it := by simpa using hb
    subst e
    exact ⟨h1, hL, h2, h3⟩
  · obtain ⟨o, es, ep, ho, r⟩ := hm
    exact ⟨o, es, ep, k _ o (Ne.symm hL) ho, r⟩
  · refine (I.hok b u e).stay (fun c v hc q => k c v ?_ q) (fun _ q => q) fun _ _ q => q
    rcases hc with z | z
    · rw [z]; exact nit b u e
    · exact nit c _ z
theorem Inv.tok (I : Inv X pins σ H s) (t : Nat) : Inv X pins σ H { s with toks := t } := I.un (h' := s.heap) (t' := t) Un.refl I.hok
/-- all objects kept -/
theorem Inv.kept {t' : Nat} (I : Inv X pins σ H s) (k : ∀ b u, s.heap.get? b = some u → h'.get? b = some u) : Inv X pins σ H { s with heap := h', toks := t' } := I.un (Un.kept k) (I.hok.kept k)
/-- a new object laid and tracked -/
theorem Inv.laid {a : Addr} {o : HO} {t' : Nat} (I : Inv X pins σ H s) (k : ∀ b u, s.heap.get? b = some u → h'.get? b = some u) (hp : s.heap.objs.size ≤ a) (new : ObjOk X.prog X.w (upd H a o) h' a o) :
    Inv X pins σ (upd H a o) { s with heap := h', toks := t' } := I.un (Un.laid k hp (I.hok.fresh hp)) (I.hok.laid k hp new)
/-- an object written -/
theorem Inv.write {x e : Addr} {o : HO} {t' : Nat} (I : Inv X pins σ H s) (mu : Mut (H x)) (he : e = x ∨ H e = some (.own x)) (k : ∀ b u, b ≠ e → s.heap.get? b = some u → h'.get? b = some u) (heo : ∃ u, h'.get? e = some u)
    (new : ObjOk X.prog X.w (upd H x o) h' x o) : Inv X pins σ (upd H x o) { s with heap := h', toks := t' } := I.un (Un.write mu he k heo) (I.hok.write mu he k heo new)
theorem Inv.pins_of {pins' : List (Addr × Obj)} (I : Inv X pins σ H s) (h : ∀ p ∈ pins', s.heap.get? p.1 = some p.2 ∧ H p.1 = none ∧ p.1 ≠ X.env.locals ∧ p.1 ∉ X.fs ∧ ∀ v, p.2.data ≠ .cell v) : Inv X pins' σ H s :=
  ⟨I.ok, I.os, I.bare, I.base, I.loc, I.cell, I.free, I.freeC, fun p hp => (List.mem_append.mp hp).elim (fun z => I.pin p (List.mem_append_left _ z)) (h p), I.hok, I.len⟩

theorem nodup_ix {N : List Str} (hN : N.Nodup) {i j : Nat} {x : Str} (a : N[i]? = some x) (b : N[j]? = some x) : i = j := by
  obtain ⟨h1, e1⟩ := List.getElem?_eq_some_iff.mp a
  obtain ⟨h2, e2⟩ := List.getElem?_eq_some_iff.mp b
  exact (List.getElem_inj hN).mp (e1.trans e2.symm)

/-- a name is stored; what changed -/
theorem store_ok2 {M : Model} {A : Around} {E : Value → Shared → Prop} {i : Nat} {x : Str} {v : V} {u : Value} {Q : Unit → Shared → Prop} (I : Inv X pins σ H s) (hN : X.N.Nodup) (hi : X.N[i]? = some x) (hx : Loc X.env.scope x) (r : RelV v u)
    (h : ∀ s', Inv X pins (σ.set i (some v)) H s' → (∃ a, Heap.SameBut a s.heap s'.heap ∧ (a = X.env.locals ∨ X.env.cells.lookup x = some a)) → Q () s') (hf : X.fn x = true ∨ X.env.scope.names.lookup x = some .local := by first | exact .inl rfl | exact .inr rfl | assumption) : wpAny M A (storeName X.env x u) Q E s := by
  obtain ⟨m, hn, hl⟩ := id I.loc
  have hcls : (X.env.scope.kind == .class || (X.env.scope.kind == .module && X.env.locals != X.env.globals)) = false := by rw [I.ok.kind]; rfl
  have hiσ : i < σ.length := by rw [I.len]; exact (List.getElem?_eq_some_iff.mp hi).1
  have cne := I.cne
  have tracked : ∀ {a : Addr} {h' : Heap}, (∃ o, s.heap.get? a = some o ∧ H a = none) → Heap.SameBut a s.heap h' → HOk X.prog X.w H h' := fun {a h'} ha hs b ob e => by
    obtain ⟨_, _, hfree⟩ := ha
    refine (I.hok b ob e).stay (fun c w' hc q => (hs.2 c ?_).trans q) (fun _ q => q) fun _ _ q => q
    rintro rfl
    rcases hc with rfl | hc
    · rw [hfree] at e; cases e
    · rw [hfree] at hc; cases hc
  rcases hx with hk | hk
  · refine wpAny_storeName_local hk hn (fun h' hn' hs => ?_) hcls
    obtain ⟨oL, _, _, hoL, _⟩ := id hn
    refine h _ ⟨I.ok, I.os, I.bare, ⟨fun b o e n hb hx => ?_, fun b o e n hb hx => ?_, I.base.free, fun b o e hx => ?_, I.base.tups, I.base.frzs, I.base.tbls⟩, ⟨_, hn', fun j y v' e1 e2 e3 => ?_⟩, fun y c e => ?_, I.free, I.freeC, fun p hp => ?_, tracked ⟨oL, hoL, I.free⟩ hs, by simpa using I.len⟩ ⟨_, hs, .inl rfl⟩
    · exact (hs.2 b (Nat.ne_of_lt (Nat.lt_of_lt_of_le (Heap.lt_size e) I.ok.above))).trans (I.base.keep b o e n hb hx)
    · obtain ⟨sl, e1⟩ := I.base.slot b o e n hb hx
      exact ⟨sl, (hs.2 b (Nat.ne_of_lt (Nat.lt_of_lt_of_le (Heap.lt_size e) I.ok.above))).trans e1⟩
    · obtain ⟨o', e1⟩ := I.base.there b o e hx
      exact ⟨o', (hs.2 b (Nat.ne_of_lt (Nat.lt_of_lt_of_le (Heap.lt_size e) I.ok.above))).trans e1⟩
    · by_cases hj : j = i
      · subst hj
        rw [hi] at e1; cases e1
        rw [List.getElem?_set_self hiσ] at e2
        cases e2
        exact ⟨u, r, .inl ⟨hk, by simp⟩⟩
      · rw [List.getElem?_set_ne (Ne.symm hj)] at e2
        obtain ⟨u', r', q⟩ := hl j y v' e1 e2 e3
        refine ⟨u', r', ?_⟩
        rcases q with ⟨k, e⟩ | ⟨k, c, e, z⟩
        · refine .inl ⟨k, ?_⟩
          have : y ≠ x := fun e => hj (nodup_ix hN e1 (e ▸ hi))
          simp [this, e]
        · exact .inr ⟨k, c, e, z.sameBut hs (cne y c e)⟩
    · obtain ⟨w', z⟩ := I.cell y c e
      exact ⟨w', z.sameBut hs (cne y c e)⟩
    · obtain ⟨e, n, ne, nf, d⟩ := I.pin p hp
      exact ⟨(hs.2 p.1 ne).trans e, n, ne, nf, d⟩
  · have hfn : X.fn x = true := by
      rcases hf with z | z
      · exact z
      · rw [z] at hk; cases hk
    obtain ⟨c, hc⟩ := I.ok.has x (.inl hk)
    obtain ⟨w', z⟩ := I.cell x c hc
    refine wpAny_storeName_cell I.ok.kind hk hc z (fun h' hc' hs => ?_)
    obtain ⟨oc, hoc, hocd⟩ := id z
    refine h { s with heap := h' } ⟨I.ok, I.os, I.bare, ⟨fun b o e n hb hx => ?_, fun b o e n hb hx => ?_, I.base.free, fun b o e hx => ?_, I.base.tups, I.base.frzs, I.base.tbls⟩, ⟨m, hn.sameBut hs (Ne.symm (cne x c hc)), fun j y v' e1 e2 e3 => ?_⟩, fun y c' e => ?_, I.free, I.freeC, fun p hp => ?_, tracked ⟨oc, hoc, I.freeC x c hc⟩ hs, by simpa using I.len⟩ ⟨c, hs, .inr hc⟩
    · exact (hs.2 b (Nat.ne_of_lt (Nat.lt_of_lt_of_le (Heap.lt_size e) (I.ok.cab x c hfn hc)))).trans (I.base.keep b o e n hb hx)
    · obtain ⟨sl, e1⟩ := I.base.slot b o e n hb hx
      exact ⟨sl, (hs.2 b (Nat.ne_of_lt (Nat.lt_of_lt_of_le (Heap.lt_size e) (I.ok.cab x c hfn hc)))).trans e1⟩
    · obtain ⟨o', e1⟩ := I.base.there b o e hx
      exact ⟨o', (hs.2 b (Nat.ne_of_lt (Nat.lt_of_lt_of_le (Heap.lt_size e) (I.ok.cab x c hfn hc)))).trans e1⟩
    · by_cases hj : j = i
      · subst hj
        rw [hi] at e1; cases e1
        rw [List.getElem?_set_self hiσ] at e2
        cases e2
        exact ⟨u, r, .inr ⟨.inl hk, c, hc, hc'⟩⟩
      · rw [List.getElem?_set_ne (Ne.symm hj)] at e2
        obtain ⟨u', r', q⟩ := hl j y v' e1 e2 e3
        refine ⟨u', r', ?_⟩
        rcases q with q | ⟨k, c', e, z'⟩
        · exact .inl q
        · refine .inr ⟨k, c', e, z'.sameBut hs ?_⟩
          rintro rfl
          exact hj (nodup_ix hN e1 (I.ok.inj _ _ _ e hc ▸ hi))
    · by_cases hcc : c' = c
      · subst hcc; exact ⟨_, hc'⟩
      · obtain ⟨w2, z2⟩ := I.cell y c' e
        exact ⟨w2, z2.sameBut hs hcc⟩
    · obtain ⟨e, n, ne, nf, d⟩ := I.pin p hp
      refine ⟨(hs.2 p.1 ?_).trans e, n, ne, nf, d⟩
      intro q
      rw [q, hoc] at e
      have q' : oc = p.2 := Option.some.inj e
      exact d w' (by rw [← q']; exact hocd)
theorem store_ok {M : Model} {A : Around} {E : Value → Shared → Prop} {i : Nat} {x : Str} {v : V} {u : Value} {Q : Unit → Shared → Prop} (I : Inv X pins σ H s) (hN : X.N.Nodup) (hi : X.N[i]? = some x) (hx : Loc X.env.scope x) (r : RelV v u)
    (h : ∀ s', Inv X pins (σ.set i (some v)) H s' → Q () s') (hf : X.fn x = true ∨ X.env.scope.names.lookup x = some .local := by first | exact .inl rfl | exact .inr rfl | assumption) : wpAny M A (storeName X.env x u) Q E s :=
  store_ok2 I hN hi hx r (fun s' I' _ => h s' I') hf
/-- behind a call or a block, the state as it is -/
theorem Inv.call' {s' : Shared} {ch : List Addr} (I : Inv X pins σ H s) (ho : s'.os = s.os) (u : Un (frs X.stack) ch H H' s.heap s'.heap) (hok : HOk X.prog X.w H' s'.heap) (hg : AllBare s'.gens)
    (hch : ∀ b ∈ ch, (b ∈ X.ex ∨ X.s₀.heap.objs.size ≤ b) ∧ b ≠ X.env.locals ∧ (∀ x c, X.env.cells.lookup x = some c → c ≠ b) ∧ ∀ p ∈ X.pn ++ pins, p.1 ≠ b) : Inv X pins σ H' s' := by
  obtain ⟨h', g', d', t', o'⟩ := s'
  have e : o' = s.os := ho
  subst e
  exact I.call (g' := g') (t' := t') (d' := d') u hok hg hch
end

/-! ### the judgements -/
/-- an exception: its class, its own dict's address (where it has one), the abstract heap behind it -/
abbrev XK := Value → Option Addr → Hp → Prop
abbrev St := List (Option V)
abbrev VK := V → Hp → Prop
/-- an expression's reading; a test's; an argument list's -/
abbrev TE := St → Hp → VK → Prop
abbrev TT := St → Hp → (Bool → Hp → Prop) → Prop
abbrev TA := St → Hp → (List V → Hp → Prop) → Prop
/-- what is wanted behind a statement -/
structure Ends where
  nx : St → Hp → Prop
  rt : VK
  bk : St → Hp → Prop := fun _ _ => False
  ct : St → Hp → Prop := fun _ _ => False
abbrev TS := Ends → St → Hp → Prop

def EP (X : Cx) (pins : List (Addr × Obj)) (σ : St) (Q : VK) (u : Value) (s' : Shared) : Prop := ∃ v H', Inv X pins σ H' s' ∧ RelV v u ∧ Q v H'
def TP (X : Cx) (pins : List (Addr × Obj)) (σ : St) (Q : Bool → Hp → Prop) (b : Bool) (s' : Shared) : Prop := ∃ H', Inv X pins σ H' s' ∧ Q b H'
def AP (X : Cx) (pins : List (Addr × Obj)) (σ : St) (Q : List V → Hp → Prop) (us : List Value) (s' : Shared) : Prop := ∃ vs H', Inv X pins σ H' s' ∧ Vals vs us ∧ Q vs H'
def SP (X : Cx) (pins : List (Addr × Obj)) (D : Ends) (f : Flow) (s' : Shared) : Prop :=
  match f with
  | .next => ∃ σ' H', Inv X pins σ' H' s' ∧ D.nx σ' H'
  | .brk => ∃ σ' H', Inv X pins σ' H' s' ∧ D.bk σ' H'
  | .cont => ∃ σ' H', Inv X pins σ' H' s' ∧ D.ct σ' H'
  | .ret u => ∃ v σ' H', Inv X pins σ' H' s' ∧ RelV v u ∧ D.rt v H'

def PE (X : Cx) (e : Expr) (t : TE) : Prop :=
  ∀ (pins : List (Addr × Obj)) (s : Shared) (σ : St) (H : Hp) (Q : VK), Inv X pins σ H s → t σ H Q → wpAny (model X.prog X.w) X.A (eval e X.env) (EP X pins σ Q) X.xe s
def PT (X : Cx) (e : Expr) (t : TT) : Prop :=
  ∀ (pins : List (Addr × Obj)) (s : Shared) (σ : St) (H : Hp) (Q : Bool → Hp → Prop), Inv X pins σ H s → t σ H Q → wpAny (model X.prog X.w) X.A (isTrue e X.env (eval e X.env)) (TP X pins σ Q) X.xe s
/-- a test whatever its 'whole' is (and, or) -/
def PW (X : Cx) (e : Expr) (t : TT) : Prop :=
  ∀ (whole : Sem Value) (pins : List (Addr × Obj)) (s : Shared) (σ : St) (H : Hp) (Q : Bool → Hp → Prop), Inv X pins σ H s → t σ H Q → wpAny (model X.prog X.w) X.A (isTrue e X.env whole) (TP X pins σ Q) X.xe s
theorem PW.pt {X : Cx} {e : Expr} {t : TT} (h : PW X e t) : PT X e t := h _
/-- an argument list (no star), from the left -/
def PA (X : Cx) (es : List Expr) (t : TA) : Prop :=
  ∀ (pos : Pos) (pins : List (Addr × Obj)) (s : Shared) (σ : St) (H : Hp) (Q : List V → Hp → Prop), Inv X pins σ H s → t σ H Q → wpAny (model X.prog X.w) X.A (spliced (backTo pos (starEach es X.env))) (AP X pins σ Q) X.xe s
def PS (X : Cx) (st : Stmt) (t : TS) : Prop :=
  ∀ (pins : List (Addr × Obj)) (s : Shared) (σ : St) (H : Hp) (D : Ends), Inv X pins σ H s → t D σ H → wpAny (model X.prog X.w) X.A (exec st X.env) (SP X pins D) X.xe s
def PSs (X : Cx) (st : List Stmt) (t : TS) : Prop :=
  ∀ (pins : List (Addr × Obj)) (s : Shared) (σ : St) (H : Hp) (D : Ends), Inv X pins σ H s → t D σ H → wpAny (model X.prog X.w) X.A (execs st X.env) (SP X pins D) X.xe s
/-- weaken the end -/
theorem thn {α : Type} {t : Sem α} {Q Q' : α → Shared → Prop} {M : Model} {A : Around} {E : Value → Shared → Prop} {s : Shared} (h : wpAny M A t Q E s) (hQ : ∀ a s, Q a s → Q' a s) : wpAny M A t Q' E s := wpAny_mono h hQ fun _ _ x => x
end L2

namespace L2
open PySem PySem.Spec PyProof.Rows
section
variable {X : Cx}

/-! ### names and constants -/
def tVar (i : Nat) : TE := fun σ H Q => ∃ v, σ[i]? = some (some v) ∧ Q v H
def tC (v : V) : TE := fun _ H Q => Q v H
theorem pe_var {i : Nat} {x : Str} {pos : Pos} (hN : X.N[i]? = some x) (hv : Vis X.env.scope x) (hd : (x == ("__debug__" : Str)) = false := by decide) (hcd : (x == ("__classdict__" : Str)) = false := by decide) : PE X (.Name x pos) (tVar i) := by
  intro pins s σ H Q I h
  obtain ⟨v, e, h⟩ := h
  obtain ⟨m, hn, hl⟩ := I.loc
  obtain ⟨u, r, l⟩ := hl i x v hN e hv
  have fin : EP X pins σ Q u s := ⟨v, H, I, r, h⟩
  rcases l with ⟨hk, hm⟩ | ⟨hk, c, hc, hcell⟩
  · exact wpAny_Name (wpAny_loadName_local I.ok.kind hk hn hm fin) hd
  · rcases hk with hk | hk
    · exact wpAny_Name (wpAny_loadName_cell I.ok.kind hk hc hcell fin) hd
    · exact wpAny_Name (wpAny_loadName_free I.ok.kind hk hc hcell fin hcd) hd
theorem pe_int {i j pos} : PE X (.Constant (.int i) j pos) (tC (.int i)) := fun _ _ _ H _ I h => wpAny_Constant_int ⟨.int i, H, I.tok _, ⟨_, rfl⟩, h⟩
/-- a global name of the def -/
def Gl (X : Cx) (x : Str) : Prop := X.env.kindOf x = some .globalImplicit
theorem ld_glob {E : Value → Shared → Prop} {pins : List (Addr × Obj)} {s : Shared} {σ : St} {H : Hp} {x : Str} {u : Value} {pos : Pos} {Q : Value → Shared → Prop} (I : Inv X pins σ H s) (hg : Gl X x) (hm : X.mg x = some u) (h : Q u s)
    (hd : (x == ("__debug__" : Str)) = false := by decide) : wpAny (model X.prog X.w) X.A (eval (.Name x pos) X.env) Q E s :=
  Calls.Name_function_global I.ok.kind hg (Calls.loadGlobal_global (by rw [I.ok.glob]; exact I.mod.glob.keeps I.bk) hm h) hd
theorem ld_blt {E : Value → Shared → Prop} {pins : List (Addr × Obj)} {s : Shared} {σ : St} {H : Hp} {x : Str} {u : Value} {pos : Pos} {Q : Value → Shared → Prop} (I : Inv X pins σ H s) (hg : Gl X x) (hm : X.mg x = none) (hv : bootBuiltins x = some u) (h : Q u s)
    (hn : x ≠ "__name__" := by decide) (hd : (x == ("__debug__" : Str)) = false := by decide) : wpAny (model X.prog X.w) X.A (eval (.Name x pos) X.env) Q E s := by
  obtain ⟨mb, h1, h2⟩ := I.mod.blt
  exact Calls.Name_function_global I.ok.kind hg (Calls.loadGlobal_builtin (by rw [I.ok.glob]; exact I.mod.glob.keeps I.bk) hm (by rw [I.ok.blt]; exact h1.keeps I.bk) ((h2 x hn).trans hv) h) hd
/-- a module's constant, a class, a function, as a value -/
theorem pe_glob {x : Str} {v : V} {u : Value} {pos : Pos} (hg : Gl X x) (hm : X.mg x = some u) (r : RelV v u) (hd : (x == ("__debug__" : Str)) = false := by decide) : PE X (.Name x pos) (tC v) :=
  fun _ _ _ H _ I h => ld_glob I hg hm ⟨v, H, I, r, h⟩ hd
theorem pe_bltn {x : Str} {v : V} {u : Value} {pos : Pos} (hg : Gl X x) (hm : X.mg x = none) (hv : bootBuiltins x = some u) (r : RelV v u) (hn : x ≠ "__name__" := by decide) (hd : (x == ("__debug__" : Str)) = false := by decide) : PE X (.Name x pos) (tC v) :=
  fun _ _ _ H _ I h => ld_blt I hg hm hv ⟨v, H, I, r, h⟩ hn hd

/-! ### arithmetic -/
/-- two ints -/
def t2I (ta tb : TE) (k : Int → Int → Hp → Prop) : St → Hp → Prop := fun σ H => ta σ H fun x H1 => tb σ H1 fun y H2 => ∃ i j, x = .int i ∧ y = .int j ∧ k i j H2
def tAdd (ta tb : TE) : TE := fun σ H Q => t2I ta tb (fun i j H2 => Q (.int (i + j)) H2) σ H
def tSub (ta tb : TE) : TE := fun σ H Q => t2I ta tb (fun i j H2 => Q (.int (i - j)) H2) σ H
/-- the left factor below 2^64 -/
def tMul (ta tb : TE) : TE := fun σ H Q => t2I ta tb (fun i j H2 => (-(2 ^ 64) < i ∧ i < 2 ^ 64) ∧ Q (.int (i * j)) H2) σ H
variable {a b : Expr} {ta tb : TE} {pos : Pos}
/-! ### comparisons -/
def PC (X : Cx) (op : CmpOp) (a b : Expr) (t : TE) : Prop :=
  ∀ (pins : List (Addr × Obj)) (s : Shared) (σ : St) (H : Hp) (Q : VK), Inv X pins σ H s → t σ H Q →
    wpAny (model X.prog X.w) X.A (eval a X.env) (fun v s₁ => wpAny (model X.prog X.w) X.A (eval b X.env) (fun u s₂ => wpAny (model X.prog X.w) X.A (compareOp op v u) (EP X pins σ Q) X.xe s₂) X.xe s₁) X.xe s
def tCmp (p : Int → Int → Bool) (ta tb : TE) : TE := fun σ H Q => t2I ta tb (fun i j H2 => Q (.bl (p i j)) H2) σ H
abbrev tLt : TE → TE → TE := tCmp fun i j => decide (i < j)
abbrev tLe : TE → TE → TE := tCmp fun i j => decide (i ≤ j)
abbrev tGt : TE → TE → TE := tCmp fun i j => decide (j < i)
abbrev tGe : TE → TE → TE := tCmp fun i j => decide (j ≤ i)
abbrev tEqI : TE → TE → TE := tCmp fun i j => decide (i = j)
abbrev tNeI : TE → TE → TE := tCmp fun i j => !decide (i = j)
/-- is None -/
def tIsN (ta : TE) : TE := fun σ H Q => ta σ H fun x H1 => Q (.bl (decide (x = .non))) H1
def tNotN (ta : TE) : TE := fun σ H Q => ta σ H fun x H1 => Q (.bl (!decide (x = .non))) H1
/-- a comparison as a value, as a test -/
def tB (t : TE) : TT := fun σ H Q => t σ H fun x H1 => ∃ c, x = .bl c ∧ Q c H1
/-! ### and, or, not -/
variable {tA tB' : TT} {rest : List Expr}
def tAnd (t u : TT) : TT := fun σ H Q => t σ H fun c H1 => if c = true then u σ H1 Q else Q false H1
def tOr (t u : TT) : TT := fun σ H Q => t σ H fun c H1 => if c = true then Q true H1 else u σ H1 Q
def tNot (t : TT) : TT := fun σ H Q => t σ H fun c H1 => Q (!c) H1
theorem pw_and1 (ha : PT X a tA) : PW X (.BoolOp .And [a] pos) tA := by
  intro wh pins s σ H Q I h
  refine isTrue_and (thn (ha pins s σ H Q I h) fun c s1 e => ?_)
  cases c with
  | true => exact isTrue_and_nil e
  | false => exact e
theorem pw_or1 (ha : PT X a tA) : PW X (.BoolOp .Or [a] pos) tA := by
  intro wh pins s σ H Q I h
  refine isTrue_or (thn (ha pins s σ H Q I h) fun c s1 e => ?_)
  cases c with
  | false => exact isTrue_or_nil e
  | true => exact e
theorem pw_and (ha : PT X a tA) (hb : PW X (.BoolOp .And (b :: rest) pos) tB') : PW X (.BoolOp .And (a :: b :: rest) pos) (tAnd tA tB') := by
  intro wh pins s σ H Q I h
  refine isTrue_and (thn (ha pins s σ H _ I h) fun c s1 ⟨H1, I1, q1⟩ => ?_)
  cases c with
  | true => exact hb wh pins s1 σ H1 Q I1 q1
  | false => exact ⟨H1, I1, q1⟩
theorem pw_or (ha : PT X a tA) (hb : PW X (.BoolOp .Or (b :: rest) pos) tB') : PW X (.BoolOp .Or (a :: b :: rest) pos) (tOr tA tB') := by
  intro wh pins s σ H Q I h
  refine isTrue_or (thn (ha pins s σ H _ I h) fun c s1 ⟨H1, I1, q1⟩ => ?_)
  cases c with
  | true => exact ⟨H1, I1, q1⟩
  | false => exact hb wh pins s1 σ H1 Q I1 q1
/-- .. as values (bools) -/
def tAndV (ta tb : TE) : TE := fun σ H Q => ta σ H fun x H1 => ∃ c, x = .bl c ∧ if c = true then tb σ H1 Q else Q (.bl false) H1
def tOrV (ta tb : TE) : TE := fun σ H Q => ta σ H fun x H1 => ∃ c, x = .bl c ∧ if c = true then Q (.bl true) H1 else tb σ H1 Q
def tNotV (ta : TE) : TE := fun σ H Q => ta σ H fun x H1 => ∃ c, x = .bl c ∧ Q (.bl (!c)) H1
theorem pe_one {op} {t : TE} (h : PE X a t) : PE X (.BoolOp op [a] pos) t := fun pins s σ H Q I hw => BoolOp_one (h pins s σ H Q I hw)
theorem pe_and (ha : PE X a ta) (hb : PE X (.BoolOp .And (b :: rest) pos) tb) : PE X (.BoolOp .And (a :: b :: rest) pos) (tAndV ta tb) := by
  intro pins s σ H Q I h
  refine BoolOp_and (thn (ha pins s σ H _ I h) fun v s1 ⟨x, H1, I1, r1, q1⟩ => ?_)
  obtain ⟨c, rfl, q1⟩ := q1
  cases r1
  refine wpAny_truthy_bool ?_
  cases c with
  | true => exact hb pins s1 σ H1 Q I1 q1
  | false => exact ⟨.bl false, H1, I1, rfl, q1⟩
theorem pe_not (ha : PE X a ta) : PE X (.UnaryOp .Not a pos) (tNotV ta) := by
  intro pins s σ H Q I h
  refine UnaryOp_ (thn (ha pins s σ H _ I h) fun v s1 ⟨x, H1, I1, r1, q1⟩ => ?_)
  obtain ⟨c, rfl, q1⟩ := q1
  cases r1
  exact not_of (wpAny_truthy_bool ⟨.bl (!c), H1, I1, rfl, q1⟩)
/-- a if t else b -/
def tIf (t : TT) (ta tb : TE) : TE := fun σ H Q => t σ H fun c H1 => if c = true then ta σ H1 Q else tb σ H1 Q
end
end L2

namespace L2
open PySem PySem.Spec PyProof.Rows

/-! ### a list, a tuple that is read: tracked, frozen, or an object of the module -/
def SqL (K : PySem.W.Frag) (H : Hp) (a : Addr) (xs : List V) : Prop :=
  Rd H a (.lst xs) ∨
    ∃ (o : Obj) (its : Array Value) (n : Nat), K.lookup a = some o ∧ o.cls = .type "list" ∧ o.dict = none ∧ o.data = .seq its n ∧ its.size ≤ sizeLine ∧ Vals xs its.toList
def SqT (K : PySem.W.Frag) (H : Hp) (a : Addr) (xs : List V) : Prop :=
  Rd H a (.tup xs) ∨
    ∃ (o : Obj) (its : Array Value) (n : Nat), K.lookup a = some o ∧ o.cls = .type "tuple" ∧ o.data = .seq its n ∧ its.size ≤ sizeLine ∧ Vals xs its.toList
def absV : Value → Option V
  | .none => some .non
  | .bool b => some (.bl b)
  | .int i _ => some (.int i)
  | .str x _ => some (.str x)
  | .bytes b _ => some (.byt b)
  | .float b _ => some (.flt b)
  | .ref a => some (.ref a)
  | .type n => some (.ty n)
  | _ => none
theorem RelV.abs {x : V} {u : Value} (r : RelV x u) : absV u = some x := by
  cases x with
  | non => cases r; rfl
  | bl _ => cases r; rfl
  | int _ => obtain ⟨t, rfl⟩ := r; rfl
  | str _ => obtain ⟨t, rfl⟩ := r; rfl
  | byt _ => obtain ⟨t, rfl⟩ := r; rfl
  | flt _ => obtain ⟨t, rfl⟩ := r; rfl
  | ref _ => cases r; rfl
  | ty _ => cases r; rfl
theorem RelV.inj {x y : V} {u : Value} (r : RelV x u) (q : RelV y u) : x = y := Option.some.inj (r.abs.symm.trans q.abs)
theorem Vals.inj : ∀ {xs ys : List V} {us : List Value}, Vals xs us → Vals ys us → xs = ys
  | _, _, _, .nil, .nil => rfl
  | _, _, _, .cons r t, .cons r' t' => by rw [r.inj r', Vals.inj t t']
section
variable {X : Cx} {pins : List (Addr × Obj)} {σ : St} {H : Hp} {s : Shared} {a : Addr} {xs ys : List V}
theorem SqL.of {K : PySem.W.Frag} (h : H a = some (.lst xs)) : SqL K H a xs := .inl (.inl h)
theorem SqT.of {K : PySem.W.Frag} (h : H a = some (.tup xs)) : SqT K H a xs := .inl (.inl h)
theorem Inv.list (I : Inv X pins σ H s) (h : SqL X.K H a xs) : ∃ its : List Value, Vals xs its ∧ PlainL s.heap a its.toArray ∧ xs.length ≤ sizeLine := by
  rcases h with h | ⟨o, its, n, hk, hc, hd, hs, hz, r⟩
  · obtain ⟨z, its, n, r, e⟩ := h.ok I.hok
    exact ⟨its, r, ⟨_, n, e, rfl, rfl, rfl⟩, z⟩
  · refine ⟨its.toList, r, ⟨o, n, I.kIn a o hk, hc, hd, by simpa using hs⟩, ?_⟩
    have e := r.length
    simp only [Array.length_toList] at e
    omega
theorem Inv.tuple (I : Inv X pins σ H s) (h : SqT X.K H a xs) : ∃ its : List Value, Vals xs its ∧ IsTup s.heap a its.toArray ∧ xs.length ≤ sizeLine := by
  rcases h with h | ⟨o, its, n, hk, hc, hs, hz, r⟩
  · obtain ⟨z, its, r, p⟩ := h.ok I.hok
    exact ⟨its, r, p, z⟩
  · refine ⟨its.toList, r, ⟨o, I.kIn a o hk, hc, n, by simpa using hs⟩, ?_⟩
    have e := r.length
    simp only [Array.length_toList] at e
    omega
end

/-! ### another wish about exceptions -/
abbrev Cx.wish (X : Cx) (E : Value → Shared → Prop) : Cx := { X with xe := E }
/-- no exception leaves -/
abbrev Cx.nox (X : Cx) : Cx := X.wish fun _ _ => False
theorem Cx.Ok.wish {X : Cx} (ok : X.Ok) (E : Value → Shared → Prop) : (X.wish E).Ok :=
  ⟨ok.mod, ok.kind, ok.glob, ok.blt, ok.above, ok.inj, ok.has, ok.cab, ok.hd, ok.frames, ok.stk, ok.exf, ok.bs, ok.bsz, ok.noex, ok.exfs, ok.funs, ok.frf⟩
theorem Cx.Ok.unwish {X : Cx} {E : Value → Shared → Prop} (ok : (X.wish E).Ok) : X.Ok :=
  ⟨ok.mod, ok.kind, ok.glob, ok.blt, ok.above, ok.inj, ok.has, ok.cab, ok.hd, ok.frames, ok.stk, ok.exf, ok.bs, ok.bsz, ok.noex, ok.exfs, ok.funs, ok.frf⟩
section
variable {X : Cx} {pins : List (Addr × Obj)} {σ : St} {H : Hp} {s : Shared} {E : Value → Shared → Prop}
theorem Inv.wish (I : Inv X pins σ H s) (E : Value → Shared → Prop) : Inv (X.wish E) pins σ H s := ⟨I.ok.wish E, I.os, I.bare, I.base, I.loc, I.cell, I.free, I.freeC, I.pin, I.hok, I.len⟩
theorem Inv.unwish (I : Inv (X.wish E) pins σ H s) : Inv X pins σ H s := ⟨I.ok.unwish, I.os, I.bare, I.base, I.loc, I.cell, I.free, I.freeC, I.pin, I.hok, I.len⟩
theorem SP.unwish {D : Ends} {f : Flow} {s' : Shared} (h : SP (X.wish E) pins D f s') : SP X pins D f s' := by
  cases f with
  | next => obtain ⟨σ', H', I, q⟩ := h; exact ⟨σ', H', I.unwish, q⟩
  | brk => obtain ⟨σ', H', I, q⟩ := h; exact ⟨σ', H', I.unwish, q⟩
  | cont => obtain ⟨σ', H', I, q⟩ := h; exact ⟨σ', H', I.unwish, q⟩
  | ret u => obtain ⟨v, σ', H', I, r, q⟩ := h; exact ⟨v, σ', H', I.unwish, r, q⟩
theorem PE.nox {e : Expr} {t : TE} (h : PE X.nox e t) : PE X e t := fun pins s σ H Q I hw =>
  wpAny_mono (h pins s σ H Q (I.wish _) hw) (fun _ _ ⟨v, H', I', r, q⟩ => ⟨v, H', I'.unwish, r, q⟩) fun _ _ z => False.elim z
theorem PT.nox {e : Expr} {t : TT} (h : PT X.nox e t) : PT X e t := fun pins s σ H Q I hw =>
  wpAny_mono (h pins s σ H Q (I.wish _) hw) (fun _ _ ⟨H', I', q⟩ => ⟨H', I'.unwish, q⟩) fun _ _ z => False.elim z
theorem PSs.nox {st : List Stmt} {t : TS} (h : PSs X.nox st t) : PSs X st t := fun pins s σ H D I hw =>
  wpAny_mono (h pins s σ H D (I.wish _) hw) (fun _ _ q => q.unwish) fun _ _ z => False.elim z
end

/-! ### blocks and small statements -/
section
variable {X : Cx} {st : Stmt} {rest : List Stmt} {t u : TS} {e : Expr} {te : TE} {pos : Pos}
def tNext : TS := fun D σ H => D.nx σ H
def tSeq (t u : TS) : TS := fun D σ H => t { D with nx := u D } σ H
theorem pss_nil : PSs X [] tNext := fun _ _ σ H _ I h => wpAny_execs_nil ⟨σ, H, I, h⟩
theorem pss_cons (h1 : PS X st t) (h2 : PSs X rest u) : PSs X (st :: rest) (tSeq t u) := by
  intro pins s σ H D I h
  refine wpAny_execs_cons (thn (h1 pins s σ H { D with nx := u D } I h) fun f s1 q => ?_)
  cases f with
  | next =>
    obtain ⟨σ', H', I', q⟩ := q
    exact h2 pins s1 σ' H' D I' q
  | ret v => exact q
  | brk => exact q
  | cont => exact q
theorem pss_one (h1 : PS X st t) : PSs X [st] t := by
  intro pins s σ H D I h
  refine wpAny_execs_cons (thn (h1 pins s σ H D I h) fun f s1 q => ?_)
  cases f with
  | next => exact wpAny_execs_nil q
  | ret v => exact q
  | brk => exact q
  | cont => exact q
def tBreak : TS := fun D σ H => D.bk σ H
def tCont : TS := fun D σ H => D.ct σ H
/-- in a def's body nothing is shown -/
theorem Inv.quiet {pins : List (Addr × Obj)} {σ : St} {H : Hp} {s : Shared} (I : Inv X pins σ H s) : interactive X.env = false := by simp [interactive, I.ok.kind]
/-- an expression whose value is dropped -/
def tDrop (te : TE) : TS := fun D σ H => te σ H fun _ H1 => D.nx σ H1
theorem ps_expr (he : PE X e te) (hs : swapsWith e none pos.line X.env = pure false := by rfl) : PS X (.Expr e pos) (tDrop te) := by
  intro pins s σ H D I h
  exact wpAny_Expr_any (thn (he pins s σ H _ I h) fun v s1 ⟨x, H1, I1, r1, q1⟩ => ⟨σ, H1, I1, q1⟩) I.quiet hs
def tRet (te : TE) : TS := fun D σ H => te σ H D.rt
theorem ps_ret (he : PE X e te) : PS X (.Return (some e) pos) (tRet te) := by
  intro pins s σ H D I h
  exact wpAny_Return_some (thn (he pins s σ H _ I h) fun v s1 ⟨x, H1, I1, r1, q1⟩ => ⟨x, σ, H1, I1, r1, q1⟩)
def tRetN : TS := fun D _ H => D.rt .non H
def tIfS (c : TT) (t u : TS) : TS := fun D σ H => c σ H fun b H1 => if b = true then t D σ H1 else u D σ H1
theorem ps_if {c : Expr} {a b : List Stmt} {tc : TT} (hc : PT X c tc) (ha : PSs X a t) (hb : PSs X b u) : PS X (.If c a b pos) (tIfS tc t u) := by
  intro pins s σ H D I h
  refine wpAny_If (thn (hc pins s σ H _ I h) fun d s1 ⟨H1, I1, q1⟩ => ?_)
  cases d with
  | true => exact ha pins s1 σ H1 D I1 q1
  | false => exact hb pins s1 σ H1 D I1 q1
/-- code that the proof never comes to -/
def tNever : TS := fun _ _ _ => False
theorem ps_never : PS X st tNever := fun _ _ _ _ _ _ h => h.elim
end

/-! ### targets -/
abbrev TG := V → St → Hp → (St → Hp → Prop) → Prop
abbrev TGs := List V → St → Hp → (St → Hp → Prop) → Prop
def PG (X : Cx) (target : Expr) (t : TG) : Prop :=
  ∀ (pins : List (Addr × Obj)) (s : Shared) (σ : St) (H : Hp) (v : V) (u : Value) (Q : St → Hp → Prop), Inv X pins σ H s → RelV v u → t v σ H Q →
    wpAny (model X.prog X.w) X.A (assign target X.env u) (fun _ s' => ∃ σ' H', Inv X pins σ' H' s' ∧ Q σ' H') X.xe s
/-- several targets, one after another -/
def PGs (X : Cx) (ts : List Expr) (t : TGs) : Prop :=
  ∀ (pins : List (Addr × Obj)) (s : Shared) (σ : St) (H : Hp) (vs : List V) (us : List Value) (Q : St → Hp → Prop), Inv X pins σ H s → Vals vs us → t vs σ H Q →
    wpAny (model X.prog X.w) X.A (assignInOrder ((assignEach ts X.env).map (·.2)) us) (fun _ s' => ∃ σ' H', Inv X pins σ' H' s' ∧ Q σ' H') X.xe s
/-- o[i] = v, by values -/
abbrev TSet := V → V → V → Hp → (Hp → Prop) → Prop
def PSet (X : Cx) (t : TSet) : Prop :=
  ∀ (pins : List (Addr × Obj)) (s : Shared) (σ : St) (H : Hp) (o i v : V) (ov iv u : Value) (Q : Hp → Prop), Inv X pins σ H s → RelV o ov → RelV i iv → RelV v u → t o i v H Q →
    wpAny (model X.prog X.w) X.A (setItem ov iv u) (fun _ s' => ∃ H', Inv X pins σ H' s' ∧ Q H') X.xe s
/-- a op= b, by values -/
abbrev TIp := V → V → Hp → VK → Prop
def PIp (X : Cx) (op : Operator) (t : TIp) : Prop :=
  ∀ (pins : List (Addr × Obj)) (s : Shared) (σ : St) (H : Hp) (x y : V) (v u : Value) (Q : VK), Inv X pins σ H s → RelV x v → RelV y u → t x y H Q →
    wpAny (model X.prog X.w) X.A (inplaceOp op v u) (EP X pins σ Q) X.xe s
section
variable {X : Cx} {pos : Pos}
def gName (i : Nat) : TG := fun v σ H Q => Q (σ.set i (some v)) H
theorem pg_name {i : Nat} {x : Str} (hN : X.N.Nodup) (hi : X.N[i]? = some x) (hx : Loc X.env.scope x) (hf : X.fn x = true ∨ X.env.scope.names.lookup x = some .local := by first | exact .inl rfl | exact .inr rfl | assumption) : PG X (.Name x pos) (gName i) := by
  intro pins s σ H v u Q I r h
  exact wpAny_assign_Name (store_ok I hN hi hx r (fun s' I' => ⟨_, H, I', h⟩) hf)
def gNil : TGs := fun vs σ H Q => vs = [] ∧ Q σ H
def gCons (t : TG) (u : TGs) : TGs := fun vs σ H Q => ∃ v r, vs = v :: r ∧ t v σ H fun σ' H' => u r σ' H' Q
/-- (a, b, ..) = a tuple of that length -/
def gTup (K : PySem.W.Frag) (n : Nat) (t : TGs) : TG := fun v σ H Q => ∃ a xs, v = .ref a ∧ SqT K H a xs ∧ xs.length = n ∧ t xs σ H Q
/-- o[i] = .. -/
def gSub (to ti : TE) (t : TSet) : TG := fun v σ H Q => to σ H fun o H1 => ti σ H1 fun i H2 => t o i v H2 fun H3 => Q σ H3
/-- target = value -/
def tAsg (te : TE) (g : TG) : TS := fun D σ H => te σ H fun x H1 => g x σ H1 D.nx
/-- name = value -/
theorem ps_set {i : Nat} {x : Str} {e : Expr} {te : TE} {pos' : Pos} (hN : X.N.Nodup) (hi : X.N[i]? = some x) (hx : Loc X.env.scope x) (he : PE X e te) (hs : swapsWith e (some (.Name x pos')) pos.line X.env = pure false := by rfl) (hf : X.fn x = true ∨ X.env.scope.names.lookup x = some .local := by first | exact .inl rfl | exact .inr rfl | assumption) :
    PS X (.Assign [.Name x pos'] e pos) (tAsg te (gName i)) := by
  intro pins s σ H D I h
  refine wpAny_Assign_Name (thn (he pins s σ H _ I h) fun v s1 ⟨y, H1, I1, r1, q1⟩ => ?_) hs
  exact store_ok I1 hN hi hx r1 (fun s2 I2 => ⟨_, H1, I2, q1⟩) hf
/-- a, b = x, y with plain local names: stored from the right; the pair itself is not tracked (the opening rows as in PyProof/Rows/TupAssign.lean:23) -/
def tPar (i j : Nat) (ta : TA) : TS := fun D σ H => ta σ H fun vs H1 => ∃ v w, vs = [v, w] ∧ D.nx ((σ.set i (some v)).set j (some w)) H1
/-- name op= e -/
def tAug (i : Nat) (te : TE) (ti : TIp) : TS := fun D σ H => ∃ x, σ[i]? = some (some x) ∧ te σ H fun y H1 => ti x y H1 fun z H2 => D.nx (σ.set i (some z)) H2
theorem ps_aug {i : Nat} {x : Str} {e : Expr} {te : TE} {op : Operator} {ti : TIp} {pos' : Pos} (hN : X.N.Nodup) (hi : X.N[i]? = some x) (hx : Loc X.env.scope x) (he : PE X e te) (ho : PIp X op ti) (hf : X.fn x = true ∨ X.env.scope.names.lookup x = some .local := by first | exact .inl rfl | exact .inr rfl | assumption) :
    PS X (.AugAssign (.Name x pos') op e pos) (tAug i te ti) := by
  intro pins s σ H D I h
  obtain ⟨v, e1, h⟩ := h
  obtain ⟨m, hn, hl⟩ := I.loc
  have vis : Vis X.env.scope x := by rcases hx with k | k; exact .inl k; exact .inr (.inl k)
  obtain ⟨u, r, l⟩ := hl i x v hi e1 vis
  refine wpAny_AugAssign_Name ?_
  have go : wpAny (model X.prog X.w) X.A (eval e X.env) (fun w s₂ => wpAny (model X.prog X.w) X.A (inplaceOp op u w) (fun r s₃ => wpAny (model X.prog X.w) X.A (storeName X.env x r) (fun _ => SP X pins D .next) X.xe s₃) X.xe s₂) X.xe s := by
    refine thn (he pins s σ H _ I h) fun w s1 ⟨y, H1, I1, r1, q1⟩ => ?_
    refine thn (ho pins s1 σ H1 v y u w _ I1 r r1 q1) fun z s2 ⟨zv, H2, I2, r2, q2⟩ => ?_
    exact store_ok I2 hN hi hx r2 (fun s3 I3 => ⟨_, H2, I3, q2⟩) hf
  rcases l with ⟨hk, hm⟩ | ⟨hk, c, hc, hcell⟩
  · exact wpAny_loadName_local I.ok.kind hk hn hm go
  · rcases hk with hk | hk
    · exact wpAny_loadName_cell I.ok.kind hk hc hcell go
    · rcases hx with k | k
      · have : X.env.scope.names.lookup x = some .free := hk
        rw [k] at this; cases this
      · have : X.env.scope.names.lookup x = some .free := hk
        rw [k] at this; cases this
/-- o[i] op= e -/
def tAugS (to ti te : TE) (tget : V → V → Hp → VK → Prop) (tip : TIp) (tset : TSet) : TS := fun D σ H => to σ H fun o H1 => ti σ H1 fun i H2 => tget o i H2 fun x H3 => te σ H3 fun y H4 => tip x y H4 fun z H5 => tset o i z H5 fun H6 => D.nx σ H6
/-- o[i], by values -/
def PGet (X : Cx) (t : V → V → Hp → VK → Prop) : Prop :=
  ∀ (pins : List (Addr × Obj)) (s : Shared) (σ : St) (H : Hp) (o i : V) (ov iv : Value) (Q : VK), Inv X pins σ H s → RelV o ov → RelV i iv → t o i H Q →
    wpAny (model X.prog X.w) X.A (getItem ov iv) (EP X pins σ Q) X.xe s
/-- ints -/
def ipI (f : Int → Int → Int) : TIp := fun x y H Q => ∃ i j, x = .int i ∧ y = .int j ∧ Q (.int (f i j)) H
theorem ip_add : PIp X .Add (ipI fun i j => i + j) := by
  intro pins s σ H x y v u Q I r1 r2 h
  obtain ⟨i, j, e1, e2, q⟩ := h
  subst e1; subst e2
  obtain ⟨t, rfl⟩ := r1
  obtain ⟨t', rfl⟩ := r2
  exact iadd_int ⟨.int _, H, I.tok _, ⟨_, rfl⟩, q⟩
end

/-! ### while -/
section
variable {X : Cx} {pos : Pos}
/-- the invariant W with its measure -/
def tWhile (c : TT) (tb : TS) : TS := fun D σ H => ∃ W : Nat → St → Hp → Prop, (∃ m, W m σ H) ∧ ∀ m σ H, W m σ H →
  c σ H fun b H1 => if b = true then ∃ N : St → Hp → Prop, (∀ σ' H', N σ' H' → ∃ m', m' < m ∧ W m' σ' H') ∧ tb { D with nx := N, ct := N, bk := D.nx } σ H1 else D.nx σ H1
theorem ps_while {c : Expr} {body : List Stmt} {tc : TT} {tb : TS} (hp : PassesOwn (model X.prog X.w) X.A X.env X.xe) (hc : PT X c tc) (hb : PSs X body tb) : PS X (.While c body [] pos) (tWhile tc tb) := by
  intro pins s σ H D I h
  obtain ⟨W, ⟨m0, w0⟩, turn⟩ := h
  refine wpAny_While (codeAny_whileLoop (fun n s' => ∃ σ' H', Inv X pins σ' H' s' ∧ W n σ' H') ?_ m0 ⟨σ, H, I, w0⟩)
  rintro n s1 ⟨σ1, H1, I1, w1⟩
  refine wpAny_passesOwn hp (thn (hc pins s1 σ1 H1 _ I1 (turn n σ1 H1 w1)) fun b s2 ⟨H2, I2, q2⟩ => ?_)
  cases b with
  | true =>
    obtain ⟨N, hN, q2⟩ := q2
    rw [if_pos rfl]
    refine wpAny_passesOwn hp (thn (hb pins s2 σ1 H2 _ I2 q2) fun f s3 q3 => ?_)
    cases f with
    | next =>
      obtain ⟨σ3, H3, I3, n3⟩ := q3
      obtain ⟨m', hm, w3⟩ := hN σ3 H3 n3
      exact ⟨m', hm, σ3, H3, I3, w3⟩
    | cont =>
      obtain ⟨σ3, H3, I3, n3⟩ := q3
      obtain ⟨m', hm, w3⟩ := hN σ3 H3 n3
      exact ⟨m', hm, σ3, H3, I3, w3⟩
    | brk => exact q3
    | ret v => exact q3
  | false =>
    rw [if_neg Bool.false_ne_true]
    exact wpAny_execs_nil ⟨σ1, H2, I2, q2⟩
end

/-! ### what a loop or a comprehension walks -/
/-- at turn i: it yields x (the heap may grow), or it stops -/
structure It where
  go : Nat → Hp → Prop
  yld : Nat → Hp → V → Hp → Prop
  stop : Nat → Hp → Prop
/-- the iterator's own objects may turn: they are not the frame's, not pinned, younger than the entry (or a comprehension's own) -/
def FpOk (X : Cx) (pins : List (Addr × Obj)) (H : Hp) (b : Addr) : Prop :=
  H b = none ∧ b ≠ X.env.locals ∧ b ∉ X.fs ∧ (b ∈ X.ex ∨ X.s₀.heap.objs.size ≤ b) ∧ (∀ x c, X.env.cells.lookup x = some c → c ≠ b) ∧ ∀ p ∈ X.pn ++ pins, p.1 ≠ b
theorem Inv.fpOk {X : Cx} {pins : List (Addr × Obj)} {σ : St} {H H' : Hp} {s : Shared} {b : Addr} (I : Inv X pins σ H s) (hb : s.heap.objs.size ≤ b) (hn : H' b = none) : FpOk X pins H' b := by
  refine ⟨hn, Nat.ne_of_gt (Nat.lt_of_lt_of_le I.lt hb), I.nofs hb, .inr (Nat.le_trans I.sz hb), fun x c e z => ?_, fun p hp z => ?_⟩
  · obtain ⟨v, q⟩ := I.cell x c e
    exact absurd (Nat.lt_of_lt_of_le q.lt (by rw [z]; exact hb)) (Nat.lt_irrefl _)
  · exact absurd (Nat.lt_of_lt_of_le (Heap.lt_size (I.pin p hp).1) (by rw [z]; exact hb)) (Nat.lt_irrefl _)
structure Turn (P : Program) (w : World) (K : PySem.W.Frag) (tg : Expr) (J : It) (fp : List Addr) (it : Addr) (tn : Nat → Heap → Prop) : Prop where
  mem : it ∈ fp
  obj : ∀ i h, tn i h → ∀ b ∈ fp, ∃ o, h.get? b = some o ∧ ∀ v, o.data ≠ .cell v
  keep : ∀ i h h', tn i h → (∀ b ∈ fp, ∀ o, h.get? b = some o → h'.get? b = some o) → tn i h'
  item : ∀ (X : Cx), X.prog = P → X.w = w → X.K = K → X.calm = true → ∀ (i : Nat) (pins : List (Addr × Obj)) (s : Shared) (σ : St) (H : Hp) (E : Value → Shared → Prop), Inv X pins σ H s → (∀ b ∈ fp, FpOk X pins H b) → tn i s.heap → J.go i H →
    wpAny (model P w) X.A (pyNext (.ref it)) (fun r s1 => ∃ u, r = some u ∧
      wpAny (model P w) X.A (letOwnedTupleGo tg (.ref it) u) (fun _ s2 => ∃ x H', Inv X pins σ H' s2 ∧ RelV x u ∧ J.yld i H x H' ∧ tn (i + 1) s2.heap ∧ ∀ b ∈ fp, H' b = none) E s1) E s
  done : ∀ (X : Cx), X.prog = P → X.w = w → X.K = K → X.calm = true → ∀ (i : Nat) (pins : List (Addr × Obj)) (s : Shared) (σ : St) (H : Hp) (E : Value → Shared → Prop), Inv X pins σ H s → (∀ b ∈ fp, FpOk X pins H b) → tn i s.heap → J.stop i H →
    wpAny (model P w) X.A (pyNext (.ref it)) (fun r s1 => r = none ∧ Inv X pins σ H s1) E s
  self : ∀ (A : Around) (i : Nat) (s : Shared) (Q : Value → Shared → Prop) (E : Value → Shared → Prop), tn i s.heap → Q (.ref it) s → wpAny (model P w) A (pyIter (.ref it)) Q E s
abbrev TI := St → Hp → (It → Hp → Prop) → Prop
/-- an iterator has come -/
def PIE (X : Cx) (pins : List (Addr × Obj)) (σ : St) (tg : Expr) (R : It → Hp → Prop) (itv : Value) (s2 : Shared) : Prop :=
  ∃ (it : Addr) (fp : List Addr) (tn : Nat → Heap → Prop) (J : It) (H' : Hp), itv = .ref it ∧ Inv X pins σ H' s2 ∧ Turn X.prog X.w X.K tg J fp it tn ∧ tn 0 s2.heap ∧ (∀ b ∈ fp, FpOk X pins H' b) ∧ R J H'
def PI (X : Cx) (tg iter : Expr) (wi : TI) : Prop :=
  ∀ (pins : List (Addr × Obj)) (s : Shared) (σ : St) (H : Hp) (R : It → Hp → Prop), Inv X pins σ H s → wi σ H R →
    wpAny (model X.prog X.w) X.A (eval iter X.env) (fun v s1 => wpAny (model X.prog X.w) X.A (pyIter v) (PIE X pins σ tg R) X.xe s1) X.xe s

/-- the step ahead of the store is nothing for an iterator that keeps no tuple -/
theorem go_of {M : Model} {A : Around} {E : Value → Shared → Prop} {s : Shared} {tg : Expr} {it : Addr} {u : Value} {o : Obj} {n : String} {vs : Array Value} {Q : Unit → Shared → Prop} (ho : s.heap.get? it = some o) (hc : o.cls = .type n) (hd : o.data = .fields vs)
    (hn : ["enumerate", "zip", "dict_itemiterator", "dict_reverseitemiterator", "odict_iterator", "itertools.zip_longest", "itertools.pairwise"].contains n = false) (hQ : Q () s) : wpAny M A (letOwnedTupleGo tg (.ref it) u) Q E s := by
  unfold letOwnedTupleGo
  cases tg <;> first
    | exact wpAny_pure hQ
    | (cases u <;> first
        | exact wpAny_pure hQ
        | (refine wpAny_bind (wpAny_load ho ?_)
           rw [hc, hd]
           show wpAny M A (if (["enumerate", "zip", "dict_itemiterator", "dict_reverseitemiterator", "odict_iterator", "itertools.zip_longest", "itertools.pairwise"].contains n && vs[0]? == some (rawInt _)) = true then _ else _) Q E s
           rw [if_neg (by intro h; rw [hn, Bool.false_and] at h; cases h)]
           exact wpAny_pure hQ))

/-- the list at a, as it stands at each turn (a loop may append to it) -/
def Itl (K : PySem.W.Frag) (a : Addr) : It :=
  ⟨fun i H => ∃ xs x, SqL K H a xs ∧ xs[i]? = some x, fun i H x H' => H' = H ∧ ∀ xs, SqL K H a xs → xs[i]? = some x, fun i H => ∃ xs, SqL K H a xs ∧ xs.length ≤ i⟩
def Itt (K : PySem.W.Frag) (a : Addr) : It :=
  ⟨fun i H => ∃ xs x, SqT K H a xs ∧ xs[i]? = some x, fun i H x H' => H' = H ∧ ∀ xs, SqT K H a xs → xs[i]? = some x, fun i H => ∃ xs, SqT K H a xs ∧ xs.length ≤ i⟩
/-- lo, lo + 1, .. (n of them) -/
def Itr (lo : Int) (n : Nat) : It := ⟨fun i _ => i < n, fun i H x H' => H' = H ∧ x = .int (lo + i), fun i _ => n ≤ i⟩
theorem turn_range {P : Program} {w : World} {K : PySem.W.Frag} {tg : Expr} (it : Addr) (lo : Int) (n : Nat) : Turn P w K tg (Itr lo n) [it] it (fun i h => IsRangeIter h it (lo + (i : Nat) * 1) ((n : Int) - (i : Nat)) 1) where
  mem := by simp
  obj := fun i h st b hb => by
    have e : b = it := by simpa using hb
    subst e
    exact ⟨_, st, fun v z => by
      have z' : Data.fields _ = Data.cell v := z
      cases z'⟩
  keep := fun i h h' st k => k it (by simp) _ st
  item := by
    intro X hP hw hK hc i pins s σ H E I hf st hg
    subst hP hw hK
    obtain ⟨f0, f1, f2, f3, f4, f5⟩ := hf it (by simp)
    have W := Walks.range (prog := X.prog) (w := X.w) (I.ok.hd hc) it lo 1 n
    refine W.item i s _ _ hg st fun v h' tk hv st' kk => ?_
    obtain ⟨t, rfl⟩ := hv
    have I1 : Inv X pins σ H { s with heap := h', toks := tk } := I.turned (fun b o hb e => kk b o (by simpa using hb) e) f0 f1 f3 f4 f5
    refine ⟨_, rfl, go_of (s := { s with heap := h', toks := tk }) (n := "range_iterator") st' rfl rfl (by decide) ⟨.int (lo + i), H, I1, ⟨t, ?_⟩, ⟨rfl, rfl⟩, st', fun b hb => (hf b hb).1⟩⟩
    rw [Int.mul_one]
  done := by
    intro X hP hw hK hc i pins s σ H E I hf st hg
    subst hP hw hK
    obtain ⟨f0, f1, f2, f3, f4, f5⟩ := hf it (by simp)
    exact wpAny_pyNext_range_end (I.ok.hd hc) st (by have : n ≤ i := hg; omega) fun h' eb => ⟨rfl, I.turned (t' := s.toks) (fun b o hb e => eb b o hb e) f0 f1 f3 f4 f5⟩
  self := fun _ _ _ _ _ st h => wpAny_pyIter_rangeiter st h
end L2

namespace L2
open PySem PySem.Spec PyProof.Rows
section
variable {X : Cx} {tg : Expr}
def iList (K : PySem.W.Frag) (tl : TE) : TI := fun σ H R => tl σ H fun x H1 => ∃ a, x = .ref a ∧ (∃ xs, SqL K H1 a xs) ∧ R (Itl K a) H1
def iTup (K : PySem.W.Frag) (tl : TE) : TI := fun σ H R => tl σ H fun x H1 => ∃ a, x = .ref a ∧ (∃ xs, SqT K H1 a xs) ∧ R (Itt K a) H1
/-- a range object just made, walked -/
theorem range_it {pins : List (Addr × Obj)} {σ : St} {H : Hp} {s : Shared} {R : It → Hp → Prop} {E : Value → Shared → Prop} {lo hi : Int} {t u v : Tok} {tk : Nat} (I : Inv X pins σ H s) (h1 : -(2 ^ 62) ≤ lo) (h2 : lo < 2 ^ 62) (h3 : -(2 ^ 62) ≤ hi) (h4 : hi < 2 ^ 62)
    (q : R (Itr lo (hi - lo).toNat) H) : wpAny (model X.prog X.w) X.A (pyIter (.ref s.heap.objs.size)) (PIE X pins σ tg R) E { s with heap := s.heap.push { cls := .type "range", data := .fields #[.int lo t, .int hi u, .int 1 v] }, toks := tk } := by
  refine wpAny_pyIter_range (IsRange.new ..) (small_one h1 h2 h3 h4) ?_
  have I1 : Inv X pins σ H { s with heap := s.heap.push { cls := .type "range", data := .fields #[.int lo t, .int hi u, .int 1 v] }, toks := tk } := I.kept fun b o e => Heap.get?_push_of_some _ e
  refine ⟨(s.heap.push { cls := .type "range", data := .fields #[.int lo t, .int hi u, .int 1 v] }).objs.size, [(s.heap.push { cls := .type "range", data := .fields #[.int lo t, .int hi u, .int 1 v] }).objs.size], _, _, H, rfl,
    I1.kept (t' := tk) fun b o e => Heap.get?_push_of_some _ e, turn_range _ lo (hi - lo).toNat, ?_, fun b hb => ?_, q⟩
  · have e1 : lo + ((0 : Nat) : Int) * 1 = lo := by simp
    have e2 : (((hi - lo).toNat : Nat) : Int) - ((0 : Nat) : Int) = Builtin.Range.rangeSize lo hi 1 := by rw [rangeSize_one]; split <;> omega
    show IsRangeIter _ _ (lo + ((0 : Nat) : Int) * 1) ((((hi - lo).toNat : Nat) : Int) - ((0 : Nat) : Int)) 1
    rw [e1, e2]
    exact Heap.get?_push_size _ rfl
  · have e : b = (s.heap.push { cls := .type "range", data := .fields #[.int lo t, .int hi u, .int 1 v] }).objs.size := by simpa using hb
    subst e
    exact I1.fpOk (Nat.le_refl _) (I1.hok.fresh (Nat.le_refl _))
def iRng1 (ta : TA) : TI := fun σ H R => ta σ H fun vs H1 => ∃ j : Int, vs = [.int j] ∧ -(2 ^ 62) ≤ j ∧ j < 2 ^ 62 ∧ R (Itr 0 j.toNat) H1
def iRng2 (ta : TA) : TI := fun σ H R => ta σ H fun vs H1 => ∃ i j : Int, vs = [.int i, .int j] ∧ (-(2 ^ 62) ≤ i ∧ i < 2 ^ 62 ∧ -(2 ^ 62) ≤ j ∧ j < 2 ^ 62) ∧ R (Itr i (j - i).toNat) H1
theorem pi_range1 {a : Expr} {ta : TA} {p pos : Pos} (hg : Gl X "range") (hm : X.mg "range" = none) (ha : PA X [a] ta) (hs : starEach [a] X.env = [(false, eval a X.env)] := by rfl) : PI X tg (.Call (.Name "range" p) [a] [] pos) (iRng1 ta) := by
  intro pins s σ H R I h
  refine Call_ (ld_blt I hg hm boot_range (PyProof.Rows.callWith_type1 (thn (ha pos pins s σ H _ I h) fun us s1 ⟨vs, H1, I1, r1, q1⟩ => ?_) hs rfl))
  obtain ⟨j, e, q1, q2, q⟩ := q1
  subst e
  cases r1 with
  | cons r rr =>
    cases rr
    obtain ⟨t, rfl⟩ := r
    exact call_range_1 (range_it I1 (by omega) (by omega) q1 q2 (by simpa using q))
theorem pi_range2 {a b : Expr} {ta : TA} {p pos : Pos} (hg : Gl X "range") (hm : X.mg "range" = none) (ha : PA X [a, b] ta) (hs : starEach [a, b] X.env = [(false, eval a X.env), (false, eval b X.env)] := by rfl) (hs2 : starEach [b] X.env = [(false, eval b X.env)] := by rfl) :
    PI X tg (.Call (.Name "range" p) [a, b] [] pos) (iRng2 ta) := by
  intro pins s σ H R I h
  refine Call_ (ld_blt I hg hm boot_range (PyProof.Rows.callWith_type1 (thn (ha pos pins s σ H _ I h) fun us s1 ⟨vs, H1, I1, r1, q1⟩ => ?_) (by rw [hs, hs2]) (by rw [hs2]; rfl)))
  obtain ⟨i, j, e, ⟨q1, q2, q3, q4⟩, q⟩ := q1
  subst e
  cases r1 with
  | cons r rr =>
    cases rr with
    | cons r' rr =>
      cases rr
      obtain ⟨t, rfl⟩ := r
      obtain ⟨t', rfl⟩ := r'
      exact call_range_2 (range_it I1 q1 q2 q3 q4 q)

/-! ### for -/
/-- W: the invariant by the turn and a measure; N: what the body is to reach -/
def tFor (wi : TI) (g : TG) (tb : TS) : TS := fun D σ H => wi σ H fun J H1 => ∃ W : Nat → Nat → St → Hp → Prop, (∃ m, W 0 m σ H1) ∧ ∀ i m σ H, W i m σ H →
  (J.stop i H ∧ D.nx σ H) ∨ (J.go i H ∧ ∃ N : St → Hp → Prop, (∀ σ' H', N σ' H' → ∃ m', m' < m ∧ W (i + 1) m' σ' H') ∧ ∀ x H', J.yld i H x H' → g x σ H' fun σ2 H2 => tb { D with nx := N, ct := N, bk := D.nx } σ2 H2)
/-- the records at fp as they stand -/
def pinsAt (fp : List Addr) (h : Heap) : List (Addr × Obj) := fp.filterMap fun b => (h.get? b).map fun o => (b, o)
theorem mem_pinsAt {fp : List Addr} {h : Heap} {b : Addr} {o : Obj} (hb : b ∈ fp) (e : h.get? b = some o) : (b, o) ∈ pinsAt fp h := List.mem_filterMap.mpr ⟨b, hb, by rw [e]; rfl⟩
theorem of_pinsAt {fp : List Addr} {h : Heap} {p : Addr × Obj} (hp : p ∈ pinsAt fp h) : p.1 ∈ fp ∧ h.get? p.1 = some p.2 := by
  obtain ⟨b, hb, e⟩ := List.mem_filterMap.mp hp
  cases q : h.get? b with
  | none => rw [q] at e; cases e
  | some o =>
    rw [q] at e
    have e' : (b, o) = p := Option.some.inj e
    subst e'
    exact ⟨hb, q⟩
theorem Inv.pinned {pins : List (Addr × Obj)} {σ : St} {H : Hp} {s : Shared} {fp : List Addr} (I : Inv X pins σ H s) (hf : ∀ b ∈ fp, FpOk X pins H b) (ho : ∀ b ∈ fp, ∃ o, s.heap.get? b = some o ∧ ∀ v, o.data ≠ .cell v) : Inv X (pins ++ pinsAt fp s.heap) σ H s :=
  I.pins_of fun p hp => (List.mem_append.mp hp).elim (fun z => I.pin p (List.mem_append_right _ z)) fun z => by
    obtain ⟨hb, e⟩ := of_pinsAt z
    obtain ⟨f0, f1, f2, _⟩ := hf p.1 hb
    obtain ⟨o, e', d⟩ := ho p.1 hb
    rw [e] at e'; cases e'
    exact ⟨e, f0, f1, f2, d⟩
theorem Inv.unpinned {pins pl : List (Addr × Obj)} {σ : St} {H : Hp} {s : Shared} (I : Inv X (pins ++ pl) σ H s) : Inv X pins σ H s := I.pins_of fun p hp => I.pin p (List.mem_append_right _ (List.mem_append_left _ hp))
theorem ps_for {iter : Expr} {body : List Stmt} {wi : TI} {g : TG} {tb : TS} {pos : Pos} (hp : PassesOwn (model X.prog X.w) X.A X.env X.xe) (hc : X.calm = true) (hi : PI X tg iter wi) (hg : PG X tg g) (hb : PSs X body tb)
    (hs : ∀ x, foldedSetIterable iter X.env x = pure x := by intro _; rfl) : PS X (.For tg iter body [] pos) (tFor wi g tb) := by
  intro pins s σ H D I h
  refine wpAny_For (thn (hi pins s σ H _ I h) fun v s1 h1 => thn h1 fun itv s2 h2 => ?_) hs
  obtain ⟨it, fp, tn, J, H2, e, I2, T, st2, f2, W, ⟨m0, w0⟩, turn⟩ := h2
  subst e
  -- what stays true of the iterator's objects through the loop
  have stat : ∀ {H' : Hp}, (∀ b ∈ fp, H' b = none) → ∀ b ∈ fp, FpOk X pins H' b := fun hn b hb => ⟨hn b hb, (f2 b hb).2⟩
  refine codeAny_forLoop_any (fun n s' => ∃ i σ' H', Inv X pins σ' H' s' ∧ tn i s'.heap ∧ (∀ b ∈ fp, H' b = none) ∧ W i n σ' H') ?_ m0 ⟨0, σ, H2, I2, st2, fun b hb => (f2 b hb).1, w0⟩
  rintro n s3 ⟨i, σ3, H3, I3, st3, fr3, w3⟩
  rcases turn i n σ3 H3 w3 with ⟨stop, qn⟩ | ⟨go, N, hN, step⟩
  · refine wpAny_passesOwn hp (thn (T.done X rfl rfl rfl hc i pins s3 σ3 H3 X.xe I3 (stat fr3) st3 stop) fun r s4 ⟨hr, I4⟩ => ?_)
    subst hr
    exact wpAny_execs_nil ⟨σ3, H3, I4, qn⟩
  · refine wpAny_passesOwn hp (thn (T.item X rfl rfl rfl hc i pins s3 σ3 H3 X.xe I3 (stat fr3) st3 go) fun r s4 ⟨u, hr, h4⟩ => ?_)
    subst hr
    refine wpAny_passesOwn hp (thn h4 fun _ s5 ⟨x, H5, I5, r5, y5, st5, fr5⟩ => ?_)
    have I5' := I5.pinned (stat fr5) (T.obj _ _ st5)
    refine wpAny_passesOwn hp (thn (hg _ s5 σ3 H5 x u _ I5' r5 (step x H5 y5)) fun _ s6 ⟨σ6, H6, I6, q6⟩ => ?_)
    refine wpAny_passesOwn hp (thn (hb _ s6 σ6 H6 _ I6 q6) fun f s7 q7 => ?_)
    have again : ∀ {σ7 : St} {H7 : Hp}, Inv X (pins ++ pinsAt fp s5.heap) σ7 H7 s7 → N σ7 H7 → ∃ m, m < n ∧ ∃ i σ' H', Inv X pins σ' H' s7 ∧ tn i s7.heap ∧ (∀ b ∈ fp, H' b = none) ∧ W i m σ' H' := fun {σ7 H7} I7 n7 => by
      obtain ⟨m', hm, w7⟩ := hN σ7 H7 n7
      refine ⟨m', hm, i + 1, σ7, H7, I7.unpinned, T.keep _ _ _ st5 fun b hb o e => (I7.pin (b, o) (List.mem_append_right _ (List.mem_append_right _ (mem_pinsAt hb e)))).1, fun b hb => ?_, w7⟩
      obtain ⟨o, e, d⟩ := T.obj _ _ st5 b hb
      exact (I7.pin (b, o) (List.mem_append_right _ (List.mem_append_right _ (mem_pinsAt hb e)))).2.1
    cases f with
    | next => obtain ⟨σ7, H7, I7, n7⟩ := q7; exact again I7 n7
    | cont => obtain ⟨σ7, H7, I7, n7⟩ := q7; exact again I7 n7
    | brk => obtain ⟨σ7, H7, I7, q7⟩ := q7; exact ⟨σ7, H7, I7.unpinned, q7⟩
    | ret v => obtain ⟨x7, σ7, H7, I7, r7, q7⟩ := q7; exact ⟨x7, σ7, H7, I7.unpinned, r7, q7⟩
end

/-! ### the forms one uses -/
theorem for_range {lo : Int} {n : Nat} {g : TG} {tb : TS} {D : Ends} {σ : St} {H : Hp} (Pv : Nat → St → Hp → Prop) (h0 : Pv 0 σ H)
    (hs : ∀ i σ H, i < n → Pv i σ H → g (.int (lo + i)) σ H fun σ2 H2 => tb { D with nx := Pv (i + 1), ct := Pv (i + 1), bk := D.nx } σ2 H2) (hd : ∀ σ H, Pv n σ H → D.nx σ H) :
    ∃ W : Nat → Nat → St → Hp → Prop, (∃ m, W 0 m σ H) ∧ ∀ i m σ H, W i m σ H →
      ((Itr lo n).stop i H ∧ D.nx σ H) ∨ ((Itr lo n).go i H ∧ ∃ N : St → Hp → Prop, (∀ σ' H', N σ' H' → ∃ m', m' < m ∧ W (i + 1) m' σ' H') ∧ ∀ x H', (Itr lo n).yld i H x H' → g x σ H' fun σ2 H2 => tb { D with nx := N, ct := N, bk := D.nx } σ2 H2) := by
  refine ⟨fun i m σ H => m = n - i ∧ i ≤ n ∧ Pv i σ H, ⟨n, by simp, Nat.zero_le _, h0⟩, ?_⟩
  rintro i m σ H ⟨rfl, hi, p⟩
  by_cases hlt : i < n
  · refine .inr ⟨hlt, Pv (i + 1), fun σ' H' p' => ⟨n - (i + 1), by omega, rfl, hlt, p'⟩, fun x H' y => ?_⟩
    obtain ⟨e, y⟩ := y
    subst e y
    exact hs i σ _ hlt p
  · have e : i = n := by omega
    subst e
    exact .inl ⟨Nat.le_refl _, hd σ H p⟩
end L2

namespace L2
open PySem PySem.Spec PyProof.Rows

abbrev R2 := V → V → Hp → VK → Prop
/-- a two-place operation on values: f is binaryOp op, inplaceOp op or compareOp op -/
def OpR (X : Cx) (f : Value → Value → Sem Value) (r : R2) : Prop :=
  ∀ (pins : List (Addr × Obj)) (s : Shared) (σ : St) (H : Hp) (x y : V) (v u : Value) (Q : VK), Inv X pins σ H s → RelV x v → RelV y u → r x y H Q →
    wpAny (model X.prog X.w) X.A (f v u) (EP X pins σ Q) X.xe s
/-- a one-place operation -/
def UnR (X : Cx) (f : Value → Sem Value) (r : V → Hp → VK → Prop) : Prop :=
  ∀ (pins : List (Addr × Obj)) (s : Shared) (σ : St) (H : Hp) (x : V) (v : Value) (Q : VK), Inv X pins σ H s → RelV x v → r x H Q →
    wpAny (model X.prog X.w) X.A (f v) (EP X pins σ Q) X.xe s
/-- a call of a value that is known (a builtin, a type) with values -/
def CallR (X : Cx) (f : Value) (r : List V → Hp → VK → Prop) : Prop :=
  ∀ (pins : List (Addr × Obj)) (s : Shared) (σ : St) (H : Hp) (xs : List V) (us : List Value) (Q : VK), Inv X pins σ H s → Vals xs us → r xs H Q →
    wpAny (model X.prog X.w) X.A (call f us) (EP X pins σ Q) X.xe s
/-- a value's truth -/
def TruR (X : Cx) (r : V → Hp → (Bool → Hp → Prop) → Prop) : Prop :=
  ∀ (pins : List (Addr × Obj)) (s : Shared) (σ : St) (H : Hp) (x : V) (v : Value) (Q : Bool → Hp → Prop), Inv X pins σ H s → RelV x v → r x H Q →
    wpAny (model X.prog X.w) X.A (truthy v) (TP X pins σ Q) X.xe s

def tOp (r : R2) (ta tb : TE) : TE := fun σ H Q => ta σ H fun x H1 => tb σ H1 fun y H2 => r x y H2 Q
def tUn (r : V → Hp → VK → Prop) (ta : TE) : TE := fun σ H Q => ta σ H fun x H1 => r x H1 Q
/-- ints in, under C, and a value out -/
def rI (C : Int → Int → Prop) (g : Int → Int → V) : R2 := fun x y H Q => ∃ i j, x = .int i ∧ y = .int j ∧ C i j ∧ Q (g i j) H
def rI0 (g : Int → Int → V) : R2 := fun x y H Q => ∃ i j, x = .int i ∧ y = .int j ∧ Q (g i j) H
def rU (g : Int → V) : V → Hp → VK → Prop := fun x H Q => ∃ i, x = .int i ∧ Q (g i) H

section
variable {X : Cx} {a b c : Expr} {ta tb tc : TE} {pos : Pos}

theorem binT (ha : PE X a ta) (hb : PE X b tb) {pins : List (Addr × Obj)} {s : Shared} {σ : St} {H : Hp} {R : V → V → Hp → Prop} (I : Inv X pins σ H s)
    (h : ta σ H fun x H1 => tb σ H1 fun y H2 => R x y H2) {Q : Value → Shared → Prop} {f : Value → Value → Sem Value}
    (hf : ∀ v u s2 x y H2, Inv X pins σ H2 s2 → RelV x v → RelV y u → R x y H2 → wpAny (model X.prog X.w) X.A (f v u) Q X.xe s2) :
    wpAny (model X.prog X.w) X.A (eval a X.env) (fun v s₁ => wpAny (model X.prog X.w) X.A (eval b X.env) (fun u s₂ => wpAny (model X.prog X.w) X.A (f v u) Q X.xe s₂) X.xe s₁) X.xe s := by
  refine thn (ha pins s σ H _ I h) fun v s1 ⟨x, H1, I1, r1, q1⟩ => ?_
  refine thn (hb pins s1 σ H1 _ I1 q1) fun u s2 ⟨y, H2, I2, r2, q2⟩ => ?_
  exact hf v u s2 x y H2 I2 r1 r2 q2

theorem pe_op {op : Operator} {r : R2} (ho : OpR X (binaryOp op) r) (ha : PE X a ta) (hb : PE X b tb) : PE X (.BinOp a op b pos) (tOp r ta tb) := by
  intro pins s σ H Q I h
  exact wpAny_BinOp (binT ha hb I h fun v u s2 x y H2 I2 rx ry q => ho pins s2 σ H2 x y v u Q I2 rx ry q)
/-! ### ints -/
theorem opI {f : Value → Value → Sem Value} {C : Int → Int → Prop} {g : Int → Int → Int}
    (rule : ∀ (i j : Int) (t u : Tok) (s : Shared) (Q : Value → Shared → Prop) (E : Value → Shared → Prop), C i j → Q (.int (g i j) s.toks) { s with toks := s.toks + 1 } → wpAny (model X.prog X.w) X.A (f (.int i t) (.int j u)) Q E s) :
    OpR X f (rI C fun i j => .int (g i j)) := by
  intro pins s σ H x y v u Q I rx ry h
  obtain ⟨i, j, rfl, rfl, hc, q⟩ := h
  obtain ⟨t, rfl⟩ := rx
  obtain ⟨t', rfl⟩ := ry
  exact rule i j t t' s _ _ hc ⟨.int (g i j), H, I.tok _, ⟨_, rfl⟩, q⟩
theorem opI0 {f : Value → Value → Sem Value} {g : Int → Int → Int}
    (rule : ∀ (i j : Int) (t u : Tok) (s : Shared) (Q : Value → Shared → Prop) (E : Value → Shared → Prop), Q (.int (g i j) s.toks) { s with toks := s.toks + 1 } → wpAny (model X.prog X.w) X.A (f (.int i t) (.int j u)) Q E s) :
    OpR X f (rI0 fun i j => .int (g i j)) := by
  intro pins s σ H x y v u Q I rx ry h
  obtain ⟨i, j, rfl, rfl, q⟩ := h
  obtain ⟨t, rfl⟩ := rx
  obtain ⟨t', rfl⟩ := ry
  exact rule i j t t' s _ _ ⟨.int (g i j), H, I.tok _, ⟨_, rfl⟩, q⟩
theorem opB0 {f : Value → Value → Sem Value} {g : Int → Int → Bool}
    (rule : ∀ (i j : Int) (t u : Tok) (s : Shared) (Q : Value → Shared → Prop) (E : Value → Shared → Prop), Q (.bool (g i j)) s → wpAny (model X.prog X.w) X.A (f (.int i t) (.int j u)) Q E s) :
    OpR X f (rI0 fun i j => .bl (g i j)) := by
  intro pins s σ H x y v u Q I rx ry h
  obtain ⟨i, j, rfl, rfl, q⟩ := h
  obtain ⟨t, rfl⟩ := rx
  obtain ⟨t', rfl⟩ := ry
  exact rule i j t t' s _ _ ⟨.bl (g i j), H, I, rfl, q⟩

def CDiv (i j : Int) : Prop := 0 < j ∧ j < 1073741824
def CDivN (i j : Int) : Prop := j ≠ 0 ∧ j.natAbs < 1073741824
def CPow (i j : Int) : Prop := 0 ≤ j ∧ j ≤ 1000000 ∧ i.natAbs < 2 ^ 64
def CMul (i j : Int) : Prop := (-(2 ^ 64) < i ∧ i < 2 ^ 64) ∨ (-(2 ^ 64) < j ∧ j < 2 ^ 64)
theorem CMul.ok {i j : Int} (h : CMul i j) : IntMulOk i j := by
  rcases h with ⟨h1, h2⟩ | ⟨h1, h2⟩
  · exact .of_left (intBits_le_64 h1 h2)
  · exact .of_right (intBits_le_64 h1 h2)
theorem op_add : OpR X (binaryOp .Add) (rI0 fun i j => .int (i + j)) := opI0 fun _ _ _ _ _ _ _ q => add_int q
theorem op_sub : OpR X (binaryOp .Sub) (rI0 fun i j => .int (i - j)) := opI0 fun _ _ _ _ _ _ _ q => sub_int q
theorem op_mul : OpR X (binaryOp .Mult) (rI CMul fun i j => .int (i * j)) := opI fun _ _ _ _ _ _ _ hc q => mul_int q hc.ok
/-- // by a positive divisor -/
theorem op_fdiv : OpR X (binaryOp .FloorDiv) (rI CDiv fun i j => .int (i / j)) := opI fun i j _ _ _ _ _ hc q => by
  have h1 : (0 : Int) < j := hc.1
  have h2 : j < 1073741824 := hc.2
  exact floordiv_int (by omega) (by rw [Int.fdiv_eq_ediv_of_nonneg i (by omega)]; exact q) (.inl (PyProof.noPylong_small (by omega)))
/-- % by a positive divisor of any size -/
theorem op_mod : OpR X (binaryOp .Mod) (rI (fun _ j => 0 < j) fun i j => .int (i % j)) := opI fun i j _ _ _ _ _ hc q => by
  have h1 : (0 : Int) < j := hc
  exact mod_int' (by omega) (by rw [Int.fmod_eq_emod_of_nonneg i (by omega)]; exact q)
/-! ### bools among ints: n += (a < b) -/
end

/-! ### comparisons -/
/-- the scalars that == tells apart as data does -/
def scal : V → V → Bool
  | .non, .non => true | .non, .int _ => true | .int _, .non => true | .non, .bl _ => true | .bl _, .non => true | .non, .str _ => true | .str _, .non => true
  | .int _, .int _ => true | .bl _, .bl _ => true | .str _, .str _ => true | .byt _, .byt _ => true
  | .int _, .str _ => true | .str _, .int _ => true | .bl _, .str _ => true | .str _, .bl _ => true
  | _, _ => false
def rEq : R2 := fun x y H Q => scal x y = true ∧ Q (.bl (decide (x = y))) H
def rNe : R2 := fun x y H Q => scal x y = true ∧ Q (.bl (!decide (x = y))) H

theorem dec_int {i j : Int} : decide (V.int i = V.int j) = (i == j) := by
  rw [Bool.eq_iff_iff]
  simp
theorem dec_bl {i j : Bool} : decide (V.bl i = V.bl j) = (i == j) := by
  rw [Bool.eq_iff_iff]
  simp
theorem dec_str {i j : Str} : decide (V.str i = V.str j) = (i == j) := by
  rw [Bool.eq_iff_iff]
  simp
theorem dec_byt {i j : Array UInt8} : decide (V.byt i = V.byt j) = (i.toList == j.toList) := by
  rw [Bool.eq_iff_iff]
  cases i
  cases j
  simp

section
variable {X : Cx} {a b c : Expr} {ta tb tc : TE} {pos : Pos}
theorem fin_bl {pins : List (Addr × Obj)} {σ : St} {H : Hp} {s : Shared} {Q : VK} {k k' : Bool} (I : Inv X pins σ H s) (q : Q (.bl k) H) (e : k = k') : EP X pins σ Q (.bool k') s := by
  subst e
  exact ⟨.bl k, H, I, rfl, q⟩
theorem op_eq : OpR X (compareOp .Eq) rEq := by
  intro pins s σ H x y v u Q I rx ry h
  obtain ⟨hs, q⟩ := h
  cases x with
  | non =>
    cases rx
    cases y with
    | non => cases ry; exact PySem.EqNone.eq_none_none (fin_bl I q (by simp))
    | bl j => cases ry; exact PySem.EqNone.eq_none_bool (fin_bl I q (by simp))
    | int j => obtain ⟨t', rfl⟩ := ry; exact PySem.EqNone.eq_none_int (fin_bl I q (by simp))
    | str j => obtain ⟨t', rfl⟩ := ry; exact PySem.EqNone.eq_none_str (fin_bl I q (by simp))
    | _ => exact absurd (show false = true from hs) Bool.false_ne_true
  | bl i =>
    cases rx
    cases y with
    | non => cases ry; exact PySem.EqNone.eq_bool_none (fin_bl I q (by simp))
    | bl j => cases ry; exact eq_bool (fin_bl I q dec_bl)
    | str j => obtain ⟨t', rfl⟩ := ry; exact PySem.EqMixed.eq_bool_str (fin_bl I q (by simp))
    | _ => exact absurd (show false = true from hs) Bool.false_ne_true
  | int i =>
    obtain ⟨t, rfl⟩ := rx
    cases y with
    | non => cases ry; exact PySem.EqNone.eq_int_none (fin_bl I q (by simp))
    | int j => obtain ⟨t', rfl⟩ := ry; exact eq_int (fin_bl I q dec_int)
    | str j => obtain ⟨t', rfl⟩ := ry; exact PySem.EqMixed.eq_int_str (fin_bl I q (by simp))
    | _ => exact absurd (show false = true from hs) Bool.false_ne_true
  | str i =>
    obtain ⟨t, rfl⟩ := rx
    cases y with
    | non => cases ry; exact PySem.EqNone.eq_str_none (fin_bl I q (by simp))
    | bl j => cases ry; exact PySem.EqMixed.eq_str_bool (fin_bl I q (by simp))
    | int j => obtain ⟨t', rfl⟩ := ry; exact PySem.EqMixed.eq_str_int (fin_bl I q (by simp))
    | str j => obtain ⟨t', rfl⟩ := ry; exact eq_str (fin_bl I q dec_str)
    | _ => exact absurd (show false = true from hs) Bool.false_ne_true
  | byt i =>
    obtain ⟨t, rfl⟩ := rx
    cases y with
    | byt j => obtain ⟨t', rfl⟩ := ry; exact PySem.W.eq_bytes (fin_bl I q dec_byt)
    | _ => exact absurd (show false = true from hs) Bool.false_ne_true
  | _ => cases y <;> exact absurd (show false = true from hs) Bool.false_ne_true
theorem op_ne : OpR X (compareOp .NotEq) rNe := by
  intro pins s σ H x y v u Q I rx ry h
  obtain ⟨hs, q⟩ := h
  cases x with
  | non =>
    cases rx
    cases y with
    | non => cases ry; exact PySem.EqNone.ne_none_none (fin_bl I q (by simp))
    | bl j => cases ry; exact PySem.EqNone.ne_none_bool (fin_bl I q (by simp))
    | int j => obtain ⟨t', rfl⟩ := ry; exact PySem.EqNone.ne_none_int (fin_bl I q (by simp))
    | str j => obtain ⟨t', rfl⟩ := ry; exact PySem.EqNone.ne_none_str (fin_bl I q (by simp))
    | _ => exact absurd (show false = true from hs) Bool.false_ne_true
  | bl i =>
    cases rx
    cases y with
    | non => cases ry; exact PySem.EqNone.ne_bool_none (fin_bl I q (by simp))
    | bl j => cases ry; exact ne_bool (fin_bl I q (congrArg not dec_bl))
    | str j => obtain ⟨t', rfl⟩ := ry; exact PySem.EqMixed.ne_bool_str (fin_bl I q (by simp))
    | _ => exact absurd (show false = true from hs) Bool.false_ne_true
  | int i =>
    obtain ⟨t, rfl⟩ := rx
    cases y with
    | non => cases ry; exact PySem.EqNone.ne_int_none (fin_bl I q (by simp))
    | int j => obtain ⟨t', rfl⟩ := ry; exact ne_int (fin_bl I q (congrArg not dec_int))
    | str j => obtain ⟨t', rfl⟩ := ry; exact PySem.EqMixed.ne_int_str (fin_bl I q (by simp))
    | _ => exact absurd (show false = true from hs) Bool.false_ne_true
  | str i =>
    obtain ⟨t, rfl⟩ := rx
    cases y with
    | non => cases ry; exact PySem.EqNone.ne_str_none (fin_bl I q (by simp))
    | bl j => cases ry; exact PySem.EqMixed.ne_str_bool (fin_bl I q (by simp))
    | int j => obtain ⟨t', rfl⟩ := ry; exact PySem.EqMixed.ne_str_int (fin_bl I q (by simp))
    | str j => obtain ⟨t', rfl⟩ := ry; exact ne_str (fin_bl I q (congrArg not dec_str))
    | _ => exact absurd (show false = true from hs) Bool.false_ne_true
  | byt i =>
    obtain ⟨t, rfl⟩ := rx
    cases y with
    | byt j => obtain ⟨t', rfl⟩ := ry; exact PySem.W.ne_bytes (fin_bl I q (congrArg not dec_byt))
    | _ => exact absurd (show false = true from hs) Bool.false_ne_true
  | _ => cases y <;> exact absurd (show false = true from hs) Bool.false_ne_true

theorem op_lt : OpR X (compareOp .Lt) (rI0 fun i j => .bl (decide (i < j))) := opB0 fun _ _ _ _ _ _ _ q => lt_int q
theorem op_gt : OpR X (compareOp .Gt) (rI0 fun i j => .bl (decide (j < i))) := opB0 fun _ _ _ _ _ _ _ q => gt_int q
/-- is, is not of two objects that are tracked lists or instances -/
def isObj : HO → Bool
  | .lst _ => true
  | .ins _ _ _ => true
  | _ => false
/-- two rules for one operation: by cases -/
theorem OpR.or {f : Value → Value → Sem Value} {r r' : R2} (h : OpR X f r) (h' : OpR X f r') : OpR X f (fun x y H Q => r x y H Q ∨ r' x y H Q) := by
  intro pins s σ H x y v u Q I rx ry q
  rcases q with q | q
  · exact h pins s σ H x y v u Q I rx ry q
  · exact h' pins s σ H x y v u Q I rx ry q

theorem nomark (b : Expr) {op : CmpOp} (h : op ≠ .In := by decide) (h2 : op ≠ .NotIn := by decide) : behindInMarks op b = false := by
  have e1 : (op == CmpOp.In) = false := by cases op <;> first | rfl | exact absurd rfl h
  have e2 : (op == CmpOp.NotIn) = false := by cases op <;> first | rfl | exact absurd rfl h2
  cases b <;> simp [behindInMarks, e1, e2]
/-- a comparison as a value; hm: nomark b, or (for in, not in) by with_unfolding_all rfl -/
theorem pe_cmpR {op : CmpOp} {r : R2} (ho : OpR X (compareOp op) r) (ha : PE X a ta) (hb : PE X b tb) (hm : behindInMarks op b = false) : PE X (.Compare a [op] [b] pos) (tOp r ta tb) := by
  intro pins s σ H Q I h
  exact wpAny_Compare1 (binT ha hb I h fun v u s2 x y H2 I2 rx ry q => ho pins s2 σ H2 x y v u Q I2 rx ry q) hm
/-- a reading of a value as a test -/
def tTest (t : TE) : TT := fun σ H Q => t σ H fun x H' => ∃ k, x = .bl k ∧ Q k H'
theorem pt_cmpR {op : CmpOp} {r : R2} (ho : OpR X (compareOp op) r) (ha : PE X a ta) (hb : PE X b tb) (hm : behindInMarks op b = false) : PT X (.Compare a [op] [b] pos) (tTest (tOp r ta tb)) := by
  intro pins s σ H Q I h
  refine wpAny_isTrue_Compare1 (thn (ha pins s σ H _ I h) fun v s1 ⟨x, H1, I1, r1, q1⟩ => thn (hb pins s1 σ H1 _ I1 q1) fun u s2 ⟨y, H2, I2, r2, q2⟩ =>
    thn (ho pins s2 σ H2 x y v u _ I2 r1 r2 q2) fun c s3 ⟨z, H3, I3, r3, k, e, q3⟩ => ?_) hm
  subst e
  cases r3
  exact wpAny_truthy_bool ⟨H3, I3, q3⟩
/-- a op1 b op2 c -/
def tChain (r r' : R2) (ta tb tc : TE) : TE := fun σ H Q => ta σ H fun x H1 => tb σ H1 fun y H2 => r x y H2 fun z H3 => ∃ k, z = .bl k ∧
  (if k = true then tc σ H3 fun w' H4 => r' y w' H4 Q else Q (.bl false) H3)
/-! ### truth -/
/-- a value's truth by the abstract heap -/
def TruV (K : PySem.W.Frag) (x : V) (H : Hp) (k : Bool) : Prop :=
  match x with
  | .non => k = false
  | .bl b => k = b
  | .int i => k = (i != 0)
  | .str y => y.length ≤ sizeLine ∧ k = ((y.length : Int) != 0)
  | .byt y => y.size ≤ sizeLine ∧ k = ((y.size : Int) != 0)
  | .ref p => (∃ xs, SqL K H p xs ∧ k = !xs.isEmpty) ∨ (∃ xs, SqT K H p xs ∧ k = !xs.isEmpty) ∨ ∃ kvs, H p = some (.dK kvs) ∧ k = !kvs.isEmpty
  | _ => False
theorem line63 : (sizeLine : Nat) < 2 ^ 63 := by rw [sizeLine_eq]; decide
/-! ### strs and bytes -/
def PlainIxT (b : Expr) : Prop := ∀ o i, subscripted b false o i = operate [o, i] (getItem o i)
/-! ### scalar builtins, by CallR -/
theorem vals1 {x : V} {us : List Value} (r : Vals [x] us) : ∃ u, us = [u] ∧ RelV x u := by
  cases r with
  | cons r1 r2 => cases r2; exact ⟨_, rfl, r1⟩
theorem vals2 {x y : V} {us : List Value} (r : Vals [x, y] us) : ∃ u w', us = [u, w'] ∧ RelV x u ∧ RelV y w' := by
  cases r with
  | cons r1 r2 =>
    cases r2 with
    | cons r3 r4 => cases r4; exact ⟨_, _, rfl, r1, r3⟩
/-- len of a str, a bytes, a list, a tuple -/
def LenV (K : PySem.W.Frag) (x : V) (H : Hp) (n : Nat) : Prop :=
  match x with
  | .str y => y.length ≤ sizeLine ∧ n = y.length
  | .byt y => y.size ≤ sizeLine ∧ n = y.size
  | .ref p => (∃ xs, SqL K H p xs ∧ n = xs.length) ∨ ∃ xs, SqT K H p xs ∧ n = xs.length
  | _ => False
end
end L2

namespace L2
open PySem PySem.Spec PyProof.Rows

/-! ### an instance, its attributes a map -/
structure ObjM (h : Heap) (x dx C : Addr) (mA : Str → Option Value) : Prop where
  obj : h.get? x = some (PySem.W.instObj C dx)
  ns : h.Ns1 dx mA
  ne : dx ≠ x

theorem lookIn_ns {h : Heap} {dx : Addr} {mA : Str → Option Value} (n : h.Ns1 dx mA) : ∃ od, h.get? dx = some od ∧ ∀ name, PySem.W.lookIn name od = some (mA name) := by
  obtain ⟨o, es, ep, ho, hd, hk, _, hm⟩ := n
  refine ⟨o, ho, fun name => ?_⟩
  have e := hm name
  unfold nsFind findBy at e
  rw [← Array.find?_toList] at e
  unfold PySem.W.lookIn
  rw [hd]
  dsimp only
  split
  · rename_i y q
    rw [q] at e
    exact congrArg some e
  · rename_i q
    rw [q] at e
    have a : es.toList.any (·.refKey) = false := by
      rw [List.any_eq_false]
      intro y hy
      obtain ⟨z, t, hkey⟩ := hk y (Array.mem_toList_iff.mp hy)
      simp [DictEntry.refKey, hkey]
    have a' : ¬ es.toList.any (·.refKey) = true := by rw [a]; exact Bool.false_ne_true
    rw [if_neg a']
    exact congrArg some e

theorem ObjM.look {h : Heap} {x dx C : Addr} {mA : Str → Option Value} (I : ObjM h x dx C mA) : ∃ od, PySem.W.InstAt h x (PySem.W.instObj C dx) C (some od) ∧ ∀ name, PySem.W.lookIn name od = some (mA name) :=
  let ⟨od, ho, hl⟩ := lookIn_ns I.ns
  ⟨od, ⟨I.obj, rfl, rfl, ho⟩, hl⟩

section
variable {prog : Program} {w : World} {A : Around} {E : Value → Shared → Prop} {s : Shared} {K : PySem.W.Frag} {x dx C f : Addr} {mA : Str → Option Value} {name : Str} {v : Value}

end

/-! ### the attributes as a list of pairs -/
def putF (f : Str) (v : V) : List (Str × V) → List (Str × V)
  | [] => [(f, v)]
  | (g, x) :: r => if g = f then (g, v) :: r else (g, x) :: putF f v r
section
variable {P : Program} {w : World} {H H' : Hp} {h h' : Heap} {a C dx : Addr} {fs fs' : List (Str × V)}
theorem ins_get (hok : HOk P w H h) (e : H a = some (.ins C dx fs)) : ∃ mA, ObjM h a dx C mA ∧ (∀ f, RelO (fs.lookup f) (mA f)) ∧ PySem.Within mA (fs.map (·.1)) ∧ fs.length ≤ 1000 ∧ H dx = some (.own a) := by
  obtain ⟨d, z, ne, ob, mA, n, r, q⟩ := (show ObjOk P w H h a (.ins C dx fs) from hok a _ e)
  exact ⟨mA, ⟨ob, n, ne⟩, r, q, z, d⟩
end

/-! ### what of the text a class must have -/
structure Cls (K : PySem.W.Frag) (C : Addr) : Prop where
  pg : PySem.W.plainGet K C Str.empty = true
  hd : PySem.W.hasDictIn K C = true
  po : PySem.W.plainOver K C = true
  sa : PySem.W.findIn K (.ref C) "__setattr__" = some (some (.builtin "object.__setattr__"))
theorem Cls.get {K : PySem.W.Frag} {C : Addr} (c : Cls K C) (f : Str) : PySem.W.plainGet K C f = true := c.pg
/-- no class of it has the name -/
def NoAttr (K : PySem.W.Frag) (C : Addr) (f : Str) : Prop := PySem.W.findIn K (.ref C) f = some none
/-- a constant of the class -/
structure Con (K : PySem.W.Frag) (C : Addr) (f : Str) (v : V) (u : Value) : Prop where
  at_ : PySem.W.findIn K (.ref C) f = some (some u)
  rel : RelV v u
  get : PySem.W.specialIn K u "__get__" = some none
  cp : PySem.W.copiedNames.contains f = false
/-- a method: a plain def of the class or of one above it -/
structure Meth (K : PySem.W.Frag) (C : Addr) (m : Str) (f : Addr) : Prop where
  at_ : PySem.W.findIn K (.ref C) m = some (some (.ref f))
  fn : PySem.W.isFn K (.ref f) = true
  kp : PySem.W.keepIn K (.ref f) = true

section
variable {X : Cx} {pins : List (Addr × Obj)} {σ : St} {H : Hp} {s : Shared} {a C dx : Addr} {fs : List (Str × V)} {f : Str} {v : V} {A : Around} {E : Value → Shared → Prop}

/-- a new instance, tracked, without attributes -/
theorem Inv.made (I : Inv X pins σ H s) : Inv X pins σ (upd (upd H s.heap.objs.size (.own (s.heap.objs.size + 1))) (s.heap.objs.size + 1) (.ins C s.heap.objs.size []))
    { s with heap := (s.heap.push PySem.W.emptyDict).push (PySem.W.instObj C s.heap.objs.size) } := by
  have e1 : (s.heap.push PySem.W.emptyDict).get? s.heap.objs.size = some PySem.W.emptyDict := Heap.get?_push_size s.heap rfl
  have e2 : ((s.heap.push PySem.W.emptyDict).push (PySem.W.instObj C s.heap.objs.size)).get? (s.heap.objs.size + 1) = some (PySem.W.instObj C s.heap.objs.size) := by
    have := Heap.get?_push_size (s.heap.push PySem.W.emptyDict) (o := PySem.W.instObj C s.heap.objs.size) rfl
    rwa [Heap.size_push] at this
  have e3 : (s.heap.push PySem.W.emptyDict).Ns s.heap.objs.size (fun _ => none) := ⟨PySem.W.emptyDict, #[], _, e1, rfl, (fun e he => absurd he (by simp)), fun _ => rfl⟩
  have I1 := I.laid (a := s.heap.objs.size) (o := .own (s.heap.objs.size + 1)) (h' := s.heap.push PySem.W.emptyDict) (t' := s.toks) (fun b u q => Heap.get?_push_of_some _ q) (Nat.le_refl _) ⟨_, e1⟩
  refine I1.laid (a := s.heap.objs.size + 1) (o := .ins C s.heap.objs.size []) (t' := s.toks) (fun b u q => Heap.get?_push_of_some _ q) (Nat.le_of_eq (Heap.size_push _ _)) ?_
  have ne : s.heap.objs.size ≠ s.heap.objs.size + 1 := Nat.ne_of_lt (Nat.lt_succ_self _)
  refine ⟨by rw [upd_ne ne, upd_same], Nat.zero_le _, ne, e2, fun _ => none, (Heap.Ns1.of_empty e3).at fun o q => Heap.get?_push_of_some _ q, fun _ => True.intro, fun y hy => absurd rfl hy⟩

end

/-! ### readings and rules -/
/-- e.f, an attribute of the instance -/
def tFld (K : PySem.W.Frag) (ta : TE) (f : Str) : TE := fun σ H Q => ta σ H fun x H1 => ∃ a C dx fs v, x = .ref a ∧ H1 a = some (.ins C dx fs) ∧ Cls K C ∧ NoAttr K C f ∧ fs.lookup f = some v ∧ Q v H1
/-- e.f, a constant of the class -/
def tCon (K : PySem.W.Frag) (ta : TE) (f : Str) : TE := fun σ H Q => ta σ H fun x H1 => ∃ a C dx fs v u, x = .ref a ∧ H1 a = some (.ins C dx fs) ∧ Cls K C ∧ Con K C f v u ∧ fs.lookup f = none ∧ Q v H1
/-- e.f = value -/
def sFld (K : PySem.W.Frag) (ta tv : TE) (f : Str) : TS := fun D σ H => tv σ H fun y H1 => ta σ H1 fun x H2 => ∃ a C dx fs, x = .ref a ∧ H2 a = some (.ins C dx fs) ∧ Cls K C ∧ NoAttr K C f ∧ fs.length < 1000 ∧
  D.nx σ (upd H2 a (.ins C dx (putF f y fs)))
/-- an augmented operator on two values -/
def InOp (X : Cx) (op : Operator) (rd : V → V → Hp → VK → Prop) : Prop :=
  ∀ (pins : List (Addr × Obj)) (s : Shared) (σ : St) (H : Hp) (x y : V) (u v : Value) (Q : VK), Inv X pins σ H s → RelV x u → RelV y v → rd x y H Q → wpAny (model X.prog X.w) X.A (inplaceOp op u v) (EP X pins σ Q) X.xe s
/-- e.f op= value -/
def sFldAug (K : PySem.W.Frag) (ta tv : TE) (rd : V → V → Hp → VK → Prop) (f : Str) : TS := fun D σ H => ta σ H fun x H1 => ∃ a C dx fs v, x = .ref a ∧ H1 a = some (.ins C dx fs) ∧ Cls K C ∧ NoAttr K C f ∧ fs.lookup f = some v ∧
  tv σ H1 fun y H2 => rd v y H2 fun z H3 => ∃ dx' fs', H3 a = some (.ins C dx' fs') ∧ fs'.length < 1000 ∧ D.nx σ (upd H3 a (.ins C dx' (putF f z fs')))

section
variable {X : Cx} {o e value : Expr} {f : Str} {pos pos' tpos : Pos} {ta tv : TE}
def rAdd : V → V → Hp → VK → Prop := fun x y H Q => ∃ i j, x = .int i ∧ y = .int j ∧ Q (.int (i + j)) H
def rSub : V → V → Hp → VK → Prop := fun x y H Q => ∃ i j, x = .int i ∧ y = .int j ∧ Q (.int (i - j)) H
end

/-! ### isinstance -/
section
variable {X : Cx} {pins : List (Addr × Obj)} {σ : St} {H : Hp} {s : Shared} {A : Around} {E : Value → Shared → Prop} {Q : Value → Shared → Prop} {c : Value} {b : Bool}
/-- the type of a value, as the fragment's deciders take it; for an instance its class -/
inductive TyOf (K : PySem.W.Frag) (H : Hp) : V → Value → Prop where
  | non : TyOf K H .non (.type "NoneType")
  | bl (x : Bool) : TyOf K H (.bl x) (.type "bool")
  | int (i : Int) : TyOf K H (.int i) (.type "int")
  | str (x : Str) : TyOf K H (.str x) (.type "str")
  | flt (x : UInt64) : TyOf K H (.flt x) (.type "float")
  | lst {a : Addr} {xs : List V} (e : H a = some (.lst xs)) : TyOf K H (.ref a) (.type "list")
  | frz {a : Addr} {o : Obj} {xs : List V} (e : H a = some (.frz o (.lst xs))) : TyOf K H (.ref a) (.type "list")
  | tup {a : Addr} {xs : List V} (e : H a = some (.tup xs)) : TyOf K H (.ref a) (.type "tuple")
  | dK {a : Addr} {kvs : List (Key × V)} (e : H a = some (.dK kvs)) : TyOf K H (.ref a) (.type "dict")
  | dT {a : Addr} {kvs : List (List Key × V)} (e : H a = some (.dT kvs)) : TyOf K H (.ref a) (.type "dict")
  | ins {a C dx : Addr} {fs : List (Str × V)} (e : H a = some (.ins C dx fs)) (cl : Cls K C) (ha : PySem.W.findIn K (.ref C) "__class__" = some (some (.builtin "object.__class__")))
      (hn : PySem.W.specialIn K (.builtin "object.__class__") "__get__" = some (some (.builtin "getset_descriptor.__get__"))) (htk : PySem.W.takesIn K (.builtin "object.__class__") = some true)
      (hm : PySem.W.mroIn K C (.type "object") = some true) : TyOf K H (.ref a) (.ref C)
/-- isinstance(x, c) for one class c, a built-in or an own one: kitOne's answer -/
theorem isinst_ok {x : V} {u t : Value} (I : Inv X pins σ H s) (rx : RelV x u) (ty : TyOf X.K H x t) (e : PySem.W.kitOne X.K t c = some b) (h : ∀ tk, Q (.bool b) { s with toks := tk }) :
    wpAny (model X.prog X.w) A (call (.builtin "isinstance") [u, c]) Q E s := by
  cases ty with
  | non => cases (show u = Value.none from rx); exact PySem.W.kia_one PySem.W.kitx_none I.kIn True.intro e (fun z => nomatch z) h
  | bl y => cases (show u = Value.bool y from rx); exact PySem.W.kia_one PySem.W.kitx_bool I.kIn True.intro e (fun z => nomatch z) h
  | int i => obtain ⟨t, q⟩ := (show ∃ t, u = Value.int i t from rx); cases q; exact PySem.W.kia_one PySem.W.kitx_int I.kIn True.intro e (fun z => nomatch z) h
  | str y => obtain ⟨t, q⟩ := (show ∃ t, u = Value.str y t from rx); cases q; exact PySem.W.kia_one PySem.W.kitx_str I.kIn True.intro e (fun z => nomatch z) h
  | flt y => obtain ⟨t, q⟩ := (show ∃ t, u = Value.float y t from rx); cases q; exact PySem.W.kia_one PySem.W.kitx_float I.kIn True.intro e (fun z => nomatch z) h
  | @lst a xs ea =>
    cases (show u = Value.ref a from rx)
    obtain ⟨_, _, n, _, h1⟩ := (show ObjOk X.prog X.w H s.heap a (.lst xs) from I.hok a _ ea)
    exact PySem.W.kia_one PySem.W.kitx_list I.kIn ⟨_, h1, rfl⟩ e (fun z => nomatch z) h
  | @frz a ob xs ea =>
    cases (show u = Value.ref a from rx)
    obtain ⟨_, _, _, n, _, h1⟩ := (show ObjOk X.prog X.w H s.heap a (.frz ob (.lst xs)) from I.hok a _ ea)
    exact PySem.W.kia_one PySem.W.kitx_list I.kIn ⟨_, h1, rfl⟩ e (fun z => nomatch z) h
  | @tup a xs ea =>
    cases (show u = Value.ref a from rx)
    obtain ⟨_, _, _, p⟩ := (show ObjOk X.prog X.w H s.heap a (.tup xs) from I.hok a _ ea)
    obtain ⟨o, h1, h2, _⟩ := p
    exact PySem.W.kia_one PySem.W.kitx_tuple I.kIn ⟨o, h1, h2⟩ e (fun z => nomatch z) h
  | @dK a kvs ea =>
    cases (show u = Value.ref a from rx)
    obtain ⟨_, _, vs, _, p⟩ := (show ObjOk X.prog X.w H s.heap a (.dK kvs) from I.hok a _ ea)
    obtain ⟨o, es, ep, h1, h2, _⟩ := p
    exact PySem.W.kia_one PySem.W.kitx_dict I.kIn ⟨o, h1, h2.1⟩ e (fun z => nomatch z) h
  | @dT a kvs ea =>
    cases (show u = Value.ref a from rx)
    obtain ⟨_, _, xs, _, o, es, ep, h1, h2, _⟩ := (show ObjOk X.prog X.w H s.heap a (.dT kvs) from I.hok a _ ea)
    exact PySem.W.kia_one PySem.W.kitx_dict I.kIn ⟨o, h1, h2.1⟩ e (fun z => nomatch z) h
  | @ins a C dx fs ea cl ha hn htk hm =>
    cases (show u = Value.ref a from rx)
    obtain ⟨mA, O, _⟩ := ins_get I.hok ea
    obtain ⟨od, J, _⟩ := O.look
    exact PySem.W.kia_one (PySem.W.kitx_own (cl.get _) cl.hd ha hn htk hm) I.kIn J e (fun z => nomatch z) h
end
end L2

namespace L2
open PySem PySem.Spec PyProof.Rows

/-! ### room -/
structure Room (k : Nat) (A : Around) : Prop where
  hd : A.handled = none
  dp : A.depth + 3 * k + 5 < recursionLimit
  un : A.units + 16 * k + 200 < cLine
theorem Room.mono {j k : Nat} {A : Around} (r : Room k A) (h : j ≤ k) : Room j A := ⟨r.hd, by have := r.dp; omega, by have := r.un; omega⟩
theorem Room.deeper {k : Nat} {A : Around} (r : Room (k + 1) A) (env : Env) : Room k (A.deeper env) :=
  ⟨r.hd, by have := r.dp; show A.depth + 1 + 3 * k + 5 < _; omega, by have := r.un; show A.units + 3 + 16 * k + 200 < _; omega⟩
theorem make_depth {A : Around} {C : Addr} {us : List Value} {kw : List (Str × Value)} : (A.under (.builtin "type.__call__" ⟨.ref C :: us, kw⟩)).depth = A.depth + 1 := by
  first | rfl | simp [Around.under, Code.weight, Code.isCreation, Code.isGuard, Code.isCaller, Code.frames, Code.isFrame, guardIds]
theorem make_units {A : Around} {C : Addr} {us : List Value} {kw : List (Str × Value)} : (A.under (.builtin "type.__call__" ⟨.ref C :: us, kw⟩)).units = A.units + 1 := by
  first | rfl | simp [Around.under, Code.cUnits, Code.frames, Code.isFrame]
theorem Room.make {k : Nat} {A : Around} (r : Room (k + 1) A) (C : Addr) (us : List Value) (kw : List (Str × Value)) : Room k (A.under (.builtin "type.__call__" ⟨.ref C :: us, kw⟩)) :=
  ⟨r.hd, by have := r.dp; rw [make_depth]; omega, by have := r.un; rw [make_units]; omega⟩
theorem Room.depth {k : Nat} {A : Around} (r : Room k A) : A.depth < recursionLimit := by have := r.dp; omega
theorem Room.units {k : Nat} {A : Around} (r : Room k A) : A.units + 64 < cLine := by have := r.un; omega
/-! ### argument lists and displays -/
def tNil : TA := fun _ H Q => Q [] H
def tCons (ta : TE) (tr : TA) : TA := fun σ H Q => ta σ H fun x H1 => tr σ H1 fun xs H2 => Q (x :: xs) H2
section
variable {X : Cx} {e : Expr} {es : List Expr} {te : TE} {t : TA} {pos : Pos}
theorem pa_nil : PA X [] tNil := fun _ _ _ _ H Q I h => Calls.spliced_nil ⟨[], H, I, .nil, h⟩
theorem pa_cons (ha : PE X e te) (hr : PA X es t) (hs : starEach (e :: es) X.env = (false, eval e X.env) :: starEach es X.env := by rfl) : PA X (e :: es) (tCons te t) := by
  intro pos pins s σ H Q I h
  rw [hs]
  show wpAny _ _ (spliced ((false, eval e X.env) :: backTo pos (starEach es X.env))) _ _ s
  refine Calls.spliced_cons (thn (ha pins s σ H _ I h) fun u s1 ⟨x, H1, I1, r1, q1⟩ => ?_)
  exact thn (hr pos pins s1 σ H1 _ I1 q1) fun us s2 ⟨xs, H2, I2, r2, q2⟩ => ⟨x :: xs, H2, I2, .cons r1 r2, q2⟩

/-- a tuple, a list of written items -/
def tTup (t : TA) : TE := fun σ H Q => t σ H fun xs H1 => xs.length ≤ sizeLine ∧ ∀ p, H1 p = none → Q (.ref p) (upd H1 p (.tup xs))
def tLst (t : TA) : TE := fun σ H Q => t σ H fun xs H1 => xs.length ≤ sizeLine ∧ ∀ p, H1 p = none → Q (.ref p) (upd H1 p (.lst xs))
end

/-! ### what a def promises -/
/-- a def's promise: the bound arguments in the parameters' order, the heap, the wanted end, the wanted exception -/
abbrev Sp := List V → Hp → VK → XK → Prop
/-- how an exception lies behind a call (file 08 gives it): the callers' frames, abstract heap and state ahead of the call, the wish, the exception, the state -/
abbrev CXT := List Env → Hp → Shared → XK → Value → Shared → Prop

/-- the state at a call -/
structure Env0 (P : Program) (w : World) (K : PySem.W.Frag) (mg : Str → Option Value) (base : Heap) (A : Around) (outer : List Env) (s : Shared) (H : Hp) : Prop where
  frames : A.frames = some outer
  mod : Mod K mg base
  bs : ∀ b o, base.get? b = some o → s.heap.get? b = some o ∧ H b = none
  bsz : base.objs.size ≤ s.heap.objs.size
  funs : s.heap.FunFrames base outer
  frf : ∀ b ∈ frs outer, H b = none
  hok : HOk P w H s.heap
  bare : AllBare s.gens
/-- a call's end -/
def CE (outer : List Env) (P : Program) (w : World) (H : Hp) (s : Shared) (Q : VK) (u : Value) (s' : Shared) : Prop :=
  ∃ v H', s'.os = s.os ∧ AllBare s'.gens ∧ Un (frs outer) [] H H' s.heap s'.heap ∧ HOk P w H' s'.heap ∧ RelV v u ∧ Q v H'
def CR (CX : CXT) (outer : List Env) (P : Program) (w : World) (H : Hp) (s : Shared) (Q : VK) (E : XK) (r : Result) (s' : Shared) : Prop :=
  match r with
  | .ok (.ret u) => CE outer P w H s Q u s'
  | .ok _ => False
  | .error e => CX outer H s E e s'
structure FnOk (P : Program) (w : World) (K : PySem.W.Frag) (mg : Str → Option Value) (base : Heap) (CX : CXT) (k : Nat) (f : Addr) (fd : FuncData) (ps : List Str) (sp : Sp) : Prop where
  len : ∀ vs H Q E, sp vs H Q E → vs.length = ps.length
  run : ∀ (A : Around) (outer : List Env) (s : Shared) (H : Hp) (args : Args) (us : List Value) (vs : List V) (Q : VK) (E : XK), Room k A → Env0 P w K mg base A outer s H → BindsTo s fd args (ps.zip us) → Vals vs us → sp vs H Q E →
    codeAny (model P w) A (.call (.ref f) args) (CR CX outer P w H s Q E) s
theorem FnOk.mono {P : Program} {w : World} {K : PySem.W.Frag} {mg : Str → Option Value} {base : Heap} {CX : CXT} {j k : Nat} {f : Addr} {fd : FuncData} {ps : List Str} {sp : Sp} (F : FnOk P w K mg base CX j f fd ps sp) (h : j ≤ k) :
    FnOk P w K mg base CX k f fd ps sp := ⟨F.len, fun A outer s H args us vs Q E hr => F.run A outer s H args us vs Q E (hr.mono h)⟩
theorem Env0.make {P : Program} {w : World} {K : PySem.W.Frag} {mg : Str → Option Value} {base : Heap} {A : Around} {outer : List Env} {s : Shared} {H : Hp} (e : Env0 P w K mg base A outer s H) (C : Addr) (us : List Value) (kw : List (Str × Value)) :
    Env0 P w K mg base (A.under (.builtin "type.__call__" ⟨.ref C :: us, kw⟩)) outer s H := ⟨by first | exact e.frames | (simpa [Around.under, Code.envs, Code.isFrame, pushEnvs] using e.frames), e.mod, e.bs, e.bsz, e.funs, e.frf, e.hok, e.bare⟩
section
variable {X : Cx} {pins : List (Addr × Obj)} {σ : St} {H : Hp} {s s' : Shared}
/-- from a body: what a callee wants -/
theorem Inv.env0 (I : Inv X pins σ H s) : Env0 X.prog X.w X.K X.mg X.base X.A X.stack s H :=
  ⟨I.ok.frames, I.ok.mod, I.bs, Nat.le_trans I.ok.bsz I.sz, I.stack, I.stkFree, I.hok, I.bare⟩
/-- behind a call -/
theorem Inv.after {Q : VK} {u : Value} (I : Inv X pins σ H s) (h : CE X.stack X.prog X.w H s Q u s') : EP X pins σ Q u s' := by
  obtain ⟨v, H', os, bare, un, hok, r, q⟩ := h
  obtain ⟨hh, g, d, t, os'⟩ := s'
  obtain rfl : os' = s.os := os
  exact ⟨v, H', I.call (h' := hh) (g' := g) (d' := d) (t' := t) (ch := []) un hok bare (fun b z => absurd z (by simp)), r, q⟩
end

/-! ### calls -/
/-- f(..): the written arguments, then the defaults dvs; E: what is wanted of an exception -/
def tCall (sp : Sp) (dvs : List V) (E : XK) (t : TA) : TE := fun σ H Q => t σ H fun vs H1 => sp (vs ++ dvs) H1 Q E
/-- o.m(..) of an instance of the class at C -/
def tMeth (C : Addr) (m : Str) (sp : Sp) (dvs : List V) (E : XK) (ta : TE) (t : TA) : TE := fun σ H Q => ta σ H fun x H1 => ∃ a dx fs, x = .ref a ∧ H1 a = some (.ins C dx fs) ∧ fs.lookup m = none ∧
  t σ H1 fun vs H2 => sp (x :: (vs ++ dvs)) H2 Q E
/-- C(..): a new instance and its dict, then __init__ -/
def tMake (C : Addr) (sp : Sp) (dvs : List V) (E : XK) (t : TA) : TE := fun σ H Q => t σ H fun vs H1 => ∀ x dx, H1 x = none → H1 dx = none → dx ≠ x →
  sp (.ref x :: (vs ++ dvs)) (upd (upd H1 dx (.own x)) x (.ins C dx [])) (fun v H2 => v = .non ∧ Q (.ref x) H2) E

/-- how the parameters are bound: us the positional arguments, kw the keywords' values by name, ds the defaults that fill up -/
def Binds (K : PySem.W.Frag) (fd : FuncData) (ps : List Str) (ds : List Value) : Prop :=
  ∀ (s : Shared) (us : List Value), K.In s.heap → (us ++ ds).length = ps.length → BindsTo s fd ⟨us, []⟩ (ps.zip (us ++ ds))
/-- every parameter is given -/
theorem Binds.all {K : PySem.W.Frag} {fd : FuncData} {ps : List Str} (h : ∀ us : List Value, us.length = ps.length → bindArgs fd ⟨us, []⟩ = pure (ps.zip us)) : Binds K fd ps [] := fun s us _ hl => by
  rw [List.append_nil] at hl ⊢
  exact .of_eq (h us hl)

/-- an exception of a callee reaches what this body wants of exceptions -/
def Passes (CX : CXT) (X : Cx) (E : XK) : Prop := ∀ (pins : List (Addr × Obj)) (σ : St) (H : Hp) (s : Shared) (e : Value) (s' : Shared), Inv X pins σ H s → CX X.stack H s E e s' → X.xe e s'

section
variable {X : Cx} {CX : CXT} {k : Nat} {f C : Addr} {fd : FuncData} {ps : List Str} {sp : Sp} {dvs : List V} {ds : List Value} {E : XK} {x m : Str} {p pos apos : Pos} {e o : Expr} {es : List Expr} {ta : TE} {t : TA}

/-- the callee runs -/
theorem run_fn {pins : List (Addr × Obj)} {σ : St} {H : Hp} {s : Shared} {Q : VK} {us : List Value} {vs : List V} (F : FnOk X.prog X.w X.K X.mg X.base CX k f fd ps sp) (hr : Room k X.A) (hb : Binds X.K fd ps ds) (hd : Vals dvs ds) (hx : Passes CX X E)
    (I : Inv X pins σ H s) (r : Vals vs us) (h : sp (vs ++ dvs) H Q E) : wpAny (model X.prog X.w) X.A (call (.ref f) us) (EP X pins σ Q) X.xe s := by
  have r2 : Vals (vs ++ dvs) (us ++ ds) := r.append hd
  have hl : (us ++ ds).length = ps.length := by rw [← r2.length]; exact F.len _ _ _ _ h
  refine wpAny_call (codeAny_mono (F.run X.A X.stack s H ⟨us, []⟩ (us ++ ds) (vs ++ dvs) Q E hr I.env0 (hb s us I.kIn hl) r2 h) fun r s' hq => ?_)
  cases r with
  | error e => exact hx pins σ H s e s' I hq
  | ok fl =>
    cases fl with
    | ret u => exact I.after hq
    | next => exact False.elim hq
    | brk => exact False.elim hq
    | cont => exact False.elim hq

theorem pe_call (F : FnOk X.prog X.w X.K X.mg X.base CX k f fd ps sp) (hr : Room k X.A) (hg : Gl X x) (hm : X.mg x = some (.ref f)) (hk : PySem.W.keepIn X.K (.ref f) = true) (hb : Binds X.K fd ps ds) (hd : Vals dvs ds) (hx : Passes CX X E)
    (ha : PA X (e :: es) t) (hdb : (x == ("__debug__" : Str)) = false := by decide) (he : starEach (e :: es) X.env = (false, eval e X.env) :: starEach es X.env := by rfl) (hpl : (backTo pos (starEach es X.env)).any (·.1) = false := by rfl) :
    PE X (.Call (.Name x p) (e :: es) [] pos) (tCall sp dvs E t) := by
  intro pins s σ H Q I h
  refine wpAny_Call_Name_kw (ld_glob I hg hm ?_ hdb)
  refine PySem.W.callWith_K (h₀ := X.base) I.ok.mod.kin hk (thn (ha pos pins s σ H _ I h) fun us s1 ⟨vs, H1, I1, r, q⟩ => ⟨I1.kIn, ?_⟩) he hpl
  exact run_fn F hr hb hd hx I1 r q
/-- what a class must have to be made -/
structure Mk (K : PySem.W.Frag) (C f : Addr) : Prop where
  makes : PySem.W.makesIn K C = true
  init : PySem.W.findIn K (.ref C) "__init__" = some (some (.ref f))
  fn : PySem.W.isFn K (.ref f) = true
  kp : PySem.W.keepIn K (.ref C) = true

end

/-! ### keywords -/
/-- the values of the keywords, from the left -/
def PK (X : Cx) (kws : List Keyword) (t : TA) : Prop :=
  ∀ (pos : Pos) (pins : List (Addr × Obj)) (s : Shared) (σ : St) (H : Hp) (Q : List V → Hp → Prop), Inv X pins σ H s → t σ H Q → wpAny (model X.prog X.w) X.A (evalAll ((backToKw pos (keywordEach kws X.env)).map (·.2))) (AP X pins σ Q) X.xe s
section
variable {X : Cx} {CX : CXT} {k : Nat} {f C : Addr} {fd : FuncData} {ps ks : List Str} {sp : Sp} {E : XK} {x m : Str} {p pos apos kpos : Pos} {e o : Expr} {es : List Expr} {kws : List Keyword} {te ta : TE} {t tk : TA} {nm : Option Str}
/-- how a call with keywords binds: g puts the positional values us and the keywords' values ws (names ks) in the parameters' order, defaults among them -/
structure KBinds (K : PySem.W.Frag) (fd : FuncData) (ps ks : List Str) (g : List Value → List Value → List Value) (gV : List V → List V → List V) : Prop where
  to : ∀ (s : Shared) (us ws : List Value), K.In s.heap → (g us ws).length = ps.length → BindsTo s fd ⟨us, ks.zip ws⟩ (ps.zip (g us ws))
  rel : ∀ {vs : List V} {us : List Value} {zs : List V} {ws : List Value}, Vals vs us → Vals zs ws → Vals (gV vs zs) (g us ws)
def tCallK (sp : Sp) (gV : List V → List V → List V) (E : XK) (t tk : TA) : TE := fun σ H Q => t σ H fun vs H1 => tk σ H1 fun zs H2 => sp (gV vs zs) H2 Q E
variable {g : List Value → List Value → List Value} {gV : List V → List V → List V}
end

/-! ### a def's body keeps its promise -/
/-- names: the parameters first -/
structure FnScope (N P : List Str) (sc : Scope) : Prop where
  kind : sc.kind = .function
  co : sc.isCoroutine = false
  gen : sc.isGenerator = false
  nd : N.Nodup
  pre : N.take P.length = P
  par : ∀ x ∈ P, sc.names.lookup x = some .local ∨ sc.names.lookup x = some .cell
  nofree : ∀ y ∈ sc.names, y.2 ≠ .free

theorem bindL_out {kindOf : Str → Option NameKind} {x : Str} : ∀ {binds : List (Str × Value)} {m : Str → Option Value}, (∀ v, (x, v) ∉ binds) → bindL kindOf binds m x = m x
  | [], _, _ => rfl
  | (n, v) :: r, m, h => by
    unfold bindL
    rw [bindL_out fun w hw => h w (List.mem_cons_of_mem _ hw)]
    split
    · have : x ≠ n := by rintro rfl; exact h v List.mem_cons_self
      simp [this]
    · rfl
theorem bindC_out {kindOf : Str → Option NameKind} {x : Str} : ∀ {binds : List (Str × Value)} {m : Str → Option Value}, (∀ v, (x, v) ∉ binds) → bindC kindOf binds m x = m x
  | [], _, _ => rfl
  | (n, v) :: r, m, h => by
    unfold bindC
    rw [bindC_out fun w hw => h w (List.mem_cons_of_mem _ hw)]
    split
    · rfl
    · have : x ≠ n := by rintro rfl; exact h v List.mem_cons_self
      simp [this]
theorem bindL_get {kindOf : Str → Option NameKind} {x : Str} {v : Value} : ∀ {P : List Str} {vs : List Value} {i : Nat} {m : Str → Option Value}, P.Nodup → P[i]? = some x → vs[i]? = some v → kindOf x = some .local →
    bindL kindOf (P.zip vs) m x = some v
  | [], _, _, _, _, h, _, _ => by simp at h
  | _ :: _, [], _, _, _, _, h, _ => by simp at h
  | p :: P, w :: vs, 0, m, nd, h1, h2, hk => by
    simp at h1 h2; subst h1; subst h2
    show bindL kindOf ((p, w) :: P.zip vs) m p = _
    unfold bindL
    rw [bindL_out fun v hv => (List.nodup_cons.mp nd).1 (List.of_mem_zip hv).1, if_pos hk]
    simp
  | p :: P, w :: vs, i + 1, m, nd, h1, h2, hk => by
    show bindL kindOf ((p, w) :: P.zip vs) m x = _
    unfold bindL
    exact bindL_get (i := i) (List.nodup_cons.mp nd).2 (by simpa using h1) (by simpa using h2) hk
theorem bindC_get {kindOf : Str → Option NameKind} {x : Str} {v : Value} : ∀ {P : List Str} {vs : List Value} {i : Nat} {m : Str → Option Value}, P.Nodup → P[i]? = some x → vs[i]? = some v → kindOf x ≠ some .local →
    bindC kindOf (P.zip vs) m x = some v
  | [], _, _, _, _, h, _, _ => by simp at h
  | _ :: _, [], _, _, _, _, h, _ => by simp at h
  | p :: P, w :: vs, 0, m, nd, h1, h2, hk => by
    simp at h1 h2; subst h1; subst h2
    show bindC kindOf ((p, w) :: P.zip vs) m p = _
    unfold bindC
    rw [bindC_out fun v hv => (List.nodup_cons.mp nd).1 (List.of_mem_zip hv).1, if_neg hk]
    simp
  | p :: P, w :: vs, i + 1, m, nd, h1, h2, hk => by
    show bindC kindOf ((p, w) :: P.zip vs) m x = _
    unfold bindC
    exact bindC_get (i := i) (List.nodup_cons.mp nd).2 (by simpa using h1) (by simpa using h2) hk

/-- the names' values at the entry -/
def start (N : List Str) (vs : List V) : St := vs.map some ++ List.replicate (N.length - vs.length) none

/-- the context of a def's body, at its entry; an exception leaves the frame, then lies as CX says -/
def cxOf (CX : CXT) (P : Program) (w : World) (K : PySem.W.Frag) (mg : Str → Option Value) (base : Heap) (N : List Str) (qual : Str) (scope : Scope) (f : Addr) (cd : Value) (A : Around) (outer : List Env) (s : Shared) (H : Hp) (E : XK) : Cx where
  prog := P
  w := w
  K := K
  mg := mg
  base := base
  A := A.deeper (envOfC qual scope s.heap.objs.size f cd)
  N := N
  s₀ := s
  H₀ := H
  env := envOfC qual scope s.heap.objs.size f cd
  outer := outer
  stack := envOfC qual scope s.heap.objs.size f cd :: outer
  ex := []
  calm := true
  fn := fun _ => true
  pn := []
  xe := fun e s' => wpAny (model P w) (A.deeper (envOfC qual scope s.heap.objs.size f cd)) (leaving (envOfC qual scope s.heap.objs.size f cd) e) (fun _ s'' => CX outer H s E e s'') (fun e' s'' => CX outer H s E e' s'') s'

theorem cell_has {sc : Scope} {n : Nat} {x : Str} (h : sc.names.lookup x = some .cell) : ∃ c, (cellsFrom n sc.names []).lookup x = some c := by
  have q := PySem.W.cellsFrom_some sc.names n [] (.inl h)
  exact Option.isSome_iff_exists.mp q

theorem inv_start {CX : CXT} {P : Program} {w : World} {K : PySem.W.Frag} {mg : Str → Option Value} {base : Heap} {N ps : List Str} {qual : Str} {scope : Scope} {f : Addr} {cd : Value} {A : Around} {outer : List Env} {s s1 : Shared} {H : Hp} {E : XK} {us : List Value} {vs : List V}
    (S : FnScope N ps scope) (hd : A.handled = none) (e0 : Env0 P w K mg base A outer s H) (hl : vs.length = ps.length) (r : Vals vs us)
    (x : InCallC s s.heap.objs.size (bindL (envOfC qual scope s.heap.objs.size f cd).kindOf (ps.zip us) fun _ => none) (cellsFrom (s.heap.objs.size + 1) scope.names []) (bindC (envOfC qual scope s.heap.objs.size f cd).kindOf (ps.zip us) fun _ => none) s1) :
    Inv (cxOf CX P w K mg base N qual scope f cd A outer s H E) [] (start N vs) H s1 := by
  have hpl : ps.length ≤ N.length := by have := congrArg List.length S.pre; rw [List.length_take] at this; omega
  obtain ⟨h1, tk, rfl, hk⟩ := x.done
  have noA : ∀ b : Addr, b ∉ (cxOf CX P w K mg base N qual scope f cd A outer s H E).ex := fun b z => absurd (show b ∈ ([] : List Addr) from z) (by simp)
  refine ⟨⟨e0.mod, S.kind, rfl, rfl, Nat.le_refl _, fun y z c h1 h2 => ?_, fun y hy => ?_, fun y c _ h => ?_, fun _ => hd, Around.frames_deeper e0.frames, .inr ⟨rfl, rfl⟩, fun b z => absurd z (noA b), e0.bs, e0.bsz, fun b _ _ => noA b, fun b z => absurd z (noA b), e0.funs, e0.frf⟩,
    rfl, e0.bare, Un.kept hk, ⟨_, x.toInCall.ns, fun i y v h1 h2 h3 => ?_⟩, fun y c h => ⟨_, x.cell y c h⟩, e0.hok.fresh (Nat.le_refl _), fun y c h => ?_, fun p hp => absurd (show p ∈ ([] : List (Addr × Obj)) from hp) (by simp), e0.hok.kept hk, ?_⟩
  · exact name_of_addr x.apart (PySem.mem_of_lookup h1) (PySem.mem_of_lookup h2)
  · have hy : scope.names.lookup y = some .cell ∨ scope.names.lookup y = some .free := hy
    rcases hy with hy | hy
    · exact cell_has hy
    · exact absurd rfl (S.nofree _ (PySem.mem_of_lookup hy))
  · exact Nat.le_of_lt (x.above y c (PySem.mem_of_lookup h))
  · have hi : i < vs.length := by
      unfold start at h2
      by_cases hi : i < vs.length
      · exact hi
      · rw [List.getElem?_append_right (by simpa using hi)] at h2
        rw [List.getElem?_replicate] at h2
        split at h2 <;> cases h2
    have ha : vs[i]? = some v := by
      unfold start at h2
      rw [List.getElem?_append_left (by simpa using hi), List.getElem?_map] at h2
      cases e : vs[i]? with
      | none => rw [e] at h2; cases h2
      | some a => rw [e] at h2; cases h2; rfl
    obtain ⟨u, hu, rv⟩ := r.get ha
    have hp : ps[i]? = some y := by
      rw [← S.pre, List.getElem?_take_of_lt (by omega)]; exact h1
    have ndP : ps.Nodup := by rw [← S.pre]; exact S.nd.sublist (List.take_sublist _ _)
    refine ⟨u, rv, ?_⟩
    rcases S.par y (List.mem_of_getElem? hp) with k | k
    · exact .inl ⟨k, bindL_get ndP hp hu k⟩
    · obtain ⟨c, e⟩ := cell_has (n := s.heap.objs.size + 1) k
      refine .inr ⟨.inl k, c, e, ?_⟩
      have q := x.cell y c e
      rw [bindC_get ndP hp hu (by show scope.names.lookup y ≠ _; rw [k]; decide)] at q
      exact q
  · exact e0.hok.fresh (Nat.le_of_lt (x.above y c (PySem.mem_of_lookup h)))
  · unfold start
    show _ = N.length
    rw [List.length_append, List.length_map, List.length_replicate]
    omega

/-- THE RULE: a def (or a method) of the text, by its body. The body's reading t is chosen for each entry; it is run at the parameters' values -/
theorem fn_of {CX : CXT} {P : Program} {w : World} {K : PySem.W.Frag} {mg : Str → Option Value} {base : Heap} {k : Nat} {f : Addr} {name qual : Str} {params : Arguments} {body : List Stmt} {scope : Scope} {dV kV doc pm cdv ct oc : Value} {an od : Option Addr}
    {osl : Array (Option Value)} {N ps : List Str} {sp : Sp} (lk : K.lookup f = some ⟨oc, od, .func (PySem.W.fnOf name qual params body scope dV kV doc pm an cdv ct), osl⟩) (hcd : PySem.W.codeIn K cdv qual = true) (S : FnScope N ps scope)
    (len : ∀ vs H Q E, sp vs H Q E → vs.length = ps.length)
    (hbody : ∀ (A : Around) (outer : List Env) (s : Shared) (H : Hp) (vs : List V) (Q : VK) (E : XK), Room k (A.deeper (envOfC qual scope s.heap.objs.size f cdv)) → sp vs H Q E →
      ∃ t, PSs (cxOf CX P w K mg base N qual scope f cdv A outer s H E) body t ∧ t { nx := fun _ H' => Q .non H', rt := Q } (start N vs) H) :
    FnOk P w K mg base CX (k + 1) f (PySem.W.fnOf name qual params body scope dV kV doc pm an cdv ct) ps sp := by
  refine ⟨len, fun A outer s H args us vs Q E hr e0 hb r hsp => ?_⟩
  have hl := len _ _ _ _ hsp
  have KX : K.In s.heap := e0.mod.kin.keeps fun b o e => (e0.bs b o e).1
  have lim : s.heap.NoLimit := e0.mod.nolimit.keeps fun b o e => (e0.bs b o e).1
  have hkind : ∀ y ∈ ps.zip us, scope.names.lookup y.1 = some .local ∨ (scope.names.lookup y.1 = some .cell ∧ ((cellsFrom (s.heap.objs.size + 1) scope.names []).lookup y.1).isSome = true) := fun ⟨n, v⟩ hy => by
    rcases S.par n (List.of_mem_zip hy).1 with q | q
    · exact .inl q
    · exact .inr ⟨q, PySem.W.cellsFrom_some _ _ _ (.inl q)⟩
  refine codeAny_call_function hr.depth (KX _ _ lk) rfl S.co S.gen rfl (PySem.W.codeRec_of KX hcd) (hb _ _ _ _ ?_)
  refine wpAny_newFunctionEnv_cells S.kind hkind fun env he s1 x => ?_
  subst he
  refine ⟨lim.keeps x.toInCall.keep, codeAny_func ?_⟩
  obtain ⟨t, ht, hq⟩ := hbody A outer s H vs Q E (hr.deeper _) hsp
  have I : Inv (cxOf CX P w K mg base N qual scope f cdv A outer s H E) [] (start N vs) H s1 := inv_start S hr.hd e0 hl r x
  refine wpAny_mono (ht [] s1 (start N vs) H _ I hq) (fun fl s' hs => ?_) fun e s' hs => hs
  have fin : ∀ {σ' : St} {H' : Hp} {v : V} {u : Value}, Inv (cxOf CX P w K mg base N qual scope f cdv A outer s H E) [] σ' H' s' → RelV v u → Q v H' → CE outer P w H s Q u s' :=
    fun {σ' H' v u} J rv q => ⟨v, H', J.os, J.bare, J.base, J.hok, rv, q⟩
  cases fl with
  | ret u =>
    obtain ⟨v, σ', H', J, rv, q⟩ := hs
    exact fin J rv q
  | next =>
    obtain ⟨σ', H', J, q⟩ := hs
    exact fin (v := V.non) (u := Value.none) J rfl q
  | brk =>
    obtain ⟨_, _, _, q⟩ := hs
    exact False.elim q
  | cont =>
    obtain ⟨_, _, _, q⟩ := hs
    exact False.elim q
end L2

namespace L2
open PySem PySem.Spec PyProof.Rows
section
variable {X : Cx} {x : Str} {p pos : Pos} {e : Expr} {es : List Expr} {t : TA} {id T : String} {r : List V → Hp → VK → Prop}

def tCB (r : List V → Hp → VK → Prop) (t : TA) : TE := fun σ H Q => t σ H fun vs H1 => r vs H1 Q
/-- f(e, ..), f a built-in function -/
theorem pe_callB (hc : CallR X (.builtin id) r) (hg : Gl X x) (hm : X.mg x = none) (hv : bootBuiltins x = some (.builtin id)) (ha : PA X (e :: es) t) (hn : x ≠ "__name__" := by decide) (hdb : (x == ("__debug__" : Str)) = false := by decide)
    (he : starEach (e :: es) X.env = (false, eval e X.env) :: starEach es X.env := by rfl) (hpl : (backTo pos (starEach es X.env)).any (·.1) = false := by rfl) : PE X (.Call (.Name x p) (e :: es) [] pos) (tCB r t) := by
  intro pins s σ H Q I h
  refine wpAny_Call_Name_kw (ld_blt I hg hm hv ?_ hn hdb)
  exact PyProof.Rows.callWith_builtin1 (thn (ha pos pins s σ H _ I h) fun us s1 ⟨vs, H1, I1, r1, q1⟩ => hc pins s1 σ H1 vs us Q I1 r1 q1) he hpl
end
end L2

namespace HT
open PySem PyProof.Rows

/-- t < u of tuples of ints -/
def lexLt : List Int → List Int → Bool
  | [], [] => false
  | [], _ :: _ => true
  | _ :: _, [] => false
  | x :: xs, y :: ys => if x = y then lexLt xs ys else decide (x < y)
section
open PySem.SeqAt
open PySem.AutoSeq1 (wpAny_loadPart')
open PySem.MeetsSeq PySem.MeetsSeq2 PySem.MeetsSeq3

end

section
variable {prog : Program} {w : World} {A : Around} {E : Value → Shared → Prop} {s : Shared}

/-! ### t[a:b], not the whole -/
/-- a slice's bound as a place among n (d where it is left out) -/
def sIx (n d : Nat) : Option Int → Nat
  | none => d
  | some v => if v < 0 then (v + (n : Int)).toNat else min v.toNat n
end
end HT

namespace L2
open PySem PySem.Spec PyProof.Rows

/-! ### the parts of a slice -/
abbrev TO := St → Hp → (Option Int → Hp → Prop) → Prop
/-- a slice's part (left out, or an int) -/
def PO (X : Cx) (e : Option Expr) (t : TO) : Prop :=
  ∀ (pins : List (Addr × Obj)) (s : Shared) (σ : St) (H : Hp) (Q : Option Int → Hp → Prop), Inv X pins σ H s → t σ H Q →
    wpAny (model X.prog X.w) X.A (evalPart e X.env) (fun u s' => ∃ o H', Inv X pins σ H' s' ∧ IsPart u o ∧ Q o H') X.xe s
def tNoPart : TO := fun _ H Q => Q none H
def tPart (t : TE) : TO := fun σ H Q => t σ H fun x H1 => ∃ i, x = .int i ∧ Q (some i) H1

theorem intsAre_of {ns : List Int} : ∀ {us : List Value}, Vals (ns.map V.int) us → IntsAre us ns := by
  induction ns with
  | nil => intro us r; rw [List.map_nil] at r; cases r; exact .nil
  | cons n ns ih =>
    intro us r
    rw [List.map_cons] at r
    cases r with
    | cons r1 r2 =>
      obtain ⟨t, e⟩ := r1
      subst e
      exact .cons n t (ih r2)

section
variable {X : Cx} {e : Expr} {te : TE} {lo hi : Option Expr} {tl th : TO} {pos p2 : Pos}

/-- what a slice of a value is, by values: the slice object stands at sl -/
def SlR (X : Cx) (r : V → Option Int → Option Int → Hp → VK → Prop) : Prop :=
  ∀ (pins : List (Addr × Obj)) (s : Shared) (σ : St) (H : Hp) (x : V) (v vl vu : Value) (lo hi : Option Int) (sl : Addr) (Q : VK), Inv X pins σ H s → RelV x v → s.heap.IsSliceOf sl vl vu .none → IsPart vl lo → IsPart vu hi → r x lo hi H Q →
    ∃ T id, typeLookup (.type T) "__getitem__" = pure (some (.builtin id)) ∧ s.TypeIs v T ∧ wpAny (model X.prog X.w) X.A (getItem v (.ref sl)) (EP X pins σ Q) X.xe s
theorem SlR.or {r r' : V → Option Int → Option Int → Hp → VK → Prop} (h : SlR X r) (h' : SlR X r') : SlR X (fun x lo hi H Q => r x lo hi H Q ∨ r' x lo hi H Q) := by
  intro pins s σ H x v vl vu lo hi sl Q I rx hs pl pu q
  rcases q with q | q
  · exact h pins s σ H x v vl vu lo hi sl Q I rx hs pl pu q
  · exact h' pins s σ H x v vl vu lo hi sl Q I rx hs pl pu q
def tSl (r : V → Option Int → Option Int → Hp → VK → Prop) (te : TE) (tl th : TO) : TE := fun σ H Q => te σ H fun x H1 => tl σ H1 fun l H2 => th σ H2 fun u H3 => r x l u H3 Q
/-- the items of xs[lo:hi] -/
def cutV (xs : List V) (lo hi : Option Int) : List V := (xs.drop (HT.sIx xs.length 0 lo)).take (HT.sIx xs.length xs.length hi - HT.sIx xs.length 0 lo)
/-- t[lo:hi], not the whole of it (the whole would be t itself) -/
def rSlT (K : PySem.W.Frag) : V → Option Int → Option Int → Hp → VK → Prop := fun x lo hi H Q => ∃ a xs, x = .ref a ∧ SqT K H a xs ∧
  ¬ (HT.sIx xs.length 0 lo = 0 ∧ HT.sIx xs.length xs.length hi = xs.length) ∧ ∀ p, H p = none → Q (.ref p) (upd H p (.tup (cutV xs lo hi)))
/-! ### t < u, t + u -/
def rLtT (K : PySem.W.Frag) : R2 := fun x y H Q => ∃ a b ns ms, x = .ref a ∧ y = .ref b ∧ SqT K H a (ns.map V.int) ∧ SqT K H b (ms.map V.int) ∧ Q (.bl (HT.lexLt ns ms)) H
/-- t + u, t not empty: u empty gives t itself -/
def rCatT (K : PySem.W.Frag) : R2 := fun x y H Q => ∃ a b xs ys, x = .ref a ∧ y = .ref b ∧ SqT K H a xs ∧ SqT K H b ys ∧ xs ≠ [] ∧ xs.length + ys.length ≤ sizeLine ∧
  (ys = [] → Q (.ref a) H) ∧ (ys ≠ [] → ∀ p, H p = none → Q (.ref p) (upd H p (.tup (xs ++ ys))))
end
end L2

namespace L2
open PySem PySem.Spec PyProof.Rows

/-! ### places -/
/-- the place that an index of any sign means -/
def ixN (n : Nat) (i : Int) : Option Nat := if 0 ≤ i then (if i < n then some i.toNat else none) else if -(n : Int) ≤ i then some (i + n).toNat else none
def atI {α : Type} (xs : List α) (i : Int) : Option α := (ixN xs.length i).bind fun j => xs[j]?
theorem ixN_seq {n : Nat} {i : Int} {j : Nat} (h : ixN n i = some j) : seqIndex? i n = some j ∧ j < n ∧ -(n : Int) ≤ i ∧ i < n := by
  unfold ixN at h
  by_cases h0 : 0 ≤ i
  · rw [if_pos h0] at h
    by_cases h1 : i < n
    · rw [if_pos h1] at h
      have e : i.toNat = j := Option.some.inj h
      exact ⟨by rw [seqIndex_of h0 h1, e], by omega, by omega, h1⟩
    · rw [if_neg h1] at h; cases h
  · rw [if_neg h0] at h
    by_cases h1 : -(n : Int) ≤ i
    · rw [if_pos h1] at h
      have e : (i + n).toNat = j := Option.some.inj h
      exact ⟨by rw [seqIndex_neg (by omega) h1, e], by omega, h1, by omega⟩
    · rw [if_neg h1] at h; cases h
theorem atI_get {α : Type} {xs : List α} {i : Int} {v : α} (h : atI xs i = some v) : ∃ j, seqIndex? i xs.length = some j ∧ xs[j]? = some v ∧ j < xs.length ∧ -(xs.length : Int) ≤ i ∧ i < xs.length := by
  unfold atI at h
  cases e : ixN xs.length i with
  | none => rw [e] at h; cases h
  | some j =>
    rw [e] at h
    obtain ⟨h1, h2, h3, h4⟩ := ixN_seq e
    exact ⟨j, h1, h, h2, h3, h4⟩
theorem atI_nat {α : Type} {xs : List α} {j : Nat} {v : α} (h : xs[j]? = some v) : atI xs (j : Int) = some v := by
  have hj : j < xs.length := (List.getElem?_eq_some_iff.mp h).1
  have e : ixN xs.length (j : Int) = some j := by
    unfold ixN
    rw [if_pos (by omega), if_pos (by omega)]; simp
  unfold atI; rw [e]; exact h
/-! ### what may be subscripted -/
/-- what stands as an index of a plain subscript -/
def PlainIx (b : Expr) : Prop := ∀ o i, subscripted b false o i = operate [o, i] (getItem o i)
/-- a subscript by values -/
def IxR (X : Cx) (r : R2) : Prop :=
  ∀ (value slice : Expr) (pins : List (Addr × Obj)) (s : Shared) (σ : St) (H : Hp) (x y : V) (v u : Value) (Q : VK), Inv X pins σ H s → RelV x v → RelV y u → r x y H Q →
    subscripted slice false v u = operate [v, u] (getItem v u) → wpAny (model X.prog X.w) X.A (subscriptTail value slice v u) (EP X pins σ Q) X.xe s
/-- a call of a builtin's method by values: the receiver, the arguments -/
def MtR (X : Cx) (id : String) (r : V → List V → Hp → VK → Prop) : Prop :=
  ∀ (pins : List (Addr × Obj)) (s : Shared) (σ : St) (H : Hp) (x : V) (xs : List V) (v : Value) (us : List Value) (Q : VK), Inv X pins σ H s → RelV x v → Vals xs us → r x xs H Q →
    wpAny (model X.prog X.w) X.A (call (.builtin id) (v :: us)) (EP X pins σ Q) X.xe s
section
variable {X : Cx} {a b : Expr} {ta tb : TE} {pos : Pos}
theorem IxR.or {r r' : R2} (h : IxR X r) (h' : IxR X r') : IxR X (fun x y H Q => r x y H Q ∨ r' x y H Q) := by
  intro value slice pins s σ H x y v u Q I rx ry q hs
  rcases q with q | q
  · exact h value slice pins s σ H x y v u Q I rx ry q hs
  · exact h' value slice pins s σ H x y v u Q I rx ry q hs
theorem MtR.or {id : String} {r r' : V → List V → Hp → VK → Prop} (h : MtR X id r) (h' : MtR X id r') : MtR X id (fun x xs H Q => r x xs H Q ∨ r' x xs H Q) := by
  intro pins s σ H x xs v us Q I rx rs q
  rcases q with q | q
  · exact h pins s σ H x xs v us Q I rx rs q
  · exact h' pins s σ H x xs v us Q I rx rs q
/-- a[b] -/
theorem pe_ix {r : R2} (hr : IxR X r) (ha : PE X a ta) (hb : PE X b tb) (hs : PlainIx b) : PE X (.Subscript a b pos) (tOp r ta tb) := by
  intro pins s σ H Q I h
  exact Subscript_ (binT ha hb I h fun v u s2 x y H2 I2 rx ry q => hr a b pins s2 σ H2 x y v u Q I2 rx ry q (hs _ _))

def rIxL (K : PySem.W.Frag) : R2 := fun x y H Q => ∃ p xs i v, x = .ref p ∧ y = .int i ∧ SqL K H p xs ∧ atI xs i = some v ∧ Q v H
def rIxT (K : PySem.W.Frag) : R2 := fun x y H Q => ∃ p xs i v, x = .ref p ∧ y = .int i ∧ SqT K H p xs ∧ atI xs i = some v ∧ Q v H
def rIxS : R2 := fun x y H Q => ∃ z i c, x = .str z ∧ y = .int i ∧ z.length ≤ sizeLine ∧ atI z.cps.toList i = some c ∧ Q (.str ⟨#[c]⟩) H
theorem ix_list : IxR X (rIxL X.K) := by
  intro value slice pins s σ H x y v u Q I rx ry h hs
  obtain ⟨p, xs, i, z, rfl, rfl, hq, he, q⟩ := h
  cases rx
  obtain ⟨t, rfl⟩ := ry
  obtain ⟨its, r, pl, hz⟩ := I.list hq
  obtain ⟨j, h1, h2, h3, h4, h5⟩ := atI_get he
  obtain ⟨w, ew, rw'⟩ := r.get h2
  have hl := r.length
  have hn := line63
  have fin : EP X pins σ Q w s := ⟨z, H, I, rw', q⟩
  by_cases h0 : 0 ≤ i
  · have hj : i.toNat = j := by
      rw [seqIndex_of h0 h5] at h1
      exact Option.some.inj h1
    exact item_listR pl.isList h0 (by omega) (by rw [hj]; simpa using ew) fin hs
  · have hj : (i + (its.toArray.size : Int)).toNat = j := by
      rw [seqIndex_neg (by omega) h4] at h1
      rw [List.size_toArray, ← hl]
      exact Option.some.inj h1
    exact subscriptTail_builtinR (x := w) pl.isList.typeIs slot_list_getitem.lookup
      (wpAny_getItem_list_neg (Q := fun r s' => r = w ∧ EP X pins σ Q r s') pl.isList (by omega) (by rw [List.size_toArray] <;> omega) (by omega) (by rw [hj]; simpa using ew) ⟨rfl, fin⟩) hs
/-- list, tuple or str -/
def rIx (K : PySem.W.Frag) : R2 := fun x y H Q => rIxL K x y H Q ∨ rIxT K x y H Q ∨ rIxS x y H Q
/-! ### xs[i] = v, any sign -/
theorem Inv.lst {pins : List (Addr × Obj)} {σ : St} {H : Hp} {s : Shared} {p : Addr} {xs : List V} (I : Inv X pins σ H s) (h : H p = some (.lst xs)) :
    ∃ (its : List Value) (n : Nat), Vals xs its ∧ s.heap.get? p = some { cls := .type "list", data := .seq its.toArray n } ∧ xs.length ≤ sizeLine := by
  obtain ⟨z, its, n, r, e⟩ := I.hok p _ h
  exact ⟨its, n, r, e, z⟩
def rSetL : V → V → V → Hp → (Hp → Prop) → Prop := fun o i v H Q => ∃ p xs k j, o = .ref p ∧ i = .int k ∧ H p = some (.lst xs) ∧ ixN xs.length k = some j ∧ Q (upd H p (.lst (xs.set j v)))
/-! ### slices -/
/-- xs[lo:hi] of a list: a new list -/
def rSlL (K : PySem.W.Frag) : V → Option Int → Option Int → Hp → VK → Prop := fun x lo hi H Q => ∃ a xs, x = .ref a ∧ SqL K H a xs ∧ ∀ p, H p = none → Q (.ref p) (upd H p (.lst (cutV xs lo hi)))
/-! ### in, not in: flat items -/
def flatV : V → Bool
  | .non => true
  | .bl _ => true
  | .int _ => true
  | .str _ => true
  | _ => false
/-- == of flat values -/
def eqV : V → V → Bool
  | .non, .non => true
  | .bl a, .bl b => a == b
  | .bl a, .int b => (if a then 1 else 0) == b
  | .int a, .bl b => a == (if b then 1 else 0)
  | .int a, .int b => a == b
  | .str a, .str b => a == b
  | _, _ => false
/-- the items' answers, read off the values (a value's own answer does not lean on its token) -/
def eqU (x : V) (u : Value) : Bool := match u with
  | .none => eqV .non x
  | .bool b => eqV (.bl b) x
  | .int i _ => eqV (.int i) x
  | .str z _ => eqV (.str z) x
  | _ => false
def inV (x : V) (xs : List V) : Bool := xs.any fun y => eqV y x
/-- x in a list or tuple of flat items -/
def rIn (K : PySem.W.Frag) (neg : Bool) : R2 := fun x y H Q => ∃ p xs, y = .ref p ∧ (SqL K H p xs ∨ SqT K H p xs) ∧ flatV x = true ∧ xs.all flatV = true ∧ Q (.bl (if neg then !inV x xs else inV x xs)) H
/-! ### len, list(x), tuple(x) of any list or tuple that is read -/
theorem call_len_seq : CallR X (.builtin "len") (fun xs H Q => ∃ p ys, xs = [.ref p] ∧ (SqL X.K H p ys ∨ SqT X.K H p ys) ∧ Q (.int ys.length) H) := by
  intro pins s σ H xs us Q I r h
  obtain ⟨p, ys, rfl, hq, q⟩ := h
  obtain ⟨u, rfl, rx⟩ := vals1 r
  cases rx
  have hn := line63
  rcases hq with hq | hq
  · obtain ⟨its, r', pl, hz⟩ := I.list hq
    have hlen := r'.length
    exact Calls.call_len_list pl.isList (by simp only [List.size_toArray] <;> omega) ⟨.int ys.length, H, I.tok _, ⟨s.toks + 1, by rw [List.size_toArray, hlen]⟩, q⟩
  · obtain ⟨its, r', pl, hz⟩ := I.tuple hq
    have hlen := r'.length
    exact len_tuple pl (by simp only [List.size_toArray] <;> omega) ⟨.int ys.length, H, I.tok _, ⟨s.toks + 1, by rw [List.size_toArray, hlen]⟩, q⟩
theorem CallR.or {f : Value} {r r' : List V → Hp → VK → Prop} (h : CallR X f r) (h' : CallR X f r') : CallR X f (fun xs H Q => r xs H Q ∨ r' xs H Q) := by
  intro pins s σ H xs us Q I rs q
  rcases q with q | q
  · exact h pins s σ H xs us Q I rs q
  · exact h' pins s σ H xs us Q I rs q
/-! ### the call of a builtin's method: o.m(..) -/
/-- the value is of that builtin type -/
def tyV (K : PySem.W.Frag) (T : String) (x : V) (H : Hp) : Prop := match x with
  | .str _ => T = "str"
  | .int _ => T = "int"
  | .ref p => (T = "list" ∧ ∃ xs, SqL K H p xs) ∨ (T = "tuple" ∧ ∃ o, K.lookup p = some o ∧ o.cls = .type "tuple" ∧ o.dict = none) ∨
      (T = "dict" ∧ ((∃ kvs, H p = some (.dK kvs)) ∨ ∃ kvs, H p = some (.dT kvs))) ∨ (T = "set" ∧ ∃ S n, H p = some (.set S n))
  | _ => False
def tBM0 (K : PySem.W.Frag) (T : String) (r : V → List V → Hp → VK → Prop) (to : TE) : TE := fun σ H Q => to σ H fun x H1 => tyV K T x H1 ∧ r x [] H1 Q
def tBM (K : PySem.W.Frag) (T : String) (r : V → List V → Hp → VK → Prop) (to : TE) (t : TA) : TE := fun σ H Q => to σ H fun x H1 => tyV K T x H1 ∧ t σ H1 fun xs H2 => r x xs H2 Q
variable {o e : Expr} {es : List Expr} {to : TE} {t : TA} {name : Str} {apos cpos : Pos} {T id : String} {r : V → List V → Hp → VK → Prop}
/- xs.append(e), list.index on a module's tuple .. are MtR facts of 06m -/
end
end L2

namespace L2
open PySem PySem.Spec PyProof.Rows

def MtM (X : Cx) (id : String) (r : V → List V → Hp → VK → Prop) : Prop :=
  ∀ (pins : List (Addr × Obj)) (s : Shared) (σ : St) (H : Hp) (x : V) (xs : List V) (v : Value) (us : List Value) (Q : VK), Inv X pins σ H s → RelV x v → Vals xs us → r x xs H Q →
    wpAny (model X.prog X.w) X.A (call (.builtin id) (v :: us)) (EP X pins σ Q) X.xe s

/-! ### lists of values -/
theorem Vals.one : ∀ {x : V} {us : List Value}, Vals [x] us → ∃ u, us = [u] ∧ RelV x u
  | _, _, .cons r .nil => ⟨_, rfl, r⟩
theorem Vals.two : ∀ {x y : V} {us : List Value}, Vals [x, y] us → ∃ u v, us = [u, v] ∧ RelV x u ∧ RelV y v
  | _, _, _, .cons r (.cons q .nil) => ⟨_, _, rfl, r, q⟩
theorem Vals.zero : ∀ {us : List Value}, Vals [] us → us = []
  | _, .nil => rfl
theorem Vals.dropLast {xs : List V} {us : List Value} (h : Vals xs us) : Vals xs.dropLast us.dropLast := by
  induction h with
  | nil => exact .nil
  | cons r t ih =>
    cases t with
    | nil => exact .nil
    | cons q t' => exact .cons r ih
theorem Vals.eraseIdx : ∀ {xs : List V} {us : List Value} (i : Nat), Vals xs us → Vals (xs.eraseIdx i) (us.eraseIdx i)
  | _, _, _, .nil => .nil
  | _, _, 0, .cons _ t => t
  | _, _, i + 1, .cons r t => .cons r (Vals.eraseIdx i t)
theorem Vals.reverse {xs : List V} {us : List Value} (h : Vals xs us) : Vals xs.reverse us.reverse := by
  induction h with
  | nil => exact .nil
  | cons r t ih => rw [List.reverse_cons, List.reverse_cons]; exact Vals.append ih (.cons r .nil)
section
variable {X : Cx} {pins : List (Addr × Obj)} {σ : St} {H : Hp} {s : Shared} {l b : Addr} {xs ys zs : List V}

/-! ### the two steps: a tracked list is rewritten, a new list is laid -/
theorem Inv.lset {its its' : List Value} {n : Nat} {f : Array Value → Array Value} {t' : Nat} (I : Inv X pins σ H s) (hH : H l = some (.lst xs))
    (e : s.heap.get? l = some { cls := .type "list", data := .seq its.toArray n }) (hf : f its.toArray = its'.toArray) (hv : Vals ys its') (hz : ys.length ≤ sizeLine) :
    Inv X pins σ (upd H l (.lst ys)) { s with heap := s.heap.update l (Obj.mapSeq f), toks := t' } := by
  have q := PySem.IsL.update e f
  rw [hf] at q
  refine I.write (x := l) (e := l) (by rw [hH]; exact trivial) (.inl rfl) (fun b' u hb hu => (Heap.get?_update_other s.heap (Obj.mapSeq f) (Ne.symm hb)).trans hu) ⟨_, q⟩ ?_
  exact ⟨hz, its', _, hv, q⟩
theorem Inv.lnew {its : List Value} {t' : Nat} (I : Inv X pins σ H s) (hv : Vals ys its) (hz : ys.length ≤ sizeLine) :
    Inv X pins σ (upd H s.heap.objs.size (.lst ys)) { s with heap := s.heap.push { cls := .type "list", data := .seq its.toArray }, toks := t' } :=
  I.laid (fun _ _ q => Heap.get?_push_of_some _ q) (Nat.le_refl _) ⟨hz, its, 0, hv, Heap.get?_push_size _ rfl⟩
theorem Inv.fresh (I : Inv X pins σ H s) : H s.heap.objs.size = none := I.hok.fresh (Nat.le_refl _)
theorem Inv.lstM (I : Inv X pins σ H s) (hH : H l = some (.lst xs)) : xs.length ≤ sizeLine ∧ ∃ (its : List Value) (n : Nat), Vals xs its ∧ xs.length = its.length ∧ s.heap.get? l = some { cls := .type "list", data := .seq its.toArray n } := by
  obtain ⟨z, its, n, r, e⟩ := I.hok l _ hH
  exact ⟨z, its, n, r, r.length, e⟩

end

section
variable {X : Cx}

/-! ### methods -/
def rAppend : V → List V → Hp → VK → Prop := fun x vs H Q => ∃ l xs y, x = .ref l ∧ vs = [y] ∧ H l = some (.lst xs) ∧ xs.length < sizeLine ∧ Q .non (upd H l (.lst (xs ++ [y])))
theorem mt_append : MtM X "list.append" rAppend := by
  intro pins s σ H x vs v us Q I rx rv h
  obtain ⟨l, xs, y, rfl, rfl, hH, hz, q⟩ := h
  cases rx
  obtain ⟨u, rfl, ru⟩ := rv.one
  obtain ⟨z, its, n, r, hl, e⟩ := I.lstM hH
  refine call_meets F.slot_list_append ⟨_, e, rfl⟩ F.entry_list_append (F.args_list_append_2 _ _) (PySem.list_append l its.toArray n u (by rw [List.size_toArray]; omega)) ⟨e, ?_⟩
  refine ⟨.non, _, I.lset (its' := its ++ [u]) hH e (by simp) (r.append (.cons ru .nil)) ?_, rfl, q⟩
  rw [List.length_append, List.length_singleton]
  omega

def rExtend : V → List V → Hp → VK → Prop := fun x vs H Q => ∃ l b xs zs, x = .ref l ∧ vs = [.ref b] ∧ H l = some (.lst xs) ∧ H b = some (.lst zs) ∧ xs.length + zs.length ≤ sizeLine ∧ Q .non (upd H l (.lst (xs ++ zs)))
def rPop : V → List V → Hp → VK → Prop := fun x vs H Q => ∃ l xs y, x = .ref l ∧ vs = [] ∧ H l = some (.lst xs) ∧ xs[xs.length - 1]? = some y ∧ Q y (upd H l (.lst xs.dropLast))
def rPopAt : V → List V → Hp → VK → Prop := fun x vs H Q => ∃ l xs i k y, x = .ref l ∧ vs = [.int i] ∧ H l = some (.lst xs) ∧ -(2 ^ 63) ≤ i ∧ i < 2 ^ 63 ∧ seqIndex? i xs.length = some k ∧ xs[k]? = some y ∧ Q y (upd H l (.lst (xs.eraseIdx k)))
def rReverse : V → List V → Hp → VK → Prop := fun x vs H Q => ∃ l xs, x = .ref l ∧ vs = [] ∧ H l = some (.lst xs) ∧ Q .non (upd H l (.lst xs.reverse))
def rClear : V → List V → Hp → VK → Prop := fun x vs H Q => ∃ l xs, x = .ref l ∧ vs = [] ∧ H l = some (.lst xs) ∧ Q .non (upd H l (.lst []))
/-! ### list + list, list += list, list * int -/
def rCat : R2 := fun x y H Q => ∃ l b xs zs, x = .ref l ∧ y = .ref b ∧ H l = some (.lst xs) ∧ H b = some (.lst zs) ∧ xs.length + zs.length ≤ sizeLine ∧ ∀ p, H p = none → Q (.ref p) (upd H p (.lst (xs ++ zs)))
/-- a list times an int (a negative one is nothing) -/
def rRep : R2 := fun x y H Q => ∃ l k xs, x = .ref l ∧ y = .int k ∧ H l = some (.lst xs) ∧ -(2 ^ 63) ≤ k ∧ k < 2 ^ 63 ∧ xs.length * k.toNat ≤ sizeLine ∧
  ∀ p, H p = none → Q (.ref p) (upd H p (.lst (List.replicate k.toNat xs).flatten))
/-! ### del xs[i] -/
end

/-! ### xs[a:b] = ys -/
section
variable {prog : Program} {w : World} {A : Around} {E : Value → Shared → Prop} {s : Shared}
end

section
variable {X : Cx}
end
end L2

namespace Att
open PySem PySem.W PySem.Calls PyProof.Rows

/-! ### the script -/
theorem ints_of_wellAll {P : Params} {h : Heap} : ∀ (ns : List Int) (vs : List Value), WellAll P h vs (ns.map WData.int) → IntsAre vs ns := by
  intro ns
  induction ns with
  | nil =>
    intro vs w
    rw [List.map_nil] at w
    cases w
    exact .nil
  | cons n ns ih =>
    intro vs w
    rw [List.map_cons] at w
    cases w with
    | cons a b =>
      cases a
      exact .cons _ _ (ih _ b)

theorem script_of {l : OpenLaw} {n : Nat} (hn : l.most = some n) {P : Params} {h : Heap} {args : List WData} {vals : List Value}
    (hpre : l.row.toRowW.claim.pre args = true) (hwl : WellAll P h vals args) :
    ∃ a vs ns, vals = [Value.ref a] ∧ args = [WData.list (ns.map WData.int)] ∧ h.get? a = some { cls := .type "list", data := .seq vs.toArray } ∧ IntsAre vs ns ∧ ns.length ≤ n := by
  have hsh : WShape.hasAll [] args [.list .int] = true := (pre_splitW hpre).1
  have hc : l.pre.holds [] { args := args } = true := (pre_splitW hpre).2
  obtain ⟨d, r, rfl, h1, h2⟩ := hasAllW_cons hsh
  obtain rfl := hasAllW_nil h2
  obtain ⟨xs, rfl, h3⟩ := hasW_list h1
  obtain ⟨ns, rfl⟩ := items_int h3
  have hlen : ns.length ≤ n := by
    unfold OpenLaw.pre at hc
    have h4 : (WTm.not (.lt (.lit (.int (n : Int))) (.len (.arg 0)))).holds [] { args := [.list (ns.map .int)] } = true := by
      have h4 := (holds_andW hc).1
      rw [hn] at h4
      exact h4
    have h5 := condW_of h4 (w_not (w_lt w_lit (w_len_list (w_arg rfl))))
    rw [List.length_map] at h5
    refine Nat.le_of_not_lt fun q => ?_
    have q' : (n : Int) < ((ns.length : Nat) : Int) := by omega
    first
      | (rw [decide_eq_true q'] at h5; exact absurd h5 (by decide))
      | (simp at h5; omega)
  cases hwl with
  | cons w1 w2 =>
    cases w2
    cases w1 with
    | list ho hall => exact ⟨_, _, ns, rfl, rfl, ho, ints_of_wellAll ns _ hall, hlen⟩

theorem post_true (l : OpenLaw) (args : List WData) : l.row.toRowW.claim.post args (.bool true) args = true :=
  postW_of (r := l.row.toRowW) (X := (true == true))
    (show WShape.has [] (.bool true) .bool = true by first | rfl | decide | simp [WShape.has, WShape.arms, WShape.armsAll])
    (show (WTm.eq .res (.lit (.bool true))).value [] { args := args, res := some (.bool true), after := args } = some (.bool (true == true)) from w_eq_bool (w_res rfl) w_lit) rfl

/-! ### the attachment: holds_open's last premise (the goal 'hc' behind k_head) from a wpAny of the law's body -/
/-- the same from a codeAny of the CALL (for a layer whose function contracts speak of calls) -/
theorem attach_call {l : OpenLaw} {n : Nat} {q : Program} {loose : List Str} {XP : (Str → Option Value) → Heap → Prop} {YP : World → Heap → Prop} {d : DefRec}
    (hn : l.most = some n) (hdf : d.params.defaults = [])
    (call : ∀ (w : World) (s₀ s₁ : Shared) (mg mb : Str → Option Value) (fa : Addr) (o : Obj) (pm cd doc : Value) (a : Addr) (vs : List Value) (ns : List Int),
      Ground q loose [] XP w s₀ mg mb s₁.heap → YP w s₁.heap →
      s₁.heap.get? fa = some o → o.data = .func (docDef d.name d.params d.body d.scope pm cd doc) → s₁.heap.CodeRec cd d.name → mg d.name = some (.ref fa) →
      s₁.heap.get? a = some { cls := .type "list", data := .seq vs.toArray } → IntsAre vs ns → ns.length ≤ n → s₁.gens = #[] →
      codeAny (model l.prog w) callerA (.call (.ref fa) ⟨[.ref a], []⟩) (fun r s' => r = .ok (.ret (.bool true)) ∧ OldK s₁.heap s'.heap ∧ s'.os = s₁.os ∧ AllBare s'.gens) s₁) :
    WalkO q loose XP YP l.row.toRowW d [] (fun f vs => PySem.call f vs) := by
  intro w s₀ s₁ mg mb G Y fa o pm cd doc dV kV ho hd hcd hD hmg hg args vals as hpre hlay hrd hwl hlo
  obtain rfl : dV = .none := Dflts.none hD hdf
  obtain rfl : kV = .none := Dflts.noKw hD
  obtain ⟨a, vs, ns, rfl, rfl, hobj, hints, hlen⟩ := script_of hn hpre hwl
  refine enter_call (codeAny_mono (call w s₀ s₁ mg mb fa o pm cd doc a vs ns G Y ho (fd_plain hd) hcd hmg hobj hints hlen hg) fun r s' hq => ?_)
  obtain ⟨rfl, h2, h3, h4⟩ := hq
  exact ⟨.inl ⟨.bool true, .bool true, [], rfl, fun _ => rfl, .bool true, post_true l _, fun _ => ⟨List.Pairwise.nil, fun _ hm => (nomatch hm)⟩⟩, h2, h3, h4⟩

/-! ### rules over ANY heap (no ledger) from facts about the written part K: the library's own take a ledger (News) for what they write -/
section
variable {prog : Program} {w : World} {A : Around} {E : Value → Shared → Prop} {s : Shared} {K : Frag}

/-! the whole heap as the ledger: makes every rule that writes through a ledger a rule over any heap -/
def noObjs (h : Heap) : Heap := { h with objs := #[] }
def ledger (h : Heap) (L d : Addr) : List (Addr × Obj) := (List.range h.objs.size).filterMap fun a => if a = L ∨ a = d then none else (h.get? a).map fun o => (a, o)
end
end Att

namespace L2
open PySem PySem.Spec PyProof.Rows

theorem vals_ints : ∀ {vs : List Value} {ns : List Int}, IntsAre vs ns → Vals (ns.map V.int) vs
  | _, _, .nil => .nil
  | _, _, .cons n t h => .cons ⟨t, rfl⟩ (vals_ints h)

/-- nothing is tracked but the script, known to the object (or it is an object of the module) -/
def Only (H : Hp) : Prop := ∀ b, H b = none ∨ ∃ o xs, H b = some (.frz o (.lst xs))

/-- THE HEAD: the law's promise, at the heap behind the top. F, the promise of the law's def, may use that base is part of the heap (so K.In base, base.Ns mainGlobals mg stand in Mod) -/
theorem law_call {P : Program} {w : World} {K : PySem.W.Frag} {mg mb : Str → Option Value} {CX : CXT} {k : Nat} {fa a : Addr} {fd : FuncData} {x : Str} {sp : Sp} {s₁ : Shared} {vs : List Value} {ns : List Int}
    (KX : K.In s₁.heap) (hns : s₁.heap.Ns mainGlobals mg) (hb : s₁.heap.Ns builtinsNs mb) (hbb : ∀ x : Str, x ≠ "__name__" → mb x = bootBuiltins x) (hlim : s₁.heap.NoLimit) (hg : s₁.gens = #[])
    (ha : s₁.heap.get? a = some { cls := .type "list", data := .seq vs.toArray }) (hi : IntsAre vs ns) (hl : ns.length ≤ sizeLine) (hr : Room k callerA)
    (F : ∀ base : Heap, K.In base → base.Ns mainGlobals mg → FnOk P w K mg base CX k fa fd [x] sp) (hbind : ∀ (s : Shared) (u : Value), BindsTo s fd ⟨[u], []⟩ [(x, u)])
    (hsp : ∀ H : Hp, Only H → SqL K H a (ns.map V.int) → sp [.ref a] H (fun v _ => v = .bl true) fun _ _ _ => False)
    (hCX : ∀ H e s', CX [] H s₁ (fun _ _ _ => False) e s' → False) :
    codeAny (model P w) callerA (.call (.ref fa) ⟨[.ref a], []⟩) (fun r s' => r = .ok (.ret (.bool true)) ∧ OldK s₁.heap s'.heap ∧ s'.os = s₁.os ∧ AllBare s'.gens) s₁ := by
  have rv := vals_ints hi
  have lenV := hi.length
  -- from an abstract heap in which nothing but the script may be tracked
  have core : ∀ H : Hp, Only H → SqL K H a (ns.map V.int) → HOk P w H s₁.heap → (∀ b, H b ≠ none → b = a) → (H a ≠ none → K.lookup a = none) →
      codeAny (model P w) callerA (.call (.ref fa) ⟨[.ref a], []⟩) (fun r s' => r = .ok (.ret (.bool true)) ∧ OldK s₁.heap s'.heap ∧ s'.os = s₁.os ∧ AllBare s'.gens) s₁ := by
    intro H hO hS hok hA hK
    have base_of : ∀ {b : Addr} {o : Obj}, s₁.heap.get? b = some o → H b = none → (hidT s₁.heap H).get? b = some o := fun e n => hidT_get e n
    have noA : ∀ {b : Addr} {o : Obj} {es : Array DictEntry} {ep : Nat}, s₁.heap.get? b = some o → o.data = .dict es ep → H b = none := fun {b o es ep} e d => by
      cases q : H b with
      | none => rfl
      | some u =>
        have e' : b = a := hA b (by rw [q]; simp)
        subst e'
        rw [ha] at e; cases e
        have d' : Data.seq vs.toArray _ = Data.dict es ep := d
        cases d'
    have nsK : ∀ {b : Addr} {m : Str → Option Value}, s₁.heap.Ns b m → (hidT s₁.heap H).Ns b m := fun {b m} ⟨o, es, ep, e, d, r⟩ => ⟨o, es, ep, base_of e (noA e d), d, r⟩
    have hKb : K.In (hidT s₁.heap H) := fun b o e => base_of (KX b o e) (by
      cases q : H b with
      | none => rfl
      | some u =>
        have e' : b = a := hA b (by rw [q]; simp)
        subst e'
        rw [hK (by rw [q]; simp)] at e; cases e)
    have hM : Mod K mg (hidT s₁.heap H) := ⟨hKb, nsK hns, ⟨mb, nsK hb, hbb⟩, let ⟨mc, h1, h2⟩ := hlim; ⟨mc, nsK h1, h2⟩⟩
    have e0 : Env0 P w K mg (hidT s₁.heap H) callerA [] s₁ H := ⟨rfl, hM, fun b o e => of_hidT e, Nat.le_of_eq (hidT_size _ _), trivial, fun b hb => absurd (show b ∈ ([] : List Addr) from hb) (by simp), hok, .of_eq hg⟩
    refine codeAny_mono ((F _ hKb (nsK hns)).run callerA [] s₁ H ⟨[.ref a], []⟩ [.ref a] [.ref a] _ _ hr e0 (hbind s₁ (.ref a)) (.cons rfl .nil) (hsp H hO hS)) fun r s' h => ?_
    cases r with
    | error e => exact (hCX H e s' h).elim
    | ok fl =>
      cases fl with
      | next => exact False.elim h
      | brk => exact False.elim h
      | cont => exact False.elim h
      | ret u =>
        obtain ⟨v, H', os, bare, un, hok', r', q⟩ := h
        have q' : v = .bl true := q
        subst q'
        obtain rfl : u = Value.bool true := r'
        refine ⟨rfl, OldK.of_keep fun b o e => ?_, os, bare⟩
        cases q : H b with
        | none => exact un.keep b o e q (by intro z; exact absurd (show b ∈ ([] : List Addr) from z) (by simp)) (by simp)
        | some u =>
          rcases hO b with z | ⟨ob, xs, z⟩
          · rw [q] at z; cases z
          · have z2 := un.frzs b ob _ z
            obtain ⟨e1, _⟩ := hok b _ z
            obtain ⟨e2, _⟩ := hok' b _ z2
            rw [e] at e1; cases e1
            exact e2
  cases hk : K.lookup a with
  | some o =>
    -- the script is one of the module's own objects
    have e := KX a o hk
    rw [ha] at e
    cases e
    refine core (fun _ => none) (fun _ => .inl rfl) (.inr ⟨_, vs.toArray, _, hk, rfl, rfl, rfl, by rw [List.size_toArray, lenV]; exact hl, by simpa using rv⟩) (fun b u z => by have z' : (none : Option HO) = some u := z; cases z') (fun b z => absurd rfl z) fun z => absurd rfl z
  | none =>
    refine core (fun b => if b = a then some (.frz { cls := .type "list", data := .seq vs.toArray } (.lst (ns.map V.int))) else none) (fun b => ?_) (.inl (.inr ⟨{ cls := .type "list", data := .seq vs.toArray }, if_pos rfl⟩)) (fun b u z => ?_) (fun b z => ?_) fun _ => hk
    · by_cases hb : b = a
      · exact .inr ⟨_, _, if_pos hb⟩
      · exact .inl (if_neg hb)
    · by_cases hb : b = a
      · have z' := (if_pos hb).symm.trans z
        cases z'
        subst hb
        exact ⟨ha, by rw [List.length_map]; exact hl, vs, _, rv, ha⟩
      · have z' := (if_neg hb).symm.trans z
        cases z'
    · by_cases hb : b = a
      · exact hb
      · exact absurd (if_neg hb) z
end L2

namespace L2
open PySem PySem.Spec PyProof.Rows

abbrev KOf {K : PySem.W.Frag} {h : Heap} (_ : K.In h) : PySem.W.Frag := K

/-- the goal that k_head leaves (case hc), from the law's promise. F gives the function object fd (K's own) once, then the promise over every base -/
theorem walk_of {l : PySem.W.OpenLaw} {n k : Nat} {q : Program} {loose : List Str} {XP : (Str → Option Value) → Heap → Prop} {YP : World → Heap → Prop} {d : DefRec} {K : Params → PySem.W.Frag} {CX : World → CXT} {sp : World → Sp} {x : Str}
    (hn : l.most = some n) (hn2 : n ≤ sizeLine) (hdf : d.params.defaults = []) (hr : Room k callerA)
    (hY : ∀ (w : World) (h : Heap), YP w h → (K w.params).In h)
    (F : ∀ (w : World) (mg : Str → Option Value) (fa : Addr) (h : Heap), (K w.params).In h → h.Ns mainGlobals mg → mg d.name = some (.ref fa) →
      ∃ fd : FuncData, (∀ (s : Shared) (u : Value), BindsTo s fd ⟨[u], []⟩ [(x, u)]) ∧
        ∀ base : Heap, (K w.params).In base → base.Ns mainGlobals mg → FnOk l.prog w (K w.params) mg base (CX w) k fa fd [x] (sp w))
    (hsp : ∀ (w : World) (H : Hp) (a : Addr) (ns : List Int), ns.length ≤ n → Only H → SqL (K w.params) H a (ns.map V.int) → sp w [.ref a] H (fun v _ => v = .bl true) fun _ _ _ => False)
    (hCX : ∀ (w : World) (H : Hp) (s : Shared) (e : Value) (s' : Shared), CX w [] H s (fun _ _ _ => False) e s' → False) :
    PySem.W.WalkO q loose XP YP l.row.toRowW d [] (fun f vs => PySem.call f vs) := by
  refine Att.attach_call hn hdf fun w s₀ s₁ mg mb fa o pm cd doc a vs ns G Y ho hd hcd hmg hobj hints hlen hg => ?_
  have KX := hY w _ Y
  obtain ⟨fd, hb, hF⟩ := F w mg fa _ KX G.T.g hmg
  exact law_call KX G.T.g G.T.b G.T.builtins G.T.nolimit hg hobj hints (Nat.le_trans hlen hn2) hr hF hb (fun H hO hS => hsp w H a ns hlen hO hS) fun H e s' => hCX w H s₁ e s'
end L2

/-! SHORT WORDS over the layer: a def of the text, its body, what a loop and a test want. -/
namespace L2
open PySem PySem.Spec PyProof.Rows

/-! ### the text by places -/
/-- the j-th statement of a class's body -/
def inClass (s : Stmt) (j : Nat) : Stmt := match s with
  | .ClassDef _ _ _ body _ _ _ _ _ _ _ => body.getD j (.Pass ⟨0, 0, 0, 0⟩)
  | _ => .Pass ⟨0, 0, 0, 0⟩
def defArgs (s : Stmt) : Arguments := match s with
  | .FunctionDef _ a _ _ _ _ _ _ _ _ => a
  | _ => { posonlyargs := [], args := [], vararg := none, kwonlyargs := [], kw_defaults := [], kwarg := none, defaults := [] }
def defBody (s : Stmt) : List Stmt := match s with
  | .FunctionDef _ _ b _ _ _ _ _ _ _ => b
  | _ => []
def defScope (s : Stmt) : Scope := match s with
  | .FunctionDef _ _ _ _ _ _ sc _ _ _ => sc
  | _ => { kind := .function, names := [], isGenerator := false, isCoroutine := false }

/-! ### no exception leaves a def -/
abbrev CX0 : CXT := fun _ _ _ _ _ _ => False
abbrev E0 : XK := fun _ _ _ => False
theorem pass0 {X : Cx} : Passes CX0 X E0 := fun _ _ _ _ _ _ _ h => h.elim

/-! ### a def (or method) of the text as it stands behind the top -/
structure Fun (K : PySem.W.Frag) (x qual : Str) (st : Stmt) (f : Addr) (fd : FuncData) : Prop where
  ex : ∃ (oc : Value) (od : Option Addr) (kV doc pm : Value) (an : Option Addr) (cdv ct : Value) (osl : Array (Option Value)),
    fd = PySem.W.fnOf x qual (defArgs st) (defBody st) (defScope st) .none kV doc pm an cdv ct ∧ K.lookup f = some ⟨oc, od, .func fd, osl⟩ ∧ PySem.W.codeIn K cdv qual = true
  kp : PySem.W.keepIn K (.ref f) = true
section
variable {P : Program} {w : World} {K : PySem.W.Frag} {mg : Str → Option Value} {base : Heap}
/-- THE RULE for a def: its body as a term of rules, and the reading of that term -/
theorem Fun.ok {x qual : Str} {st : Stmt} {f : Addr} {fd : FuncData} {N ps : List Str} {k : Nat} {sp : Sp} (F : Fun K x qual st f fd) (S : FnScope N ps (defScope st)) (len : ∀ vs H Q E, sp vs H Q E → vs.length = ps.length)
    (hbody : ∀ (cdv : Value) (A : Around) (outer : List Env) (s : Shared) (H : Hp) (vs : List V) (Q : VK) (E : XK), Room k (A.deeper (envOfC qual (defScope st) s.heap.objs.size f cdv)) → sp vs H Q E →
      ∃ t, PSs (cxOf CX0 P w K mg base N qual (defScope st) f cdv A outer s H E).nox (defBody st) t ∧ t { nx := fun _ H' => Q .non H', rt := Q } (start N vs) H) : FnOk P w K mg base CX0 (k + 1) f fd ps sp := by
  obtain ⟨oc, od, kV, doc, pm, an, cdv, ct, osl, rfl, lk, hcd⟩ := F.ex
  refine fn_of lk hcd S len fun A outer s H vs Q E hr hsp => ?_
  obtain ⟨t, h, q⟩ := hbody cdv A outer s H vs Q E hr hsp
  exact ⟨t, h.nox, q⟩
/-- how its arguments bind (no defaults): h is «fun _ _ _ _ _ _ us hl => match us, hl with | [_, _], _ => rfl», one _ a parameter -/
theorem Fun.binds {x qual : Str} {st : Stmt} {f : Addr} {fd : FuncData} {ps : List Str} (F : Fun K x qual st f fd)
    (h : ∀ (kV doc pm : Value) (an : Option Addr) (cdv ct : Value) (us : List Value), us.length = ps.length → bindArgs (PySem.W.fnOf x qual (defArgs st) (defBody st) (defScope st) .none kV doc pm an cdv ct) ⟨us, []⟩ = pure (ps.zip us)) : Binds K fd ps [] := by
  obtain ⟨oc, od, kV, doc, pm, an, cdv, ct, osl, rfl, lk, hcd⟩ := F.ex
  exact .all (h kV doc pm an cdv ct)
theorem fun_mk {x qual : Str} {st : Stmt} {f : Addr} {oc : Value} {od an : Option Addr} {osl : Array (Option Value)} {kV doc pm cdv ct : Value} (l : K.lookup f = some ⟨oc, od, .func (PySem.W.fnOf x qual (defArgs st) (defBody st) (defScope st) .none kV doc pm an cdv ct), osl⟩)
    (c : PySem.W.codeIn K cdv qual = true) (k : PySem.W.keepIn K (.ref f) = true) : Fun K x qual st f (PySem.W.fnOf x qual (defArgs st) (defBody st) (defScope st) .none kV doc pm an cdv ct) := ⟨⟨oc, od, kV, doc, pm, an, cdv, ct, osl, rfl, l, c⟩, k⟩
end
theorem small1000 {n : Nat} (h : n ≤ 1000) : n < sizeLine := Nat.lt_of_le_of_lt h (by decide)

/-! ### expressions in short: the name that stands in the i-th slot -/
section
variable {X : Cx}
theorem pv (i : Nat) {x : Str} {pos : Pos} (hN : X.N[i]? = some x := by rfl) (hv : Vis X.env.scope x := by first | exact Or.inl rfl | exact Or.inr (Or.inl rfl) | exact Or.inr (Or.inr rfl)) (hd : (x == ("__debug__" : Str)) = false := by decide)
    (hcd : (x == ("__classdict__" : Str)) = false := by decide) : PE X (.Name x pos) (tVar i) := pe_var hN hv hd hcd
end

/-! ### tests -/
theorem ite2 {c A B : Prop} [Decidable c] (h1 : c → A) (h2 : ¬ c → B) : if c then A else B := by
  by_cases h : c
  · rw [if_pos h]
    exact h1 h
  · rw [if_neg h]
    exact h2 h
/-! ### heaps -/
/-- all that was tracked is as it was -/
def Same (H H' : Hp) : Prop := ∀ b o, H b = some o → H' b = some o
theorem Same.refl (H : Hp) : Same H H := fun _ _ h => h
theorem Same.trans {H H1 H2 : Hp} (a : Same H H1) (b : Same H1 H2) : Same H H2 := fun c o h => b c o (a c o h)
theorem Same.free {H H' : Hp} (e : Same H H') {l : Addr} (h : H' l = Option.none) : H l = Option.none := by
  cases q : H l with
  | none => rfl
  | some o =>
    rw [e l o q] at h
    cases h
theorem Same.seq {K : PySem.W.Frag} {H H' : Hp} {a : Addr} {xs : List V} (e : Same H H') (h : SqL K H a xs) : SqL K H' a xs := by
  rcases h with (h | ⟨o, h⟩) | h
  · exact .inl (.inl (e _ _ h))
  · exact .inl (.inr ⟨o, e _ _ h⟩)
  · exact .inr h

end L2

section
set_option maxHeartbeats 2000000
set_option maxRecDepth 100000
set_option linter.unusedVariables false
set_option linter.unusedSimpArgs false
namespace Tim
open PySem PyProof.Rows

abbrev Pend := Array (Nat × Nat × Nat)
/-- the state of a sort: a shuffle of a₀, nothing failed, the pending runs p -/
structure TB (a₀ : Array Keyed) (p : Pend) (st : SortSt) : Prop where
  perm : (arrOf st).Perm a₀
  kd : kindOf st = oneType'
  ff : failedOf st = none
  pd : pendingOf st = p

def IntK (x : Keyed) : Prop := ∃ n t, x.1 = .int n t
def kv (x : Keyed) : Int := numOf x.1
def Seg (xs : Array Keyed) (lo hi : Nat) : Prop := ∀ i j, lo ≤ i → i ≤ j → j < hi → K xs i ≤ K xs j
def Dsc (xs : Array Keyed) (lo hi : Nat) : Prop := ∀ i j, lo ≤ i → i ≤ j → j < hi → K xs j ≤ K xs i
def Low (xs ys : Array Keyed) (lo : Nat) : Prop := ∀ i, i < lo → K xs i = K ys i
theorem Low.refl (xs : Array Keyed) (lo : Nat) : Low xs xs lo := fun _ _ => rfl
theorem Low.trans {xs ys zs : Array Keyed} {lo : Nat} (a : Low xs ys lo) (b : Low ys zs lo) : Low xs zs lo := fun i h => (a i h).trans (b i h)

section
variable {prog : Program} {w : World} {A : Around} {E : Value → Shared → Prop} {s : Shared} {a₀ : Array Keyed} {p : Pend} {st : SortSt}

theorem TB.size (h : TB a₀ p st) : (arrOf st).size = a₀.size := h.perm.size_eq
theorem TB.arr (h : TB a₀ p st) {xs : Array Keyed} (hp : xs.Perm (arrOf st)) : TB a₀ p (setArr st xs) := ⟨hp.trans h.perm, h.kd, h.ff, h.pd⟩
theorem TB.get (h : TB a₀ p st) (h0 : IntKeys a₀) {i : Nat} (hi : i < a₀.size) : ∃ x, (arrOf st)[i]? = some x ∧ IntK x ∧ kv x = K (arrOf st) i := by
  have B : SBase a₀ (setPending st #[]) := ⟨h.perm, h.kd, h.ff, rfl⟩
  obtain ⟨t, q, e⟩ := B.at h0 hi
  exact ⟨_, e, ⟨_, _, rfl⟩, rfl⟩

theorem w_lt {x y : Keyed} {Q : Option Bool → SortSt → Prop} (hk : kindOf st = oneType') (hx : IntK x) (hy : IntK y) (h : Q (some (decide (kv x < kv y))) st) :
    wpS (model prog w) A E s (lt' x y) Q st := by
  obtain ⟨x1, x2⟩ := x
  obtain ⟨y1, y2⟩ := y
  obtain ⟨a, t, e1⟩ := hx
  obtain ⟨b, u, e2⟩ := hy
  dsimp only at e1 e2
  subst e1 e2
  rw [lt'_eq]
  refine wpS_bind (wpS_get ?_)
  rw [hk]
  dsimp only
  rw [keyLt'_oneType]
  exact wpS_bind (wpS_lift (wpAny_attempt (oneLt_int ⟨rfl, wpS_pure h⟩)))

/-! ### binary insertion, from lo on -/
end
end Tim

end

section
set_option maxHeartbeats 2000000
set_option maxRecDepth 100000
set_option linter.unusedVariables false
set_option linter.unusedSimpArgs false
namespace Tim
open PySem PyProof.Rows

/-! ### a run, from lo on -/
def up (lo a nrem : Nat) : StateT SortSt Sem (Option (Option Nat) × Nat) :=
  forIn [a:nrem] ((none, a) : Option (Option Nat) × Nat) fun _ c => do
    let x ← ltAt' (lo + c.2) (lo + c.2 - 1)
    match x with
    | some b => if b = true then pure (.done (none, c.2)) else pure (.yield (none, c.2 + 1))
    | _ => pure (.done (some none, c.2))
def fin3 (lo n nrem : Nat) : StateT SortSt Sem (Option Nat) := do
  reverseSlice' lo (lo + n)
  let c ← up lo n nrem
  match c.1 with
  | some r => pure r
  | none => pure (some c.2)
def down (lo n nrem : Nat) : StateT SortSt Sem (Option (Option Nat) × Nat × Nat) :=
  forIn [n:nrem] ((none, n, 0) : Option (Option Nat) × Nat × Nat) fun _ c => do
    let x ← ltAt' (lo + c.2.1) (lo + c.2.1 - 1)
    match x with
    | some b =>
      if b = true then
        if c.2.2 > 0 then do
          reverseSlice' (lo + c.2.1 - (c.2.2 + 1)) (lo + c.2.1)
          pure (.yield (none, c.2.1 + 1, 0))
        else pure (.yield (none, c.2.1 + 1, 0))
      else do
        let y ← ltAt' (lo + c.2.1 - 1) (lo + c.2.1)
        match y with
        | some d => if d = true then pure (.done (none, c.2.1, c.2.2)) else pure (.yield (none, c.2.1 + 1, c.2.2 + 1))
        | _ => pure (.done (some none, c.2.1, c.2.2))
    | _ => pure (.done (some none, c.2.1, c.2.2))
def dpart (lo n nrem : Nat) : StateT SortSt Sem (Option Nat) := do
  liftM (rule "list.sort.descending-run")
  let c ← down lo (n + 1) nrem
  match c.1 with
  | some r => pure r
  | none => if c.2.2 > 0 then do reverseSlice' (lo + c.2.1 - (c.2.2 + 1)) (lo + c.2.1); fin3 lo c.2.1 nrem else fin3 lo c.2.1 nrem

section
variable {prog : Program} {w : World} {A : Around} {E : Value → Shared → Prop} {s : Shared} {a₀ : Array Keyed} {p : Pend} {st : SortSt}

end
end Tim

end

section
set_option maxHeartbeats 2000000
set_option maxRecDepth 100000
set_option linter.unusedVariables false
set_option linter.unusedSimpArgs false
namespace Tim
open PySem PyProof.Rows

/-! ### galloping -/
def gal : Bool → Keyed → Array Keyed → Nat → Nat → Nat → StateT SortSt Sem (Option Nat) := sortPriv% PySem.Builtin.gallop
def beyond (left : Bool) (key : Keyed) (arr : Array Keyed) (base i : Nat) : StateT SortSt Sem (Option Bool) := do
  let x ← elem' arr (base + i)
  if left then lt' x key else return (← lt' key x).map (!·)
/-- is the i-th ahead of the key's place -/
def Bey (left : Bool) (key : Keyed) (arr : Array Keyed) (base i : Nat) : Prop := if left then K arr (base + i) < kv key else K arr (base + i) ≤ kv key
instance (left : Bool) (key : Keyed) (arr : Array Keyed) (base i : Nat) : Decidable (Bey left key arr base i) := by unfold Bey; infer_instance
def Ints (arr : Array Keyed) : Prop := ∀ (i : Nat) (x : Keyed), arr[i]? = some x → IntK x

section
variable {prog : Program} {w : World} {A : Around} {E : Value → Shared → Prop} {s : Shared} {st : SortSt}

end
end Tim

end

section
set_option maxHeartbeats 2000000
set_option maxRecDepth 100000
set_option linter.unusedVariables false
set_option linter.unusedSimpArgs false
namespace Tim
open PySem PyProof.Rows
def setG : Nat → StateT SortSt Sem Unit := sortPriv% PySem.Builtin.setMinGallop
def mLo : Array Keyed → Array Keyed → StateT SortSt Sem (Array Keyed) := sortPriv% PySem.Builtin.mergeLo
abbrev C5 := Option (Array Keyed) × Array Keyed × Nat × Nat × Nat
abbrev C6 := Option (Array Keyed) × Array Keyed × Nat × Nat × Nat × Nat
abbrev C7 := Option (Array Keyed) × Array Keyed × Nat × Nat × Nat × Nat × Nat
section
variable (a b : Array Keyed)
abbrev dn (out : Array Keyed) (ia ib : Nat) : Array Keyed := out ++ a.extract ia a.size ++ b.extract ib b.size
abbrev la (out : Array Keyed) (ia ib : Nat) : Array Keyed := out ++ b.extract ib b.size ++ a.extract ia a.size
def q1 (mg : Nat) (out : Array Keyed) (ia ib ac bc : Nat) : StateT SortSt Sem (ForInStep C6) := do
  let y ← elem' b ib
  let x ← elem' a ia
  let r ← lt' y x
  match r with
  | some bw =>
    if bw = true then do
      let z ← elem' b ib
      if (ib + 1 == b.size) = true then pure (.done (some (dn a b (out.push z) ia (ib + 1)), out.push z, ia, ib + 1, 0, bc + 1))
      else if bc + 1 ≥ mg then pure (.done (none, out.push z, ia, ib + 1, 0, bc + 1))
      else pure (.yield (none, out.push z, ia, ib + 1, 0, bc + 1))
    else do
      let z ← elem' a ia
      if (ia + 1 + 1 == a.size) = true then pure (.done (some (la a b (out.push z) (ia + 1) ib), out.push z, ia + 1, ib, ac + 1, 0))
      else if ac + 1 ≥ mg then pure (.done (none, out.push z, ia + 1, ib, ac + 1, 0))
      else pure (.yield (none, out.push z, ia + 1, ib, ac + 1, 0))
  | _ => pure (.done (some (dn a b out ia ib), out, ia, ib, ac, bc))
def p3 (out : Array Keyed) (ia ib mg ac bc : Nat) : StateT SortSt Sem (ForInStep C7) := do
  let z ← elem' a ia
  if (ia + 1 + 1 == a.size) = true then pure (.done (some (la a b (out.push z) (ia + 1) ib), out.push z, ia + 1, ib, mg, ac, bc))
  else if (decide (ac < 7) && decide (bc < 7)) = true then pure (.done (none, out.push z, ia + 1, ib, mg, ac, bc))
  else pure (.yield (none, out.push z, ia + 1, ib, mg, ac, bc))
def p2 (out : Array Keyed) (ia ib mg ac bc : Nat) : StateT SortSt Sem (ForInStep C7) := do
  let z ← elem' b ib
  if (ib + 1 == b.size) = true then pure (.done (some (dn a b (out.push z) ia (ib + 1)), out.push z, ia, ib + 1, mg, ac, bc))
  else do
    let x ← elem' a ia
    let r ← gal true x b (ib + 1) (b.size - (ib + 1)) 0
    match r with
    | some k =>
      if k > 0 then
        if (ib + 1 + k == b.size) = true then pure (.done (some (dn a b (out.push z ++ b.extract (ib + 1) (ib + 1 + k)) ia (ib + 1 + k)), out.push z ++ b.extract (ib + 1) (ib + 1 + k), ia, ib + 1 + k, mg, ac, k))
        else p3 a b (out.push z ++ b.extract (ib + 1) (ib + 1 + k)) ia (ib + 1 + k) mg ac k
      else p3 a b (out.push z) ia (ib + 1) mg ac k
    | _ => pure (.done (some (dn a b (out.push z) ia (ib + 1)), out.push z, ia, ib + 1, mg, ac, bc))
def p1 (out : Array Keyed) (ia ib mg ac bc : Nat) : StateT SortSt Sem (ForInStep C7) := do
  setG mg
  let y ← elem' b ib
  let r ← gal false y a ia (a.size - ia) 0
  match r with
  | some k =>
    if k > 0 then
      if (ia + k + 1 == a.size) = true then pure (.done (some (la a b (out ++ a.extract ia (ia + k)) (ia + k) ib), out ++ a.extract ia (ia + k), ia + k, ib, mg, k, bc))
      else if (ia + k == a.size) = true then pure (.done (some (dn a b (out ++ a.extract ia (ia + k)) (ia + k) ib), out ++ a.extract ia (ia + k), ia + k, ib, mg, k, bc))
      else p2 a b (out ++ a.extract ia (ia + k)) (ia + k) ib mg k bc
    else p2 a b out ia ib mg k bc
  | _ => pure (.done (some (dn a b out ia ib), out, ia, ib, mg, ac, bc))
def q2 (c : C7) : StateT SortSt Sem (ForInStep C7) :=
  if c.2.2.2.2.1 > 1 then p1 a b c.2.1 c.2.2.1 c.2.2.2.1 (c.2.2.2.2.1 - 1) c.2.2.2.2.2.1 c.2.2.2.2.2.2 else p1 a b c.2.1 c.2.2.1 c.2.2.2.1 c.2.2.2.2.1 c.2.2.2.2.2.1 c.2.2.2.2.2.2
def q3 (c : C5) : StateT SortSt Sem (ForInStep C5) := do
  let d ← forIn [:a.size + b.size] ((none, c.2.1, c.2.2.1, c.2.2.2.1, 0, 0) : C6) fun _ d => q1 a b c.2.2.2.2 d.2.1 d.2.2.1 d.2.2.2.1 d.2.2.2.2.1 d.2.2.2.2.2
  match d.1 with
  | some r => pure (.done (some r, d.2.1, d.2.2.1, d.2.2.2.1, c.2.2.2.2))
  | none => do
    liftM (rule "list.sort.gallop")
    let e ← forIn [:a.size + b.size] ((none, d.2.1, d.2.2.1, d.2.2.2.1, c.2.2.2.2 + 1, d.2.2.2.2.1, d.2.2.2.2.2) : C7) fun _ e => q2 a b e
    match e.1 with
    | some r => pure (.done (some r, e.2.1, e.2.2.1, e.2.2.2.1, e.2.2.2.2.1))
    | none => do
      setG (e.2.2.2.2.1 + 1)
      pure (.yield (none, e.2.1, e.2.2.1, e.2.2.2.1, e.2.2.2.2.1 + 1))
end
end Tim

end

section
set_option maxHeartbeats 2000000
set_option maxRecDepth 100000
set_option linter.unusedVariables false
set_option linter.unusedSimpArgs false
namespace Tim
open PySem PyProof.Rows

/-! ### lists in order -/
def SL (l : List Keyed) : Prop := l.Pairwise fun x y => kv x ≤ kv y
theorem SL.app {l r : List Keyed} : SL (l ++ r) ↔ SL l ∧ SL r ∧ ∀ x ∈ l, ∀ y ∈ r, kv x ≤ kv y := List.pairwise_append
/-- c goes from its own list behind out, all of it no greater than the other list's rest -/
theorem SL.move {o c r q : List Keyed} (h1 : SL (o ++ (c ++ r))) (h2 : SL (o ++ q)) (h : ∀ x ∈ c, ∀ y ∈ q, kv x ≤ kv y) : SL ((o ++ c) ++ r) ∧ SL ((o ++ c) ++ q) := by
  rw [← List.append_assoc] at h1
  refine ⟨h1, ?_⟩
  obtain ⟨a1, _, _⟩ := SL.app.mp h1
  obtain ⟨_, b2, b3⟩ := SL.app.mp h2
  refine SL.app.mpr ⟨a1, b2, fun x hx y hy => ?_⟩
  rcases List.mem_append.mp hx with z | z
  · exact b3 x z y hy
  · exact h x z y hy
/-- .. from the tails to the front of out -/
theorem SL.moveR {o c r q : List Keyed} (h1 : SL ((r ++ c) ++ o)) (h2 : SL (q ++ o)) (h : ∀ x ∈ q, ∀ y ∈ c, kv x ≤ kv y) : SL (r ++ (c ++ o)) ∧ SL (q ++ (c ++ o)) := by
  rw [List.append_assoc] at h1
  refine ⟨h1, ?_⟩
  obtain ⟨_, a1, _⟩ := SL.app.mp h1
  obtain ⟨b1, _, b3⟩ := SL.app.mp h2
  refine SL.app.mpr ⟨b1, a1, fun x hx y hy => ?_⟩
  rcases List.mem_append.mp hy with z | z
  · exact h x hx y z
  · exact b3 x hx y z

theorem mem_drop {l : List Keyed} {k : Nat} {x : Keyed} (h : x ∈ l.drop k) : ∃ i, k ≤ i ∧ l[i]? = some x := by
  obtain ⟨i, hi⟩ := List.mem_iff_getElem?.mp h
  rw [List.getElem?_drop] at hi
  exact ⟨k + i, by omega, hi⟩
theorem mem_ext {a : Array Keyed} {i j : Nat} {x : Keyed} (h : x ∈ (a.toList.drop i).take (j - i)) : ∃ k, i ≤ k ∧ k < j ∧ a.toList[k]? = some x := by
  obtain ⟨k, hk⟩ := List.mem_iff_getElem?.mp h
  rw [List.getElem?_take] at hk
  split at hk
  · rw [List.getElem?_drop] at hk
    exact ⟨i + k, by omega, by omega, hk⟩
  · cases hk
theorem drop_cons {l : List Keyed} {i : Nat} {x : Keyed} (h : l[i]? = some x) : l.drop i = x :: l.drop (i + 1) := by
  obtain ⟨hi, e⟩ := List.getElem?_eq_some_iff.mp h
  rw [List.drop_eq_getElem_cons hi, e]
theorem drop_split {l : List Keyed} {i j : Nat} (h : i ≤ j) : l.drop i = (l.drop i).take (j - i) ++ l.drop j := by
  have e : l.drop j = (l.drop i).drop (j - i) := by rw [List.drop_drop, show i + (j - i) = j from by omega]
  rw [e, List.take_append_drop]

/-- what a merge keeps between its steps -/
structure MW (a b out : Array Keyed) (ia ib : Nat) : Prop where
  pm : (out.toList ++ (a.toList.drop ia ++ b.toList.drop ib)).Perm (a.toList ++ b.toList)
  sa : SL (out.toList ++ a.toList.drop ia)
  sb : SL (out.toList ++ b.toList.drop ib)
  n : out.size = ia + ib
structure Good (a b r : Array Keyed) : Prop where
  pm : r.toList.Perm (a.toList ++ b.toList)
  so : SL r.toList
theorem ext_list (a : Array Keyed) (i : Nat) : (a.extract i a.size).toList = a.toList.drop i := by
  rw [Array.toList_extract, List.extract_eq_take_drop, List.take_of_length_le]
  rw [List.length_drop, Array.length_toList]
  exact Nat.le_refl _
theorem ext_list2 (a : Array Keyed) (i j : Nat) : (a.extract i j).toList = (a.toList.drop i).take (j - i) := by
  rw [Array.toList_extract, List.extract_eq_take_drop]
section
variable {a b out : Array Keyed} {ia ib : Nat}
theorem MW.dn (m : MW a b out ia ib) (h : ib = b.size ∨ ia = a.size) : Good a b (dn a b out ia ib) := by
  have e : (Tim.dn a b out ia ib).toList = out.toList ++ (a.toList.drop ia ++ b.toList.drop ib) := by
    show (out ++ a.extract ia a.size ++ b.extract ib b.size).toList = _
    rw [Array.toList_append, Array.toList_append, ext_list, ext_list, List.append_assoc]
  refine ⟨by rw [e]; exact m.pm, ?_⟩
  rw [e]
  rcases h with h | h
  · have z : b.toList.drop ib = [] := List.drop_of_length_le (by rw [Array.length_toList, h]; exact Nat.le_refl _)
    rw [z, List.append_nil]; exact m.sa
  · have z : a.toList.drop ia = [] := List.drop_of_length_le (by rw [Array.length_toList, h]; exact Nat.le_refl _)
    rw [z, List.nil_append]; exact m.sb
theorem MW.la (m : MW a b out ia ib) (h : ia + 1 = a.size) (hl : ∀ (i j : Nat) (x y : Keyed), a.toList[i]? = some x → i + 1 = a.size → b.toList[j]? = some y → kv y ≤ kv x) : Good a b (la a b out ia ib) := by
  have e : (Tim.la a b out ia ib).toList = out.toList ++ (b.toList.drop ib ++ a.toList.drop ia) := by
    show (out ++ b.extract ib b.size ++ a.extract ia a.size).toList = _
    rw [Array.toList_append, Array.toList_append, ext_list, ext_list, List.append_assoc]
  refine ⟨?_, ?_⟩
  · rw [e]; exact ((List.perm_append_comm).append_left _).trans m.pm
  · rw [e, ← List.append_assoc]
    obtain ⟨_, c2, c3⟩ := SL.app.mp m.sa
    refine SL.app.mpr ⟨m.sb, c2, fun x hx y hy => ?_⟩
    rcases List.mem_append.mp hx with z | z
    · exact c3 x z y hy
    · obtain ⟨i, hi, ei⟩ := mem_drop hy
      obtain ⟨j, _, ej⟩ := mem_drop z
      have := (List.getElem?_eq_some_iff.mp ei).1
      rw [Array.length_toList] at this
      exact hl i j y x ei (by omega) ej
/-- k of a go behind out -/
theorem MW.stepA (m : MW a b out ia ib) {k : Nat} (hk : ia + k ≤ a.size) (h : ∀ (i j : Nat) (x y : Keyed), ia ≤ i → i < ia + k → ib ≤ j → a.toList[i]? = some x → b.toList[j]? = some y → kv x ≤ kv y) : MW a b (out ++ a.extract ia (ia + k)) (ia + k) ib := by
  have sp := drop_split (l := a.toList) (i := ia) (j := ia + k) (by omega)
  have pm := m.pm
  have sa := m.sa
  rw [sp] at pm sa
  have mv := SL.move sa m.sb fun x hx y hy => by
    obtain ⟨i, h1, h2, e1⟩ := mem_ext hx
    obtain ⟨j, h3, e2⟩ := mem_drop hy
    exact h i j x y h1 h2 h3 e1 e2
  refine ⟨?_, ?_, ?_, ?_⟩
  · rw [Array.toList_append, ext_list2, List.append_assoc, ← List.append_assoc _ _ (b.toList.drop ib)]; exact pm
  · rw [Array.toList_append, ext_list2]; exact mv.1
  · rw [Array.toList_append, ext_list2]; exact mv.2
  · rw [Array.size_append, Array.size_extract, m.n]; omega
end
end Tim

end

section
set_option maxHeartbeats 2000000
set_option maxRecDepth 100000
set_option linter.unusedVariables false
set_option linter.unusedSimpArgs false
namespace Tim
open PySem PyProof.Rows

/-- the two runs of a merge: ints in order, the first of b ahead of all of a, the last of a behind all of b -/
structure Two (a b : Array Keyed) : Prop where
  ia : Ints a
  ib : Ints b
  la : ∀ (i j : Nat) (x y : Keyed), a.toList[i]? = some x → i + 1 = a.size → b.toList[j]? = some y → kv y ≤ kv x
  fb : ∀ (i : Nat) (x y : Keyed), a.toList[i]? = some x → b.toList[0]? = some y → kv y ≤ kv x
  sa : SL a.toList
  sb : SL b.toList
structure MI (a b out : Array Keyed) (ia ib : Nat) : Prop extends MW a b out ia ib where
  ha : ia + 1 < a.size
  hb : ib < b.size
structure SameG (st st' : SortSt) : Prop where
  ar : arrOf st' = arrOf st
  kd : kindOf st' = kindOf st
  pd : pendingOf st' = pendingOf st
  ff : failedOf st' = failedOf st
theorem SameG.refl (st : SortSt) : SameG st st := ⟨rfl, rfl, rfl, rfl⟩
theorem SameG.trans {x y z : SortSt} (a : SameG x y) (b : SameG y z) : SameG x z := ⟨b.ar.trans a.ar, b.kd.trans a.kd, b.pd.trans a.pd, b.ff.trans a.ff⟩
abbrev withG (st : SortSt) (g : Nat) : SortSt := SortSt.mk' (kindOf st) (arrOf st) (pendingOf st) g (failedOf st)
theorem li {a : Array Keyed} {i : Nat} {x : Keyed} (h : a[i]? = some x) : a.toList[i]? = some x := by rw [Array.getElem?_toList]; exact h
/-- the order of a's rest, by places -/
theorem SL.at {l : List Keyed} (h : SL l) {i j : Nat} {x y : Keyed} (hij : i ≤ j) (ei : l[i]? = some x) (ej : l[j]? = some y) : kv x ≤ kv y := by
  by_cases e : i = j
  · subst e; rw [ei] at ej; cases ej; exact Int.le_refl _
  · obtain ⟨l1, f1⟩ := List.getElem?_eq_some_iff.mp ei
    obtain ⟨l2, f2⟩ := List.getElem?_eq_some_iff.mp ej
    have z := (List.pairwise_iff_getElem.mp h) i j l1 l2 (by omega)
    rw [f1, f2] at z
    exact z

section
variable {prog : Program} {w : World} {A : Around} {E : Value → Shared → Prop} {s : Shared} {st : SortSt} {a b : Array Keyed}

def O6 (a b : Array Keyed) (o : Nat) (c : C6) : Prop := (∃ g, c.1 = some g ∧ Good a b g) ∨ (c.1 = none ∧ MI a b c.2.1 c.2.2.1 c.2.2.2.1 ∧ o < c.2.1.size)
def O7 (a b : Array Keyed) (o : Nat) (c : C7) : Prop := (∃ g, c.1 = some g ∧ Good a b g) ∨ (c.1 = none ∧ MI a b c.2.1 c.2.2.1 c.2.2.2.1 ∧ o < c.2.1.size)

/-- what the steps of a gallop want of the end -/
structure Fin7 (a b : Array Keyed) (o : Nat) (st : SortSt) (Q : ForInStep C7 → SortSt → Prop) : Prop where
  dn : ∀ c, O7 a b o c → Q (.done c) st
  yl : ∀ c, c.1 = none → MI a b c.2.1 c.2.2.1 c.2.2.2.1 → o < c.2.1.size → Q (.yield c) st
end
end Tim

end

section
set_option maxHeartbeats 2000000
set_option maxRecDepth 100000
set_option linter.unusedVariables false
set_option linter.unusedSimpArgs false
namespace Tim
open PySem PyProof.Rows

def mHi : Array Keyed → Array Keyed → StateT SortSt Sem (Array Keyed) := sortPriv% PySem.Builtin.mergeHi
abbrev D5 := Option (Array Keyed) × Nat × Nat × Array Keyed × Nat
abbrev D6 := Option (Array Keyed) × Nat × Nat × Array Keyed × Nat × Nat
abbrev D7 := Option (Array Keyed) × Nat × Nat × Array Keyed × Nat × Nat × Nat
section
variable (a b : Array Keyed)
abbrev dh (out : Array Keyed) (na nb : Nat) : Array Keyed := a.extract 0 na ++ b.extract 0 nb ++ out.reverse
abbrev fh (out : Array Keyed) (na nb : Nat) : Array Keyed := b.extract 0 nb ++ a.extract 0 na ++ out.reverse
def r1 (mg : Nat) (na nb : Nat) (out : Array Keyed) (ac bc : Nat) : StateT SortSt Sem (ForInStep D6) := do
  let y ← elem' b (nb - 1)
  let x ← elem' a (na - 1)
  let r ← lt' y x
  match r with
  | some aw =>
    if aw = true then do
      let z ← elem' a (na - 1)
      if (na - 1 == 0) = true then pure (.done (some (dh a b (out.push z) (na - 1) nb), na - 1, nb, out.push z, ac + 1, 0))
      else if ac + 1 ≥ mg then pure (.done (none, na - 1, nb, out.push z, ac + 1, 0))
      else pure (.yield (none, na - 1, nb, out.push z, ac + 1, 0))
    else do
      let z ← elem' b (nb - 1)
      if (nb - 1 == 1) = true then pure (.done (some (fh a b (out.push z) na (nb - 1)), na, nb - 1, out.push z, 0, bc + 1))
      else if bc + 1 ≥ mg then pure (.done (none, na, nb - 1, out.push z, 0, bc + 1))
      else pure (.yield (none, na, nb - 1, out.push z, 0, bc + 1))
  | _ => pure (.done (some (dh a b out na nb), na, nb, out, ac, bc))
def s3 (na nb : Nat) (out : Array Keyed) (mg ac bc : Nat) : StateT SortSt Sem (ForInStep D7) := do
  let z ← elem' a (na - 1)
  if (na - 1 == 0) = true then pure (.done (some (dh a b (out.push z) (na - 1) nb), na - 1, nb, out.push z, mg, ac, bc))
  else if (decide (ac < 7) && decide (bc < 7)) = true then pure (.done (none, na - 1, nb, out.push z, mg, ac, bc))
  else pure (.yield (none, na - 1, nb, out.push z, mg, ac, bc))
def s2 (na nb : Nat) (out : Array Keyed) (mg ac bc : Nat) : StateT SortSt Sem (ForInStep D7) := do
  let z ← elem' b (nb - 1)
  if (nb - 1 == 1) = true then pure (.done (some (fh a b (out.push z) na (nb - 1)), na, nb - 1, out.push z, mg, ac, bc))
  else do
    let x ← elem' a (na - 1)
    let r ← gal true x b 0 (nb - 1) (nb - 1 - 1)
    match r with
    | some t =>
      if nb - 1 - t > 0 then
        if (t == 1) = true then pure (.done (some (fh a b (out.push z ++ (b.extract t (nb - 1)).reverse) na t), na, t, out.push z ++ (b.extract t (nb - 1)).reverse, mg, ac, nb - 1 - t))
        else if (t == 0) = true then pure (.done (some (dh a b (out.push z ++ (b.extract t (nb - 1)).reverse) na t), na, t, out.push z ++ (b.extract t (nb - 1)).reverse, mg, ac, nb - 1 - t))
        else s3 a b na t (out.push z ++ (b.extract t (nb - 1)).reverse) mg ac (nb - 1 - t)
      else s3 a b na (nb - 1) (out.push z) mg ac (nb - 1 - t)
    | _ => pure (.done (some (dh a b (out.push z) na (nb - 1)), na, nb - 1, out.push z, mg, ac, bc))
def s1 (na nb : Nat) (out : Array Keyed) (mg ac bc : Nat) : StateT SortSt Sem (ForInStep D7) := do
  setG mg
  let y ← elem' b (nb - 1)
  let r ← gal false y a 0 na (na - 1)
  match r with
  | some t =>
    if na - t > 0 then
      if (t == 0) = true then pure (.done (some (dh a b (out ++ (a.extract t na).reverse) t nb), t, nb, out ++ (a.extract t na).reverse, mg, na - t, bc))
      else s2 a b t nb (out ++ (a.extract t na).reverse) mg (na - t) bc
    else s2 a b na nb out mg (na - t) bc
  | _ => pure (.done (some (dh a b out na nb), na, nb, out, mg, ac, bc))
def r2 (c : D7) : StateT SortSt Sem (ForInStep D7) :=
  if c.2.2.2.2.1 > 1 then s1 a b c.2.1 c.2.2.1 c.2.2.2.1 (c.2.2.2.2.1 - 1) c.2.2.2.2.2.1 c.2.2.2.2.2.2 else s1 a b c.2.1 c.2.2.1 c.2.2.2.1 c.2.2.2.2.1 c.2.2.2.2.2.1 c.2.2.2.2.2.2
def r3 (c : D5) : StateT SortSt Sem (ForInStep D5) := do
  let d ← forIn [:a.size + b.size] ((none, c.2.1, c.2.2.1, c.2.2.2.1, 0, 0) : D6) fun _ d => r1 a b c.2.2.2.2 d.2.1 d.2.2.1 d.2.2.2.1 d.2.2.2.2.1 d.2.2.2.2.2
  match d.1 with
  | some r => pure (.done (some r, d.2.1, d.2.2.1, d.2.2.2.1, c.2.2.2.2))
  | none => do
    liftM (rule "list.sort.gallop")
    let e ← forIn [:a.size + b.size] ((none, d.2.1, d.2.2.1, d.2.2.2.1, c.2.2.2.2 + 1, d.2.2.2.2.1, d.2.2.2.2.2) : D7) fun _ e => r2 a b e
    match e.1 with
    | some r => pure (.done (some r, e.2.1, e.2.2.1, e.2.2.2.1, e.2.2.2.2.1))
    | none => do
      setG (e.2.2.2.2.1 + 1)
      pure (.yield (none, e.2.1, e.2.2.1, e.2.2.2.1, e.2.2.2.2.1 + 1))
end

theorem take_split {l : List Keyed} {i j : Nat} (h : i ≤ j) : l.take j = l.take i ++ (l.drop i).take (j - i) := by
  rw [← List.take_add, show i + (j - i) = j from by omega]
theorem mem_take {l : List Keyed} {k : Nat} {x : Keyed} (h : x ∈ l.take k) : ∃ i, i < k ∧ l[i]? = some x := by
  obtain ⟨i, hi⟩ := List.mem_iff_getElem?.mp h
  rw [List.getElem?_take] at hi
  split at hi
  · exact ⟨i, by omega, hi⟩
  · cases hi
structure HW (a b out : Array Keyed) (na nb : Nat) : Prop where
  pm : ((a.toList.take na ++ b.toList.take nb) ++ out.toList.reverse).Perm (a.toList ++ b.toList)
  sa : SL (a.toList.take na ++ out.toList.reverse)
  sb : SL (b.toList.take nb ++ out.toList.reverse)
  n : na + nb + out.size = a.size + b.size
  xa : na ≤ a.size
  xb : nb ≤ b.size
structure HI (a b out : Array Keyed) (na nb : Nat) : Prop extends HW a b out na nb where
  ha : 0 < na
  hb : 1 < nb
theorem ext0 (a : Array Keyed) (i : Nat) : (a.extract 0 i).toList = a.toList.take i := by
  rw [ext_list2, List.drop_zero, Nat.sub_zero]
section
variable {a b out : Array Keyed} {na nb : Nat}
theorem HW.dn (m : HW a b out na nb) (h : na = 0 ∨ nb = 0) : Good a b (dh a b out na nb) := by
  have e : (dh a b out na nb).toList = (a.toList.take na ++ b.toList.take nb) ++ out.toList.reverse := by
    show (a.extract 0 na ++ b.extract 0 nb ++ out.reverse).toList = _
    rw [Array.toList_append, Array.toList_append, ext0, ext0, Array.toList_reverse]
  refine ⟨by rw [e]; exact m.pm, ?_⟩
  rw [e]
  rcases h with h | h
  · rw [h, List.take_zero, List.nil_append]; exact m.sb
  · rw [h, List.take_zero, List.append_nil]; exact m.sa
theorem HW.fh (m : HW a b out na nb) (h : nb = 1) (hf : ∀ (i : Nat) (x y : Keyed), a.toList[i]? = some x → b.toList[0]? = some y → kv y ≤ kv x) : Good a b (fh a b out na nb) := by
  have e : (Tim.fh a b out na nb).toList = b.toList.take nb ++ (a.toList.take na ++ out.toList.reverse) := by
    show (b.extract 0 nb ++ a.extract 0 na ++ out.reverse).toList = _
    rw [Array.toList_append, Array.toList_append, ext0, ext0, Array.toList_reverse, List.append_assoc]
  refine ⟨?_, ?_⟩
  · rw [e, ← List.append_assoc]; exact (List.perm_append_comm.append_right _).trans m.pm
  · rw [e]
    obtain ⟨c1, _, c3⟩ := SL.app.mp m.sb
    refine SL.app.mpr ⟨c1, m.sa, fun x hx y hy => ?_⟩
    rcases List.mem_append.mp hy with z | z
    · obtain ⟨i, hi, ei⟩ := mem_take hx
      obtain ⟨j, _, ej⟩ := mem_take z
      have i0 : i = 0 := by omega
      subst i0
      exact hf j y x ej ei
    · exact c3 x hx y z
theorem HW.stepA (m : HW a b out na nb) {t : Nat} (ht : t ≤ na) (h : ∀ (i j : Nat) (x y : Keyed), t ≤ i → i < na → j < nb → a.toList[i]? = some x → b.toList[j]? = some y → kv y ≤ kv x) : HW a b (out ++ (a.extract t na).reverse) t nb := by
  have sp := take_split (l := a.toList) ht
  have pm := m.pm
  have sa := m.sa
  rw [sp] at pm sa
  have er : (out ++ (a.extract t na).reverse).toList.reverse = (a.toList.drop t).take (na - t) ++ out.toList.reverse := by
    rw [Array.toList_append, Array.toList_reverse, List.reverse_append, List.reverse_reverse, ext_list2]
  have mv := SL.moveR sa m.sb fun x hx y hy => by
    obtain ⟨i, h1, h2, e1⟩ := mem_ext hy
    obtain ⟨j, h3, e2⟩ := mem_take hx
    exact h i j y x h1 h2 h3 e1 e2
  refine ⟨?_, ?_, ?_, ?_, Nat.le_trans ht m.xa, m.xb⟩
  · rw [er, ← List.append_assoc]
    refine List.Perm.trans (List.Perm.append_right _ ?_) pm
    rw [List.append_assoc, List.append_assoc]
    exact List.Perm.append_left _ List.perm_append_comm
  · rw [er]; exact mv.1
  · rw [er]; exact mv.2
  · have := m.n; have := m.xa; rw [Array.size_append, Array.size_reverse, Array.size_extract]; omega
theorem ext_oneR {a : Array Keyed} {i : Nat} {x : Keyed} (hi : 0 < i) (h : a[i - 1]? = some x) (out : Array Keyed) : out.push x = out ++ (a.extract (i - 1) i).reverse := by
  apply Array.ext'
  rw [Array.toList_push, Array.toList_append, Array.toList_reverse, ext_list2, show i - (i - 1) = 1 from by omega, drop_cons (by rw [Array.getElem?_toList]; exact h)]
  rfl
end

section
variable {prog : Program} {w : World} {A : Around} {E : Value → Shared → Prop} {s : Shared} {st : SortSt} {a b : Array Keyed}
def U6 (a b : Array Keyed) (o : Nat) (c : D6) : Prop := (∃ g, c.1 = some g ∧ Good a b g) ∨ (c.1 = none ∧ HI a b c.2.2.2.1 c.2.1 c.2.2.1 ∧ o < c.2.2.2.1.size)
def U7 (a b : Array Keyed) (o : Nat) (c : D7) : Prop := (∃ g, c.1 = some g ∧ Good a b g) ∨ (c.1 = none ∧ HI a b c.2.2.2.1 c.2.1 c.2.2.1 ∧ o < c.2.2.2.1.size)

theorem HW.one (m : HW a b out na nb) (T : Two a b) {x : Keyed} (h0 : 0 < na) (ex : a[na - 1]? = some x) (hx : ∀ (j : Nat) (y : Keyed), j < nb → b.toList[j]? = some y → kv y ≤ kv x) : HW a b (out.push x) (na - 1) nb := by
  rw [ext_oneR h0 ex]
  exact m.stepA (by omega) fun i j x' y' h1 h2 h3 e1 e2 => by
    have e : i = na - 1 := by omega
    subst e
    rw [li ex] at e1; cases e1
    exact hx j y' h3 e2
structure Fin7H (a b : Array Keyed) (o : Nat) (st : SortSt) (Q : ForInStep D7 → SortSt → Prop) : Prop where
  dn : ∀ c, U7 a b o c → Q (.done c) st
  yl : ∀ c, c.1 = none → HI a b c.2.2.2.1 c.2.1 c.2.2.1 → o < c.2.2.2.1.size → Q (.yield c) st
end
end Tim

end

section
set_option maxHeartbeats 2000000
set_option maxRecDepth 100000
set_option linter.unusedVariables false
set_option linter.unusedSimpArgs false
namespace Tim
open PySem PyProof.Rows

/-! ### writing a run back -/
def wb (sa : Nat) (l : List Keyed) (n : Nat) (arr : Array Keyed) : Array Keyed := (l.zipIdx n).foldl (fun a (q : Keyed × Nat) => a.setIfInBounds (sa + q.2) q.1) arr
section
variable {prog : Program} {w : World} {A : Around} {E : Value → Shared → Prop} {s : Shared} {a₀ : Array Keyed} {st : SortSt}

end
end Tim

end

section
set_option maxHeartbeats 2000000
set_option maxRecDepth 100000
set_option linter.unusedVariables false
set_option linter.unusedSimpArgs false
namespace Tim
open PySem PyProof.Rows
section
variable {prog : Program} {w : World} {A : Around} {E : Value → Shared → Prop} {s : Shared} {a₀ : Array Keyed} {st : SortSt}

end
end Tim

end

section
set_option maxHeartbeats 2000000
set_option maxRecDepth 100000
set_option linter.unusedVariables false
set_option linter.unusedSimpArgs false
namespace Tim
open PySem PyProof.Rows
section
variable {prog : Program} {w : World} {A : Around} {E : Value → Shared → Prop} {s : Shared}

end
end Tim

end

section
set_option maxHeartbeats 2000000
set_option maxRecDepth 100000
set_option linter.unusedVariables false
set_option linter.unusedSimpArgs false
namespace Tim
open PySem PyProof.Rows
end Tim

end

section
set_option maxHeartbeats 2000000
set_option maxRecDepth 100000
set_option linter.unusedVariables false
set_option linter.unusedSimpArgs false
namespace L2
open PySem PySem.Spec PyProof.Rows

/-! ### the cells that a comprehension takes over -/
def clFrom (env : Env) : List (Str × NameKind) → List (Str × Addr) → List (Str × Addr)
  | [], acc => acc
  | (n, k) :: r, acc => if k == .free then clFrom env r ((n, (env.cells.lookup n).getD 0) :: acc) else clFrom env r acc
def clOf (scope : Scope) (env : Env) : List (Str × Addr) := clFrom env scope.names []
theorem closure_go {env : Env} : ∀ (l : List (Str × NameKind)) (acc : List (Str × Addr)), (∀ y ∈ l, y.2 = .free → (env.cells.lookup y.1).isSome = true) →
    (forIn l acc fun x cs => if x.2 == NameKind.free then (do let c ← cellOf env x.1; pure (ForInStep.yield ((x.1, c) :: cs))) else pure (ForInStep.yield cs) : Sem (List (Str × Addr))) = pure (clFrom env l acc)
  | [], acc, _ => rfl
  | (n, k) :: r, acc, h => by
    have hr : ∀ y ∈ r, y.2 = .free → (env.cells.lookup y.1).isSome = true := fun y hy => h y (List.mem_cons_of_mem _ hy)
    rw [List.forIn_cons]
    cases hk : k == NameKind.free with
    | false =>
      simp only [hk, Bool.false_eq_true, if_false]
      show (forIn r acc _ : Sem _) = pure (clFrom env ((n, k) :: r) acc)
      rw [closure_go r acc hr]
      have e2 : clFrom env ((n, k) :: r) acc = clFrom env r acc := by
        show (if (k == .free) = true then _ else _) = _
        rw [hk]; rfl
      rw [e2]
    | true =>
      have hf : k = .free := by simpa using hk
      obtain ⟨c, hc⟩ := Option.isSome_iff_exists.mp (h (n, k) List.mem_cons_self hf)
      have ec : cellOf env n = pure c := by unfold cellOf; rw [hc]
      simp only [hk, if_true, ec]
      show (forIn r ((n, c) :: acc) _ : Sem _) = pure (clFrom env ((n, k) :: r) acc)
      rw [closure_go r _ hr]
      have e2 : clFrom env ((n, k) :: r) acc = clFrom env r ((n, (env.cells.lookup n).getD 0) :: acc) := by
        show (if (k == .free) = true then _ else _) = _
        rw [hk]; rfl
      rw [e2, hc]; rfl
theorem closure_eq {scope : Scope} {env : Env} (h : ∀ y ∈ scope.names, y.2 = .free → (env.cells.lookup y.1).isSome = true) : closureFor scope env = pure (clOf scope env) := by
  have z := closure_go scope.names [] h
  unfold closureFor
  show (forIn scope.names [] _ >>= fun cs => pure cs : Sem (List (Str × Addr))) = _
  rw [show (forIn scope.names [] _ : Sem (List (Str × Addr))) = pure (clOf scope env) from z]
  rfl
theorem mem_clFrom {env : Env} {x : Str} {c : Addr} : ∀ {l : List (Str × NameKind)} {acc : List (Str × Addr)}, (x, c) ∈ clFrom env l acc → (x, c) ∈ acc ∨ ((x, NameKind.free) ∈ l ∧ c = (env.cells.lookup x).getD 0)
  | [], acc, h => .inl h
  | (n, k) :: r, acc, h => by
    unfold clFrom at h
    split at h
    · rename_i hk
      have hf : k = .free := by simpa using hk
      rcases mem_clFrom h with z | ⟨z1, z2⟩
      · rcases List.mem_cons.mp z with e | e
        · cases e
          exact .inr ⟨by rw [hf]; exact List.mem_cons_self, rfl⟩
        · exact .inl e
      · exact .inr ⟨List.mem_cons_of_mem _ z1, z2⟩
    · rcases mem_clFrom h with z | ⟨z1, z2⟩
      · exact .inl z
      · exact .inr ⟨List.mem_cons_of_mem _ z1, z2⟩
theorem keys_clFrom {env : Env} {x : Str} : ∀ {l : List (Str × NameKind)} {acc : List (Str × Addr)}, ((x, NameKind.free) ∈ l ∨ ∃ c, (x, c) ∈ acc) → ∃ c, (x, c) ∈ clFrom env l acc
  | [], acc, h => by
    rcases h with h | h
    · simp at h
    · exact h
  | (n, k) :: r, acc, h => by
    unfold clFrom
    split
    · rename_i hk
      refine keys_clFrom ?_
      rcases h with h | ⟨c, h⟩
      · rcases List.mem_cons.mp h with e | e
        · cases e
          exact .inr ⟨_, List.mem_cons_self⟩
        · exact .inl e
      · exact .inr ⟨c, List.mem_cons_of_mem _ h⟩
    · rename_i hk
      refine keys_clFrom ?_
      rcases h with h | h
      · rcases List.mem_cons.mp h with e | e
        · cases e
          exact absurd rfl hk
        · exact .inl e
      · exact .inr h
theorem lookup_of_key {x : Str} : ∀ {l : List (Str × Addr)} {c : Addr}, (x, c) ∈ l → ∃ d, l.lookup x = some d
  | [], _, h => by simp at h
  | (n, b) :: r, c, h => by
    cases hx : x == n with
    | true => exact ⟨b, by simp [List.lookup_cons, hx]⟩
    | false =>
      rcases List.mem_cons.mp h with e | e
      · cases e
        simp at hx
      · obtain ⟨d, hd⟩ := lookup_of_key e
        exact ⟨d, by simp [List.lookup_cons, hx, hd]⟩

/-! ### the comprehension's block -/
/-- what is looked at once, by the text: the comprehension's scope -/
structure CSc (X : Cx) (own fr : List Str) (ixs : List Nat) (scope : Scope) : Prop where
  kind : scope.kind = .function
  nocell : scope.names.all (fun y => y.2 != .cell) = true
  free : scope.names.all (fun y => y.2 != .free || X.env.kindOf y.1 == some .cell || X.env.kindOf y.1 == some .free) = true
  locs : scope.names.all (fun y => y.2 != .local || scope.names.lookup y.1 == some .local) = true
  frs : ixs.map (fun i => X.N[i]?) = fr.map some
  vis : fr.all (fun x => X.env.kindOf x == some .cell || X.env.kindOf x == some .free) = true
  nofr : fr.all (fun x => scope.names.lookup x != some .local) = true
def cxC (X : Cx) (own fr : List Str) (scope : Scope) (fp : List Addr) (pins : List (Addr × Obj)) (s3 : Shared) (H3 : Hp) : Cx :=
  { X with N := own ++ fr, s₀ := s3, H₀ := H3, env := compEnvC scope (clOf scope X.env) s3.heap.objs.size X.env, outer := X.stack, stack := X.stack, ex := fp, fn := fun _ => false, pn := X.pn ++ pins, xe := fun _ _ => False }
def stC (own : List Str) (ixs : List Nat) (σ : St) : St := List.replicate own.length none ++ ixs.map fun i => (σ[i]?).join

section
variable {X : Cx} {own fr : List Str} {ixs : List Nat} {scope : Scope} {fp : List Addr} {pins : List (Addr × Obj)} {σ : St} {H : Hp} {s : Shared}

theorem relabel_mem {env : Env} {x : Str} {k : NameKind} (h : (relabel scope env).names.lookup x = some k) : (x, k) ∈ scope.names ∨ ((x, NameKind.free) ∈ scope.names ∧ k = .cell) := by
  have m := PySem.mem_of_lookup h
  obtain ⟨⟨n, k'⟩, hm, e⟩ := List.mem_map.mp (show (x, k) ∈ scope.names.map _ from m)
  dsimp only at e
  split at e
  · rename_i hc
    cases e
    have hf : k' = .free := by
      simp only [Bool.and_eq_true, beq_iff_eq] at hc
      exact hc.1.1
    subst hf
    exact .inr ⟨hm, rfl⟩
  · cases e
    exact .inl hm
theorem CSc.cellIn (S : CSc X own fr ixs scope) (ok : X.Ok) {x : Str} (h : (x, NameKind.free) ∈ scope.names) : ∃ c, X.env.cells.lookup x = some c := by
  have z := (List.all_eq_true.mp S.free) _ h
  simp only [bne_self_eq_false, Bool.false_or, Bool.or_eq_true, beq_iff_eq] at z
  exact ok.has x z
theorem CSc.hcl (S : CSc X own fr ixs scope) (ok : X.Ok) : ∀ y ∈ scope.names, y.2 = .free → (X.env.cells.lookup y.1).isSome = true := fun ⟨x, k⟩ hy hk => by
  have hk : k = .free := hk
  subst hk
  obtain ⟨c, e⟩ := S.cellIn ok hy
  rw [e]; rfl
theorem CSc.cl_lookup (S : CSc X own fr ixs scope) (ok : X.Ok) {x : Str} {c : Addr} (h : (clOf scope X.env).lookup x = some c) : X.env.cells.lookup x = some c ∧ (x, NameKind.free) ∈ scope.names := by
  rcases mem_clFrom (PySem.mem_of_lookup h) with z | ⟨z1, z2⟩
  · simp at z
  · obtain ⟨d, e⟩ := S.cellIn ok z1
    rw [e] at z2
    rw [e, z2]
    exact ⟨rfl, z1⟩
theorem CSc.cl_of (S : CSc X own fr ixs scope) {x : Str} (h : (x, NameKind.free) ∈ scope.names) : ∃ c, (clOf scope X.env).lookup x = some c := by
  obtain ⟨c, e⟩ := keys_clFrom (env := X.env) (acc := []) (.inl h)
  exact lookup_of_key e

/-- the block's state at its entry -/
theorem inv_comp {s4 : Shared} {m4 : Str → Option Value} (S : CSc X own fr ixs scope) (I : Inv X pins σ H s) (hf : ∀ b ∈ fp, FpOk X pins H b) (hlt : ∀ b ∈ fp, b < s.heap.objs.size)
    (os : s4.os = s.os) (bare : AllBare s4.gens) (kept : ∀ b o, s.heap.get? b = some o → s4.heap.get? b = some o) (ns : s4.heap.Ns s.heap.objs.size m4) :
    Inv (cxC X own fr scope fp pins s H) [] (stC own ixs σ) H s4 := by
  have C0 : H s.heap.objs.size = none := I.hok.fresh (Nat.le_refl _)
  have cne : ∀ x c, (clOf scope X.env).lookup x = some c → c ≠ s.heap.objs.size := fun x c e z => by
    obtain ⟨e1, _⟩ := S.cl_lookup I.ok e
    obtain ⟨v, q⟩ := I.cell x c e1
    exact absurd q.lt (by rw [z]; exact Nat.lt_irrefl _)
  refine ⟨⟨I.ok.mod, S.kind, I.ok.glob, I.ok.blt, Nat.le_refl _, fun x y c h1 h2 => ?_, fun x hx => ?_, fun x c h => absurd h Bool.false_ne_true, I.ok.hd, I.ok.frames, .inl rfl, fun b hb => ⟨Nat.ne_of_lt (hlt b hb), fun x c e z => ?_⟩, I.bs, Nat.le_trans I.ok.bsz I.sz, fun b o e hb => ?_, fun b hb hbs => ?_, I.stack, I.stkFree⟩,
    os, bare, Un.kept kept, ⟨m4, ns, fun i x v h1 h2 h3 => ?_⟩, fun x c e => ?_, C0, fun x c e => ?_, fun q hq => ?_, I.hok.kept kept, ?_⟩
  · exact I.ok.inj x y c (S.cl_lookup I.ok h1).1 (S.cl_lookup I.ok h2).1
  · have hx : (relabel scope X.env).names.lookup x = some .cell ∨ (relabel scope X.env).names.lookup x = some .free := hx
    have fm : (x, NameKind.free) ∈ scope.names := by
      rcases hx with hx | hx
      · rcases relabel_mem hx with z | ⟨z, _⟩
        · have q := (List.all_eq_true.mp S.nocell) _ z
          simp at q
        · exact z
      · rcases relabel_mem hx with z | ⟨z, _⟩
        · exact z
        · exact z
    exact S.cl_of fm
  · exact (hf b hb).2.2.2.2.1 x c (S.cl_lookup I.ok e).1 z
  · have f := (hf b hb).2.2.2.1
    rcases f with f | f
    · exact I.ok.noex b o e f
    · exact absurd (Nat.lt_of_lt_of_le (Heap.lt_size e) (Nat.le_trans I.ok.bsz f)) (Nat.lt_irrefl _)
  · rcases List.mem_cons.mp (I.stkSub b hbs) with z | z
    · exact (hf b hb).2.1 z
    · exact (hf b hb).2.2.1 z
  · have h1 : (own ++ fr)[i]? = some x := h1
    have h2 : (List.replicate own.length none ++ ixs.map fun i => (σ[i]?).join)[i]? = some (some v) := h2
    by_cases hi : i < own.length
    · rw [List.getElem?_append_left (by simpa using hi), List.getElem?_replicate, if_pos hi] at h2
      cases h2
    · rw [List.getElem?_append_right (by omega)] at h1
      rw [List.getElem?_append_right (by simpa using hi), List.length_replicate, List.getElem?_map] at h2
      have e3 := congrArg (fun l => l[i - own.length]?) S.frs
      simp only [List.getElem?_map, h1, Option.map_some] at e3
      cases e4 : ixs[i - own.length]? with
      | none => rw [e4] at h2; cases h2
      | some j =>
        rw [e4] at h2 e3
        simp only [Option.map_some, Option.some.injEq] at h2 e3
        have e5 : σ[j]? = some (some v) := by
          cases e6 : σ[j]? with
          | none => rw [e6] at h2; cases h2
          | some o => rw [e6] at h2; cases o with
            | none => cases h2
            | some v' => cases h2; rfl
        have vz := (List.all_eq_true.mp S.vis) x (List.mem_of_getElem? h1)
        simp only [Bool.or_eq_true, beq_iff_eq] at vz
        have vis : Vis X.env.scope x := by
          rcases vz with z | z
          · exact .inr (.inl z)
          · exact .inr (.inr z)
        obtain ⟨m, hn, hl⟩ := I.loc
        obtain ⟨u, r, lk⟩ := hl j x v e3 e5 vis
        refine ⟨u, r, ?_⟩
        rcases lk with ⟨k1, _⟩ | ⟨k1, c, e, z⟩
        · rcases vz with z | z
          · rw [z] at k1; cases k1
          · rw [z] at k1; cases k1
        · have nl := (List.all_eq_true.mp S.nofr) x (List.mem_of_getElem? h1)
          have kk : (compEnvC scope (clOf scope X.env) s.heap.objs.size X.env).kindOf x = some .cell ∨ (compEnvC scope (clOf scope X.env) s.heap.objs.size X.env).kindOf x = some .free := by
            rcases h3 with z | z | z
            · exfalso
              have z : (relabel scope X.env).names.lookup x = some .local := z
              rcases relabel_mem z with y | ⟨_, y⟩
              · have q := (List.all_eq_true.mp S.locs) _ y
                simp only [bne_self_eq_false, Bool.false_or, beq_iff_eq] at q
                rw [q] at nl
                simp at nl
              · cases y
            · exact .inl z
            · exact .inr z
          have fm : (x, NameKind.free) ∈ scope.names := by
            rcases kk with hx | hx
            · rcases relabel_mem hx with z | ⟨z, _⟩
              · have q := (List.all_eq_true.mp S.nocell) _ z
                simp at q
              · exact z
            · rcases relabel_mem hx with z | ⟨z, _⟩
              · exact z
              · exact z
          obtain ⟨c', e'⟩ := S.cl_of fm
          have ec := (S.cl_lookup I.ok e').1
          rw [e] at ec
          cases ec
          obtain ⟨oc, ho, hd⟩ := z
          exact .inr ⟨kk, c, e', ⟨oc, kept c oc ho, hd⟩⟩
  · obtain ⟨e1, _⟩ := S.cl_lookup I.ok e
    obtain ⟨v, oc, ho, hd⟩ := I.cell x c e1
    exact ⟨v, oc, kept c oc ho, hd⟩
  · exact I.freeC x c (S.cl_lookup I.ok e).1
  · have hq : q ∈ X.pn ++ pins := by simpa [cxC] using hq
    obtain ⟨a1, a2, a3, a4, a5⟩ := I.pin q hq
    refine ⟨kept _ _ a1, a2, Nat.ne_of_lt (Heap.lt_size a1), fun z => ?_, a5⟩
    rcases List.mem_cons.mp (I.stkSub _ z) with y | y
    · exact a3 y
    · exact a4 y
  · show (List.replicate own.length none ++ ixs.map fun i => (σ[i]?).join).length = (own ++ fr).length
    have e := congrArg List.length S.frs
    simp only [List.length_map] at e
    simp [e]
/-- behind the block -/
theorem Inv.block {H' : Hp} {s5 : Shared} {σ' : St} {pins' : List (Addr × Obj)} (I : Inv X pins σ H s) (hf : ∀ b ∈ fp, FpOk X pins H b) (J : Inv (cxC X own fr scope fp pins s H) pins' σ' H' s5) : Inv X pins σ H' s5 :=
  I.call' (ch := fp) J.os J.base J.hok J.bare fun b hb => ⟨(hf b hb).2.2.2.1, (hf b hb).2.1, (hf b hb).2.2.2.2.1, (hf b hb).2.2.2.2.2⟩
end
end L2

end

section
set_option maxHeartbeats 2000000
set_option maxRecDepth 100000
set_option linter.unusedVariables false
set_option linter.unusedSimpArgs false
namespace L2
open PySem PySem.Spec PyProof.Rows

/-! ### a comprehension's tests, its loop -/
def PTs (Y : Cx) (ifs : List Expr) (tc : TT) : Prop :=
  ∀ (pins : List (Addr × Obj)) (s : Shared) (σ : St) (H : Hp) (Q : Bool → Hp → Prop), Inv Y pins σ H s → tc σ H Q →
    wpAny (model Y.prog Y.w) Y.A (forIn ifs true fun c r => if r = true then do let ok ← isTrue c Y.env (eval c Y.env); pure (ForInStep.yield ok) else pure (ForInStep.yield r)) (TP Y pins σ Q) Y.xe s
def tYes : TT := fun _ H Q => Q true H
theorem pts_nil {Y : Cx} : PTs Y [] tYes := fun _ _ _ H _ I h => wpAny_tests_nil ⟨H, I, h⟩
theorem pts_one {Y : Cx} {c : Expr} {tc : TT} (h : PT Y c tc) : PTs Y [c] tc := fun pins s σ H Q I q => wpAny_tests_one (h pins s σ H Q I q)

/-- a turn of a comprehension: W by the turn, a measure, the block's names, the heap -/
def CTurn (J : It) (g : TG) (tc : TT) (te : TE) (D : Addr) (W : Nat → Nat → St → Hp → Prop) (Q : VK) : Prop :=
  ∀ i m σ' H', W i m σ' H' → (J.stop i H' ∧ Q (.ref D) H') ∨ (J.go i H' ∧ ∀ x H2, J.yld i H' x H2 → g x σ' H2 fun σ3 H3 => tc σ3 H3 fun b H4 =>
    if b = true then te σ3 H4 fun v H5 => ∃ acc, H5 D = some (.lst acc) ∧ acc.length < sizeLine ∧ ∃ m', m' < m ∧ W (i + 1) m' σ3 (upd H5 D (.lst (acc ++ [v]))) else ∃ m', m' < m ∧ W (i + 1) m' σ3 H4)

section
variable {Y : Cx} {tg elt iter : Expr} {ifs : List Expr} {scope : Scope} {pos : Pos} {it D : Addr} {fp : List Addr} {tn : Nat → Heap → Prop} {J : It} {pins : List (Addr × Obj)} {σ : St} {H : Hp} {s : Shared}
  {g : TG} {tc : TT} {te : TE} {W : Nat → Nat → St → Hp → Prop} {Q : VK}
theorem comp_loop (hc : Y.calm = true) (hx : Y.xe = fun _ _ => False) (T : Turn Y.prog Y.w Y.K tg J fp it tn) (hg : PG Y tg g) (ht : PTs Y ifs tc) (he : PE Y elt te) (I : Inv Y pins σ H s) (st : tn 0 s.heap)
    (f : ∀ b ∈ fp, FpOk Y pins H b) {m0 : Nat} (w0 : W 0 m0 σ H) (turn : CTurn J g tc te D W Q) {R : Result → Shared → Prop} (hR : ∀ s5 σ5 H5, Inv Y pins σ5 H5 s5 → Q (.ref D) H5 → R (.ok .next) s5) :
    codeAny (model Y.prog Y.w) Y.A (.compLoop (.ListComp elt [⟨tg, iter, ifs, 0⟩] scope pos) 0 (.ref it) (.ref D) Y.env) R s := by
  have stat : ∀ {H' : Hp}, (∀ b ∈ fp, H' b = none) → ∀ b ∈ fp, FpOk Y pins H' b := fun hn b hb => ⟨hn b hb, (f b hb).2⟩
  have never : ∀ {α : Type} {t : Sem α} {Q' : α → Shared → Prop} {E' : Value → Shared → Prop} {s' : Shared}, wpAny (model Y.prog Y.w) Y.A t Q' Y.xe s' → wpAny (model Y.prog Y.w) Y.A t Q' E' s' := fun h => by
    rw [hx] at h
    exact wpAny_mono h (fun _ _ z => z) fun _ _ z => z.elim
  refine codeAny_loop rfl (fun n s' => ∃ i σ' H', Inv Y pins σ' H' s' ∧ tn i s'.heap ∧ (∀ b ∈ fp, H' b = none) ∧ W i n σ' H') ?_ m0 ⟨0, σ, H, I, st, fun b hb => (f b hb).1, w0⟩
  rintro n s3 ⟨i, σ3, H3, I3, st3, fr3, w3⟩
  show wpAny _ Y.A ((compTurn (.ListComp elt [⟨tg, iter, ifs, 0⟩] scope pos) 0 (.ref it) (.ref D) Y.env).onRaise (fun x => do noteFrame x Y.env; theTreesLotGoes x)) _ _ s3
  refine wpAny_noted ?_
  rw [compTurn_list]
  refine wpAny_bind (wpAny_standAt (wpAny_bind (never ?_)))
  rcases turn i n σ3 H3 w3 with ⟨stop, qn⟩ | ⟨go, step⟩
  · refine thn (T.done Y rfl rfl rfl hc i pins s3 σ3 H3 Y.xe I3 (stat fr3) st3 stop) fun r s4 ⟨hr, I4⟩ => ?_
    subst hr
    exact wpAny_pure (hR s4 σ3 H3 I4 qn)
  · refine thn (T.item Y rfl rfl rfl hc i pins s3 σ3 H3 Y.xe I3 (stat fr3) st3 go) fun r s4 ⟨u, hr, h4⟩ => ?_
    subst hr
    refine wpAny_bind (never (thn h4 fun _ s5 ⟨x, H5, I5, r5, y5, st5, fr5⟩ => ?_))
    have I5' := I5.pinned (stat fr5) (T.obj _ _ st5)
    have back : ∀ {σ7 : St} {H7 : Hp} {s7 : Shared}, Inv Y (pins ++ pinsAt fp s5.heap) σ7 H7 s7 → ∀ {m' : Nat}, m' < n → W (i + 1) m' σ7 H7 → ∃ m, m < n ∧ ∃ i σ' H', Inv Y pins σ' H' s7 ∧ tn i s7.heap ∧ (∀ b ∈ fp, H' b = none) ∧ W i m σ' H' := fun {σ7 H7 s7} I7 {m'} hm w7 => by
      refine ⟨m', hm, i + 1, σ7, H7, I7.unpinned, T.keep _ _ _ st5 fun b hb o e => (I7.pin (b, o) (List.mem_append_right _ (List.mem_append_right _ (mem_pinsAt hb e)))).1, fun b hb => ?_, w7⟩
      obtain ⟨o, e, d⟩ := T.obj _ _ st5 b hb
      exact (I7.pin (b, o) (List.mem_append_right _ (List.mem_append_right _ (mem_pinsAt hb e)))).2.1
    refine wpAny_bind (never (thn (hg _ s5 σ3 H5 x u _ I5' r5 (step x H5 y5)) fun _ s6 ⟨σ6, H6, I6, q6⟩ => ?_))
    refine wpAny_bind (never (thn (ht _ s6 σ6 H6 _ I6 q6) fun ok s7 ⟨H7, I7, q7⟩ => ?_))
    cases ok with
    | false =>
      obtain ⟨m', hm, w7⟩ := q7
      exact wpAny_pure ⟨rfl, back I7 hm w7⟩
    | true =>
      rw [if_pos rfl] at q7
      refine wpAny_bind (wpAny_bind (never (thn (he _ s7 σ6 H7 _ I7 q7) fun v s8 ⟨y, H8, I8, r8, acc, e8, l8, m', hm, w8⟩ => ?_)))
      refine wpAny_bind (never (thn (mt_append _ s8 σ6 H8 (.ref D) [y] (.ref D) [v] (fun _ H9 => H9 = upd H8 D (.lst (acc ++ [y]))) I8 rfl (.cons r8 .nil) ⟨D, acc, y, rfl, rfl, e8, l8, rfl⟩) fun _ s9 ⟨_, H9, I9, _, e9⟩ => ?_))
      subst e9
      exact wpAny_pure (wpAny_pure ⟨rfl, back I9 hm w8⟩)
end

/-! ### the comprehension as an expression -/
/-- what the block's parts promise, wherever it stands -/
structure CBl (X : Cx) (own fr : List Str) (scope : Scope) (tg elt : Expr) (ifs : List Expr) (g : TG) (tc : TT) (te : TE) : Prop where
  tg : ∀ fp pins s3 H3, PG (cxC X own fr scope fp pins s3 H3) tg g
  ts : ∀ fp pins s3 H3, PTs (cxC X own fr scope fp pins s3 H3) ifs tc
  el : ∀ fp pins s3 H3, PE (cxC X own fr scope fp pins s3 H3) elt te
def tComp (own : List Str) (ixs : List Nat) (wi : TI) (g : TG) (tc : TT) (te : TE) : TE := fun σ H Q => wi σ H fun J H1 => ∀ D, H1 D = none →
  ∃ W : Nat → Nat → St → Hp → Prop, (∃ m, W 0 m (stC own ixs σ) (upd H1 D (.lst []))) ∧ CTurn J g tc te D W Q

section
variable {X : Cx} {own fr : List Str} {ixs : List Nat} {scope : Scope} {tg elt iter : Expr} {ifs : List Expr} {pos : Pos} {wi : TI} {g : TG} {tc : TT} {te : TE}

theorem comp_block {it : Addr} {fp : List Addr} {tn : Nat → Heap → Prop} {J : It} {pins : List (Addr × Obj)} {σ : St} {H : Hp} {s : Shared} {Q : VK} {E : Value → Shared → Prop} {RR : Value → Addr → Result → Shared → Prop} (hc : X.calm = true) (S : CSc X own fr ixs scope)
    (B : CBl X own fr scope tg elt ifs g tc te) (I : Inv X pins σ H s) (T : Turn X.prog X.w X.K tg J fp it tn) (st : tn 0 s.heap) (f : ∀ b ∈ fp, FpOk X pins H b)
    (h : ∀ D, H D = none → ∃ W : Nat → Nat → St → Hp → Prop, (∃ m, W 0 m (stC own ixs σ) (upd H D (.lst []))) ∧ CTurn J g tc te D W Q)
    (hRR : ∀ (D C : Addr) (s5 : Shared) (H5 : Hp) (m : Str → Option Value), Inv X pins σ H5 s5 → Q (.ref D) H5 → s5.heap.Ns C m → H5 C = none → C ≠ X.env.locals → X.s₀.heap.objs.size ≤ C → (∀ x c, X.env.cells.lookup x = some c → c ≠ C) → (∀ p ∈ X.pn ++ pins, p.1 ≠ C) → RR (.ref D) C (.ok .next) s5) :
    wpAny (model X.prog X.w) X.A (newList []) (fun acc s₃ => wpAny (model X.prog X.w) X.A (newFunctionEnv scope X.env.globals (clOf scope X.env) [] X.env.qual none .none (some X.env)) (fun cenv s₄ =>
      codeAny (model X.prog X.w) X.A (.compStart (.ListComp elt [⟨tg, iter, ifs, 0⟩] scope pos) 0 (.ref it) acc { cenv with scope := relabel scope X.env }) (RR acc cenv.locals) s₄) E s₃) E s := by
  have hcell : ∀ y ∈ scope.names, y.2 ≠ .cell := fun y hy z => by
    have q := (List.all_eq_true.mp S.nocell) y hy
    rw [z] at q; simp at q
  obtain ⟨W, ⟨m0, w0⟩, turn⟩ := h s.heap.objs.size I.fresh
  have I3 : Inv X pins σ (upd H s.heap.objs.size (.lst [])) { s with heap := s.heap.push { cls := .type "list", data := .seq ([] : List Value).toArray } } := I.lnew (its := []) (ys := []) (t' := s.toks) .nil (Nat.zero_le _)
  have lt0 : ∀ b ∈ fp, b < s.heap.objs.size := fun b hb => by
    obtain ⟨o, e, _⟩ := T.obj _ _ st b hb
    exact Heap.lt_size e
  have f3 : ∀ b ∈ fp, FpOk X pins (upd H s.heap.objs.size (.lst [])) b := fun b hb => ⟨by rw [upd_ne (Nat.ne_of_lt (lt0 b hb))]; exact (f b hb).1, (f b hb).2⟩
  refine wpAny_newObj_type (wpAny_newFunctionEnv hcell (fun y hy => absurd hy (by simp)) (fun h₁ ns₁ sb₁ => ?_) S.kind)
  generalize hs3 : ({ s with heap := s.heap.push { cls := .type "list", data := .seq ([] : List Value).toArray } } : Shared) = s3 at I3 ns₁ sb₁ ⊢
  have z3 : s.heap.objs.size < s3.heap.objs.size := by rw [← hs3]; show _ < (s.heap.push _).objs.size; rw [Heap.size_push]; exact Nat.lt_succ_self _
  have kept : ∀ b o, s3.heap.get? b = some o → h₁.get? b = some o := fun b o e => sb₁.extBut b o (Nat.ne_of_lt (Heap.lt_size e)) (Heap.get?_push_of_some _ e)
  have lt3 : ∀ b ∈ fp, b < s3.heap.objs.size := fun b hb => Nat.lt_trans (lt0 b hb) z3
  have st1 : tn 0 h₁ := T.keep _ _ _ st fun b hb o e => kept b o (by rw [← hs3]; exact Heap.get?_push_of_some _ e)
  have I4 : Inv (cxC X own fr scope fp pins s3 (upd H s.heap.objs.size (.lst []))) [] (stC own ixs σ) (upd H s.heap.objs.size (.lst [])) { s3 with heap := h₁, toks := s3.toks + ([] : List (Str × Value)).length } :=
    inv_comp S I3 f3 lt3 rfl I3.bare kept ns₁
  have fY : ∀ b ∈ fp, FpOk (cxC X own fr scope fp pins s3 (upd H s.heap.objs.size (.lst []))) [] (upd H s.heap.objs.size (.lst [])) b := fun b hb => by
    obtain ⟨a1, a2, a3, a4, a5, a6⟩ := f3 b hb
    refine ⟨a1, Nat.ne_of_lt (lt3 b hb), fun z => ?_, .inl hb, fun x c e => a5 x c (S.cl_lookup I.ok e).1, fun p hp => a6 p (by simpa [cxC] using hp)⟩
    rcases List.mem_cons.mp (I.stkSub b z) with y | y
    · exact a2 y
    · exact a3 y
  have loop : codeAny (model X.prog X.w) X.A (.compLoop (.ListComp elt [⟨tg, iter, ifs, 0⟩] scope pos) 0 (.ref it) (.ref s.heap.objs.size) (compEnvC scope (clOf scope X.env) s3.heap.objs.size X.env)) (RR (.ref s.heap.objs.size) s3.heap.objs.size) { s3 with heap := h₁, toks := s3.toks + ([] : List (Str × Value)).length } := by
    refine comp_loop (Y := cxC X own fr scope fp pins s3 (upd H s.heap.objs.size (.lst []))) hc rfl T (B.tg _ _ _ _) (B.ts _ _ _ _) (B.el _ _ _ _) I4 st1 fY w0 turn fun s5 σ5 H5 J5 q5 => ?_
    obtain ⟨m5, hn5, _⟩ := J5.loc
    refine hRR _ _ s5 H5 m5 (Inv.block I3 f3 J5) q5 hn5 J5.free (Nat.ne_of_gt I3.lt) I3.sz (fun x c e z => ?_) fun p hp z => ?_
    · obtain ⟨v, q⟩ := I3.cell x c e
      exact absurd q.lt (by rw [z]; exact Nat.lt_irrefl _)
    · exact absurd (Heap.lt_size (I3.pin p hp).1) (by rw [z]; exact Nat.lt_irrefl _)
  exact codeAny_compStart_list loop (T.self X.A 0 _ _ _ st1 loop)

theorem pe_comp (hc : X.calm = true) (S : CSc X own fr ixs scope) (B : CBl X own fr scope tg elt ifs g tc te) (hi : PI X tg iter wi) (hs : ∀ x, foldedSetIterable iter X.env x = pure x := by intro _; rfl) :
    PE X (.ListComp elt [⟨tg, iter, ifs, 0⟩] scope pos) (tComp own ixs wi g tc te) := by
  intro pins s σ H Q I h
  have hl : ∀ x ∈ scope.names, x.2 = .local → scope.names.lookup x.1 = some .local := fun y hy z => by
    have q := (List.all_eq_true.mp S.locs) y hy
    rw [z] at q; simpa using q
  rw [eval_ListComp]
  refine wpAny_comprehension_free (use := none) rfl hs (closure_eq (S.hcl I.ok)) S.kind hl (thn (hi pins s σ H _ I h) fun v s1 h1 => thn h1 fun itv s2 h2 => ?_)
  obtain ⟨it, fp, tn, J, H2, e, I2, T, st2, f2, q⟩ := h2
  subst e
  refine comp_block (RR := fun acc C => compPost (model X.prog X.w) X.A X.xe none (EP X pins σ Q) acc C) hc S B I2 T st2 f2 q ?_
  intro D C s5 H5 m J5 q5 hn n1 n2 n3 n4 n5
  exact ⟨m, hn, fun h' hs' => ⟨.ref D, H5, J5.turned (t' := s5.toks) (it := C) (fun b o hb e => hs'.extBut b o hb e) n1 n2 (.inr n3) n4 n5, rfl, q5⟩⟩

end
end L2

end

section
set_option maxHeartbeats 2000000
set_option maxRecDepth 100000
set_option linter.unusedVariables false
set_option linter.unusedSimpArgs false
namespace L2
open PySem PySem.Spec PyProof.Rows

section
variable {X : Cx}
/-! ### sorted -/
def rSorted (K : PySem.W.Frag) : List V → Hp → VK → Prop := fun xs H Q => ∃ (p : Addr) (ns : List Int), xs = [.ref p] ∧ SqL K H p (ns.map V.int) ∧ ns.length < 128 ∧
  ∀ q (ms : List Int), H q = none → ms.Perm ns → ms.Pairwise (· ≤ ·) → Q (.ref q) (upd H q (.lst (ms.map V.int)))
def rSortedR (K : PySem.W.Frag) : List V → Hp → VK → Prop := fun xs H Q => ∃ (p : Addr) (ns : List Int), xs = [.ref p] ∧ SqL K H p (ns.map V.int) ∧ ns.length < 128 ∧
  ∀ q (ms : List Int), H q = none → ms.Perm ns → ms.Pairwise (· ≥ ·) → Q (.ref q) (upd H q (.lst (ms.map V.int)))
/-! ### sum, min -/
theorem call_sumL (hc : X.calm = true) : CallR X (.builtin "sum") (fun xs H Q => ∃ (p : Addr) (ns : List Int), xs = [.ref p] ∧ SqL X.K H p (ns.map V.int) ∧ Q (.int ns.sum) H) := by
  intro pins s σ H xs us Q I r h
  obtain ⟨p, ns, rfl, hq, q⟩ := h
  obtain ⟨u, rfl, rx⟩ := vals1 r
  cases rx
  obtain ⟨its, rv, pl, _⟩ := I.list hq
  have hi := intsAre_of rv
  obtain ⟨xs, hx⟩ := hi.allInts.items
  have hl' : s.heap.IsList p (intItems xs) := hx ▸ pl.isList
  refine sum_intListG (I.ok.hd hc) hl' fun h' tk t' hk => ?_
  have e1 : ns = xs.toList.map (·.1) := by
    rw [← nums_intItems, ← hx]
    exact (show numsOf its.toArray.toList = ns from hi.numsOf).symm
  have e2 : preSum (numAt xs) xs.size = ns.sum := by
    rw [preSum_eq, List.take_of_length_le (by simp), e1]
  rw [e2]
  exact ⟨.int ns.sum, H, I.kept hk, ⟨_, rfl⟩, q⟩
/-! ### insert -/
def rInsert : V → List V → Hp → VK → Prop := fun x vs H Q => ∃ l xs i y, x = .ref l ∧ vs = [.int i, y] ∧ H l = some (.lst xs) ∧ 0 ≤ i ∧ i < 2 ^ 62 ∧ xs.length < sizeLine ∧ Q .non (upd H l (.lst (xs.take i.toNat ++ y :: xs.drop i.toNat)))
/-! ### == of two lists of ints -/
def rEqL (K : PySem.W.Frag) : R2 := fun x y H Q => ∃ (p q : Addr) (ns ms : List Int), x = .ref p ∧ y = .ref q ∧ SqL K H p (ns.map V.int) ∧ SqL K H q (ms.map V.int) ∧ Q (.bl (decide (ns = ms))) H
def rNeL (K : PySem.W.Frag) : R2 := fun x y H Q => ∃ (p q : Addr) (ns ms : List Int), x = .ref p ∧ y = .ref q ∧ SqL K H p (ns.map V.int) ∧ SqL K H q (ms.map V.int) ∧ Q (.bl (!decide (ns = ms))) H
/-! ### isinstance -/
def rIsI (K : PySem.W.Frag) : List V → Hp → VK → Prop := fun xs H Q => ∃ x T t b, xs = [x, .ty T] ∧ TyOf K H x t ∧ PySem.W.kitOne K t (.type T) = some b ∧ Q (.bl b) H
theorem call_isI : CallR X (.builtin "isinstance") (rIsI X.K) := by
  intro pins s σ H xs us Q I r h
  obtain ⟨x, T, t, b, rfl, ty, e, q⟩ := h
  obtain ⟨u, u2, rfl, ru, ru2⟩ := vals2 r
  cases ru2
  exact isinst_ok I ru ty e fun tk => ⟨.bl b, H, I.tok tk, rfl, q⟩
end
end L2

end

section
set_option maxHeartbeats 2000000
set_option maxRecDepth 100000
set_option linter.unusedVariables false
set_option linter.unusedSimpArgs false
namespace Rev
open PySem PySem.Spec PyProof.Rows
section
variable {prog : Program} {w : World} {A : Around} {E : Value → Shared → Prop} {s : Shared}
end
end Rev

namespace L2
open PySem PySem.Spec PyProof.Rows
section
variable {X : Cx}
/-- list(reversed(e)) -/
def rRev (K : PySem.W.Frag) : List V → Hp → VK → Prop := fun xs H Q => ∃ p ys, xs = [.ref p] ∧ SqL K H p ys ∧ ∀ q, H q = none → Q (.ref q) (upd H q (.lst ys.reverse))
end
end L2

end

section
set_option maxHeartbeats 2000000
set_option maxRecDepth 100000
set_option linter.unusedVariables false
set_option linter.unusedSimpArgs false
namespace L2
open PySem PySem.Spec PyProof.Rows

/-! ### a def of the text that keeps a promise; a call of it -/
def Dfn (K : PySem.W.Frag) (mg : Str → Option Value) (x : Str) (st : Stmt) (ps : List Str) : Prop := ∃ (f : Addr) (fd : FuncData), Fun K x x st f fd ∧ mg x = some (.ref f) ∧ Binds K fd ps []
def OkD (P : Program) (w : World) (K : PySem.W.Frag) (mg : Str → Option Value) (base : Heap) (k : Nat) (x : Str) (ps : List Str) (sp : Sp) : Prop :=
  ∃ (f : Addr) (fd : FuncData), mg x = some (.ref f) ∧ PySem.W.keepIn K (.ref f) = true ∧ Binds K fd ps [] ∧ FnOk P w K mg base CX0 k f fd ps sp
section
variable {X : Cx} {x : Str} {p pos : Pos} {e : Expr} {es : List Expr} {t : TA} {k : Nat} {ps : List Str} {sp : Sp}
theorem pe_callD (D : OkD X.prog X.w X.K X.mg X.base k x ps sp) (hr : Room k X.A) (hg : Gl X x) (ha : PA X (e :: es) t) (hdb : (x == ("__debug__" : Str)) = false := by decide)
    (he : starEach (e :: es) X.env = (false, eval e X.env) :: starEach es X.env := by rfl) (hpl : (backTo pos (starEach es X.env)).any (·.1) = false := by rfl) : PE X (.Call (.Name x p) (e :: es) [] pos) (tCall sp [] E0 t) := by
  obtain ⟨f, fd, hm, hk, hb, G⟩ := D
  exact pe_call G hr hg hm hk hb .nil pass0 ha hdb he hpl
end
/-! ### the same rules with the written part named (a comprehension's block) -/
section
variable {X : Cx} {K : PySem.W.Frag}
end
/-- the rule for a def -/
theorem Dfn.ok {P : Program} {w : World} {K : PySem.W.Frag} {mg : Str → Option Value} {base : Heap} {x : Str} {st : Stmt} {N ps : List Str} {k : Nat} {sp : Sp} (D : Dfn K mg x st ps) (S : FnScope N ps (defScope st)) (len : ∀ vs H Q E, sp vs H Q E → vs.length = ps.length)
    (hbody : ∀ (f : Addr) (cdv : Value) (A : Around) (outer : List Env) (s : Shared) (H : Hp) (vs : List V) (Q : VK) (E : XK), Room k (A.deeper (envOfC x (defScope st) s.heap.objs.size f cdv)) → sp vs H Q E →
      ∃ t, PSs (cxOf CX0 P w K mg base N x (defScope st) f cdv A outer s H E).nox (defBody st) t ∧ t { nx := fun _ H' => Q .non H', rt := Q } (start N vs) H) : OkD P w K mg base (k + 1) x ps sp := by
  obtain ⟨f, fd, F, hm, hb⟩ := D
  exact ⟨f, fd, hm, F.kp, hb, F.ok S len fun cdv A outer s H vs Q E hr h => hbody f cdv A outer s H vs Q E hr h⟩

/-! ### lists of ints that are read; heaps that only grow -/
abbrev IL (K : PySem.W.Frag) (H : Hp) (a : Addr) (ns : List Int) : Prop := SqL K H a (ns.map V.int)
theorem IL.of {K : PySem.W.Frag} {H : Hp} {a : Addr} {ns : List Int} (h : H a = some (.lst (ns.map V.int))) : IL K H a ns := SqL.of h
theorem Same.put {H : Hp} {p : Addr} {o : HO} (h : H p = none) : Same H (upd H p o) := fun b u e => by rw [upd_ne (ne_of_none e h)]; exact e
theorem Same.put' {H H' : Hp} {p : Addr} {o : HO} (e : Same H H') (h : H' p = none) : Same H (upd H' p o) := e.trans (Same.put h)
theorem SqL.put {K : PySem.W.Frag} {H : Hp} {a p : Addr} {xs : List V} {o : HO} (h : SqL K H a xs) (hp : H p = none) : SqL K (upd H p o) a xs := (Same.put hp).seq h

/-! ### a comprehension over a list or a range whose parts change nothing -/
section
variable {K : PySem.W.Frag} {g : TG} {tc : TT} {te : TE} {D : Addr} {H : Hp} {Q : VK} {σ0 : St}
theorem filter_take_succ {α : Type} (p : α → Bool) (l : List α) (i : Nat) (v : α) (h : l[i]? = some v) : (l.take (i + 1)).filter p = (l.take i).filter p ++ (if p v then [v] else []) := by
  rw [List.take_add_one, h, List.filter_append]
  cases hp : p v <;> simp [hp]
/-- any iterator that yields the items xs and changes nothing -/
theorem comp_pure {J : It} (xs : List V) (p : V → Bool) (f : V → V) (fr : St) (hn : xs.length < sizeLine)
    (hgo : ∀ i H', i < xs.length → Same H H' → J.go i H') (hst : ∀ H', Same H H' → J.stop xs.length H') (hy : ∀ i H' x H2, Same H H' → i < xs.length → J.yld i H' x H2 → H2 = H' ∧ xs[i]? = some x)
    (hD : H D = none) (hg : ∀ x o H' Q', Q' (some x :: fr) H' → g x (o :: fr) H' Q')
    (hc : ∀ x ∈ xs, ∀ H' Q', Same H H' → Q' (p x) H' → tc (some x :: fr) H' Q') (he : ∀ x ∈ xs, p x = true → ∀ H' Q', Same H H' → Q' (f x) H' → te (some x :: fr) H' Q')
    (hQ : Q (.ref D) (upd H D (.lst ((xs.filter p).map f)))) :
    ∃ W : Nat → Nat → St → Hp → Prop, (∃ m, W 0 m (none :: fr) (upd H D (.lst []))) ∧ CTurn J g tc te D W Q := by
  refine ⟨fun i m σ' H' => m = xs.length - i ∧ i ≤ xs.length ∧ (∃ o, σ' = o :: fr) ∧ H' = upd H D (.lst (((xs.take i).filter p).map f)), ⟨xs.length, by simp, Nat.zero_le _, ⟨_, rfl⟩, by simp⟩, ?_⟩
  rintro i m σ' H' ⟨rfl, hi, ⟨o, rfl⟩, rfl⟩
  have sm : ∀ l, Same H (upd H D (.lst l)) := fun l => Same.put hD
  by_cases hlt : i < xs.length
  · refine .inr ⟨hgo i _ hlt (sm _), fun x H2 y => ?_⟩
    obtain ⟨e, ex⟩ := hy i _ x H2 (sm _) hlt y
    subst e
    have hx : x ∈ xs := List.mem_of_getElem? ex
    refine hg x o _ _ (hc x hx _ _ (sm _) ?_)
    have ft := filter_take_succ p xs i x ex
    have lf : ((xs.take i).filter p).length ≤ xs.length := Nat.le_trans (List.length_filter_le _ _) (by rw [List.length_take]; omega)
    cases hp : p x with
    | true =>
      rw [if_pos rfl]
      refine he x hx hp _ _ (sm _) ⟨_, upd_same, by rw [List.length_map]; omega, xs.length - (i + 1), by omega, rfl, hlt, ⟨_, rfl⟩, ?_⟩
      rw [upd_upd, ft, hp]
      simp
    | false =>
      rw [if_neg Bool.false_ne_true]
      refine ⟨xs.length - (i + 1), by omega, rfl, hlt, ⟨_, rfl⟩, ?_⟩
      rw [ft, hp]
      simp
  · have e : i = xs.length := by omega
    subst e
    refine .inl ⟨hst _ (sm _), ?_⟩
    rw [List.take_of_length_le (Nat.le_refl _)]
    exact hQ
theorem comp_range {lo : Int} (n : Nat) (p : V → Bool) (f : V → V) (fr : St) (hn : n < sizeLine) (hD : H D = none)
    (hc : ∀ i, i < n → ∀ H' Q', Same H H' → Q' (p (.int (lo + (i : Nat)))) H' → tc (some (.int (lo + (i : Nat))) :: fr) H' Q') (he : ∀ i, i < n → p (.int (lo + (i : Nat))) = true → ∀ H' Q', Same H H' → Q' (f (.int (lo + (i : Nat)))) H' → te (some (.int (lo + (i : Nat))) :: fr) H' Q')
    (hQ : Q (.ref D) (upd H D (.lst ((((List.range n).map fun (i : Nat) => V.int (lo + (i : Nat))).filter p).map f)))) : ∃ W : Nat → Nat → St → Hp → Prop, (∃ m, W 0 m (none :: fr) (upd H D (.lst []))) ∧ CTurn (Itr lo n) (gName 0) tc te D W Q := by
  have mem : ∀ x ∈ ((List.range n).map fun (i : Nat) => V.int (lo + (i : Nat))), ∃ i, i < n ∧ x = .int (lo + (i : Nat)) := fun x hx => by
    obtain ⟨i, hi, e⟩ := List.mem_map.mp hx
    exact ⟨i, List.mem_range.mp hi, e.symm⟩
  refine comp_pure ((List.range n).map fun (i : Nat) => V.int (lo + (i : Nat))) p f fr (by simpa using hn) (fun i H' hi s => by simpa [Itr] using hi) (fun H' s => by simp [Itr]) (fun i H' x H2 s hi ⟨e, y⟩ => ⟨e, ?_⟩) hD (fun _ _ _ _ h => h) (fun x hx H' Q' s q => ?_) (fun x hx hp H' Q' s q => ?_) hQ
  · rw [y]
    have hi' : i < n := by simpa using hi
    simp [hi']
  · obtain ⟨i, hi, rfl⟩ := mem x hx
    exact hc i hi H' Q' s q
  · obtain ⟨i, hi, rfl⟩ := mem x hx
    exact he i hi hp H' Q' s q
end
end L2

end

section
set_option maxHeartbeats 2000000
set_option maxRecDepth 100000
set_option linter.unusedVariables false
set_option linter.unusedSimpArgs false
namespace L2
open PySem PySem.Spec PyProof.Rows
/-! ### ints as values -/
def lP (q : Int → Bool) : V → Bool
  | .int i => q i
  | _ => false
def lF (g : Int → Int) : V → V
  | .int i => .int (g i)
  | v => v
theorem lift_list (q : Int → Bool) (g : Int → Int) : ∀ xs : List Int, ((xs.map V.int).filter (lP q)).map (lF g) = ((xs.filter q).map g).map V.int
  | [] => rfl
  | x :: r => by
    have ih := lift_list q g r
    rw [List.map_cons, List.filter_cons, List.filter_cons]
    show (if q x = true then _ else _ : List V).map (lF g) = _
    cases q x with
    | true => simp only [if_true, List.map_cons]; rw [ih]; rfl
    | false => simp only [Bool.false_eq_true, if_false]; exact ih
theorem at_int {ns : List Int} {i : Int} (h0 : 0 ≤ i) (h1 : i < ns.length) : atI (ns.map V.int) i = some (.int (ns.getD i.toNat 0)) := by
  have hl : i.toNat < ns.length := by omega
  have e : (ns.map V.int)[i.toNat]? = some (.int (ns.getD i.toNat 0)) := by
    rw [List.getElem?_map, List.getElem?_eq_getElem hl]
    simp [List.getD, hl]
  have z := atI_nat e
  rwa [Int.toNat_of_nonneg h0] at z
section
variable {K : PySem.W.Frag} {tc : TT} {te : TE} {D : Addr} {H : Hp} {Q : VK}
theorem comp_rangeI {lo : Int} (n : Nat) (q : Int → Bool) (g : Int → Int) (fr : St) (hn : n < sizeLine) (hD : H D = none)
    (hc : ∀ i : Int, lo ≤ i → i < lo + n → ∀ H' Q', Same H H' → Q' (q i) H' → tc (some (.int i) :: fr) H' Q') (he : ∀ i : Int, lo ≤ i → i < lo + n → q i = true → ∀ H' Q', Same H H' → Q' (.int (g i)) H' → te (some (.int i) :: fr) H' Q')
    (hQ : Q (.ref D) (upd H D (.lst (((((List.range n).map fun (i : Nat) => lo + (i : Int)).filter q).map g).map V.int)))) : ∃ W : Nat → Nat → St → Hp → Prop, (∃ m, W 0 m (none :: fr) (upd H D (.lst []))) ∧ CTurn (Itr lo n) (gName 0) tc te D W Q := by
  refine comp_range n (lP q) (lF g) fr hn hD (fun i hi H' Q' s k => hc _ (by omega) (by omega) H' Q' s k) (fun i hi hp H' Q' s k => he _ (by omega) (by omega) hp H' Q' s k) ?_
  have e : ((List.range n).map fun (i : Nat) => V.int (lo + (i : Nat))) = ((List.range n).map fun (i : Nat) => lo + (i : Int)).map V.int := by rw [List.map_map]; rfl
  rw [e, lift_list]
  exact hQ
end
/-! ### sums -/
theorem sum_app (a b : List Int) : (a ++ b).sum = a.sum + b.sum := by rw [List.sum_append]
theorem sum_perm {a b : List Int} (h : a.Perm b) : a.sum = b.sum := by
  induction h with
  | nil => rfl
  | cons x _ ih => rw [List.sum_cons, List.sum_cons, ih]
  | swap x y l => simp only [List.sum_cons]; omega
  | trans _ _ i1 i2 => exact i1.trans i2
theorem sum_ge_len : ∀ {l : List Int}, (∀ x ∈ l, 1 ≤ x) → (l.length : Int) ≤ l.sum
  | [], _ => by simp
  | x :: r, h => by
    have := sum_ge_len (l := r) fun y hy => h y (List.mem_cons_of_mem _ hy)
    have := h x List.mem_cons_self
    rw [List.sum_cons, List.length_cons]; omega
theorem sum_ge_mem : ∀ {l : List Int} {x : Int}, (∀ y ∈ l, 0 ≤ y) → x ∈ l → x ≤ l.sum
  | [], x, _, h => by simp at h
  | y :: r, x, h, hx => by
    have h0 := h y List.mem_cons_self
    have hr : ∀ z ∈ r, 0 ≤ z := fun z hz => h z (List.mem_cons_of_mem _ hz)
    have hs : 0 ≤ r.sum := by
      clear h hx h0
      induction r with
      | nil => simp
      | cons z r ih =>
        have := hr z List.mem_cons_self
        have := ih fun a ha => hr a (List.mem_cons_of_mem _ ha)
        rw [List.sum_cons]; omega
    rw [List.sum_cons]
    rcases List.mem_cons.mp hx with e | e
    · omega
    · have := sum_ge_mem hr e; omega
/-! ### settings -/
structure Setting (n : Int) (ps : List Int) : Prop where
  ord : ps.Pairwise (· ≥ ·)
  pos : ∀ x ∈ ps, 1 ≤ x
  sum : ps.sum = n
theorem Setting.len {n : Int} {ps : List Int} (h : Setting n ps) : (ps.length : Int) ≤ n := by rw [← h.sum]; exact sum_ge_len h.pos
theorem Setting.ne {n : Int} {ps : List Int} (h : Setting n ps) (hn : 1 ≤ n) : 0 < ps.length := by
  cases ps with
  | nil => have := h.sum; simp at this; omega
  | cons => simp
theorem Setting.le {n : Int} {ps : List Int} (h : Setting n ps) {x : Int} (hx : x ∈ ps) : x ≤ n := by
  rw [← h.sum]; exact sum_ge_mem (fun y hy => by have := h.pos y hy; omega) hx
theorem Setting.of_perm {n : Int} {ps qs : List Int} (h1 : qs.Perm ps) (h2 : qs.Pairwise (· ≥ ·)) (h3 : ∀ x ∈ ps, 1 ≤ x) (h4 : ps.sum = n) : Setting n qs :=
  ⟨h2, fun x hx => h3 x (h1.mem_iff.mp hx), (sum_perm h1).trans h4⟩
end L2
namespace L2
open PySem PySem.Spec PyProof.Rows
/-! ### marks -/
def byMarks (ms : List Int) : List Int := ((List.range ms.length).map fun (i : Nat) => (ms.length : Int) - 1 - (i : Int) + ms.getD i 0).filter fun x => decide (0 < x)
/-- marks of n coins -/
structure Marks (n : Int) (ms : List Int) : Prop where
  ne : 1 ≤ ms.length
  lo : ((ms.length : Int) - 1) * ms.length < 2 * n
  hi : 2 * n ≤ (ms.length : Int) * (ms.length + 1)
  bit : ∀ m ∈ ms, m = 0 ∨ m = 1
  sum : ms.sum = n - (ms.length : Int) * (ms.length - 1) / 2
/-- the piles of marks, ahead of dropping those of no coins -/
def raised (k : Int) : List Int → List Int
  | [] => []
  | m :: r => (k - 1 + m) :: raised (k - 1) r
theorem raised_len : ∀ (k : Int) (ms : List Int), (raised k ms).length = ms.length
  | _, [] => rfl
  | k, m :: r => by rw [raised, List.length_cons, List.length_cons, raised_len]
theorem raised_get : ∀ (k : Int) (ms : List Int) (i : Nat), i < ms.length → (raised k ms)[i]? = some (k - 1 - (i : Int) + ms.getD i 0)
  | _, [], i, h => by simp at h
  | k, m :: r, 0, _ => by simp [raised]
  | k, m :: r, i + 1, h => by
    rw [raised, List.getElem?_cons_succ, raised_get (k - 1) r i (by simpa using h)]
    simp only [List.getD_cons_succ]
    congr 1
    omega
theorem raised_eq (ms : List Int) : ((List.range ms.length).map fun (i : Nat) => (ms.length : Int) - 1 - (i : Int) + ms.getD i 0) = raised ms.length ms := by
  apply List.ext_getElem?
  intro i
  rw [List.getElem?_map]
  by_cases h : i < ms.length
  · rw [raised_get _ _ _ h, List.getElem?_range h]; rfl
  · rw [List.getElem?_eq_none (by simpa using h), List.getElem?_eq_none (by rw [raised_len]; omega)]; rfl
theorem byMarks_eq (ms : List Int) : byMarks ms = (raised ms.length ms).filter fun x => decide (0 < x) := by rw [byMarks, raised_eq]
theorem raised_sum : ∀ (ms : List Int), 2 * (raised ms.length ms).sum = (ms.length : Int) * (ms.length - 1) + 2 * ms.sum := by
  have gen : ∀ (ms : List Int) (k : Int), 2 * (raised k ms).sum = ms.length * (2 * k - ms.length - 1) + 2 * ms.sum := by
    intro ms
    induction ms with
    | nil => intro k; simp [raised]
    | cons m r ih =>
      intro k
      have z := ih (k - 1)
      rw [raised, List.sum_cons, List.sum_cons, List.length_cons]
      have e : ((r.length + 1 : Nat) : Int) * (2 * k - ((r.length + 1 : Nat) : Int) - 1) = (r.length : Int) * (2 * (k - 1) - r.length - 1) + 2 * (k - 1) := by
        rw [Int.natCast_add]
        generalize (r.length : Int) = l
        have e1 : (l + ((1 : Nat) : Int)) * (2 * k - (l + ((1 : Nat) : Int)) - 1) = l * (2 * k - l - 2) + (2 * k - l - 2) := by
          rw [Int.add_mul]; congr 1
          · congr 1; omega
          · omega
        have e2 : l * (2 * (k - 1) - l - 1) = l * (2 * k - l - 2) - l := by
          rw [show 2 * (k - 1) - l - 1 = (2 * k - l - 2) - 1 from by omega, Int.mul_sub, Int.mul_one]
        omega
      omega
  intro ms
  have z := gen ms ms.length
  rw [z, show 2 * (ms.length : Int) - ms.length - 1 = (ms.length : Int) - 1 from by omega]
theorem raised_ord : ∀ (ms : List Int) (k : Int), (∀ m ∈ ms, m = 0 ∨ m = 1) → (raised k ms).Pairwise (· ≥ ·) ∧ ∀ x ∈ raised k ms, x ≤ k
  | [], _, _ => ⟨List.Pairwise.nil, fun x h => by simp [raised] at h⟩
  | m :: r, k, h => by
    obtain ⟨a, b⟩ := raised_ord r (k - 1) fun y hy => h y (List.mem_cons_of_mem _ hy)
    have hm := h m List.mem_cons_self
    rw [raised]
    refine ⟨List.pairwise_cons.mpr ⟨fun y hy => ?_, a⟩, fun x hx => ?_⟩
    · have := b y hy
      show k - 1 + m ≥ y
      omega
    · rcases List.mem_cons.mp hx with e | e
      · omega
      · have := b x e; omega
theorem raised_nonneg : ∀ (ms : List Int) (k : Int), (∀ m ∈ ms, 0 ≤ m) → (ms.length : Int) ≤ k → ∀ x ∈ raised k ms, 0 ≤ x
  | [], _, _, _, x, h => by simp [raised] at h
  | m :: r, k, h, hk, x, hx => by
    rw [List.length_cons] at hk
    rw [raised] at hx
    rcases List.mem_cons.mp hx with e | e
    · have := h m List.mem_cons_self; omega
    · exact raised_nonneg r (k - 1) (fun y hy => h y (List.mem_cons_of_mem _ hy)) (by omega) x e
theorem filter_pos_sum : ∀ {l : List Int}, (∀ x ∈ l, 0 ≤ x) → (l.filter fun x => decide (0 < x)).sum = l.sum
  | [], _ => rfl
  | x :: r, h => by
    have ih := filter_pos_sum (l := r) fun y hy => h y (List.mem_cons_of_mem _ hy)
    have := h x List.mem_cons_self
    rw [List.filter_cons]
    by_cases c : 0 < x
    · rw [if_pos (decide_eq_true c), List.sum_cons, List.sum_cons, ih]
    · rw [if_neg (by simpa using c), ih, List.sum_cons]; omega
theorem Marks.setting {n : Int} {ms : List Int} (h : Marks n ms) : Setting n (byMarks ms) := by
  rw [byMarks_eq]
  have nn : ∀ x ∈ raised ms.length ms, 0 ≤ x := raised_nonneg ms _ (fun m hm => by rcases h.bit m hm with e | e <;> omega) (Int.le_refl _)
  refine ⟨(raised_ord ms _ h.bit).1.sublist (List.filter_sublist), fun x hx => ?_, ?_⟩
  · have := of_decide_eq_true (List.mem_filter.mp hx).2; omega
  · rw [filter_pos_sum nn]
    have z := raised_sum ms
    have s := h.sum
    have even : (ms.length : Int) * (ms.length - 1) / 2 * 2 = (ms.length : Int) * (ms.length - 1) := by
      have p : ∀ k : Nat, ∃ t : Int, (k : Int) * (k - 1) = 2 * t := by
        intro k
        induction k with
        | zero => exact ⟨0, by simp⟩
        | succ k ih =>
          obtain ⟨t, e⟩ := ih
          refine ⟨t + k, ?_⟩
          have e2 : ((k + 1 : Nat) : Int) * (((k + 1 : Nat) : Int) - 1) = (k : Int) * (k - 1) + 2 * k := by
            rw [Int.natCast_add, show ((k : Int) + ((1 : Nat) : Int) - 1) = k from by omega, Int.add_mul, Int.mul_sub]; omega
          omega
      obtain ⟨t, e⟩ := p ms.length
      rw [e]; omega
    omega
end L2
namespace L2
open PySem PySem.Spec PyProof.Rows
/-- the places of a range that a test takes -/
def cand (n : Nat) (q : Int → Bool) : List Int := (((List.range n).map fun (i : Nat) => (0 : Int) + (i : Int)).filter q).map id
end L2
namespace L2
open PySem PySem.Spec PyProof.Rows
/-- one statement, then the rest: what stands between -/
theorem cut {t u : TS} {D : Ends} {σ : St} {H : Hp} (J : St → Hp → Prop) (h : ∀ R : St → Hp → Prop, (∀ σ' H', J σ' H' → R σ' H') → t { D with nx := R } σ H) (h2 : ∀ σ' H', J σ' H' → u D σ' H') : tSeq t u D σ H := h (u D) h2
end L2
namespace L2
end L2

end

section
set_option maxHeartbeats 2000000
set_option maxRecDepth 100000
set_option linter.unusedVariables false
set_option linter.unusedSimpArgs false
namespace L2
open PySem PySem.Spec PyProof.Rows
def goodB (ps : List Int) : Bool := decide (ps ≠ [] ∧ ps.sum ≤ 100 ∧ (∀ x ∈ ps, 1 ≤ x) ∧ ps.Pairwise (· ≥ ·))
theorem Setting.good {n : Int} {ps : List Int} (h : Setting n ps) (h0 : 1 ≤ n) (h1 : n ≤ 100) : goodB ps = true :=
  decide_eq_true ⟨fun z => by have := h.ne h0; rw [z] at this; simp at this, by rw [h.sum]; exact h1, h.pos, h.ord⟩
/-! ### a turn -/
def insD (x : Int) : List Int → List Int
  | [] => [x]
  | y :: r => if y ≤ x then x :: y :: r else y :: insD x r
theorem insD_perm (x : Int) : ∀ l, (insD x l).Perm (x :: l)
  | [] => List.Perm.refl _
  | y :: r => by
    unfold insD
    split
    · exact List.Perm.refl _
    · exact ((insD_perm x r).cons y).trans (List.Perm.swap x y r)
theorem insD_ord {x : Int} : ∀ {l : List Int}, l.Pairwise (· ≥ ·) → (insD x l).Pairwise (· ≥ ·)
  | [], _ => List.pairwise_singleton _ _
  | y :: r, h => by
    obtain ⟨h1, h2⟩ := List.pairwise_cons.mp h
    unfold insD
    split
    · rename_i c
      refine List.pairwise_cons.mpr ⟨fun z hz => ?_, h⟩
      rcases List.mem_cons.mp hz with e | e
      · rw [e]; exact c
      · have := h1 z e
        show x ≥ z
        omega
    · rename_i c
      refine List.pairwise_cons.mpr ⟨fun z hz => ?_, insD_ord h2⟩
      rcases List.mem_cons.mp ((insD_perm x r).mem_iff.mp hz) with e | e
      · rw [e]; show y ≥ x; omega
      · exact h1 z e
def leftOf (ps : List Int) : List Int := (ps.filter fun x => decide (1 < x)).map fun x => x - 1
def turn (ps : List Int) : List Int := insD ps.length (leftOf ps)
theorem leftOf_ord {ps : List Int} (h : ps.Pairwise (· ≥ ·)) : (leftOf ps).Pairwise (· ≥ ·) := (h.sublist List.filter_sublist).map _ fun a b z => by show a - 1 ≥ b - 1; omega
theorem turn_perm (ps : List Int) : (turn ps).Perm (leftOf ps ++ [(ps.length : Int)]) := (insD_perm _ _).trans (List.perm_append_comm (l₁ := [(ps.length : Int)]))
theorem turn_ord {ps : List Int} (h : ps.Pairwise (· ≥ ·)) : (turn ps).Pairwise (· ≥ ·) := insD_ord (leftOf_ord h)
theorem leftOf_sum : ∀ {ps : List Int}, (∀ x ∈ ps, 1 ≤ x) → (leftOf ps).sum + ps.length = ps.sum
  | [], _ => rfl
  | x :: r, h => by
    have ih := leftOf_sum (ps := r) fun y hy => h y (List.mem_cons_of_mem _ hy)
    have hx := h x List.mem_cons_self
    unfold leftOf at ih ⊢
    rw [List.filter_cons]
    by_cases c : 1 < x
    · rw [if_pos (decide_eq_true c), List.map_cons, List.sum_cons, List.sum_cons, List.length_cons]; omega
    · rw [if_neg (by simpa using c), List.sum_cons, List.length_cons]; omega
theorem leftOf_pos {ps : List Int} : ∀ x ∈ leftOf ps, 1 ≤ x := fun x hx => by
  obtain ⟨y, hy, rfl⟩ := List.mem_map.mp hx
  have := of_decide_eq_true (List.mem_filter.mp hy).2
  omega
theorem Setting.turn {n : Int} {ps : List Int} (h : Setting n ps) (h0 : 1 ≤ n) : Setting n (turn ps) := by
  refine Setting.of_perm (turn_perm ps) (turn_ord h.ord) (fun x hx => ?_) ?_
  · rcases List.mem_append.mp hx with z | z
    · exact leftOf_pos x z
    · have := h.ne h0; rw [List.mem_singleton.mp z]; omega
  · rw [sum_app, List.sum_cons, List.sum_nil]
    have := leftOf_sum h.pos
    have := h.sum
    omega
end L2

end

section
set_option maxHeartbeats 2000000
set_option maxRecDepth 100000
set_option linter.unusedVariables false
set_option linter.unusedSimpArgs false
namespace L2
open PySem PySem.Spec PyProof.Rows

section
variable {X : Cx} {pins : List (Addr × Obj)} {σ : St} {H : Hp} {s : Shared} {h' : Heap}
/-- the records at fp have turned -/
theorem Inv.turns {fp : List Addr} {t' : Nat} (I : Inv X pins σ H s) (hf : ∀ b ∈ fp, FpOk X pins H b) (k : ∀ b u, b ∉ fp → s.heap.get? b = some u → h'.get? b = some u) : Inv X pins σ H { s with heap := h', toks := t' } := by
  have nf : ∀ b u, H b = some u → b ∉ fp := fun b u e z => by rw [(hf b z).1] at e; cases e
  refine I.step (g' := s.gens) (d' := s.drawn) (ch := fp) (fun b hb => ?_) (fun b o _ _ hc e _ => k b o hc e) (fun b o _ _ hc e _ => ⟨o.slots, k b o hc e⟩) (fun b o _ e n => n)
    (fun b o hc e => ⟨o, k b o hc e⟩) (fun b xs q => q) (fun b u xs q => q) (fun b ps q => ⟨#[], by rw [q]; simp⟩) (fun m hm => ?_) (fun b u e => ?_) I.bare
  · obtain ⟨_, f1, _, f3, f4, f5⟩ := hf b hb
    exact ⟨f3, f1, f4, f5⟩
  · obtain ⟨o, es, ep, ho, r⟩ := hm
    exact ⟨o, es, ep, k _ o (fun z => (hf _ z).2.1 rfl) ho, r⟩
  · refine (I.hok b u e).stay (fun c v hc q => k c v ?_ q) (fun c q => q) fun c xs q => q
    rcases hc with z | z
    · rw [z]; exact nf b u e
    · exact nf c _ z
end

/-! ### enumerate(list) -/
def Ite (K : PySem.W.Frag) (a : Addr) : It :=
  ⟨fun i H => ∃ xs x, SqL K H a xs ∧ xs[i]? = some x, fun i H x H' => ∃ t y, H t = none ∧ H' = upd H t (.tup [.int i, y]) ∧ x = .ref t ∧ ∀ xs, SqL K H a xs → xs[i]? = some y, fun i H => ∃ xs, SqL K H a xs ∧ xs.length ≤ i⟩
section
variable {X : Cx}
def iEnum (K : PySem.W.Frag) (ta : TA) : TI := fun σ H R => ta σ H fun vs H1 => ∃ a, vs = [.ref a] ∧ (∃ xs, SqL K H1 a xs) ∧ R (Ite K a) H1
end
end L2

end

section
set_option maxHeartbeats 2000000
set_option maxRecDepth 100000
set_option linter.unusedVariables false
set_option linter.unusedSimpArgs false
namespace L2
open PySem PySem.Spec PyProof.Rows
/-! ### weights -/
def wI (i : Nat) (n : Int) : Int := n * (n - 1) / 2 + n * (i : Int)
def W (ps : List Int) : Int := (ps.mapIdx wI).sum
def tw (k : Int) : List Int → Int
  | [] => 0
  | x :: r => x * (x - 1) + 2 * (x * k) + tw (k + 1) r
theorem even_mul (n : Int) : 2 * (n * (n - 1) / 2) = n * (n - 1) := by
  have h : n * (n - 1) % 2 = 0 := by
    rcases Int.emod_two_eq n with h | h
    · rw [Int.mul_emod, h]; simp
    · have : (n - 1) % 2 = 0 := by omega
      rw [Int.mul_emod, this]; simp
  omega
def big : List Int → Int → Prop
  | [], _ => False
  | y :: _, x => x < y
end L2

end

section
set_option maxHeartbeats 2000000
set_option maxRecDepth 100000
set_option linter.unusedVariables false
set_option linter.unusedSimpArgs false
namespace L2
open PySem PySem.Spec PyProof.Rows
section
variable {X : Cx}
/-! ### all(list of bools) -/
/-! ### count, index -/
def rCount : V → List V → Hp → VK → Prop := fun x vs H Q => ∃ l ys y, x = .ref l ∧ vs = [y] ∧ H l = some (.lst ys) ∧ flatV y = true ∧ ys.all flatV = true ∧ Q (.int (ys.countP fun z => eqV z y : Nat)) H
def rIndex : V → List V → Hp → VK → Prop := fun x vs H Q => ∃ l ys y j, x = .ref l ∧ vs = [y] ∧ H l = some (.lst ys) ∧ flatV y = true ∧ ys.all flatV = true ∧ (ys[j]?.elim false fun z => eqV z y) = true ∧ (∀ m, m < j → (ys[m]?.elim true fun z => eqV z y) = false) ∧ Q (.int (j : Nat)) H
end
/-! ### a comprehension whose parts may lay things -/
end L2

end

section
set_option maxHeartbeats 2000000
set_option maxRecDepth 100000
set_option linter.unusedVariables false
set_option linter.unusedSimpArgs false
namespace L2
open PySem PySem.Spec PyProof.Rows
/-! ### stairs -/
def IsStair (n k : Int) : Prop := 1 ≤ k ∧ (k - 1) * k < 2 * n ∧ 2 * n ≤ k * (k + 1)
theorem IsStair.uniq {n k j : Int} (h : IsStair n k) (h' : IsStair n j) : k = j := by
  obtain ⟨a1, a2, a3⟩ := h
  obtain ⟨b1, b2, b3⟩ := h'
  rcases Int.lt_trichotomy k j with c | c | c
  · have : k * (k + 1) ≤ (j - 1) * j := by
      exact Int.mul_le_mul (by omega) (by omega) (by omega) (by omega)
    omega
  · exact c
  · have : j * (j + 1) ≤ (k - 1) * k := by
      exact Int.mul_le_mul (by omega) (by omega) (by omega) (by omega)
    omega
theorem IsStair.ex : ∀ n : Nat, ∃ k, IsStair ((n : Int) + 1) k
  | 0 => ⟨1, by decide, by decide, by decide⟩
  | n + 1 => by
    obtain ⟨k, a1, a2, a3⟩ := IsStair.ex n
    by_cases c : 2 * (((n + 1 : Nat) : Int) + 1) ≤ k * (k + 1)
    · exact ⟨k, a1, by omega, c⟩
    · refine ⟨k + 1, by omega, ?_, ?_⟩
      · rw [show k + 1 - 1 = k from by omega]; omega
      · have e : (k + 1) * (k + 1 + 1) = k * (k + 1) + 2 * (k + 1) := by grind
        rw [e]; omega
theorem IsStair.of {n : Int} (h : 1 ≤ n) : ∃ k, IsStair n k := by
  obtain ⟨k, hk⟩ := IsStair.ex (n - 1).toNat
  exact ⟨k, by rw [show (((n - 1).toNat : Nat) : Int) + 1 = n from by omega] at hk; exact hk⟩
theorem IsStair.le {n k : Int} (h : IsStair n k) (hn : n ≤ 100) : k ≤ 14 := by
  obtain ⟨a1, a2, a3⟩ := h
  rcases Int.lt_or_le 14 k with z | z
  · have : 14 * 15 ≤ (k - 1) * k := Int.mul_le_mul (by omega) (by omega) (by omega) (by omega)
    omega
  · exact z
/-! ### marks of piles -/
def filledL (k : Int) (ps : List Int) : List Int := ps ++ List.replicate (k - ps.length).toNat 0
def aboveL (k : Int) (ps : List Int) : List Int := (filledL k ps).mapIdx fun i p => p - (k - 1 - (i : Int))
def isMark (m : Int) : Bool := decide (m = 0 ∨ m = 1)
def marksB (ms : List Int) : Bool := ms.all isMark
theorem filledL_len {k : Int} {ps : List Int} (h : (ps.length : Int) ≤ k) : ((filledL k ps).length : Int) = k := by
  unfold filledL; rw [List.length_append, List.length_replicate]; omega
theorem aboveL_len {k : Int} {ps : List Int} (h : (ps.length : Int) ≤ k) : ((aboveL k ps).length : Int) = k := by
  unfold aboveL; rw [List.length_mapIdx]; exact filledL_len h
/-- more piles than the stair has steps: not round -/
theorem above_long {k n : Int} {ps : List Int} (st : Setting n ps) (h : k < ps.length) (hk : 1 ≤ k) : marksB (aboveL k ps) = false := by
  cases hb : marksB (aboveL k ps) with
  | false => rfl
  | true =>
    exfalso
    have kl : k.toNat < ps.length := by omega
    have e0 : (k - ps.length).toNat = 0 := by omega
    have e1 : (aboveL k ps)[k.toNat]? = some (ps[k.toNat] - (k - 1 - (k.toNat : Int))) := by
      unfold aboveL filledL
      rw [e0, List.replicate_zero, List.append_nil, List.getElem?_mapIdx, List.getElem?_eq_getElem kl]; rfl
    have mm := List.all_eq_true.mp hb _ (List.mem_of_getElem? e1)
    have mm : ps[k.toNat] - (k - 1 - (k.toNat : Int)) = 0 ∨ ps[k.toNat] - (k - 1 - (k.toNat : Int)) = 1 := of_decide_eq_true mm
    have := st.pos _ (List.getElem_mem kl)
    omega
end L2

end

section
set_option maxHeartbeats 2000000
set_option maxRecDepth 100000
set_option linter.unusedVariables false
set_option linter.unusedSimpArgs false
namespace L2
open PySem PySem.Spec PyProof.Rows
/-! ### marks that make a setting -/
def okM (ms : List Int) : Bool := marksB ms && decide ((1 : Int) ∈ ms) && decide ((byMarks ms).sum ≤ 100)
theorem marksB_bits {ms : List Int} (h : marksB ms = true) : ∀ m ∈ ms, m = 0 ∨ m = 1 := fun m hm => of_decide_eq_true (List.all_eq_true.mp h m hm)
theorem byMarks_sum {ms : List Int} (h : ∀ m ∈ ms, m = 0 ∨ m = 1) : 2 * (byMarks ms).sum = (ms.length : Int) * (ms.length - 1) + 2 * ms.sum := by
  rw [byMarks_eq, filter_pos_sum, raised_sum]
  exact raised_nonneg ms ms.length (fun m hm => by rcases h m hm with z | z <;> omega) (Int.le_refl _)
theorem Marks.len {n : Int} {ms : List Int} (h : Marks n ms) : ms.length ≤ 1000 ∨ 1000 * 1001 ≤ 2 * n := by
  have z := h.lo
  rcases Nat.lt_or_ge 1000 ms.length with y | y
  · have : 1000 * 1001 ≤ ((ms.length : Int) - 1) * ms.length := Int.mul_le_mul (by omega) (by omega) (by omega) (by omega)
    exact .inr (by omega)
  · exact .inl y
end L2

end

section
set_option maxHeartbeats 2000000
set_option maxRecDepth 100000
set_option linter.unusedVariables false
set_option linter.unusedSimpArgs false
namespace L2
open PySem PySem.Spec PyProof.Rows
/-! ### lists of pairs as tables -/
section
variable {κ : Type} [DecidableEq κ]
def valV (kvs : List (κ × V)) (k : κ) : Option V := (kvs.find? fun kv => decide (kv.1 = k)).map (·.2)
/-- in its place, or at the end -/
def putK (kvs : List (κ × V)) (k : κ) (v : V) : List (κ × V) :=
  if (kvs.any fun kv => decide (kv.1 = k)) = true then kvs.map (fun kv => if kv.1 = k then (kv.1, v) else kv) else kvs ++ [(k, v)]
def dropK (kvs : List (κ × V)) (k : κ) : List (κ × V) := kvs.filter fun kv => decide (kv.1 ≠ k)

theorem valV_pos {p : κ × V} {r : List (κ × V)} {k : κ} (e : p.1 = k) : valV (p :: r) k = some p.2 := by simp [valV, List.find?_cons, e]
theorem valV_neg {p : κ × V} {r : List (κ × V)} {k : κ} (e : ¬ p.1 = k) : valV (p :: r) k = valV r k := by simp [valV, List.find?_cons, e]
theorem valV_any (k : κ) : ∀ kvs : List (κ × V), (kvs.any fun kv => decide (kv.1 = k)) = (valV kvs k).isSome
  | [] => rfl
  | p :: r => by
    rw [List.any_cons]
    by_cases e : p.1 = k
    · simp only [valV_pos e, decide_eq_true e, Bool.true_or, Option.isSome_some]
    · rw [valV_neg e, decide_eq_false e, Bool.false_or]; exact valV_any k r
theorem RelO.isSome_eq {o : Option V} {u : Option Value} (r : RelO o u) : o.isSome = u.isSome := by
  cases o with
  | none => cases u with
    | none => rfl
    | some _ => exact (show False from r).elim
  | some _ => cases u with
    | none => exact (show False from r).elim
    | some _ => rfl
theorem RelO.getD {o : Option V} {u : Option Value} {d : V} {d' : Value} (r : RelO o u) (rd : RelV d d') : RelV (o.getD d) (u.getD d') := by
  cases o with
  | none => cases u with
    | none => exact rd
    | some _ => exact (show False from r).elim
  | some _ => cases u with
    | none => exact (show False from r).elim
    | some _ => exact r

/-- raw tables of the same keys -/
theorem KV.val {kvs : List (κ × V)} {vs : List (κ × Value)} (r : KV kvs vs) (k : κ) : RelO (valV kvs k) (valueAt vs k) := by
  unfold KV at r
  induction r with
  | nil => exact True.intro
  | @cons p q ps qs h t ih =>
    obtain ⟨h1, h2⟩ := h
    by_cases e : p.1 = k
    · have e' : q.1 = k := h1.symm.trans e
      have b : valueAt (q :: qs) k = some q.2 := by simp [valueAt, List.find?_cons, e']
      rw [valV_pos e, b]; exact h2
    · have e' : ¬ q.1 = k := fun z => e (h1.trans z)
      have b : valueAt (q :: qs) k = valueAt qs k := by simp [valueAt, List.find?_cons, e']
      rw [valV_neg e, b]; exact ih
theorem KV.any {kvs : List (κ × V)} {vs : List (κ × Value)} (r : KV kvs vs) (k : κ) : (kvs.any fun kv => decide (kv.1 = k)) = vs.any fun kv => decide (kv.1 = k) := by
  unfold KV at r
  induction r with
  | nil => rfl
  | cons h t ih => rw [List.any_cons, List.any_cons, ih, h.1]
theorem KV.repl {kvs : List (κ × V)} {vs : List (κ × Value)} (r : KV kvs vs) (k : κ) {y : V} {u : Value} (ry : RelV y u) :
    KV (kvs.map fun kv => if kv.1 = k then (kv.1, y) else kv) (vs.map fun kv => if kv.1 = k then (kv.1, u) else kv) := by
  unfold KV at r ⊢
  induction r with
  | nil => exact .nil
  | @cons p q ps qs h t ih =>
    rw [List.map_cons, List.map_cons]
    refine .cons ?_ ih
    obtain ⟨h1, h2⟩ := h
    by_cases e : p.1 = k
    · rw [if_pos e, if_pos (h1.symm.trans e)]; exact ⟨h1, ry⟩
    · rw [if_neg e, if_neg (fun z => e (h1.trans z))]; exact ⟨h1, h2⟩
theorem KV.put {kvs : List (κ × V)} {vs : List (κ × Value)} (r : KV kvs vs) (k : κ) {y : V} {u : Value} (ry : RelV y u) : KV (putK kvs k y) (stored vs k u) := by
  unfold putK stored
  rw [r.any k]
  by_cases e : (vs.any fun kv => decide (kv.1 = k)) = true
  · rw [if_pos e, if_pos e]; exact r.repl k ry
  · rw [if_neg e, if_neg e]; exact Paired.snoc r ⟨rfl, ry⟩
theorem KV.drop {kvs : List (κ × V)} {vs : List (κ × Value)} (r : KV kvs vs) (k : κ) : KV (dropK kvs k) (without vs k) := by
  unfold KV at r ⊢
  unfold dropK without
  induction r with
  | nil => exact .nil
  | @cons p q ps qs h t ih =>
    obtain ⟨h1, h2⟩ := h
    rw [List.filter_cons, List.filter_cons]
    by_cases e : p.1 = k
    · have a : ¬ decide (p.1 ≠ k) = true := by simp [e]
      have b : ¬ decide (q.1 ≠ k) = true := by simp [h1.symm.trans e]
      rw [if_neg a, if_neg b]; exact ih
    · have e' : ¬ q.1 = k := fun z => e (h1.trans z)
      have a : decide (p.1 ≠ k) = true := by simp [e]
      have b : decide (q.1 ≠ k) = true := by simp [e']
      rw [if_pos a, if_pos b]; exact .cons ⟨h1, h2⟩ ih
theorem KV.keys {kvs : List (κ × V)} {vs : List (κ × Value)} (r : KV kvs vs) : kvs.map (·.1) = vs.map (·.1) := by
  unfold KV at r
  induction r with
  | nil => rfl
  | cons h t ih => rw [List.map_cons, List.map_cons, ih, h.1]
theorem KV.length {kvs : List (κ × V)} {vs : List (κ × Value)} (r : KV kvs vs) : kvs.length = vs.length := Paired.length r
end


/-! ### a tracked dict, its keys ints and texts or tuples of these -/
/-- raw entries of a dict with tuple keys -/
abbrev KT (H : Hp) : List (List Key × V) → List (List Key × Addr × Value) → Prop := Paired fun p q => p.1 = q.1 ∧ H q.2.1 = some (.tup (p.1.map kV)) ∧ RelV p.2 q.2.2
theorem KT.val {H : Hp} {kvs : List (List Key × V)} {xs : List (List Key × Addr × Value)} (r : KT H kvs xs) (k : List Key) : RelO (valV kvs k) ((atKey xs k).map (·.2)) := by
  induction r with
  | nil => exact True.intro
  | @cons p q ps qs h t ih =>
    obtain ⟨h1, _, h2⟩ := h
    by_cases e : p.1 = k
    · have e' : q.1 = k := h1.symm.trans e
      have b : atKey (q :: qs) k = some q.2 := by simp [atKey, List.find?_cons, e']
      rw [valV_pos e, b]; exact h2
    · have e' : ¬ q.1 = k := fun z => e (h1.trans z)
      have b : atKey (q :: qs) k = atKey qs k := by simp [atKey, List.find?_cons, e']
      rw [valV_neg e, b]; exact ih
theorem KT.repl {H : Hp} {kvs : List (List Key × V)} {xs : List (List Key × Addr × Value)} (r : KT H kvs xs) (k : List Key) {y : V} {u : Value} (ry : RelV y u) :
    KT H (kvs.map fun kv => if kv.1 = k then (kv.1, y) else kv) (xs.map (putAt k u)) := by
  induction r with
  | nil => exact .nil
  | @cons p q ps qs h t ih =>
    rw [List.map_cons, List.map_cons]
    refine .cons ?_ ih
    obtain ⟨h1, h2, h3⟩ := h
    unfold putAt
    by_cases e : p.1 = k
    · rw [if_pos e, if_pos (h1.symm.trans e)]; exact ⟨h1, h2, ry⟩
    · rw [if_neg e, if_neg (fun z => e (h1.trans z))]; exact ⟨h1, h2, h3⟩
theorem KT.put {H : Hp} {kvs : List (List Key × V)} {xs : List (List Key × Addr × Value)} (r : KT H kvs xs) (k : List Key) {b : Addr} {y : V} {u : Value} (hb : H b = some (.tup (k.map kV))) (ry : RelV y u) :
    KT H (putK kvs k y) (storedH xs k b u) := by
  have e : (kvs.any fun kv => decide (kv.1 = k)) = (atKey xs k).isSome := by
    rw [valV_any, (r.val k).isSome_eq, Option.isSome_map]
  unfold putK storedH
  rw [e]
  by_cases q : (atKey xs k).isSome = true
  · rw [if_pos q, if_pos q]; exact r.repl k ry
  · rw [if_neg q, if_neg q]; exact Paired.snoc r ⟨rfl, hb, ry⟩
theorem KT.keeps {H H' : Hp} {kvs : List (List Key × V)} {xs : List (List Key × Addr × Value)} (r : KT H kvs xs) (ht : ∀ b ys, H b = some (.tup ys) → H' b = some (.tup ys)) : KT H' kvs xs :=
  Paired.mapP r fun _ _ z => ⟨z.1, ht _ _ z.2.1, z.2.2⟩

section
variable {P : Program} {w : World} {H : Hp} {h : Heap} {a : Addr}
end

/-- what the dict at a holds at the key y -/
def DGet (H : Hp) (a : Addr) (y : V) (r : Option V) : Prop :=
  (∃ kvs k, Rd H a (.dK kvs) ∧ y = kV k ∧ r = valV kvs k) ∨ ∃ kvs k b, Rd H a (.dT kvs) ∧ y = .ref b ∧ H b = some (.tup (k.map kV)) ∧ r = valV kvs k
/-- the heap behind a[y] = v -/
def DPut (H : Hp) (a : Addr) (y v : V) (H' : Hp) : Prop :=
  (∃ kvs k, H a = some (.dK kvs) ∧ y = kV k ∧ kvs.length < sizeLine ∧ H' = upd H a (.dK (putK kvs k v))) ∨
  ∃ kvs k b, H a = some (.dT kvs) ∧ y = .ref b ∧ H b = some (.tup (k.map kV)) ∧ kvs.length < sizeLine ∧ H' = upd H a (.dT (putK kvs k v))
theorem DGet.k {H : Hp} {a : Addr} {kvs : List (Key × V)} {k : Key} (e : H a = some (.dK kvs)) : DGet H a (kV k) (valV kvs k) := .inl ⟨kvs, k, .inl e, rfl, rfl⟩
theorem DGet.t {H : Hp} {a b : Addr} {kvs : List (List Key × V)} {k : List Key} (e : H a = some (.dT kvs)) (eb : H b = some (.tup (k.map kV))) : DGet H a (.ref b) (valV kvs k) := .inr ⟨kvs, k, b, .inl e, rfl, eb, rfl⟩
theorem DPut.k {H : Hp} {a : Addr} {kvs : List (Key × V)} {k : Key} {v : V} (e : H a = some (.dK kvs)) (hl : kvs.length < sizeLine) : DPut H a (kV k) v (upd H a (.dK (putK kvs k v))) := .inl ⟨kvs, k, e, rfl, hl, rfl⟩
theorem DPut.t {H : Hp} {a b : Addr} {kvs : List (List Key × V)} {k : List Key} {v : V} (e : H a = some (.dT kvs)) (eb : H b = some (.tup (k.map kV))) (hl : kvs.length < sizeLine) :
    DPut H a (.ref b) v (upd H a (.dT (putK kvs k v))) := .inr ⟨kvs, k, b, e, rfl, eb, hl, rfl⟩


section
variable {X : Cx} {pins : List (Addr × Obj)} {σ : St} {H : Hp} {s : Shared} {a : Addr} {y v : V} {u r : Value} {o : Option V} {A : Around} {E : Value → Shared → Prop}

theorem Inv.big (I : Inv X pins σ H s) : sysModules < s.heap.objs.size := by
  have h : mainGlobals < s.heap.objs.size := (I.mod.glob.keeps I.bk).lt
  exact Nat.lt_trans (by decide) h

end
def tDNotIn (ty td : TE) : TE := fun σ H Q => ty σ H fun y H1 => td σ H1 fun x H2 => ∃ a o, x = .ref a ∧ DGet H2 a y o ∧ Q (.bl (!o.isSome)) H2
def sDPut (td ty tv : TE) : TS := fun D σ H => tv σ H fun v H1 => td σ H1 fun x H2 => ty σ H2 fun y H3 => ∃ a H4, x = .ref a ∧ DPut H3 a y v H4 ∧ D.nx σ H4
section
variable {X : Cx} {o i e value : Expr} {pos pos' tpos : Pos} {td ty tv : TE}
end
def tDNewT : TE := fun _ H Q => ∀ p, H p = none → Q (.ref p) (upd H p (.dT []))
section
variable {X : Cx} {pos : Pos}
end
end L2

namespace L2
open PySem PySem.Spec PyProof.Rows
/-! ### zip(list, list) -/
def Itz (K : PySem.W.Frag) (a b : Addr) : It :=
  ⟨fun i H => ∃ xs ys x y, SqL K H a xs ∧ SqL K H b ys ∧ xs[i]? = some x ∧ ys[i]? = some y,
   fun i H x H' => ∃ t u v, H t = none ∧ H' = upd H t (.tup [u, v]) ∧ x = .ref t ∧ (∀ xs, SqL K H a xs → xs[i]? = some u) ∧ ∀ ys, SqL K H b ys → ys[i]? = some v,
   fun i H => ∃ xs ys, SqL K H a xs ∧ SqL K H b ys ∧ (xs.length ≤ i ∨ ys.length ≤ i)⟩
theorem apart {l m n : Nat} (h1 : l < n) (h2 : m < n) : ZipApart (n + 4) (n + 2) (n + 3) n (n + 1) l m := by
  constructor <;> (intro (e : (_ : Nat) = _); omega)
section
variable {X : Cx}
def iZip (K : PySem.W.Frag) (ta : TA) : TI := fun σ H R => ta σ H fun vs H1 => ∃ a b, vs = [.ref a, .ref b] ∧ (∃ xs, SqL K H1 a xs) ∧ (∃ ys, SqL K H1 b ys) ∧ R (Itz K a b) H1
end
end L2

end

section
set_option maxHeartbeats 2000000
set_option maxRecDepth 100000
set_option linter.unusedVariables false
set_option linter.unusedSimpArgs false
namespace L2
open PySem PySem.Spec PyProof.Rows
/-! ### lists of lists of ints -/
structure Lists (H : Hp) (rs : List Addr) (qss : List (List Int)) : Prop where
  len : rs.length = qss.length
  at_ : ∀ (i : Nat) r qs, rs[i]? = some r → qss[i]? = some qs → H r = some (.lst (qs.map V.int))
theorem Lists.nil {H : Hp} : Lists H [] [] := ⟨rfl, fun i r qs h => by simp at h⟩
theorem Lists.mono {H H' : Hp} {rs : List Addr} {qss : List (List Int)} (h : Lists H rs qss) (s : Same H H') : Lists H' rs qss := ⟨h.len, fun i r qs a b => s _ _ (h.at_ i r qs a b)⟩
theorem Lists.snoc {H : Hp} {rs : List Addr} {qss : List (List Int)} {r : Addr} {qs : List Int} (h : Lists H rs qss) (hr : H r = some (.lst (qs.map V.int))) : Lists H (rs ++ [r]) (qss ++ [qs]) := by
  refine ⟨by simp [h.len], fun i r' qs' a b => ?_⟩
  have hl := h.len
  by_cases hi : i < rs.length
  · rw [List.getElem?_append_left hi] at a
    rw [List.getElem?_append_left (by omega)] at b
    exact h.at_ i r' qs' a b
  · rw [List.getElem?_append_right (by omega)] at a
    rw [List.getElem?_append_right (by omega)] at b
    have i0 : i - rs.length = 0 := by
      by_cases z : i - rs.length = 0
      · exact z
      · rw [List.getElem?_eq_none_iff.mpr (by simp; omega)] at a; cases a
    rw [i0] at a
    rw [show i - qss.length = 0 by omega] at b
    simp at a b
    subst a b
    exact hr
section
open Classical in
noncomputable def eqLL (H : Hp) (bs : List Int) : Value → Bool
  | .ref r => decide (H r = some (.lst (bs.map V.int)))
  | _ => false
variable {X : Cx}
def rInLL (K : PySem.W.Frag) (neg : Bool) : R2 := fun x y H Q => ∃ b p bs rs qss, x = .ref b ∧ y = .ref p ∧ SqL K H b (bs.map V.int) ∧ SqL K H p (rs.map V.ref) ∧ Lists H rs qss ∧ Q (.bl (if neg then !decide (bs ∈ qss) else decide (bs ∈ qss))) H
end
/-! ### turns again and again -/
def it (j : Nat) (ps : List Int) : List Int := match j with
  | 0 => ps
  | j + 1 => turn (it j ps)
theorem it_succ (j : Nat) (ps : List Int) : it (j + 1) ps = turn (it j ps) := rfl
theorem it_add (i : Nat) (ps : List Int) : ∀ j, it (i + j) ps = it j (it i ps)
  | 0 => rfl
  | j + 1 => by rw [Nat.add_succ, it_succ, it_succ, it_add i ps j]
theorem Setting.it {n : Int} {ps : List Int} (h : Setting n ps) (h0 : 1 ≤ n) : ∀ j, Setting n (it j ps)
  | 0 => h
  | j + 1 => (Setting.it h h0 j).turn h0
/-! ### marks go round -/
def rotR (ms : List Int) : List Int := match ms.getLast? with
  | some l => l :: ms.dropLast
  | none => []
theorem rotR_snoc (ms : List Int) (l : Int) : rotR (ms ++ [l]) = l :: ms := by
  unfold rotR; simp
theorem raised_nil (k : Int) : raised k [] = [] := rfl
theorem raised_cons (k m : Int) (r : List Int) : raised k (m :: r) = (k - 1 + m) :: raised (k - 1) r := rfl
theorem raised_snoc : ∀ (ms : List Int) (k l : Int), raised k (ms ++ [l]) = raised k ms ++ [k - 1 - ms.length + l]
  | [], k, l => by rw [List.nil_append, raised_cons, raised_nil, raised_nil]; simp
  | m :: r, k, l => by
    rw [List.cons_append, raised_cons, raised_cons, raised_snoc r (k - 1) l, List.cons_append]
    congr 3
    rw [List.length_cons]; omega
theorem raised_up : ∀ (ms : List Int) (k : Int), raised (k + 1) ms = (raised k ms).map (· + 1)
  | [], k => by rw [raised_nil, raised_nil]; rfl
  | m :: r, k => by
    rw [raised_cons, raised_cons, List.map_cons, show k + 1 - 1 = (k - 1) + 1 by omega, raised_up r (k - 1)]
    congr 1; omega
end L2

end

section
set_option maxHeartbeats 2000000
set_option maxRecDepth 100000
set_option linter.unusedVariables false
set_option linter.unusedSimpArgs false
namespace L2
open PySem PySem.Spec PyProof.Rows
theorem raised_ge {ms : List Int} (h : ∀ m ∈ ms, m = 0 ∨ m = 1) : ∀ x ∈ raised ms.length ms, 0 ≤ x := raised_nonneg ms ms.length (fun m hm => by rcases h m hm with z | z <;> omega) (Int.le_refl _)
/-- the piles of marks, their last mark apart -/
theorem byMarks_snoc {ms : List Int} {l : Int} (h : ∀ m ∈ ms, m = 0 ∨ m = 1) : byMarks (ms ++ [l]) = (raised ms.length ms).map (· + 1) ++ [l].filter fun x => decide (0 < x) := by
  rw [byMarks_eq, raised_snoc, List.filter_append]
  have e1 : ((ms ++ [l]).length : Int) = (ms.length : Int) + 1 := by rw [List.length_append, List.length_singleton]; omega
  rw [e1, raised_up]
  congr 1
  · refine List.filter_eq_self.mpr fun x hx => ?_
    obtain ⟨y, hy, rfl⟩ := List.mem_map.mp hx
    have := raised_ge h y hy
    simp only [decide_eq_true_eq]; omega
  · rw [show (ms.length : Int) + 1 - 1 - ms.length + l = l by omega]
theorem turn_marks {ms : List Int} {l : Int} (h : ∀ m ∈ ms, m = 0 ∨ m = 1) (hl : l = 0 ∨ l = 1) (hp : 1 ≤ (ms.length : Int) + l) : turn (byMarks (ms ++ [l])) = byMarks (l :: ms) := by
  have eB := byMarks_snoc (l := l) h
  have lenB : ((byMarks (ms ++ [l])).length : Int) = ms.length + l := by
    rw [eB, List.length_append, List.length_map, raised_len]
    rcases hl with rfl | rfl
    · simp
    · simp
  have left : leftOf (byMarks (ms ++ [l])) = (raised ms.length ms).filter fun x => decide (0 < x) := by
    rw [eB]
    unfold leftOf
    rw [List.filter_append, List.map_append, List.filter_map, List.map_map]
    have e1 : (([l].filter fun x => decide (0 < x)).filter fun x => decide (1 < x)) = [] := by rcases hl with rfl | rfl <;> rfl
    rw [e1, List.map_nil, List.append_nil]
    have e2 : (fun x : Int => decide (1 < x)) ∘ (fun x => x + 1) = fun x => decide (0 < x) := by
      funext x; show decide (1 < x + 1) = decide (0 < x); rw [decide_eq_decide]; omega
    rw [e2]
    have e3 : (fun x : Int => x - 1) ∘ (fun x => x + 1) = id := by funext x; show x + 1 - 1 = x; omega
    rw [e3, List.map_id]
  have right : byMarks (l :: ms) = ((ms.length : Int) + l) :: (raised ms.length ms).filter fun x => decide (0 < x) := by
    rw [byMarks_eq, raised_cons]
    have e1 : ((l :: ms).length : Int) - 1 = ms.length := by rw [List.length_cons]; omega
    rw [e1, List.filter_cons, if_pos (by simp only [decide_eq_true_eq]; omega)]
  unfold turn
  rw [lenB, left, right]
  cases hf : (raised ms.length ms).filter fun x => decide (0 < x) with
  | nil => rfl
  | cons y r =>
    have my : y ∈ raised ms.length ms := (List.mem_filter.mp (show y ∈ (raised ms.length ms).filter fun x => decide (0 < x) by rw [hf]; exact List.mem_cons_self)).1
    have := (raised_ord ms ms.length h).2 y my
    unfold insD
    rw [if_pos (by rcases hl with rfl | rfl <;> omega)]
theorem above_marks {ms : List Int} (h : ∀ m ∈ ms, m = 0 ∨ m = 1) (h0 : ms ≠ []) : aboveL ms.length (byMarks ms) = ms := by
  obtain ⟨r, l, rfl⟩ : ∃ r l, ms = r ++ [l] := ⟨ms.dropLast, ms.getLast h0, (List.dropLast_concat_getLast h0).symm⟩
  have hr : ∀ m ∈ r, m = 0 ∨ m = 1 := fun m hm => h m (List.mem_append_left _ hm)
  have hl : l = 0 ∨ l = 1 := h l (by simp)
  have ef : filledL (r ++ [l]).length (byMarks (r ++ [l])) = raised (r ++ [l]).length (r ++ [l]) := by
    unfold filledL
    rw [byMarks_snoc hr, raised_snoc]
    have e1 : ((r ++ [l]).length : Int) = (r.length : Int) + 1 := by rw [List.length_append, List.length_singleton]; omega
    rw [e1, raised_up, List.append_assoc]
    congr 1
    rw [List.length_append, List.length_map, raised_len]
    rcases hl with rfl | rfl
    · simp
    · simp
  unfold aboveL
  rw [ef]
  apply List.ext_getElem?
  intro i
  rw [List.getElem?_mapIdx]
  by_cases hi : i < (r ++ [l]).length
  · rw [raised_get _ _ i hi, List.getElem?_eq_getElem hi]
    simp only [Option.map_some, Option.some.injEq]
    rw [show (r ++ [l]).getD i 0 = (r ++ [l])[i] by rw [List.getD_eq_getElem?_getD, List.getElem?_eq_getElem hi]; rfl]
    omega
  · rw [List.getElem?_eq_none_iff.mpr (by rw [raised_len]; omega), List.getElem?_eq_none_iff.mpr (by omega)]; rfl
theorem Marks.stair {n : Int} {ms : List Int} (h : Marks n ms) : IsStair n ms.length := ⟨by have := h.ne; omega, h.lo, h.hi⟩
theorem Marks.rot {n : Int} {ms : List Int} {l : Int} (h : Marks n (ms ++ [l])) : Marks n (l :: ms) := by
  have e : (l :: ms).length = (ms ++ [l]).length := by simp
  refine ⟨by simp, by rw [e]; exact h.lo, by rw [e]; exact h.hi, fun m hm => h.bit m ?_, ?_⟩
  · rcases List.mem_cons.mp hm with z | z
    · rw [z]; simp
    · exact List.mem_append_left _ z
  · rw [e, ← h.sum, sum_app, List.sum_cons, List.sum_cons, List.sum_nil]; omega
theorem Marks.round {n : Int} {ms : List Int} (h : Marks n ms) (n0 : 1 ≤ n) : Marks n (rotR ms) ∧ turn (byMarks ms) = byMarks (rotR ms) ∧ (rotR ms).length = ms.length := by
  have hne : ms ≠ [] := fun z => by have := h.ne; rw [z] at this; simp at this
  obtain ⟨r, l, rfl⟩ : ∃ r l, ms = r ++ [l] := ⟨ms.dropLast, ms.getLast hne, (List.dropLast_concat_getLast hne).symm⟩
  rw [rotR_snoc]
  have hl : l = 0 ∨ l = 1 := h.bit l (by simp)
  refine ⟨h.rot, turn_marks (fun m hm => h.bit m (List.mem_append_left _ hm)) hl ?_, by simp⟩
  have hs := h.sum
  cases r with
  | nil =>
    simp at hs
    simp; omega
  | cons a b => rw [List.length_cons]; rcases hl with z | z <;> omega
def rots (j : Nat) (ms : List Int) : List Int := match j with
  | 0 => ms
  | j + 1 => rotR (rots j ms)
theorem rots_drop (ms : List Int) : ∀ j, j ≤ ms.length → rots j ms = ms.drop (ms.length - j) ++ ms.take (ms.length - j)
  | 0, _ => by simp [rots]
  | j + 1, h => by
    show rotR (rots j ms) = _
    rw [rots_drop ms j (by omega)]
    have hj : ms.length - j - 1 < ms.length := by omega
    have e1 : ms.take (ms.length - j) = ms.take (ms.length - (j + 1)) ++ [ms[ms.length - (j + 1)]] := by
      rw [show ms.length - j = (ms.length - (j + 1)) + 1 by omega, List.take_add_one, List.getElem?_eq_getElem (by omega)]; rfl
    rw [e1, ← List.append_assoc, rotR_snoc]
    rw [show ms.length - j = ms.length - (j + 1) + 1 by omega]
    rw [← List.cons_append, ← List.drop_eq_getElem_cons]
theorem rots_all (ms : List Int) : rots ms.length ms = ms := by rw [rots_drop ms ms.length (Nat.le_refl _)]; simp
theorem Marks.rots {n : Int} {ms : List Int} (h : Marks n ms) (n0 : 1 ≤ n) : ∀ j, Marks n (rots j ms) ∧ it j (byMarks ms) = byMarks (L2.rots j ms) ∧ (L2.rots j ms).length = ms.length
  | 0 => ⟨h, rfl, rfl⟩
  | j + 1 => by
    obtain ⟨a, b, c⟩ := Marks.rots h n0 j
    obtain ⟨a2, b2, c2⟩ := a.round n0
    exact ⟨a2, by rw [it_succ, b, b2]; rfl, c2.trans c⟩
theorem least {p : Nat → Prop} : ∀ m, p m → ∃ d, d ≤ m ∧ p d ∧ ∀ j, j < d → ¬ p j := by
  intro m
  induction m using Nat.strongRecOn with
  | ind m ih =>
    intro hm
    by_cases h : ∃ j, j < m ∧ p j
    · obtain ⟨j, hj, pj⟩ := h
      obtain ⟨d, h1, h2, h3⟩ := ih j hj pj
      exact ⟨d, by omega, h2, h3⟩
    · exact ⟨m, Nat.le_refl _, hm, fun j hj pj => h ⟨j, hj, pj⟩⟩
/-- a ring: d turns lead back, fewer don't; no two on the way alike -/
structure Ring (ps : List Int) (d : Nat) : Prop where
  pos : 1 ≤ d
  back : it d ps = ps
  no : ∀ i j, i < j → j < d → it i ps ≠ it j ps
theorem Ring.of {ps : List Int} {k : Nat} (hk : 1 ≤ k) (h : it k ps = ps) : ∃ d, d ≤ k ∧ Ring ps d := by
  obtain ⟨d, hd, ⟨p1, p2⟩, no⟩ := least (p := fun d => 1 ≤ d ∧ it d ps = ps) k ⟨hk, h⟩
  refine ⟨d, hd, p1, p2, fun i j hij hj e => no (j - i) (by omega) ⟨by omega, ?_⟩⟩
  have e1 : it (d - i) (it i ps) = ps := by rw [← it_add, show i + (d - i) = d by omega]; exact p2
  have e2 : it (d - i) (it j ps) = it (j - i) ps := by
    rw [← it_add, show j + (d - i) = d + (j - i) by omega, it_add, p2]
  rw [← e2, ← e, e1]
theorem Ring.mod {ps : List Int} {d : Nat} (h : Ring ps d) : ∀ i, it i ps = it (i % d) ps := by
  intro i
  induction i using Nat.strongRecOn with
  | ind i ih =>
    by_cases c : i < d
    · rw [Nat.mod_eq_of_lt c]
    · have e : it i ps = it (i - d) ps := by
        conv => lhs; rw [show i = d + (i - d) by omega, it_add, h.back]
      have hp := h.pos
      rw [e, ih (i - d) (by omega), ← Nat.mod_eq_sub_mod (by omega)]
def its (i : Nat) (ps : List Int) : List (List Int) := (List.range i).map fun t => it t ps
theorem mem_its {i : Nat} {ps qs : List Int} : qs ∈ its i ps ↔ ∃ t, t < i ∧ it t ps = qs := by unfold its; simp
theorem Ring.mem {ps : List Int} {d : Nat} (h : Ring ps d) {i : Nat} : it i ps ∈ its (min i d) ps ↔ d ≤ i := by
  rw [mem_its]
  constructor
  · rintro ⟨t, ht, e⟩
    by_cases c : d ≤ i
    · exact c
    · exact absurd e (h.no t i (by omega) (by omega))
  · intro c
    exact ⟨i % d, by have := Nat.mod_lt i h.pos; omega, (h.mod i).symm⟩
end L2

end

section
set_option maxHeartbeats 2000000
set_option maxRecDepth 100000
set_option linter.unusedVariables false
set_option linter.unusedSimpArgs false
namespace BS

/-- the sum of the first n values -/
def sm : Nat → (Nat → Int) → Int
  | 0, _ => 0
  | n + 1, f => sm n f + f n

def ind (p : Prop) [Decidable p] : Int := if p then 1 else 0

theorem ind_t {p : Prop} [Decidable p] (h : p) : ind p = 1 := by simp [ind, h]
theorem ind_f {p : Prop} [Decidable p] (h : ¬p) : ind p = 0 := by simp [ind, h]
theorem ind_nn (p : Prop) [Decidable p] : 0 ≤ ind p := by unfold ind; split <;> omega
theorem ind_le (p : Prop) [Decidable p] : ind p ≤ 1 := by unfold ind; split <;> omega

theorem sm_le {n : Nat} {f g : Nat → Int} (h : ∀ i, i < n → f i ≤ g i) : sm n f ≤ sm n g := by
  induction n with
  | zero => simp [sm]
  | succ n ih => have := ih (fun i hi => h i (by omega)); have := h n (by omega); simp only [sm]; omega

theorem sm_congr {n : Nat} {f g : Nat → Int} (h : ∀ i, i < n → f i = g i) : sm n f = sm n g := by
  induction n with
  | zero => simp [sm]
  | succ n ih => have := ih (fun i hi => h i (by omega)); have := h n (by omega); simp only [sm]; omega

theorem sm_add (n : Nat) (f g : Nat → Int) : sm n (fun i => f i + g i) = sm n f + sm n g := by
  induction n with
  | zero => simp [sm]
  | succ n ih => simp only [sm]; omega

theorem sm_sub (n : Nat) (f g : Nat → Int) : sm n (fun i => f i - g i) = sm n f - sm n g := by
  induction n with
  | zero => simp [sm]
  | succ n ih => simp only [sm]; omega

theorem sm_const (n : Nat) (d : Int) : sm n (fun _ => d) = n * d := by
  induction n with
  | zero => simp [sm]
  | succ n ih => simp only [sm]; rw [ih]; push_cast; rw [Int.add_mul]; omega

theorem sm_nn {n : Nat} {f : Nat → Int} (h : ∀ i, i < n → 0 ≤ f i) : 0 ≤ sm n f := by
  have := sm_le (n := n) (f := fun _ => 0) (g := f) h
  rw [sm_const] at this; omega

theorem sm_split (n m : Nat) (f : Nat → Int) : sm (n + m) f = sm n f + sm m (fun i => f (n + i)) := by
  induction m with
  | zero => simp [sm]
  | succ m ih => rw [← Nat.add_assoc]; simp only [sm]; omega

theorem sm_succ' (n : Nat) (f : Nat → Int) : sm (n + 1) f = f 0 + sm n (fun i => f (i + 1)) := by
  have h := sm_split 1 n f
  rw [Nat.add_comm 1 n] at h
  rw [h]; simp only [sm]
  rw [sm_congr (n := n) (g := fun i => f (i + 1)) (fun i _ => by rw [Nat.add_comm])]
  omega

theorem sm_mono {n m : Nat} {f : Nat → Int} (h : n ≤ m) (hf : ∀ i, i < m → 0 ≤ f i) : sm n f ≤ sm m f := by
  obtain ⟨d, rfl⟩ := Nat.exists_eq_add_of_le h
  rw [sm_split]
  have := sm_nn (n := d) (f := fun i => f (n + i)) (fun i hi => hf _ (by omega))
  omega

theorem sm_swap (n m : Nat) (F : Nat → Nat → Int) :
    sm n (fun i => sm m (fun j => F i j)) = sm m (fun j => sm n (fun i => F i j)) := by
  induction n with
  | zero => simp only [sm]; rw [sm_const]; simp
  | succ n ih => simp only [sm]; rw [ih, ← sm_add]

theorem sm_iv (n : Nat) (lo hi : Int) :
    sm n (fun y => ind (lo ≤ (y : Int) ∧ (y : Int) < hi)) = max 0 (min (n : Int) hi - max 0 lo) := by
  induction n with
  | zero => simp only [sm]; omega
  | succ n ih =>
      simp only [sm]; rw [ih]
      by_cases h : lo ≤ (n : Int) ∧ (n : Int) < hi
      · rw [ind_t h]; omega
      · rw [ind_f h]; omega

/-! ### the numbers of piles -/

structure Sys (c r : Nat → Int) : Prop where
  mono : ∀ t, 1 ≤ t → r (t + 1) ≤ r t
  nn : ∀ t, 0 ≤ r t
  eqn : ∀ t, 1 ≤ t → c t = r t + sm (t - 1) (fun i => ind ((i : Int) + 1 ≤ c (t - (i + 1))))

section
variable {c r : Nat → Int} (S : Sys c r)

include S

theorem c_nn (t : Nat) (ht : 1 ≤ t) : 0 ≤ c t := by
  rw [S.eqn t ht]
  have := S.nn t
  have := sm_nn (n := t - 1) (f := fun i => ind ((i : Int) + 1 ≤ c (t - (i + 1)))) (fun i _ => ind_nn _)
  omega

theorem rise (t : Nat) (ht : 1 ≤ t) : c (t + 1) ≤ c t + 1 := by
  rw [S.eqn (t + 1) (by omega), S.eqn t ht]
  have h1 := S.mono t ht
  obtain ⟨u, rfl⟩ : ∃ u, t = u + 1 := ⟨t - 1, by omega⟩
  have e : u + 1 + 1 - 1 = u + 1 := by omega
  rw [e, sm_succ']
  have h2 := ind_le (((0 : Nat) : Int) + 1 ≤ c (u + 1 + 1 - (0 + 1)))
  have h3 : sm u (fun i => ind (((i + 1 : Nat) : Int) + 1 ≤ c (u + 1 + 1 - (i + 1 + 1)))) ≤
      sm u (fun i => ind ((i : Int) + 1 ≤ c (u + 1 - (i + 1)))) := by
    apply sm_le; intro i hi
    have e2 : u + 1 + 1 - (i + 1 + 1) = u + 1 - (i + 1) := by omega
    rw [e2]
    by_cases h : ((i + 1 : Nat) : Int) + 1 ≤ c (u + 1 - (i + 1))
    · rw [ind_t h, ind_t (by omega)]; omega
    · rw [ind_f h]; exact ind_nn _
  have e3 : u + 1 - 1 = u := by omega
  rw [e3]; omega

theorem rises (t d : Nat) (ht : 1 ≤ t) : c (t + d) ≤ c t + d := by
  induction d with
  | zero => simp
  | succ d ih => have := rise S (t + d) (by omega); rw [← Nat.add_assoc]; omega

end

/-- landings of the pile of age x in the last m + 1 turns up to a -/
def Lam (c : Nat → Int) (a m x : Nat) : Int :=
  sm (m + 1) (fun y => ind (y < x ∧ (x : Int) ≤ c (a - x) + (y : Int)))

def Rf (k m x : Nat) : Int := sm (m + 1) (fun y => ind (y < x ∧ x ≤ k + y))

theorem Lam_eq (c : Nat → Int) (a m x : Nat) :
    Lam c a m x = max 0 (min ((m : Int) + 1) x - max 0 ((x : Int) - c (a - x))) := by
  have h := sm_iv (m + 1) ((x : Int) - c (a - x)) x
  unfold Lam
  rw [sm_congr (g := fun y => ind ((x : Int) - c (a - x) ≤ (y : Int) ∧ (y : Int) < x))
    (fun y _ => by unfold ind; congr 1; apply propext; constructor <;> intro h <;> omega), h]
  push_cast; rfl

theorem Rf_eq (k m x : Nat) :
    Rf k m x = max 0 (min ((m : Int) + 1) x - max 0 ((x : Int) - k)) := by
  have h := sm_iv (m + 1) ((x : Int) - k) x
  unfold Rf
  rw [sm_congr (g := fun y => ind ((x : Int) - k ≤ (y : Int) ∧ (y : Int) < x))
    (fun y _ => by unfold ind; congr 1; apply propext; constructor <;> intro h <;> omega), h]
  push_cast; rfl

theorem Rf_step (k m x : Nat) : Rf (k + 1) m x - Rf k m x = ind ((k : Int) + 1 ≤ (x : Int) ∧ (x : Int) < k + m + 2) := by
  rw [Rf_eq, Rf_eq]
  by_cases h : (k : Int) + 1 ≤ (x : Int) ∧ (x : Int) < k + m + 2
  · rw [ind_t h]; push_cast; omega
  · rw [ind_f h]; push_cast; omega

/-- the reference over the ages 1 .. N -/
theorem Rf_sum (m N : Nat) : ∀ k : Nat, k + m ≤ N → sm N (fun i => Rf k m (i + 1)) = ((m : Int) + 1) * k := by
  intro k
  induction k with
  | zero =>
      intro _
      rw [sm_congr (g := fun _ => 0) (fun i _ => by rw [Rf_eq]; omega), sm_const]; simp
  | succ k ih =>
      intro h
      have h1 := ih (by omega)
      have h2 : sm N (fun i => Rf (k + 1) m (i + 1)) = sm N (fun i => Rf k m (i + 1)) +
          sm N (fun i => ind ((k : Int) ≤ (i : Int) ∧ (i : Int) < k + m + 1)) := by
        rw [← sm_add]; apply sm_congr; intro i _
        have := Rf_step k m (i + 1)
        have e : ind ((k : Int) + 1 ≤ ((i + 1 : Nat) : Int) ∧ ((i + 1 : Nat) : Int) < k + m + 2) =
            ind ((k : Int) ≤ (i : Int) ∧ (i : Int) < k + m + 1) := by
          unfold ind; congr 1; apply propext; constructor <;> intro h <;> omega
        omega
      rw [h2, h1, sm_iv]
      push_cast; rw [Int.mul_add]; omega

section
variable (c : Nat → Int) (a m : Nat)

def cntA (N : Nat) : Int := sm N (fun i => ind ((i : Int) + 1 ≤ c (a - (i + 1))))
def Gd (k N : Nat) : Int := sm N (fun i => Lam c a m (i + 1) - Rf k m (i + 1))

theorem cntA_le (N : Nat) : cntA c a N ≤ N := by
  have := sm_le (n := N) (f := fun i => ind ((i : Int) + 1 ≤ c (a - (i + 1)))) (g := fun _ => 1) (fun i _ => ind_le _)
  rw [sm_const] at this; unfold cntA; omega

theorem last_alive (N : Nat) (h : 1 ≤ cntA c a N) :
    ∃ X, 1 ≤ X ∧ X ≤ N ∧ (X : Int) ≤ c (a - X) ∧ (∀ x, X < x → x ≤ N → c (a - x) < x) ∧ cntA c a X = cntA c a N := by
  induction N with
  | zero => simp [cntA, sm] at h
  | succ N ih =>
      by_cases ha : ((N + 1 : Nat) : Int) ≤ c (a - (N + 1))
      · exact ⟨N + 1, by omega, by omega, ha, fun x h1 h2 => by omega, rfl⟩
      · have e : cntA c a (N + 1) = cntA c a N := by
          show sm N _ + ind _ = _
          rw [ind_f (by push_cast at ha; omega)]; unfold cntA; omega
        rw [e] at h
        obtain ⟨X, h1, h2, h3, h4, h5⟩ := ih h
        refine ⟨X, h1, by omega, h3, ?_, by omega⟩
        intro x hx hxN
        by_cases hx2 : x = N + 1
        · subst hx2; omega
        · exact h4 x hx (by omega)

theorem cntA_succ (N : Nat) (ha : ((N + 1 : Nat) : Int) ≤ c (a - (N + 1))) : cntA c a (N + 1) = cntA c a N + 1 := by
  show sm N _ + ind _ = _
  rw [ind_t (by push_cast at ha; omega)]; rfl

theorem Gd_step (k N : Nat) (h : k ≤ N) :
    Gd c a m (k + 1) N = Gd c a m k N - min ((N : Int) - k) (m + 1) := by
  unfold Gd
  have h2 : sm N (fun i => Lam c a m (i + 1) - Rf (k + 1) m (i + 1)) = sm N (fun i => Lam c a m (i + 1) - Rf k m (i + 1)) -
      sm N (fun i => ind ((k : Int) ≤ (i : Int) ∧ (i : Int) < k + m + 1)) := by
    rw [← sm_sub]; apply sm_congr; intro i _
    have := Rf_step k m (i + 1)
    have e : ind ((k : Int) + 1 ≤ ((i + 1 : Nat) : Int) ∧ ((i + 1 : Nat) : Int) < k + m + 2) =
        ind ((k : Int) ≤ (i : Int) ∧ (i : Int) < k + m + 1) := by
      unfold ind; congr 1; apply propext; constructor <;> intro h <;> omega
    omega
  rw [h2, sm_iv]; omega

end
end BS

end

section
set_option maxHeartbeats 2000000
set_option maxRecDepth 100000
set_option linter.unusedVariables false
set_option linter.unusedSimpArgs false
namespace BS

def Pm (c : Nat → Int) (k m : Nat) : Prop :=
  ∀ a, m * (k + 1) + 1 ≤ a + k → 1 ≤ a → (k : Int) + 1 ≤ c a →
    ((m : Int) + 1) * k + 1 ≤ sm (m + 1) (fun y => c (a - y))

theorem sm_subc (n : Nat) (f : Nat → Int) (d : Int) : sm n (fun i => f i - d) = sm n f - n * d := by
  rw [sm_sub, sm_const]

section
variable {c r : Nat → Int} (S : Sys c r)
include S

/-- a pile that is gone at a has at least its number less k of landings more than the reference -/
theorem dead_term (a m K x : Nat) (hx : K < x) (hx2 : x ≤ K + m) (ha : x < a) (hd : c (a - x) < x) :
    c (a - x) - K ≤ Lam c a m x - Rf K m x := by
  have := c_nn S (a - x) (by omega)
  rw [Lam_eq, Rf_eq]; omega

theorem dead_term0 (a m K x : Nat) (hx2 : K + m < x) : 0 ≤ Lam c a m x - Rf K m x := by
  rw [Lam_eq, Rf_eq]; omega

theorem last_term (a m K x : Nat) (hx2 : x = K + m) : -1 ≤ Lam c a m x - Rf K m x := by
  rw [Lam_eq, Rf_eq]; omega

theorem alive_term (a m K x : Nat) (hx : K < x) (hd : (x : Int) ≤ c (a - x)) :
    Lam c a m x - Rf K m x = min ((x : Int) - K) (m + 1) := by
  rw [Lam_eq, Rf_eq]; omega

/-- the gone piles behind the pile of age X, no older than K + m -/
theorem tail_ge (a m K X N : Nat) (hN : N < a) (hX : K ≤ X) (hXN : X ≤ N) (hd : ∀ x, X < x → x ≤ N → c (a - x) < x)
    (L : Nat) (hL : L = min N (K + m) - X) :
    sm L (fun i => c (a - X - (i + 1)) - K) ≤ sm (N - X) (fun i => Lam c a m (X + i + 1) - Rf K m (X + i + 1)) := by
  obtain ⟨d, hd2⟩ : ∃ d, N - X = L + d := ⟨N - X - L, by omega⟩
  rw [hd2, sm_split]
  have h1 : sm L (fun i => c (a - X - (i + 1)) - K) ≤ sm L (fun i => Lam c a m (X + i + 1) - Rf K m (X + i + 1)) := by
    apply sm_le; intro i hi
    have := dead_term S a m K (X + i + 1) (by omega) (by omega) (by omega) (hd _ (by omega) (by omega))
    have e : a - X - (i + 1) = a - (X + i + 1) := by omega
    rw [e]; exact this
  have h2 : 0 ≤ sm d (fun i => Lam c a m (X + (L + i) + 1) - Rf K m (X + (L + i) + 1)) := by
    apply sm_nn; intro i hi
    apply dead_term0 S; omega
  omega

/-- behind a pile of more than K coins at birth the numbers are K together -/
theorem behind (K L s : Nat) (hP : Pm c K L) (hP' : 1 ≤ L → Pm c K (L - 1)) (hs : L + 1 ≤ s) (ht : L * K + L + 1 ≤ s + K)
    (hc : (K : Int) + 1 ≤ c s) : 0 ≤ sm L (fun i => c (s - (i + 1)) - K) := by
  rcases Nat.eq_zero_or_pos L with h0 | h0
  · subst h0; simp [sm]
  · rw [sm_subc]
    by_cases h1 : c s ≤ (K : Int) + 1
    · have h := hP s (by rw [Nat.mul_add]; omega) (by omega) hc
      rw [sm_succ'] at h
      simp only [Nat.sub_zero] at h
      rw [Int.add_mul] at h; omega
    · have hr := rise S (s - 1) (by omega)
      have e : s - 1 + 1 = s := by omega
      rw [e] at hr
      obtain ⟨l, rfl⟩ : ∃ l, L = l + 1 := ⟨L - 1, by omega⟩
      have h := hP' h0 (s - 1) (by
        have e2 : l + 1 - 1 = l := by omega
        rw [e2, Nat.mul_add]; rw [Nat.add_mul] at ht; omega) (by omega) (by omega)
      have e2 : l + 1 - 1 = l := by omega
      rw [e2] at h
      rw [sm_congr (g := fun i => c (s - (i + 1))) (fun i _ => by congr 1; omega)] at h
      push_cast at h ⊢; omega

theorem Q (a m K0 : Nat) (hm : 2 ≤ m) (hP : ∀ k' m', m' < m → Pm c k' m') (hb : (m - 1) * K0 + m + 1 ≤ a) :
    ∀ k, k ≤ K0 → ∀ N, k ≤ N → N < a → (k : Int) ≤ cntA c a N → - min ((N : Int) - k) m ≤ Gd c a m k N := by
  intro k
  induction k with
  | zero =>
      intro _ N _ _ _
      have : 0 ≤ Gd c a m 0 N := by
        apply sm_nn; intro i _; rw [Lam_eq, Rf_eq]; omega
      omega
  | succ k ih =>
      intro hk N hN hNa hcnt
      -- where the oldest is alive
      have al : ∀ X, k + 1 ≤ X → X < a → ((k + 1 : Nat) : Int) ≤ cntA c a X → (X : Int) ≤ c (a - X) →
          - min ((X : Int) - (k + 1 : Nat)) m ≤ Gd c a m (k + 1) X := by
        intro X hX hXa hc hal
        obtain ⟨x, rfl⟩ : ∃ x, X = x + 1 := ⟨X - 1, by omega⟩
        rw [cntA_succ c a x hal] at hc
        have h1 := ih (by omega) x (by omega) (by omega) (by push_cast at hc; omega)
        have h2 := Gd_step c a m k x (by omega)
        have h3 := alive_term S a m (k + 1) (x + 1)
        have h4 : Lam c a m (x + 1) - Rf (k + 1) m (x + 1) = min ((x : Int) - k) (m + 1) := by
          rw [Lam_eq, Rf_eq]; push_cast at hal ⊢; omega
        have h5 : Gd c a m (k + 1) (x + 1) = Gd c a m (k + 1) x + (Lam c a m (x + 1) - Rf (k + 1) m (x + 1)) := rfl
        push_cast; omega
      have hb' : (m - 1) * (k + 1) + m + 1 ≤ a := by
        have := Nat.mul_le_mul_left (m - 1) hk; omega
      obtain ⟨X, hX1, hXN, hXa, hdead, hcX⟩ := last_alive c a N (by push_cast at hcnt; omega)
      have hXk : k + 1 ≤ X := by
        have := cntA_le c a X; push_cast at hcnt; omega
      have h1 := al X hXk (by omega) (by omega) hXa
      obtain ⟨L, hL⟩ : ∃ L, L = min N (k + 1 + m) - X := ⟨_, rfl⟩
      have ht := tail_ge S a m (k + 1) X N hNa hXk hXN hdead L hL
      have hsplit : Gd c a m (k + 1) N = Gd c a m (k + 1) X +
          sm (N - X) (fun i => Lam c a m (X + i + 1) - Rf (k + 1) m (X + i + 1)) := by
        have e : N = X + (N - X) := by omega
        show sm N _ = sm X _ + _
        rw [show sm N (fun i => Lam c a m (i + 1) - Rf (k + 1) m (i + 1)) = sm (X + (N - X)) (fun i => Lam c a m (i + 1) - Rf (k + 1) m (i + 1)) from by rw [← e]]
        rw [sm_split]
      by_cases hJ : k + 1 < X
      · have hmul : L * (k + 1) ≤ (m - 1) * (k + 1) := Nat.mul_le_mul_right _ (by omega)
        by_cases hL0 : L = 0
        · subst hL0; simp [sm] at ht; push_cast at *; omega
        · have h2 := behind S (k + 1) L (a - X) (hP _ _ (by omega)) (fun _ => hP _ _ (by omega)) (by omega)
            (by have : L + (X - (k + 1)) ≤ m := by omega
                omega) (by push_cast at hXa ⊢; omega)
          push_cast at *; omega
      · have hXe : X = k + 1 := by omega
        subst hXe
        by_cases hL0 : L = 0
        · subst hL0; simp [sm] at ht; push_cast at *; omega
        · have hL1 : (L : Int) = min ((N : Int) - (k + 1)) m := by omega
          by_cases hc1 : ((k + 1 : Nat) : Int) + 1 ≤ c (a - (k + 1))
          · have hr := rise S (a - (k + 1) - 1) (by omega)
            have e : a - (k + 1) - 1 + 1 = a - (k + 1) := by omega
            rw [e] at hr
            have hmul : (L - 1) * (k + 1) ≤ (m - 1) * (k + 1) := Nat.mul_le_mul_right _ (by omega)
            have h := hP k (L - 1) (by omega) (a - (k + 1) - 1) (by omega) (by omega) (by push_cast at *; omega)
            have e2 : L - 1 + 1 = L := by omega
            rw [e2] at h
            rw [sm_congr (g := fun i => c (a - (k + 1) - (i + 1))) (fun i _ => by congr 1; omega)] at h
            rw [sm_subc] at ht
            have e3 : ((L - 1 : Nat) : Int) + 1 = L := by omega
            rw [e3] at h
            push_cast at ht
            rw [Int.mul_add] at ht
            push_cast at *; omega
          · by_cases hLm : L < m
            · have hmul : L * (k + 1) ≤ (m - 1) * (k + 1) := Nat.mul_le_mul_right _ (by omega)
              have h := hP k L hLm (a - (k + 1)) (by omega) (by omega) (by push_cast at *; omega)
              rw [sm_succ'] at h
              simp only [Nat.sub_zero] at h
              rw [sm_subc] at ht
              rw [Int.add_mul] at h
              push_cast at ht
              rw [Int.mul_add] at ht
              push_cast at *; omega
            · have hLe : L = m := by omega
              obtain ⟨l, rfl⟩ : ∃ l, m = l + 1 := ⟨m - 1, by omega⟩
              have e1 : l + 1 - 1 = l := by omega
              rw [e1] at hb hb'
              have h := hP k l (by omega) (a - (k + 1)) (by omega) (by omega) (by push_cast at *; omega)
              rw [sm_succ'] at h
              simp only [Nat.sub_zero] at h
              rw [Int.add_mul] at h
              -- the tail by hand
              have hNX : ∃ d, N - (k + 1) = l + 1 + d := ⟨N - (k + 1) - (l + 1), by omega⟩
              obtain ⟨d, hd⟩ := hNX
              have t1 : sm (N - (k + 1)) (fun i => Lam c a (l + 1) (k + 1 + i + 1) - Rf (k + 1) (l + 1) (k + 1 + i + 1)) =
                  sm (l + 1) (fun i => Lam c a (l + 1) (k + 1 + i + 1) - Rf (k + 1) (l + 1) (k + 1 + i + 1)) +
                  sm d (fun i => Lam c a (l + 1) (k + 1 + (l + 1 + i) + 1) - Rf (k + 1) (l + 1) (k + 1 + (l + 1 + i) + 1)) := by
                rw [hd, sm_split]
              have t2 : 0 ≤ sm d (fun i => Lam c a (l + 1) (k + 1 + (l + 1 + i) + 1) - Rf (k + 1) (l + 1) (k + 1 + (l + 1 + i) + 1)) := by
                apply sm_nn; intro i _; apply dead_term0 S; omega
              have t3 : sm l (fun i => c (a - (k + 1) - (i + 1)) - (k + 1 : Nat)) ≤ sm l (fun i => Lam c a (l + 1) (k + 1 + i + 1) - Rf (k + 1) (l + 1) (k + 1 + i + 1)) := by
                apply sm_le; intro i hi
                have := dead_term S a (l + 1) (k + 1) (k + 1 + i + 1) (by omega) (by omega) (by omega) (hdead _ (by omega) (by omega))
                have e : a - (k + 1) - (i + 1) = a - (k + 1 + i + 1) := by omega
                rw [e]; exact this
              have t4 := last_term S a (l + 1) (k + 1) (k + 1 + l + 1) (by omega)
              have t5 : sm (l + 1) (fun i => Lam c a (l + 1) (k + 1 + i + 1) - Rf (k + 1) (l + 1) (k + 1 + i + 1)) =
                sm l (fun i => Lam c a (l + 1) (k + 1 + i + 1) - Rf (k + 1) (l + 1) (k + 1 + i + 1)) +
                (Lam c a (l + 1) (k + 1 + l + 1) - Rf (k + 1) (l + 1) (k + 1 + l + 1)) := rfl
              rw [sm_subc] at t3
              push_cast at t3
              rw [Int.mul_add] at t3
              push_cast at *; omega

/-- the landings are no more than all -/
theorem dbl (a m N : Nat) (hm : m < a) (hN : N < a) :
    sm (m + 1) (fun y => r (a - y)) + sm N (fun i => Lam c a m (i + 1)) ≤ sm (m + 1) (fun y => c (a - y)) := by
  unfold Lam
  rw [sm_swap, ← sm_add]
  apply sm_le; intro y hy
  rw [S.eqn (a - y) (by omega)]
  have h1 : sm N (fun i => ind (y < i + 1 ∧ ((i + 1 : Nat) : Int) ≤ c (a - (i + 1)) + y)) ≤
      sm (y + (a - 1 - y)) (fun i => ind (y < i + 1 ∧ ((i + 1 : Nat) : Int) ≤ c (a - (i + 1)) + y)) :=
    sm_mono (by omega) (fun i _ => ind_nn _)
  rw [sm_split] at h1
  have h2 : sm y (fun i => ind (y < i + 1 ∧ ((i + 1 : Nat) : Int) ≤ c (a - (i + 1)) + y)) = 0 := by
    rw [sm_congr (g := fun _ => 0) (fun i hi => ind_f (by omega)), sm_const]; simp
  have h3 : sm (a - 1 - y) (fun i => ind (y < y + i + 1 ∧ ((y + i + 1 : Nat) : Int) ≤ c (a - (y + i + 1)) + y)) =
      sm (a - y - 1) (fun i => ind ((i : Int) + 1 ≤ c (a - y - (i + 1)))) := by
    rw [show a - 1 - y = a - y - 1 from by omega]
    apply sm_congr; intro i hi
    rw [show a - y - (i + 1) = a - (y + i + 1) from by omega]
    unfold ind; congr 1; apply propext; constructor <;> intro h <;> omega
  omega

theorem r_anti (t d : Nat) (ht : 1 ≤ t) : r (t + d) ≤ r t := by
  induction d with
  | zero => simp
  | succ d ih => have := S.mono (t + d) (by omega); rw [← Nat.add_assoc]; omega

theorem P_step (m : Nat) (hm : 2 ≤ m) (hP : ∀ k' m', m' < m → Pm c k' m') (k : Nat) : Pm c k m := by
  intro a ha ha1 hc
  have hb : (m - 1) * k + m + 1 ≤ a := by
    obtain ⟨l, rfl⟩ : ∃ l, m = l + 1 := ⟨m - 1, by omega⟩
    rw [show l + 1 - 1 = l from by omega]
    rw [Nat.add_mul, Nat.mul_add] at ha; omega
  have hmk : k ≤ (m - 1) * k := by
    have := Nat.mul_le_mul_right k (show 1 ≤ m - 1 by omega); omega
  have hra : ∀ y, y < m + 1 → r a ≤ r (a - y) := by
    intro y hy
    have := r_anti S (a - y) y (by omega)
    rw [show a - y + y = a from by omega] at this; exact this
  have hr1 : ((m : Int) + 1) * r a ≤ sm (m + 1) (fun y => r (a - y)) := by
    have := sm_le (n := m + 1) (f := fun _ => r a) (g := fun y => r (a - y)) hra
    rw [sm_const] at this; push_cast at this; exact this
  by_cases hh : (k : Int) + 1 ≤ r a
  · have h1 := dbl S a m 0 (by omega) (by omega)
    have h0 : sm 0 (fun i => Lam c a m (i + 1)) = 0 := rfl
    have h2 : ((m : Int) + 1) * (k + 1) ≤ ((m : Int) + 1) * r a := Int.mul_le_mul_of_nonneg_left hh (by omega)
    rw [Int.mul_add] at h2; omega
  · have hn := S.nn a
    obtain ⟨h, hh2⟩ : ∃ h : Nat, (h : Int) = r a := ⟨(r a).toNat, by omega⟩
    obtain ⟨k', hk'⟩ : ∃ k' : Nat, k' + h = k := ⟨k - h, by omega⟩
    have he := S.eqn a ha1
    have hcA : cntA c a (a - 1) = c a - r a := by unfold cntA; omega
    obtain ⟨X, hX1, hXN, hXa, hdead, hcX⟩ := last_alive c a (a - 1) (by omega)
    have hXk : k' + 1 ≤ X := by have := cntA_le c a X; omega
    obtain ⟨x, rfl⟩ : ∃ x, X = x + 1 := ⟨X - 1, by omega⟩
    have hcs := cntA_succ c a x hXa
    have hmk' : (m - 1) * k' ≤ (m - 1) * k := Nat.mul_le_mul_left _ (by omega)
    have hq := Q S a m k' hm hP (by omega) k' (Nat.le_refl _) x (by omega) (by omega) (by omega)
    have h4 := alive_term S a m k' (x + 1) (by omega) hXa
    have h5 : Gd c a m k' (x + 1) = Gd c a m k' x + (Lam c a m (x + 1) - Rf k' m (x + 1)) := rfl
    have h6 : 1 ≤ Gd c a m k' (x + 1) := by push_cast at h4; omega
    -- up to the age k' + m
    obtain ⟨N, hN⟩ : ∃ N, N = max (x + 1) (k' + m) := ⟨_, rfl⟩
    have hkm : k' ≤ (m - 1) * k' := by
      have := Nat.mul_le_mul_right k' (show 1 ≤ m - 1 by omega); omega
    have hNa : N < a := by omega
    obtain ⟨L, hL⟩ : ∃ L, L = min N (k' + m) - (x + 1) := ⟨_, rfl⟩
    have ht := tail_ge S a m k' (x + 1) N hNa (by omega) (by omega) (fun y h1 h2 => hdead y h1 (by omega)) L hL
    have hsplit : Gd c a m k' N = Gd c a m k' (x + 1) +
        sm (N - (x + 1)) (fun i => Lam c a m (x + 1 + i + 1) - Rf k' m (x + 1 + i + 1)) := by
      have e : N = x + 1 + (N - (x + 1)) := by omega
      show sm N _ = sm (x + 1) _ + _
      rw [show sm N (fun i => Lam c a m (i + 1) - Rf k' m (i + 1)) = sm (x + 1 + (N - (x + 1))) (fun i => Lam c a m (i + 1) - Rf k' m (i + 1)) from by rw [← e]]
      rw [sm_split]
    have h7 : 0 ≤ sm L (fun i => c (a - (x + 1) - (i + 1)) - k') := by
      by_cases hL0 : L = 0
      · subst hL0; simp [sm]
      · have hmul : L * k' ≤ (m - 1) * k' := Nat.mul_le_mul_right _ (by omega)
        exact behind S k' L (a - (x + 1)) (hP _ _ (by omega)) (fun _ => hP _ _ (by omega)) (by omega)
          (by have : L + (x + 1 - k') ≤ m := by omega
              omega) (by push_cast at hXa ⊢; omega)
    have h8 : 1 ≤ Gd c a m k' N := by omega
    have h9 : sm N (fun i => Lam c a m (i + 1)) = Gd c a m k' N + ((m : Int) + 1) * k' := by
      unfold Gd; rw [sm_sub, Rf_sum m N k' (by omega)]; omega
    have h10 := dbl S a m N (by omega) hNa
    have h11 : ((m : Int) + 1) * k = ((m : Int) + 1) * k' + ((m : Int) + 1) * h := by
      rw [← Int.mul_add]; congr 1; omega
    rw [← hh2] at hr1
    omega

theorem P_all (m : Nat) : ∀ k, Pm c k m := by
  induction m using Nat.strongRecOn with
  | ind m ih =>
      intro k
      match m, ih with
      | 0, _ => intro a _ _ hc; simp [sm]; omega
      | 1, _ =>
          intro a ha ha1 hc
          have hr := rise S (a - 1) (by omega)
          rw [show a - 1 + 1 = a from by omega] at hr
          simp [sm]; omega
      | m + 2, ih => exact P_step S (m + 2) (by omega) (fun k' m' h => ih m' h k') k

end
end BS

end

section
set_option maxHeartbeats 2000000
set_option maxRecDepth 100000
set_option linter.unusedVariables false
set_option linter.unusedSimpArgs false
namespace BS

/-- the rows of a setting (how many piles are higher than j), one turn on -/
def nx (f : Nat → Nat) : Nat → Nat := fun j => f (j + 1) + (if j + 1 ≤ f 0 then 1 else 0)

def nxs : Nat → (Nat → Nat) → (Nat → Nat)
  | 0, f => f
  | t + 1, f => nx (nxs t f)

theorem nxs_add (s : Nat) (f : Nat → Nat) : ∀ t, nxs (s + t) f = nxs t (nxs s f)
  | 0 => rfl
  | t + 1 => by rw [← Nat.add_assoc]; show nx _ = nx _; rw [nxs_add s f t]

def Mono (f : Nat → Nat) : Prop := ∀ j, f (j + 1) ≤ f j

theorem Mono.nx {f : Nat → Nat} (h : Mono f) : Mono (nx f) := by
  intro j
  have := h (j + 1)
  show f (j + 1 + 1) + _ ≤ f (j + 1) + _
  split <;> split <;> omega

theorem Mono.nxs {f : Nat → Nat} (h : Mono f) : ∀ t, Mono (nxs t f)
  | 0 => h
  | t + 1 => (Mono.nxs h t).nx

theorem Mono.le {f : Nat → Nat} (h : Mono f) (i d : Nat) : f (i + d) ≤ f i := by
  induction d with
  | zero => simp
  | succ d ih => have := h (i + d); rw [← Nat.add_assoc]; omega

theorem nx_le {f g : Nat → Nat} (h : ∀ j, f j ≤ g j) : ∀ j, nx f j ≤ nx g j := by
  intro j
  have := h (j + 1); have := h 0
  show f (j + 1) + _ ≤ g (j + 1) + _
  split <;> split <;> omega

theorem nxs_le {f g : Nat → Nat} (h : ∀ j, f j ≤ g j) : ∀ t j, nxs t f j ≤ nxs t g j
  | 0 => h
  | t + 1 => nx_le (nxs_le h t)

/-- all coins -/
def Tot (n : Nat) (f : Nat → Nat) : Prop := (∀ j, n ≤ j → f j = 0) ∧ sm n (fun j => (f j : Int)) = n

theorem Tot.f0 {n : Nat} {f : Nat → Nat} (h : Tot n f) (j : Nat) : f j ≤ n := by
  by_cases hj : n ≤ j
  · rw [h.1 j hj]; omega
  · have h1 := h.2
    have e : n = j + (n - j - 1 + 1) := by omega
    rw [show sm n (fun j => (f j : Int)) = sm (j + (n - j - 1 + 1)) (fun j => (f j : Int)) from by rw [← e], sm_split, sm_succ'] at h1
    have h2 := sm_nn (n := j) (f := fun j => (f j : Int)) (fun _ _ => by omega)
    have h3 := sm_nn (n := n - j - 1) (f := fun i => (f (j + (i + 1)) : Int)) (fun _ _ => by omega)
    simp only [Nat.add_zero] at h1
    omega

theorem Tot.nx {n : Nat} {f : Nat → Nat} (h : Tot n f) : Tot n (BS.nx f) := by
  have h0 := h.f0 0
  constructor
  · intro j hj
    show f (j + 1) + _ = 0
    rw [h.1 (j + 1) (by omega), if_neg (by omega)]
  · have h1 : sm n (fun j => (BS.nx f j : Int)) = sm n (fun j => (f (j + 1) : Int)) + sm n (fun j => ind ((0 : Int) ≤ (j : Int) ∧ (j : Int) < f 0)) := by
      rw [← sm_add]; apply sm_congr; intro j _
      show ((f (j + 1) + (if j + 1 ≤ f 0 then 1 else 0) : Nat) : Int) = _
      by_cases hj : j + 1 ≤ f 0
      · rw [if_pos hj, ind_t (by omega)]; push_cast; rfl
      · rw [if_neg hj, ind_f (by omega)]; push_cast; rfl
    have h2 := sm_succ' n (fun j => (f j : Int))
    have h3 : sm (n + 1) (fun j => (f j : Int)) = sm n (fun j => (f j : Int)) + f n := rfl
    have h4 := h.2
    have h5 := h.1 n (Nat.le_refl _)
    rw [h1, sm_iv]; omega

theorem Tot.nxs {n : Nat} {f : Nat → Nat} (h : Tot n f) : ∀ t, Tot n (nxs t f)
  | 0 => h
  | t + 1 => (Tot.nxs h t).nx

/-- every row out of the piles of the first setting and those laid since -/
theorem nxs_eq (f : Nat → Nat) : ∀ t j, (nxs t f j : Int) = f (t + j) + sm t (fun i => ind ((i : Int) + 1 + j ≤ nxs (t - (i + 1)) f 0)) := by
  intro t
  induction t with
  | zero => intro j; simp [sm, nxs]
  | succ t ih =>
      intro j
      rw [sm_succ']
      have h1 := ih (j + 1)
      have h2 : (nxs (t + 1) f j : Int) = nxs t f (j + 1) + ind (((0 : Nat) : Int) + 1 + j ≤ nxs (t + 1 - (0 + 1)) f 0) := by
        show ((nxs t f (j + 1) + (if j + 1 ≤ nxs t f 0 then 1 else 0) : Nat) : Int) = _
        rw [show t + 1 - (0 + 1) = t from by omega]
        by_cases hj : j + 1 ≤ nxs t f 0
        · rw [if_pos hj, ind_t (by omega)]; push_cast; rfl
        · rw [if_neg hj, ind_f (by omega)]; push_cast; rfl
      rw [h2, h1]
      have h3 : sm t (fun i => ind ((i : Int) + 1 + (j + 1 : Nat) ≤ nxs (t - (i + 1)) f 0)) =
          sm t (fun i => ind (((i + 1 : Nat) : Int) + 1 + j ≤ nxs (t + 1 - (i + 1 + 1)) f 0)) := by
        apply sm_congr; intro i _
        rw [show t + 1 - (i + 1 + 1) = t - (i + 1) from by omega]
        unfold ind; congr 1; apply propext; constructor <;> intro h <;> omega
      rw [h3, show t + (j + 1) = t + 1 + j from by omega]
      omega

def cF (f : Nat → Nat) (t : Nat) : Int := nxs (t - 1) f 0
def rF (f : Nat → Nat) (t : Nat) : Int := f (t - 1)

theorem sys {f : Nat → Nat} (h : Mono f) : Sys (cF f) (rF f) where
  mono := by
    intro t ht
    have := h (t - 1)
    unfold rF
    rw [show t + 1 - 1 = t - 1 + 1 from by omega]; omega
  nn := by intro t; unfold rF; omega
  eqn := by
    intro t ht
    have h1 := nxs_eq f (t - 1) 0
    unfold cF rF
    rw [h1]
    simp only [Nat.add_zero]
    congr 1
    apply sm_congr; intro i _
    rw [show t - 1 - (i + 1) = t - (i + 1) - 1 from by omega]
    unfold ind; congr 1

/-- the coins of the K newest piles are no more than all -/
theorem window {n : Nat} {f : Nat → Nat} (h : Tot n f) (t K : Nat) (hK : K ≤ t) :
    sm K (fun y => cF f (t - y) - y) ≤ n := by
  have ht := (h.nxs t)
  have h2 := ht.2
  have hle : sm K (fun y => cF f (t - y) - y) ≤ sm K (fun i => sm n (fun j => ind ((i : Int) + 1 + j ≤ nxs (t - (i + 1)) f 0))) := by
    apply sm_le; intro i hi
    have hc : (nxs (t - (i + 1)) f 0 : Int) ≤ n := by have := (h.nxs (t - (i + 1))).f0 0; omega
    have e : sm n (fun j => ind ((i : Int) + 1 + j ≤ nxs (t - (i + 1)) f 0)) = sm n (fun j => ind ((0 : Int) ≤ (j : Int) ∧ (j : Int) < nxs (t - (i + 1)) f 0 - i)) := by
      apply sm_congr; intro j _
      unfold ind; congr 1; apply propext; constructor <;> intro h <;> omega
    rw [e, sm_iv]
    unfold cF
    rw [show t - i - 1 = t - (i + 1) from by omega]
    omega
  have hmid : sm K (fun i => sm n (fun j => ind ((i : Int) + 1 + j ≤ nxs (t - (i + 1)) f 0))) ≤
      sm t (fun i => sm n (fun j => ind ((i : Int) + 1 + j ≤ nxs (t - (i + 1)) f 0))) :=
    sm_mono hK (fun i _ => sm_nn (fun j _ => ind_nn _))
  rw [sm_swap t n] at hmid
  have hfin : sm n (fun j => sm t (fun i => ind ((i : Int) + 1 + j ≤ nxs (t - (i + 1)) f 0))) ≤ sm n (fun j => (nxs t f j : Int)) := by
    apply sm_le; intro j _
    rw [nxs_eq f t j]; omega
  omega

def tri : Nat → Nat
  | 0 => 0
  | k + 1 => tri k + (k + 1)

theorem tri2 (k : Nat) : 2 * tri k = k * k + k := by
  induction k with
  | zero => rfl
  | succ k ih =>
      have e : (k + 1) * (k + 1) = k * k + 2 * k + 1 := by rw [Nat.add_mul, Nat.mul_add]; omega
      show 2 * (tri k + (k + 1)) = _; omega

theorem sm_id2 (k : Nat) : 2 * sm k (fun y => (y : Int)) = (k : Int) * k - k := by
  induction k with
  | zero => rfl
  | succ k ih =>
      have e : ((k : Int) + 1) * (k + 1) = (k : Int) * k + 2 * k + 1 := by rw [Int.add_mul, Int.mul_add]; omega
      simp only [sm]; push_cast; omega

/-- a window of K landings of more than K each on the whole is too much for tri K coins -/
theorem too_many {K : Nat} {f : Nat → Nat} (h : Tot (tri K) f) (t : Nat) (hK : K ≤ t)
    (hs : (K : Int) * K + 1 ≤ sm K (fun y => cF f (t - y))) : False := by
  have h1 := window h t K hK
  have h0 : sm K (fun y => cF f (t - y) - y) = sm K (fun y => cF f (t - y)) - sm K (fun y => (y : Int)) := sm_sub K _ _
  rw [h0] at h1
  have h2 := sm_id2 K
  have h3 := tri2 K
  have h4 : (2 * (tri K : Nat) : Int) = (K : Int) * K + K := by exact_mod_cast h3
  omega

/-- fewer coins out of a setting -/
theorem sub_ex {n m : Nat} {f : Nat → Nat} (hf : Mono f) (h : Tot n f) (hm : m ≤ n) :
    ∃ g, Mono g ∧ Tot m g ∧ ∀ j, g j ≤ f j := by
  -- the lowest m coins row by row
  let s : Nat → Nat := fun j => (sm j (fun i => (f i : Int))).toNat
  have hs : ∀ j, (s j : Int) = sm j (fun i => (f i : Int)) := by
    intro j
    have := sm_nn (n := j) (f := fun i => (f i : Int)) (fun _ _ => by omega)
    show ((sm j (fun i => (f i : Int))).toNat : Int) = _
    omega
  have hss : ∀ j, s (j + 1) = s j + f j := by
    intro j
    have h1 := hs (j + 1); have h2 := hs j
    have h3 : sm (j + 1) (fun i => (f i : Int)) = sm j (fun i => (f i : Int)) + f j := rfl
    omega
  let g : Nat → Nat := fun j => min (f j) (m - s j)
  have hg : ∀ j, g j = min (f j) (m - s j) := fun _ => rfl
  have hsum : ∀ j, sm j (fun i => (g i : Int)) = min (s j : Int) m := by
    intro j
    induction j with
    | zero => have := hs 0; simp only [sm] at this ⊢; omega
    | succ j ih => have := hss j; have := hg j; simp only [sm]; rw [ih]; omega
  refine ⟨g, ?_, ⟨?_, ?_⟩, ?_⟩
  · intro j
    have := hf j; have := hss j; have := hg j; have := hg (j + 1)
    omega
  · intro j hj
    -- the first j rows hold at least j coins, or the row is empty
    have hge : ∀ i, s i < i → f i = 0 := by
      intro i
      induction i with
      | zero => intro h; omega
      | succ i ih =>
          intro hlt
          have := hss i
          have := hf i
          by_cases hi : s i < i
          · have := ih hi; omega
          · omega
    rw [hg]
    by_cases hsj : s j < j
    · have := hge j hsj; omega
    · omega
  · rw [hsum]
    have hge : ∀ i, s i < i → f i = 0 := by
      intro i
      induction i with
      | zero => intro h; omega
      | succ i ih =>
          intro hlt
          have := hss i
          have := hf i
          by_cases hi : s i < i
          · have := ih hi; omega
          · omega
    by_cases hsm : s m < m
    · -- then all coins lie in the rows below m
      have h0 := hge m hsm
      have hz : ∀ d, s (m + d) = s m := by
        intro d
        induction d with
        | zero => rfl
        | succ d ih => have := hss (m + d); have := hf.le m d; rw [← Nat.add_assoc]; omega
      have := hz (n - m)
      rw [show m + (n - m) = n from by omega] at this
      have h5 := hs n
      have h6 := h.2
      omega
    · omega
  · intro j; rw [hg]; omega

theorem sup_ex {n m : Nat} {f : Nat → Nat} (hf : Mono f) (h : Tot n f) (hm : n ≤ m) :
    ∃ g, Mono g ∧ Tot m g ∧ ∀ j, f j ≤ g j := by
  refine ⟨fun j => if j = 0 then f 0 + (m - n) else f j, ?_, ⟨?_, ?_⟩, ?_⟩
  · intro j
    have := hf j
    by_cases h0 : j = 0
    · subst h0; simp at this ⊢; omega
    · simp [h0]; exact this
  · intro j hj
    by_cases h0 : j = 0
    · subst h0
      have : m = 0 := by omega
      have := h.1 0 (by omega)
      simp; omega
    · simp [h0]; exact h.1 j (by omega)
  · rcases Nat.eq_zero_or_pos m with h0 | h0
    · subst h0; rfl
    · obtain ⟨l, rfl⟩ : ∃ l, m = l + 1 := ⟨m - 1, by omega⟩
      rw [sm_succ']
      simp only [if_true]
      rw [sm_congr (g := fun i => (f (i + 1) : Int)) (fun i _ => by simp)]
      have h1 : sm (l + 1) (fun j => (f j : Int)) = n := by
        obtain ⟨d, hd⟩ : ∃ d, l + 1 = n + d := ⟨l + 1 - n, by omega⟩
        rw [hd, sm_split, h.2]
        rw [sm_congr (g := fun _ => 0) (fun i _ => by have := h.1 (n + i) (by omega); omega), sm_const]; simp
      rw [sm_succ'] at h1
      push_cast; omega
  · intro j
    by_cases h0 : j = 0
    · subst h0; simp
    · simp [h0]

theorem mul_pred (K : Nat) : (K - 1) * (K + 1) + 1 ≤ K * K + 1 := by
  rcases Nat.eq_zero_or_pos K with h | h
  · subst h; simp
  · obtain ⟨l, rfl⟩ : ∃ l, K = l + 1 := ⟨K - 1, by omega⟩
    rw [show l + 1 - 1 = l from by omega, Nat.mul_add, Nat.add_mul, Nat.mul_add]; omega

/-- stairs for good -/
theorem stairs : ∀ (k : Nat) (f : Nat → Nat), Mono f → Tot (tri k) f → ∀ t, k * k ≤ t + k → ∀ j, nxs t f j = k - j := by
  intro k
  induction k with
  | zero =>
      intro f _ h t _ j
      have := (h.nxs t).1 j (by simp [tri])
      omega
  | succ k ih =>
      intro f hf h t ht
      have S := sys hf
      obtain ⟨K, hK⟩ : ∃ K, K = k + 1 := ⟨_, rfl⟩
      rw [← hK] at h ht ⊢
      have hKK : K * K = k * k + 2 * k + 1 := by rw [hK, Nat.add_mul, Nat.mul_add]; omega
      have htri := tri2 K
      -- no new pile of more than K coins
      have c1 : ∀ a, K * K ≤ a + K → 1 ≤ a → cF f a ≤ K := by
        intro a ha ha1
        by_cases hc : (K : Int) + 1 ≤ cF f a
        · exfalso
          have hp := P_all S (K - 1) K a (by have := mul_pred K; have : (K - 1) * (K + 1) + 1 = K * K := by
                                              rw [hK, show k + 1 - 1 = k from by omega, Nat.mul_add, Nat.add_mul, Nat.mul_add]; omega
                                             omega) ha1 hc
          rw [show K - 1 + 1 = K from by omega, show ((K - 1 : Nat) : Int) + 1 = K from by omega] at hp
          refine too_many h a ?_ hp
          have : k ≤ k * k := by
            rcases Nat.eq_zero_or_pos k with h | h
            · subst h; simp
            · have := Nat.mul_le_mul_left k h; omega
          omega
        · omega
      -- nor an old one that has more than K left
      have c2 : ∀ t, K * K ≤ t + K → nxs t f K = 0 := by
        intro t ht
        by_cases hz : nxs t f K = 0
        · exact hz
        · exfalso
          have he := nxs_eq f t K
          have hfz : f (t + K) = 0 := h.1 (t + K) (by omega)
          have hpos : ∃ i, i < t ∧ (i : Int) + 1 + K ≤ nxs (t - (i + 1)) f 0 := by
            apply Classical.byContradiction
            intro hno
            have : sm t (fun i => ind ((i : Int) + 1 + K ≤ nxs (t - (i + 1)) f 0)) = 0 := by
              rw [sm_congr (g := fun _ => 0) (fun i hi => ind_f (fun hh => hno ⟨i, hi, hh⟩)), sm_const]; simp
            omega
          obtain ⟨d, hd, hcd⟩ := hpos
          have hcs : (K : Int) + 1 + d ≤ cF f (t - d) := by
            unfold cF; rw [show t - d - 1 = t - (d + 1) from by omega]; omega
          have hn : (nxs (t - (d + 1)) f 0 : Int) ≤ tri K := by have := (h.nxs (t - (d + 1))).f0 0; omega
          have hkk : 2 * k ≤ k * k + 1 := by
            rcases Nat.lt_or_ge k 2 with h | h
            · have : k = 0 ∨ k = 1 := by omega
              rcases this with h | h <;> subst h <;> simp
            · have := Nat.mul_le_mul_right k h; omega
          have hsK : K ≤ t - d := by omega
          have hrise : ∀ y, y < t - d → (K : Int) + 1 + d - y ≤ cF f (t - d - y) := by
            intro y hy
            have := rises S (t - d - y) y (by omega)
            rw [show t - d - y + y = t - d from by omega] at this
            omega
          refine too_many h (t - d) hsK ?_
          by_cases hdK : d < K
          · obtain ⟨e, he2⟩ : ∃ e, K = d + (e + 1) := ⟨K - d - 1, by omega⟩
            have h1 : (d : Int) * K ≤ sm d (fun y => cF f (t - d - y)) := by
              have := sm_le (n := d) (f := fun _ => (K : Int)) (g := fun y => cF f (t - d - y)) (fun y hy => by
                have := hrise y (by omega); omega)
              rw [sm_const] at this; exact this
            have h2 := hrise d (by omega)
            have hp := P_all S e K (t - d - d) (by
              have e1 : K * K = d * K + (e * K + K) := by
                rw [show K * K = (d + (e + 1)) * K from by rw [← he2], Nat.add_mul, Nat.add_mul, Nat.one_mul]
              have e2 : e * (K + 1) = e * K + e := by rw [Nat.mul_add, Nat.mul_one]
              have e3 : d ≤ d * K := by
                have := Nat.mul_le_mul_left d (show 1 ≤ K by omega); omega
              omega) (by omega) (by omega)
            have h3 : sm K (fun y => cF f (t - d - y)) = sm d (fun y => cF f (t - d - y)) + sm (e + 1) (fun y => cF f (t - d - d - y)) := by
              rw [show sm K (fun y => cF f (t - d - y)) = sm (d + (e + 1)) (fun y => cF f (t - d - y)) from by rw [← he2], sm_split]
              congr 1
              apply sm_congr; intro y _
              rw [show t - d - (d + y) = t - d - d - y from by omega]
            have h4 : (K : Int) * K = d * K + (e + 1) * K := by
              rw [← Int.add_mul]; congr 1; omega
            omega
          · have h1 := sm_le (n := K) (f := fun _ => (K : Int) + 1) (g := fun y => cF f (t - d - y)) (fun y hy => by
              have := hrise y (by omega); omega)
            rw [sm_const, Int.mul_add] at h1
            omega
      -- and no row that is too long
      have c3 : ∀ j, nxs t f j ≤ K - j := by
        intro j
        by_cases hj : K ≤ j
        · have h1 := c2 t ht
          have h2 := (hf.nxs t).le K (j - K)
          rw [show K + (j - K) = j from by omega] at h2
          omega
        · apply Classical.byContradiction
          intro hno
          obtain ⟨g, hg, hgt, hgl⟩ := sub_ex (m := tri k) hf h (by rw [hK]; show tri k ≤ tri k + (k + 1); omega)
          have h1 := c1 (t + j + 1) (by omega) (by omega)
          unfold cF at h1
          rw [show t + j + 1 - 1 = t + j from by omega, nxs_add] at h1
          have h2 := nxs_eq (nxs t f) j 0
          rw [Nat.add_zero] at h2
          have h3 : sm j (fun i => ind ((i : Int) + 1 + (0 : Nat) ≤ nxs (j - (i + 1)) (nxs t f) 0)) = j := by
            rw [sm_congr (g := fun _ => 1) (fun i hi => ind_t ?_), sm_const]
            · omega
            · rw [← nxs_add]
              have h4 := ih g hg hgt (t + (j - (i + 1))) (by omega) 0
              have h5 := nxs_le hgl (t + (j - (i + 1))) 0
              omega
          omega
      -- all coins: so every row is as long as can be
      have hT := h.nxs t
      have hd : sm (tri K) (fun j => ((K - j : Nat) : Int)) = tri K := by
        have : ∀ K N : Nat, K ≤ N → sm N (fun j => ((K - j : Nat) : Int)) = tri K := by
          intro K
          induction K with
          | zero => intro N _; rw [sm_congr (g := fun _ => 0) (fun i _ => by omega), sm_const]; simp [tri]
          | succ K ih =>
              intro N hN
              obtain ⟨M, rfl⟩ : ∃ M, N = M + 1 := ⟨N - 1, by omega⟩
              rw [sm_succ', sm_congr (g := fun j => ((K - j : Nat) : Int)) (fun i _ => by omega), ih M (by omega)]
              show _ = ((tri K + (K + 1) : Nat) : Int)
              push_cast; omega
        exact this K (tri K) (by
          have : K ≤ K * K := by have := Nat.mul_le_mul_left K (show 1 ≤ K by omega); omega
          omega)
      intro j
      by_cases hjn : tri K ≤ j
      · have := hT.1 j hjn
        have : K ≤ tri K := by
          have : K ≤ K * K := by have := Nat.mul_le_mul_left K (show 1 ≤ K by omega); omega
          omega
        omega
      · have hz : sm (tri K) (fun j => ((K - j : Nat) : Int) - nxs t f j) = 0 := by
          rw [sm_sub, hd, hT.2]; omega
        have := hT.2
        have e : tri K = j + (tri K - j - 1 + 1) := by omega
        rw [show sm (tri K) (fun j => ((K - j : Nat) : Int) - nxs t f j) = sm (j + (tri K - j - 1 + 1)) (fun j => ((K - j : Nat) : Int) - nxs t f j) from by rw [← e], sm_split, sm_succ'] at hz
        have h2 := sm_nn (n := j) (f := fun j => ((K - j : Nat) : Int) - nxs t f j) (fun i _ => by have := c3 i; omega)
        have h3 := sm_nn (n := tri K - j - 1) (f := fun i => ((K - (j + (i + 1)) : Nat) : Int) - nxs t f (j + (i + 1))) (fun i _ => by have := c3 (j + (i + 1)); omega)
        have h4 := c3 j
        simp only [Nat.add_zero] at hz
        omega

/-- every setting comes between two stairs -/
theorem between (k n : Nat) (f : Nat → Nat) (hf : Mono f) (h : Tot n f) (h1 : tri k ≤ n) (h2 : n ≤ tri (k + 1))
    (t : Nat) (ht : (k + 1) * (k + 1) ≤ t + (k + 1)) (j : Nat) : k - j ≤ nxs t f j ∧ nxs t f j ≤ k + 1 - j := by
  obtain ⟨g, hg, hgt, hgl⟩ := sub_ex hf h h1
  obtain ⟨g', hg', hgt', hgl'⟩ := sup_ex hf h h2
  have a1 := stairs k g hg hgt t (by rw [Nat.add_mul, Nat.mul_add] at ht; omega) j
  have a2 := stairs (k + 1) g' hg' hgt' t ht j
  have a3 := nxs_le hgl t j
  have a4 := nxs_le hgl' t j
  omega

end BS

end

section
set_option maxHeartbeats 2000000
set_option maxRecDepth 100000
set_option linter.unusedVariables false
set_option linter.unusedSimpArgs false
namespace L2
open PySem PySem.Spec PyProof.Rows
/-! ### rows of piles -/
/-- how many piles are higher than j -/
def row (ps : List Int) (j : Nat) : Nat := ps.countP fun x => decide ((j : Int) < x)
theorem row_cons (p : Int) (r : List Int) (j : Nat) : row (p :: r) j = row r j + if (j : Int) < p then 1 else 0 := by
  unfold row; rw [List.countP_cons]; simp
theorem row_perm {a b : List Int} (h : a.Perm b) (j : Nat) : row a j = row b j := h.countP_eq _
theorem row_app (a b : List Int) (j : Nat) : row (a ++ b) j = row a j + row b j := by unfold row; rw [List.countP_append]
theorem row_zero : ∀ {ps : List Int}, (∀ x ∈ ps, 1 ≤ x) → row ps 0 = ps.length
  | [], _ => rfl
  | p :: r, h => by
    rw [row_cons, row_zero fun x hx => h x (List.mem_cons_of_mem _ hx), List.length_cons, if_pos (by have := h p List.mem_cons_self; omega)]
theorem row_left (j : Nat) : ∀ ps : List Int, row (leftOf ps) j = row ps (j + 1)
  | [] => rfl
  | p :: r => by
    have ih := row_left j r
    rw [row_cons, ← ih]
    unfold leftOf
    by_cases c : 1 < p
    · rw [List.filter_cons_of_pos (by simpa using c), List.map_cons, row_cons]
      congr 1
      by_cases d : (j : Int) < p - 1
      · rw [if_pos d, if_pos (by omega)]
      · rw [if_neg d, if_neg (by omega)]
    · rw [List.filter_cons_of_neg (by simpa using c), if_neg (by omega)]; rfl
theorem row_turn {ps : List Int} (h : ∀ x ∈ ps, 1 ≤ x) : row (turn ps) = BS.nx (row ps) := by
  funext j
  rw [row_perm (turn_perm ps), row_app, row_left, row_cons]
  show row ps (j + 1) + (0 + _) = row ps (j + 1) + _
  rw [row_zero h]
  by_cases c : j + 1 ≤ ps.length
  · rw [if_pos c, if_pos (by omega)]
  · rw [if_neg c, if_neg (by omega)]
theorem row_it {n : Int} {ps : List Int} (h : Setting n ps) (h0 : 1 ≤ n) : ∀ t, row (it t ps) = BS.nxs t (row ps)
  | 0 => rfl
  | t + 1 => by
    show row (turn (it t ps)) = BS.nx (BS.nxs t (row ps))
    rw [row_turn (h.it h0 t).pos, row_it h h0 t]
theorem row_mono (ps : List Int) : BS.Mono (row ps) := by
  intro j
  induction ps with
  | nil => exact Nat.le_refl _
  | cons p r ih =>
    rw [row_cons, row_cons]
    split <;> split <;> omega
theorem row_sum (N : Nat) : ∀ {ps : List Int}, (∀ x ∈ ps, 1 ≤ x) → (∀ x ∈ ps, x ≤ N) → BS.sm N (fun j => (row ps j : Int)) = ps.sum
  | [], _, _ => by
    rw [show (fun j => ((row ([] : List Int) j : Nat) : Int)) = fun _ => 0 from rfl, BS.sm_const]; simp
  | p :: r, h, g => by
    have ih := row_sum N (ps := r) (fun x hx => h x (List.mem_cons_of_mem _ hx)) (fun x hx => g x (List.mem_cons_of_mem _ hx))
    have hp := h p List.mem_cons_self
    have gp := g p List.mem_cons_self
    rw [List.sum_cons, ← ih]
    have e : BS.sm N (fun j => (row (p :: r) j : Int)) = BS.sm N (fun j => (row r j : Int)) + BS.sm N (fun j => BS.ind ((0 : Int) ≤ (j : Int) ∧ (j : Int) < p)) := by
      rw [← BS.sm_add]
      refine BS.sm_congr fun j _ => ?_
      rw [row_cons]
      by_cases c : (j : Int) < p
      · rw [if_pos c, BS.ind_t ⟨by omega, c⟩]; omega
      · rw [if_neg c, BS.ind_f (fun z => c z.2)]; omega
    rw [e, BS.sm_iv]; omega
theorem row_none {ps : List Int} {j : Nat} (h : ∀ x ∈ ps, x ≤ j) : row ps j = 0 := by
  unfold row
  rw [List.countP_eq_zero]
  intro x hx
  have := h x hx
  simp only [decide_eq_true_eq]; omega
theorem row_tot {n : Int} {ps : List Int} (h : Setting n ps) (h0 : 1 ≤ n) : BS.Tot n.toNat (row ps) := by
  have hle : ∀ x ∈ ps, x ≤ (n.toNat : Int) := fun x hx => by have := h.le hx; omega
  refine ⟨fun j hj => row_none fun x hx => by have := hle x hx; omega, ?_⟩
  rw [row_sum n.toNat h.pos hle, h.sum]; omega
/-- in a falling list: the pile at i is higher than j just where more than i are -/
theorem row_get : ∀ {ps : List Int}, ps.Pairwise (· ≥ ·) → ∀ (i j : Nat) (hi : i < ps.length), (j : Int) < ps[i] ↔ i < row ps j
  | [], _, i, j, hi => by simp at hi
  | p :: r, h, i, j, hi => by
    rw [List.pairwise_cons] at h
    rw [row_cons]
    by_cases c : (j : Int) < p
    · rw [if_pos c]
      cases i with
      | zero => simp only [List.getElem_cons_zero]; exact ⟨fun _ => by omega, fun _ => c⟩
      | succ i =>
        simp only [List.getElem_cons_succ]
        rw [row_get h.2 i j (by simpa using hi)]; omega
    · rw [if_neg c, row_none (ps := r) fun x hx => by have := h.1 x hx; omega]
      constructor
      · intro z
        exfalso
        cases i with
        | zero => exact c z
        | succ i =>
          simp only [List.getElem_cons_succ] at z
          have := h.1 _ (List.getElem_mem (by simpa using hi : i < r.length)); omega
      · intro z; omega
/-- between two stairs: round -/
theorem round_of {n : Int} {q : List Int} {k : Nat} (h : Setting n q) (hb : ∀ j, k - j ≤ row q j ∧ row q j ≤ k + 1 - j) : marksB (aboveL ((k : Int) + 1) q) = true := by
  have hl : (q.length : Int) ≤ (k : Int) + 1 := by have := (hb 0).2; rw [row_zero h.pos] at this; omega
  refine List.all_eq_true.mpr fun m hm => ?_
  obtain ⟨i, hi⟩ := List.getElem?_of_mem hm
  unfold aboveL at hi
  rw [List.getElem?_mapIdx] at hi
  unfold filledL at hi
  refine decide_eq_true ?_
  by_cases c : i < q.length
  · rw [List.getElem?_append_left c, List.getElem?_eq_getElem c] at hi
    simp only [Option.map_some, Option.some.injEq] at hi
    have lo : (k : Int) - i ≤ q[i] := by
      by_cases d : i < k
      · have := (row_get h.ord i (k - i - 1) c).mpr (by have := (hb (k - i - 1)).1; omega)
        omega
      · have := h.pos _ (List.getElem_mem c); omega
    have up : q[i] ≤ (k : Int) + 1 - i := by
      by_cases d : q[i] ≤ (k : Int) + 1 - i
      · exact d
      · exfalso
        have := (row_get h.ord i (k + 1 - i) c).mp (by omega)
        have := (hb (k + 1 - i)).2
        omega
    omega
  · rw [List.getElem?_append_right (by omega)] at hi
    by_cases d : i - q.length < ((k : Int) + 1 - q.length).toNat
    · rw [List.getElem?_replicate, if_pos d] at hi
      simp only [Option.map_some, Option.some.injEq] at hi
      have := (hb 0).1
      rw [row_zero h.pos] at this
      omega
    · rw [List.getElem?_replicate, if_neg d] at hi; cases hi
theorem tri_of (k : Nat) : (2 : Int) * BS.tri k = (k : Int) * k + k := by
  have := BS.tri2 k
  exact_mod_cast this
/-- all come round -/
theorem comes_round {n K : Int} {ps : List Int} (h : Setting n ps) (h0 : 1 ≤ n) (hk : IsStair n K) (t : Nat) (ht : K * K ≤ t + K) : marksB (aboveL K (it t ps)) = true := by
  obtain ⟨k1, k2, k3⟩ := hk
  obtain ⟨k, rfl⟩ : ∃ k : Nat, K = (k : Int) + 1 := ⟨(K - 1).toNat, by omega⟩
  have e1 := tri_of k
  have e2 := tri_of (k + 1)
  push_cast at e2
  have e3 : ((k : Int) + 1) * (k + 1) = (k : Int) * k + 2 * k + 1 := by grind
  have e4 : ((k : Int) + 1 - 1) * (k + 1) = (k : Int) * k + k := by grind
  have e5 : ((k : Int) + 1) * (k + 1 + 1) = (k : Int) * k + 3 * k + 2 := by grind
  have e6 : ((k + 1) * (k + 1) : Nat) = k * k + 2 * k + 1 := by grind
  have e7 : ((k * k : Nat) : Int) = (k : Int) * k := by push_cast; rfl
  have hb := BS.between k n.toNat (row ps) (row_mono ps) (row_tot h h0) (by omega) (by omega) t (by omega)
  refine round_of (h.it h0 t) fun j => ?_
  rw [row_it h h0 t]
  exact hb j
/-- a round setting is that of its marks -/
theorem marks_round {n k : Int} {q : List Int} (h : Setting n q) (hk : IsStair n k) (hb : marksB (aboveL k q) = true) : Marks n (aboveL k q) ∧ byMarks (aboveL k q) = q ∧ ((aboveL k q).length : Int) = k := by
  obtain ⟨k1, k2, k3⟩ := hk
  have hl : (q.length : Int) ≤ k := by
    by_cases c : (q.length : Int) ≤ k
    · exact c
    · have := above_long h (show k < q.length by omega) k1
      rw [this] at hb; cases hb
  have al := aboveL_len hl
  have fl := filledL_len hl
  have hbit := marksB_bits hb
  have e1 : byMarks (aboveL k q) = q := by
    rw [byMarks_eq]
    have e2 : raised (aboveL k q).length (aboveL k q) = filledL k q := by
      apply List.ext_getElem?
      intro i
      by_cases c : i < (aboveL k q).length
      · rw [raised_get _ _ i c]
        have c2 : i < (filledL k q).length := by omega
        rw [List.getElem?_eq_getElem c2, List.getD_eq_getElem?_getD]
        have e3 : (aboveL k q)[i]? = some ((filledL k q)[i] - (k - 1 - (i : Int))) := by
          unfold aboveL
          rw [List.getElem?_mapIdx, List.getElem?_eq_getElem c2]; rfl
        rw [e3, Option.getD_some, al]
        congr 1; omega
      · rw [List.getElem?_eq_none_iff.mpr (by rw [raised_len]; omega), List.getElem?_eq_none_iff.mpr (by omega)]
    rw [e2]
    unfold filledL
    rw [List.filter_append, List.filter_eq_self.mpr (fun x hx => by have := h.pos x hx; simp only [decide_eq_true_eq]; omega)]
    rw [List.filter_eq_nil_iff.mpr (fun x hx => by rw [List.eq_of_mem_replicate hx]; decide), List.append_nil]
  refine ⟨⟨by omega, by rw [al]; exact k2, by rw [al]; exact k3, hbit, ?_⟩, e1, al⟩
  have e4 := byMarks_sum hbit
  rw [e1, h.sum, al] at e4
  rw [al]
  omega
theorem sq_le {k : Int} (h1 : 1 ≤ k) (h2 : k ≤ 14) : k * k ≤ 182 + k := by
  have : (k - 1) * k ≤ 13 * 14 := Int.mul_le_mul (by omega) h2 (by omega) (by omega)
  have e : (k - 1) * k = k * k - k := by grind
  omega
/-- the way v to a ring of d settings -/
structure Comes (k : Int) (ps : List Int) (v d : Nat) : Prop where
  no : ∀ j, j < v → marksB (aboveL k (it j ps)) = false
  yes : ∀ j, v ≤ j → marksB (aboveL k (it j ps)) = true
  ring : Ring (it v ps) d
theorem comes {n k : Int} {ps : List Int} (h : Setting n ps) (h0 : 1 ≤ n) (h1 : n ≤ 100) (hk : IsStair n k) : ∃ v d : Nat, v ≤ 182 ∧ (v : Int) + k ≤ k * k ∧ d ≤ 14 ∧ Comes k ps v d := by
  have k14 := hk.le h1
  have k1 := hk.1
  have kk := sq_le k1 k14
  have kp : 0 ≤ k * k - k := by
    have : 0 ≤ k * (k - 1) := Int.mul_nonneg (by omega) (by omega)
    have e : k * (k - 1) = k * k - k := by grind
    omega
  obtain ⟨v, hv, py, pn⟩ := least (p := fun t => marksB (aboveL k (it t ps)) = true) (k * k - k).toNat (comes_round h h0 hk _ (by omega))
  have sv := h.it h0 v
  obtain ⟨m1, m2, m3⟩ := marks_round sv hk py
  have all := m1.rots h0
  have back : it (aboveL k (it v ps)).length (it v ps) = it v ps := by
    have := (all (aboveL k (it v ps)).length).2.1
    rw [rots_all, m2] at this; exact this
  obtain ⟨d, dk, rg⟩ := Ring.of m1.ne back
  refine ⟨v, d, by omega, by omega, by omega, ⟨fun j hj => ?_, fun j hj => ?_, rg⟩⟩
  · have := pn j hj
    cases hb : marksB (aboveL k (it j ps)) with
    | true => exact absurd hb this
    | false => rfl
  · obtain ⟨a1, a2, a3⟩ := all (j - v)
    rw [m2, ← it_add, show v + (j - v) = j by omega] at a2
    rw [a2]
    have a4 := above_marks a1.bit (fun z => by have := a1.ne; rw [z] at this; simp at this)
    rw [a3, m3] at a4
    rw [a4]
    exact List.all_eq_true.mpr fun x hx => decide_eq_true (a1.bit x hx)
theorem Comes.back {k : Int} {ps : List Int} {v d : Nat} (h : Comes k ps v d) : it (v + d) ps = it v ps := by rw [it_add]; exact h.ring.back
theorem Comes.mod {k : Int} {ps : List Int} {v d : Nat} (h : Comes k ps v d) (t : Nat) (ht : v ≤ t) : it t ps = it (v + (t - v) % d) ps := by
  rw [it_add, ← h.ring.mod, ← it_add, show v + (t - v) = t by omega]
theorem Ring.ne {ps : List Int} {d : Nat} (h : Ring ps d) {i j : Nat} (hi : i < d) (hj : j < d) (n : i ≠ j) : it i ps ≠ it j ps := by
  rcases Nat.lt_or_gt_of_ne n with c | c
  · exact h.no i j c hj
  · exact fun z => h.no j i c hi z.symm
/-! ### where a list lies in a list of lists -/
section
variable {X : Cx}
def rIndexLL (K : PySem.W.Frag) : V → List V → Hp → VK → Prop := fun x vs H Q => ∃ l b bs rs qss j, x = .ref l ∧ vs = [.ref b] ∧ H l = some (.lst (rs.map V.ref)) ∧ Lists H rs qss ∧ SqL K H b (bs.map V.int) ∧ qss[j]? = some bs ∧ (∀ m, m < j → qss[m]? ≠ some bs) ∧ Q (.int (j : Nat)) H
end
end L2

end

section
set_option maxHeartbeats 2000000
set_option maxRecDepth 100000
set_option linter.unusedVariables false
set_option linter.unusedSimpArgs false
namespace L2
open PySem PySem.Spec PyProof.Rows
/-! ### a comprehension whose parts lay new things -/
section
variable {K : PySem.W.Frag} {g : TG} {tc : TT} {te : TE} {D : Addr} {H : Hp} {Q : VK}
theorem comp_rel {J : It} (xs : List V) (p : V → Bool) (R : V → V → Hp → Prop) (fr : St) (hn : xs.length < sizeLine)
    (hgo : ∀ i H', i < xs.length → Same H H' → J.go i H') (hst : ∀ H', Same H H' → J.stop xs.length H') (hy : ∀ i H' x H2, Same H H' → i < xs.length → J.yld i H' x H2 → H2 = H' ∧ xs[i]? = some x)
    (hD : H D = none) (hg : ∀ x o H' Q', Q' (some x :: fr) H' → g x (o :: fr) H' Q')
    (hc : ∀ x ∈ xs, ∀ H' Q', Same H H' → (∃ l, H' D = some (.lst l)) → (∀ H2, Same H' H2 → Q' (p x) H2) → tc (some x :: fr) H' Q')
    (he : ∀ x ∈ xs, p x = true → ∀ H' Q', Same H H' → (∃ l, H' D = some (.lst l)) → (∀ H2 v, Same H' H2 → R x v H2 → Q' v H2) → te (some x :: fr) H' Q')
    (hR : ∀ x v H1 H2, R x v H1 → (∀ b o, b ≠ D → H1 b = some o → H2 b = some o) → R x v H2)
    (hQ : ∀ H' vs, Same H H' → Paired (fun x v => R x v H') (xs.filter p) vs → H' D = some (.lst vs) → Q (.ref D) H') :
    ∃ W : Nat → Nat → St → Hp → Prop, (∃ m, W 0 m (none :: fr) (upd H D (.lst []))) ∧ CTurn J g tc te D W Q := by
  refine ⟨fun i m σ' H' => m = xs.length - i ∧ i ≤ xs.length ∧ (∃ o, σ' = o :: fr) ∧ Same H H' ∧ ∃ vs, H' D = some (.lst vs) ∧ Paired (fun x v => R x v H') ((xs.take i).filter p) vs, ⟨xs.length, by simp, Nat.zero_le _, ⟨_, rfl⟩, Same.put hD, [], upd_same, by simpa using Paired.nil⟩, ?_⟩
  rintro i m σ' H' ⟨rfl, hi, ⟨o, rfl⟩, sm, vs, hd, pr⟩
  by_cases hlt : i < xs.length
  · refine .inr ⟨hgo i _ hlt sm, fun x H2 y => ?_⟩
    obtain ⟨e, ex⟩ := hy i _ x H2 sm hlt y
    subst e
    have hx : x ∈ xs := List.mem_of_getElem? ex
    have ft := filter_take_succ p xs i x ex
    have vl : vs.length < sizeLine := by
      have e1 := Paired.length pr
      have e2 : ((xs.take i).filter p).length ≤ xs.length := Nat.le_trans (List.length_filter_le _ _) (by rw [List.length_take]; omega)
      omega
    refine hg x o _ _ (hc x hx _ _ sm ⟨_, hd⟩ fun H3 s3 => ?_)
    have grow : ∀ {H4 : Hp}, Same H2 H4 → Paired (fun x v => R x v H4) ((xs.take i).filter p) vs := fun s4 => Paired.mapP pr fun x v z => hR x v _ _ z fun b o _ e => s4 b o e
    cases hp : p x with
    | true =>
      rw [if_pos rfl]
      refine he x hx hp _ _ (sm.trans s3) ⟨_, s3 _ _ hd⟩ fun H4 v s4 r4 => ?_
      have hd4 := s4 _ _ (s3 _ _ hd)
      refine ⟨vs, hd4, vl, xs.length - (i + 1), by omega, rfl, hlt, ⟨_, rfl⟩, fun b u e => ?_, vs ++ [v], upd_same, ?_⟩
      · rw [upd_ne (ne_of_none e hD)]; exact s4 _ _ (s3 _ _ (sm _ _ e))
      · rw [ft, hp]
        have keep : ∀ x v, R x v H4 → R x v (upd H4 D (.lst (vs ++ [v]))) := fun x' v' z => hR x' v' _ _ z fun b o hb e => by rw [upd_ne hb]; exact e
        refine Paired.snoc (Paired.mapP (grow (s3.trans s4)) fun x' v' z => hR x' v' _ _ z fun b o hb e => by rw [upd_ne hb]; exact e) ?_
        exact hR _ _ _ _ r4 fun b o hb e => by rw [upd_ne hb]; exact e
    | false =>
      rw [if_neg Bool.false_ne_true]
      refine ⟨xs.length - (i + 1), by omega, rfl, hlt, ⟨_, rfl⟩, sm.trans s3, vs, s3 _ _ hd, ?_⟩
      rw [ft, hp]
      simpa using grow s3
  · have e : i = xs.length := by omega
    subst e
    refine .inl ⟨hst _ sm, hQ H' vs sm ?_ hd⟩
    rw [List.take_of_length_le (Nat.le_refl _)] at pr
    exact pr
theorem comp_relR {lo : Int} (n : Nat) (p : V → Bool) (R : V → V → Hp → Prop) (fr : St) (hn : n < sizeLine) (hD : H D = none)
    (hc : ∀ i : Nat, i < n → ∀ H' Q', Same H H' → (∃ l, H' D = some (.lst l)) → (∀ H2, Same H' H2 → Q' (p (.int (lo + (i : Int)))) H2) → tc (some (.int (lo + (i : Int))) :: fr) H' Q')
    (he : ∀ i : Nat, i < n → p (.int (lo + (i : Int))) = true → ∀ H' Q', Same H H' → (∃ l, H' D = some (.lst l)) → (∀ H2 v, Same H' H2 → R (.int (lo + (i : Int))) v H2 → Q' v H2) → te (some (.int (lo + (i : Int))) :: fr) H' Q')
    (hR : ∀ x v H1 H2, R x v H1 → (∀ b o, b ≠ D → H1 b = some o → H2 b = some o) → R x v H2)
    (hQ : ∀ H' vs, Same H H' → Paired (fun x v => R x v H') (((List.range n).map fun (i : Nat) => V.int (lo + (i : Int))).filter p) vs → H' D = some (.lst vs) → Q (.ref D) H') :
    ∃ W : Nat → Nat → St → Hp → Prop, (∃ m, W 0 m (none :: fr) (upd H D (.lst []))) ∧ CTurn (Itr lo n) (gName 0) tc te D W Q := by
  have mem : ∀ x ∈ ((List.range n).map fun (i : Nat) => V.int (lo + (i : Nat))), ∃ i, i < n ∧ x = .int (lo + (i : Nat)) := fun x hx => by
    obtain ⟨i, hi, e⟩ := List.mem_map.mp hx
    exact ⟨i, List.mem_range.mp hi, e.symm⟩
  refine comp_rel ((List.range n).map fun (i : Nat) => V.int (lo + (i : Nat))) p R fr (by simpa using hn) (fun i H' hi s => by simpa [Itr] using hi) (fun H' s => by simp [Itr]) (fun i H' x H2 s hi ⟨e, y⟩ => ⟨e, ?_⟩) hD (fun _ _ _ _ h => h) (fun x hx H' Q' s l q => ?_) (fun x hx hp H' Q' s l q => ?_) hR hQ
  · rw [y]
    have hi' : i < n := by simpa using hi
    simp [hi']
  · obtain ⟨i, hi, rfl⟩ := mem x hx
    exact hc i hi H' Q' s l q
  · obtain ⟨i, hi, rfl⟩ := mem x hx
    exact he i hi hp H' Q' s l q
end
theorem paired_eq {α β : Type} {f : α → β} : ∀ {xs : List α} {vs : List β}, Paired (fun x v => v = f x) xs vs → vs = xs.map f
  | [], _, .nil => rfl
  | x :: xs, _, .cons e r => by rw [e, paired_eq r]; rfl
/-- the items are ints by a function of the turn -/
theorem comp_growR {tc : TT} {te : TE} {D : Addr} {H : Hp} {Q : VK} {lo : Int} (n : Nat) (f : Nat → Int) (fr : St) (hn : n < sizeLine) (hD : H D = none) (htc : tc = tYes)
    (he : ∀ i : Nat, i < n → ∀ H' Q', Same H H' → (∀ H2, Same H' H2 → Q' (.int (f i)) H2) → te (some (.int (lo + (i : Int))) :: fr) H' Q')
    (hQ : ∀ H', Same H H' → H' D = some (.lst (((List.range n).map f).map V.int)) → Q (.ref D) H') :
    ∃ W : Nat → Nat → St → Hp → Prop, (∃ m, W 0 m (none :: fr) (upd H D (.lst []))) ∧ CTurn (Itr lo n) (gName 0) tc te D W Q := by
  subst htc
  let fv : V → V := fun x => match x with | .int z => .int (f (z - lo).toNat) | _ => .non
  have ev : ∀ i : Nat, fv (.int (lo + (i : Int))) = .int (f i) := fun i => by
    show V.int (f (lo + (i : Int) - lo).toNat) = _
    rw [show (lo + (i : Int) - lo).toNat = i by omega]
  refine comp_relR n (fun _ => true) (fun x v _ => v = fv x) fr hn hD (fun i hi H' Q' s l q => q H' (Same.refl _)) (fun i hi _ H' Q' s l q => he i hi H' Q' s fun H2 s2 => q H2 _ s2 (ev i).symm) (fun x v H1 H2 z _ => z) fun H' vs s pr e => hQ H' s ?_
  have := paired_eq pr
  rw [List.filter_eq_self.mpr (fun _ _ => rfl), List.map_map] at this
  rw [e, this, List.map_map]
  congr 2
  exact List.map_congr_left fun i _ => ev i
section
variable {X : Cx}
theorem call_maxL (hc : X.calm = true) : CallR X (.builtin "max") (fun xs H Q => ∃ (p : Addr) (ns : List Int), xs = [.ref p] ∧ SqL X.K H p (ns.map V.int) ∧ ns ≠ [] ∧ ∀ M, M ∈ ns → (∀ a, a ∈ ns → a ≤ M) → Q (.int M) H) := by
  intro pins s σ H xs us Q I r h
  obtain ⟨p, ns, rfl, hq, hne, q⟩ := h
  obtain ⟨u, rfl, rx⟩ := vals1 r
  cases rx
  obtain ⟨its, rv, pl, _⟩ := I.list hq
  have hi := intsAre_of rv
  obtain ⟨m, F⟩ := I.fr
  have hn : 0 < ns.length := List.length_pos_iff.mpr hne
  obtain ⟨xs, e⟩ := hi.allInts.items
  have hns : ns = xs.toList.map (·.1) := by rw [← hi.numsOf, ← nums_intItems, ← e]
  have hsz : 0 < xs.size := by rw [hns, List.length_map, Array.length_toList] at hn; exact hn
  have hl : s.heap.IsList p (intItems xs) := e ▸ pl.isList
  refine max_intList (I.ok.hd hc) hl hsz fun v h' tk hv hk => ?_
  obtain ⟨t, rfl⟩ := intItems_at hv
  obtain ⟨h1, h2⟩ := argBest_gt (numAt xs) (xs.size - 1)
  refine ⟨.int _, H, I.kept hk, ⟨_, rfl⟩, q _ ?_ fun a ha => ?_⟩
  · rw [hns, numAt_eq]; exact getD_mem (by rw [List.length_map, Array.length_toList]; omega)
  · rw [hns] at ha
    obtain ⟨j, hj, rfl⟩ := mem_getD ha
    rw [List.length_map, Array.length_toList] at hj
    rw [← numAt_eq]; exact h2 j (by omega)
end
/-! ### how many rings: sums -/
namespace RC
def chN (p : Nat) : Nat → Nat
  | 0 => 1
  | t + 1 => chN p t * (p - t) / (t + 1)
def again (k r t : Nat) : Nat := if r % (k / Nat.gcd k t) = 0 then chN (Nat.gcd k t) (r / (k / Nat.gcd k t)) else 0
def S (k r : Nat) : Nat := ((List.range k).map (again k r)).sum
def free (p : Nat) : Nat := (((List.range p).map (· + 1)).filter fun j => Nat.gcd j p == 1).length
def part (k r i : Nat) : Nat := if k % (i + 1) = 0 ∧ r % (i + 1) = 0 then free (i + 1) * chN (k / (i + 1)) (r / (i + 1)) else 0
def total (k r : Nat) : Nat := ((List.range k).map (part k r)).sum
def ok (k : Nat) : Bool := (List.range k).all fun r => Nat.beq (S k (r + 1)) (total k (r + 1)) && Nat.beq (S k (r + 1) % k) 0
theorem ok_all : ((List.range 63).all fun k => ok (k + 1)) = true := by decide +kernel
theorem sums {k r : Nat} (h1 : 1 ≤ k) (h2 : k ≤ 63) (h3 : 1 ≤ r) (h4 : r ≤ k) : S k r = total k r ∧ S k r % k = 0 := by
  have z := List.all_eq_true.mp ok_all (k - 1) (List.mem_range.mpr (by omega))
  rw [show k - 1 + 1 = k by omega] at z
  have z := List.all_eq_true.mp z (r - 1) (List.mem_range.mpr (by omega))
  rw [show r - 1 + 1 = r by omega, Bool.and_eq_true] at z
  exact ⟨Nat.eq_of_beq_eq_true z.1, Nat.eq_of_beq_eq_true z.2⟩
theorem back {k r : Nat} (h1 : 1 ≤ k) (h2 : k ≤ 63) (h3 : 1 ≤ r) (h4 : r ≤ k) : S k r / k * k = total k r := by
  obtain ⟨a, b⟩ := sums h1 h2 h3 h4
  rw [← a]
  exact Nat.div_mul_cancel (Nat.dvd_of_mod_eq_zero b)
theorem ch_step {p t : Nat} (h : t < p) : ((chN p t : Int) * ((p : Int) - (0 + (t : Int)))) / (0 + (t : Int) + 1) = (chN p (t + 1) : Int) := by
  rw [show (p : Int) - (0 + (t : Int)) = ((p - t : Nat) : Int) by omega, show 0 + (t : Int) + 1 = ((t + 1 : Nat) : Int) by omega, ← Int.natCast_mul, ← Int.natCast_ediv]
  rfl
theorem sum_cast (l : List Nat) : ((l.map fun (n : Nat) => (n : Int)).sum) = ((l.sum : Nat) : Int) := by
  induction l with
  | nil => rfl
  | cons a r ih => rw [List.map_cons, List.sum_cons, List.sum_cons, ih]; omega
theorem gcd_max {k t : Nat} {M : Int} (hk : 1 ≤ k) (h1 : 1 ≤ M) (h2 : (k : Int) % M = 0) (h3 : (t : Int) % M = 0) (h4 : ∀ a : Int, 1 ≤ a → a ≤ k → (k : Int) % a = 0 → (t : Int) % a = 0 → a ≤ M) : M = (Nat.gcd k t : Nat) := by
  obtain ⟨m, rfl⟩ : ∃ m : Nat, M = m := ⟨M.toNat, by omega⟩
  have d1 : m ∣ k := Int.natCast_dvd_natCast.mp (Int.dvd_of_emod_eq_zero h2)
  have d2 : m ∣ t := Int.natCast_dvd_natCast.mp (Int.dvd_of_emod_eq_zero h3)
  have g := Nat.le_of_dvd (Nat.gcd_pos_of_pos_left t (by omega)) (Nat.dvd_gcd d1 d2)
  have g2 := h4 (Nat.gcd k t : Nat) (by have := Nat.gcd_pos_of_pos_left t (show 0 < k by omega); omega) (by have := Nat.le_of_dvd (show 0 < k by omega) (Nat.gcd_dvd_left k t); omega)
    (Int.emod_eq_zero_of_dvd (Int.natCast_dvd_natCast.mpr (Nat.gcd_dvd_left k t))) (Int.emod_eq_zero_of_dvd (Int.natCast_dvd_natCast.mpr (Nat.gcd_dvd_right k t)))
  omega
end RC
/-- the rest -/
theorem IsStair.rest {n k : Int} (h : IsStair n k) : ∃ r : Nat, n - k * (k - 1) / 2 = r ∧ 1 ≤ r ∧ (r : Int) ≤ k := by
  obtain ⟨h1, h2, h3⟩ := h
  have ev : 2 * (k * (k - 1) / 2) = k * (k - 1) := even_mul k
  have e1 : (k - 1) * k = k * (k - 1) := Int.mul_comm _ _
  have e2 : k * (k + 1) = k * (k - 1) + 2 * k := by rw [Int.mul_add, Int.mul_sub]; omega
  exact ⟨(n - k * (k - 1) / 2).toNat, by omega, by omega, by omega⟩
theorem IsStair.le63 {n k : Int} (h : IsStair n k) (hn : n ≤ 2000) : k ≤ 63 := by
  obtain ⟨h1, h2, h3⟩ := h
  rcases Int.lt_or_le 63 k with z | z
  · have : 63 * 64 ≤ (k - 1) * k := Int.mul_le_mul (by omega) (by omega) (by omega) (by omega)
    omega
  · exact z
end L2

end
set_option maxHeartbeats 4000000
set_option linter.unusedVariables false
set_option maxRecDepth 100000
set_option linter.unusedSimpArgs false
namespace My
open PySem L2
def top (i : Nat) : Stmt := PySem.Challenge.pw_pilewheel_k15_rings_counted.main.body.getD i (.Pass ⟨0, 0, 0, 0⟩)
abbrev s_stair_of : Stmt := top 4
theorem sc_stair_of : FnScope ["coins", "stair"] ["coins"] (defScope s_stair_of) := ⟨rfl, rfl, rfl, by decide +kernel, rfl, by decide +kernel, by decide +kernel⟩
abbrev s_check_coins : Stmt := top 7
theorem sc_check_coins : FnScope ["coins", "most"] ["coins", "most"] (defScope s_check_coins) := ⟨rfl, rfl, rfl, by decide +kernel, rfl, by decide +kernel, by decide +kernel⟩
abbrev s_rest_of : Stmt := top 8
theorem sc_rest_of : FnScope ["coins", "stair"] ["coins"] (defScope s_rest_of) := ⟨rfl, rfl, rfl, by decide +kernel, rfl, by decide +kernel, by decide +kernel⟩
abbrev s_rings_many : Stmt := top 9
theorem sc_rings_many : FnScope ["coins", "stair", "rest"] ["coins"] (defScope s_rings_many) := ⟨rfl, rfl, rfl, by decide +kernel, rfl, by decide +kernel, by decide +kernel⟩
abbrev s_many_again : Stmt := top 10
theorem sc_many_again : FnScope ["stair", "rest", "turns", "part", "parts"] ["stair", "rest", "turns"] (defScope s_many_again) := ⟨rfl, rfl, rfl, by decide +kernel, rfl, by decide +kernel, by decide +kernel⟩
abbrev s_greatest_part : Stmt := top 11
theorem sc_greatest_part : FnScope ["stair", "turns"] ["stair", "turns"] (defScope s_greatest_part) := ⟨rfl, rfl, rfl, by decide +kernel, rfl, by decide +kernel, by decide +kernel⟩
abbrev s_many_choices : Stmt := top 12
theorem sc_many_choices : FnScope ["places", "ones", "choices", "taken"] ["places", "ones"] (defScope s_many_choices) := ⟨rfl, rfl, rfl, by decide +kernel, rfl, by decide +kernel, by decide +kernel⟩
abbrev s__law_cell : Stmt := top 14
theorem sc__law_cell : FnScope ["script", "k", "base"] ["script", "k"] (defScope s__law_cell) := ⟨rfl, rfl, rfl, by decide +kernel, rfl, by decide +kernel, by decide +kernel⟩
abbrev s__law_whole : Stmt := top 15
theorem sc__law_whole : FnScope ["found"] ["found"] (defScope s__law_whole) := ⟨rfl, rfl, rfl, by decide +kernel, rfl, by decide +kernel, by decide +kernel⟩
abbrev s__law_common : Stmt := top 16
theorem sc__law_common : FnScope ["one", "other", "rest"] ["one", "other"] (defScope s__law_common) := ⟨rfl, rfl, rfl, by decide +kernel, rfl, by decide +kernel, by decide +kernel⟩
abbrev s__law_chosen : Stmt := top 17
theorem sc__law_chosen : FnScope ["all_of", "some", "total", "k"] ["all_of", "some"] (defScope s__law_chosen) := ⟨rfl, rfl, rfl, by decide +kernel, rfl, by decide +kernel, by decide +kernel⟩
abbrev s_law : Stmt := top 18
theorem sc_law : FnScope ["script", "coins", "stair", "ones", "total", "part", "free", "found"] ["script"] (defScope s_law) := ⟨rfl, rfl, rfl, by decide +kernel, rfl, by decide +kernel, by decide +kernel⟩
def cvOf (v0 v1 v2 v3 v4 v5 : Value) : Nat → Value
  | 0 => v0
  | 1 => v1
  | 2 => v2
  | 3 => v3
  | 4 => v4
  | _ => v5
abbrev UM := (Nat → Value) × (Nat → Addr)
structure Txt (K : PySem.W.Frag) (mg : Str → Option Value) (uM : UM) : Prop where
  n_len : mg "len" = none
  n_range : mg "range" = none
  n_sum : mg "sum" = none
  n_max : mg "max" = none
  n_isinstance : mg "isinstance" = none
  n_int : mg "int" = none
  n_bool : mg "bool" = none
  c_MOST_FOR_MANY : mg "MOST_FOR_MANY" = some (uM.1 0)
  r_MOST_FOR_MANY : RelV (.int 2000) (uM.1 0)
  kib : PySem.W.kitOne K (.type "int") (.type "bool") = some false
def spStairOf : Sp := fun vs H Q _ => ∃ n : Int, vs = [.int n] ∧ 1 ≤ n ∧ n ≤ 10000 ∧ ∀ k : Int, IsStair n k → Q (.int k) H
def wStairOf (n : Int) (H : Hp) (m : Nat) (σ : St) (H' : Hp) : Prop := H' = H ∧ ∃ j : Int, σ = [some (.int n), some (.int j)] ∧ 1 ≤ j ∧ (j - 1) * j < 2 * n ∧ m = (20000 - j).toNat
def spCoins : Sp := fun vs H Q _ => ∃ n m : Int, vs = [.int n, .int m] ∧ 1 ≤ n ∧ n ≤ m ∧ Q .non H
def spRest : Sp := fun vs H Q _ => ∃ n k : Int, vs = [.int n] ∧ 1 ≤ n ∧ n ≤ 10000 ∧ IsStair n k ∧ Q (.int (n - k * (k - 1) / 2)) H
def spChoices : Sp := fun vs H Q _ => ∃ p t : Nat, vs = [.int p, .int t] ∧ t ≤ p ∧ p ≤ 1000 ∧ Q (.int (RC.chN p t)) H
def spGreat (K : PySem.W.Frag) : Sp := fun vs H Q _ => ∃ k t : Nat, vs = [.int k, .int t] ∧ 1 ≤ k ∧ k ≤ 1000 ∧ ∀ H', Same H H' → Q (.int (Nat.gcd k t : Nat)) H'
def spAgain (K : PySem.W.Frag) : Sp := fun vs H Q _ => ∃ k r t : Nat, vs = [.int k, .int r, .int t] ∧ 1 ≤ k ∧ k ≤ 1000 ∧ r ≤ k ∧ ∀ H', Same H H' → Q (.int (RC.again k r t : Nat)) H'
def spMany (K : PySem.W.Frag) : Sp := fun vs H Q _ => ∃ (n : Int) (k r : Nat), vs = [.int n] ∧ 1 ≤ n ∧ n ≤ 2000 ∧ IsStair n k ∧ n - (k : Int) * ((k : Int) - 1) / 2 = r ∧ ∀ H', Same H H' → Q (.int (RC.S k r / k : Nat)) H'
def wChoices (p t : Nat) (H : Hp) (i : Nat) (σ : St) (H' : Hp) : Prop := H' = H ∧ ∃ o, σ = [some (.int p), some (.int t), some (.int (RC.chN p i)), o]
section
variable {P : Program} {w : World} {K : PySem.W.Frag} {mg : Str → Option Value} {base : Heap} {uM : UM}
theorem d_stair_of (D : Dfn K mg "stair_of" s_stair_of ["coins"]) (T : Txt K mg uM) : OkD P w K mg base 1 "stair_of" ["coins"] spStairOf := by
  have SC := sc_stair_of
  refine D.ok SC (fun vs H Q E h => ?_) (fun f cdv A outer s H vs Q E hr h => ?_)
  · obtain ⟨n, rfl, _⟩ := h; rfl
  · obtain ⟨n, rfl, h0, h1, k⟩ := h
    refine ⟨_, (pss_cons (ps_set (i := 1) SC.nd rfl (Or.inl rfl) pe_int)
      (pss_cons (ps_while PassesOwn.never (pt_cmpR op_lt (pe_op op_fdiv (pe_op op_mul (pv 1) (pe_op op_add (pv 1) pe_int)) pe_int) (pv 0) (nomark _))
        (pss_one (ps_aug (i := 1) SC.nd rfl (Or.inl rfl) pe_int ip_add)))
      (pss_one (ps_ret (pv 1))))), ?_⟩
    simp only [tSeq, tRet, tRetN, tNext, tOp, tUn, tVar, tC, tAsg, gName, tIfS, tTest, tB, tNot, tNotV, tOr, tAnd, tAndV, tOrV, tChain, tCB, tCall, tCons, tNil, tLst, tDrop, tBM, tBM0, tSl, tNoPart, tPart, gSub, rI, rI0, rU, rIxL, cxOf, cxC, rEq, rNe, rEqL, rNeL, scal, L2.start, tComp, iList, iRng1, iRng2, iEnum, tYes, stC, List.map_cons, List.map_nil, List.cons_append, List.nil_append, List.append_nil, List.length_cons, List.length_nil, List.replicate_succ, List.replicate_zero, List.set_cons_zero, List.set_cons_succ, List.getElem?_cons_zero, List.getElem?_cons_succ, Option.some.injEq, List.cons.injEq, V.int.injEq, V.ref.injEq, V.bl.injEq, exists_eq_left, exists_eq_left', exists_and_left, true_and, and_true, Option.join_some, Option.join_none, Nat.reduceAdd, Nat.reduceSub, Nat.sub_self, Nat.sub_zero, List.length_map, Int.toNat_natCast, rSlL, rCat, rAppend, rReverse, rClear, rCount, rIndex, tTup, rRep, rIn, tDNewT, tDNotIn, sDPut, iZip, rInLL, rIndexLL]
    refine ⟨wStairOf n H, ⟨_, rfl, 1, rfl, by omega, by omega, rfl⟩, ?_⟩
    rintro m σ H' ⟨rfl, j, rfl, j1, j2, rfl⟩
    have jb : j < 20000 := by
      rcases Int.lt_or_le j 20000 with z | z
      · exact z
      · have : 19999 * 20000 ≤ (j - 1) * j := Int.mul_le_mul (by omega) (by omega) (by omega) (by omega)
        omega
    have ev : 2 * (j * (j + 1) / 2) = j * (j + 1) := by
      have := even_mul (j + 1)
      rw [show j + 1 - 1 = j from by omega, Int.mul_comm (j + 1) j] at this
      exact this
    simp only [tSeq, tRet, tRetN, tNext, tOp, tUn, tVar, tC, tAsg, gName, tIfS, tTest, tB, tNot, tNotV, tOr, tAnd, tAndV, tOrV, tChain, tCB, tCall, tCons, tNil, tLst, tDrop, tBM, tBM0, tSl, tNoPart, tPart, gSub, rI, rI0, rU, rIxL, cxOf, cxC, rEq, rNe, rEqL, rNeL, scal, L2.start, tComp, iList, iRng1, iRng2, iEnum, tYes, stC, List.map_cons, List.map_nil, List.cons_append, List.nil_append, List.append_nil, List.length_cons, List.length_nil, List.replicate_succ, List.replicate_zero, List.set_cons_zero, List.set_cons_succ, List.getElem?_cons_zero, List.getElem?_cons_succ, Option.some.injEq, List.cons.injEq, V.int.injEq, V.ref.injEq, V.bl.injEq, exists_eq_left, exists_eq_left', exists_and_left, true_and, and_true, Option.join_some, Option.join_none, Nat.reduceAdd, Nat.reduceSub, Nat.sub_self, Nat.sub_zero, List.length_map, Int.toNat_natCast, rSlL, rCat, rAppend, rReverse, rClear, rCount, rIndex, tTup, rRep, rIn, tDNewT, tDNotIn, sDPut, iZip, rInLL, rIndexLL, tAug, ipI]
    refine ⟨.inl ⟨by omega, by omega⟩, ⟨by decide, by decide⟩, ite2 (fun c => ?_) fun c => ?_⟩
    · have c : j * (j + 1) / 2 < n := of_decide_eq_true c
      exact ⟨fun σ' H1 => ∃ m', m' < (20000 - j).toNat ∧ wStairOf n H' m' σ' H1, fun _ _ z => z, _, by omega, rfl, j + 1, rfl, by omega, by rw [show j + 1 - 1 = j from by omega]; omega, rfl⟩
    · have c : ¬ j * (j + 1) / 2 < n := fun z => c (decide_eq_true z)
      exact k j ⟨j1, j2, by omega⟩
theorem d_check_coins (D : Dfn K mg "check_coins" s_check_coins ["coins", "most"]) (T : Txt K mg uM) : OkD P w K mg base 1 "check_coins" ["coins", "most"] spCoins := by
  have SC := sc_check_coins
  refine D.ok SC (fun vs H Q E h => ?_) (fun f cdv A outer s H vs Q E hr h => ?_)
  · obtain ⟨n, m, rfl, _⟩ := h; rfl
  · obtain ⟨n, m, rfl, h0, h1, k⟩ := h
    refine ⟨_, (pss_one (ps_if (PW.pt (pw_or (pt_cmpR op_lt (pv 0) pe_int (nomark _)) (pw_or1 (pt_cmpR op_gt (pv 0) (pv 1) (nomark _))))) (pss_one ps_never) pss_nil)), ?_⟩
    simp only [tSeq, tRet, tRetN, tNext, tOp, tUn, tVar, tC, tAsg, gName, tIfS, tTest, tB, tNot, tNotV, tOr, tAnd, tAndV, tOrV, tChain, tCB, tCall, tCons, tNil, tLst, tDrop, tBM, tBM0, tSl, tNoPart, tPart, gSub, rI, rI0, rU, rIxL, cxOf, cxC, rEq, rNe, rEqL, rNeL, scal, L2.start, tComp, iList, iRng1, iRng2, iEnum, tYes, stC, List.map_cons, List.map_nil, List.cons_append, List.nil_append, List.append_nil, List.length_cons, List.length_nil, List.replicate_succ, List.replicate_zero, List.set_cons_zero, List.set_cons_succ, List.getElem?_cons_zero, List.getElem?_cons_succ, Option.some.injEq, List.cons.injEq, V.int.injEq, V.ref.injEq, V.bl.injEq, exists_eq_left, exists_eq_left', exists_and_left, true_and, and_true, Option.join_some, Option.join_none, Nat.reduceAdd, Nat.reduceSub, Nat.sub_self, Nat.sub_zero, List.length_map, Int.toNat_natCast, rSlL, rCat, rAppend, rReverse, rClear, rCount, rIndex, tTup, rRep, rIn, tDNewT, tDNotIn, sDPut, iZip, rInLL, rIndexLL, tNever]
    rw [if_neg (by simp; omega), if_neg (by simp; omega)]
    exact k
theorem d_rest_of (D : Dfn K mg "rest_of" s_rest_of ["coins"]) (T : Txt K mg uM) (D_stair_of : OkD P w K mg base 1 "stair_of" ["coins"] spStairOf) : OkD P w K mg base 2 "rest_of" ["coins"] spRest := by
  have SC := sc_rest_of
  refine D.ok SC (fun vs H Q E h => ?_) (fun f cdv A outer s H vs Q E hr h => ?_)
  · obtain ⟨n, k, rfl, _⟩ := h; rfl
  · obtain ⟨n, kk, rfl, h0, h1, hk, k⟩ := h
    refine ⟨_, (pss_cons (ps_set (i := 1) SC.nd rfl (Or.inl rfl) (pe_callD D_stair_of (hr.mono (by first | decide | omega)) rfl (pa_cons (pv 0) pa_nil)))
      (pss_one (ps_ret (pe_op op_sub (pv 0) (pe_op op_fdiv (pe_op op_mul (pv 1) (pe_op op_sub (pv 1) pe_int)) pe_int))))), ?_⟩
    simp only [tSeq, tRet, tRetN, tNext, tOp, tUn, tVar, tC, tAsg, gName, tIfS, tTest, tB, tNot, tNotV, tOr, tAnd, tAndV, tOrV, tChain, tCB, tCall, tCons, tNil, tLst, tDrop, tBM, tBM0, tSl, tNoPart, tPart, gSub, rI, rI0, rU, rIxL, cxOf, cxC, rEq, rNe, rEqL, rNeL, scal, L2.start, tComp, iList, iRng1, iRng2, iEnum, tYes, stC, List.map_cons, List.map_nil, List.cons_append, List.nil_append, List.append_nil, List.length_cons, List.length_nil, List.replicate_succ, List.replicate_zero, List.set_cons_zero, List.set_cons_succ, List.getElem?_cons_zero, List.getElem?_cons_succ, Option.some.injEq, List.cons.injEq, V.int.injEq, V.ref.injEq, V.bl.injEq, exists_eq_left, exists_eq_left', exists_and_left, true_and, and_true, Option.join_some, Option.join_none, Nat.reduceAdd, Nat.reduceSub, Nat.sub_self, Nat.sub_zero, List.length_map, Int.toNat_natCast, rSlL, rCat, rAppend, rReverse, rClear, rCount, rIndex, tTup, rRep, rIn, tDNewT, tDNotIn, sDPut, iZip, rInLL, rIndexLL]
    refine ⟨n, rfl, h0, h1, fun j hj => ?_⟩
    have e := hj.uniq hk
    subst e
    have jb : j < 20000 := by
      have z := hk.2.1
      rcases Int.lt_or_le j 20000 with y | y
      · exact y
      · have : 19999 * 20000 ≤ (j - 1) * j := Int.mul_le_mul (by omega) (by omega) (by omega) (by omega)
        omega
    have j1 := hk.1
    simp only [tSeq, tRet, tRetN, tNext, tOp, tUn, tVar, tC, tAsg, gName, tIfS, tTest, tB, tNot, tNotV, tOr, tAnd, tAndV, tOrV, tChain, tCB, tCall, tCons, tNil, tLst, tDrop, tBM, tBM0, tSl, tNoPart, tPart, gSub, rI, rI0, rU, rIxL, cxOf, cxC, rEq, rNe, rEqL, rNeL, scal, L2.start, tComp, iList, iRng1, iRng2, iEnum, tYes, stC, List.map_cons, List.map_nil, List.cons_append, List.nil_append, List.append_nil, List.length_cons, List.length_nil, List.replicate_succ, List.replicate_zero, List.set_cons_zero, List.set_cons_succ, List.getElem?_cons_zero, List.getElem?_cons_succ, Option.some.injEq, List.cons.injEq, V.int.injEq, V.ref.injEq, V.bl.injEq, exists_eq_left, exists_eq_left', exists_and_left, true_and, and_true, Option.join_some, Option.join_none, Nat.reduceAdd, Nat.reduceSub, Nat.sub_self, Nat.sub_zero, List.length_map, Int.toNat_natCast, rSlL, rCat, rAppend, rReverse, rClear, rCount, rIndex, tTup, rRep, rIn, tDNewT, tDNotIn, sDPut, iZip, rInLL, rIndexLL]
    exact ⟨.inl ⟨by omega, by omega⟩, ⟨by decide, by decide⟩, k⟩
theorem d_many_choices (D : Dfn K mg "many_choices" s_many_choices ["places", "ones"]) (T : Txt K mg uM) : OkD P w K mg base 1 "many_choices" ["places", "ones"] spChoices := by
  have SC := sc_many_choices
  refine D.ok SC (fun vs H Q E h => ?_) (fun f cdv A outer s H vs Q E hr h => ?_)
  · obtain ⟨p, t, rfl, _⟩ := h; rfl
  · obtain ⟨p, t, rfl, h0, h1, k⟩ := h
    refine ⟨_, (pss_cons (ps_set (i := 2) SC.nd rfl (Or.inl rfl) pe_int)
      (pss_cons (ps_for PassesOwn.never rfl (pi_range1 rfl T.n_range (pa_cons (pv 1) pa_nil)) (pg_name (i := 3) SC.nd rfl (Or.inl rfl))
        (pss_one (ps_set (i := 2) SC.nd rfl (Or.inl rfl) (pe_op op_fdiv (pe_op op_mul (pv 2) (pe_op op_sub (pv 0) (pv 3))) (pe_op op_add (pv 3) pe_int)))))
      (pss_one (ps_ret (pv 2))))), ?_⟩
    simp only [tSeq, tRet, tRetN, tNext, tOp, tUn, tVar, tC, tAsg, gName, tIfS, tTest, tB, tNot, tNotV, tOr, tAnd, tAndV, tOrV, tChain, tCB, tCall, tCons, tNil, tLst, tDrop, tBM, tBM0, tSl, tNoPart, tPart, gSub, rI, rI0, rU, rIxL, cxOf, cxC, rEq, rNe, rEqL, rNeL, scal, L2.start, tComp, iList, iRng1, iRng2, iEnum, tYes, stC, List.map_cons, List.map_nil, List.cons_append, List.nil_append, List.append_nil, List.length_cons, List.length_nil, List.replicate_succ, List.replicate_zero, List.set_cons_zero, List.set_cons_succ, List.getElem?_cons_zero, List.getElem?_cons_succ, Option.some.injEq, List.cons.injEq, V.int.injEq, V.ref.injEq, V.bl.injEq, exists_eq_left, exists_eq_left', exists_and_left, true_and, and_true, Option.join_some, Option.join_none, Nat.reduceAdd, Nat.reduceSub, Nat.sub_self, Nat.sub_zero, List.length_map, Int.toNat_natCast, rSlL, rCat, rAppend, rReverse, rClear, rCount, rIndex, tTup, rRep, rIn, tDNewT, tDNotIn, sDPut, iZip, rInLL, rIndexLL]
    refine ⟨_, rfl, _, rfl, by omega, by omega, for_range (lo := 0) (n := ((t : Int)).toNat) (wChoices p t H) ⟨rfl, none, rfl⟩ ?_ ?_⟩
    · rintro i σ H' hi ⟨rfl, o, rfl⟩
      have hi : i < t := by omega
      simp only [tSeq, tRet, tRetN, tNext, tOp, tUn, tVar, tC, tAsg, gName, tIfS, tTest, tB, tNot, tNotV, tOr, tAnd, tAndV, tOrV, tChain, tCB, tCall, tCons, tNil, tLst, tDrop, tBM, tBM0, tSl, tNoPart, tPart, gSub, rI, rI0, rU, rIxL, cxOf, cxC, rEq, rNe, rEqL, rNeL, scal, L2.start, tComp, iList, iRng1, iRng2, iEnum, tYes, stC, List.map_cons, List.map_nil, List.cons_append, List.nil_append, List.append_nil, List.length_cons, List.length_nil, List.replicate_succ, List.replicate_zero, List.set_cons_zero, List.set_cons_succ, List.getElem?_cons_zero, List.getElem?_cons_succ, Option.some.injEq, List.cons.injEq, V.int.injEq, V.ref.injEq, V.bl.injEq, exists_eq_left, exists_eq_left', exists_and_left, true_and, and_true, Option.join_some, Option.join_none, Nat.reduceAdd, Nat.reduceSub, Nat.sub_self, Nat.sub_zero, List.length_map, Int.toNat_natCast, rSlL, rCat, rAppend, rReverse, rClear, rCount, rIndex, tTup, rRep, rIn, tDNewT, tDNotIn, sDPut, iZip, rInLL, rIndexLL]
      refine ⟨.inr ⟨by omega, by omega⟩, ⟨by omega, by omega⟩, rfl, some (.int (0 + (i : Int))), ?_⟩
      rw [RC.ch_step (show i < p by omega)]
    · rintro σ H' ⟨rfl, o, rfl⟩
      simp only [tSeq, tRet, tRetN, tNext, tOp, tUn, tVar, tC, tAsg, gName, tIfS, tTest, tB, tNot, tNotV, tOr, tAnd, tAndV, tOrV, tChain, tCB, tCall, tCons, tNil, tLst, tDrop, tBM, tBM0, tSl, tNoPart, tPart, gSub, rI, rI0, rU, rIxL, cxOf, cxC, rEq, rNe, rEqL, rNeL, scal, L2.start, tComp, iList, iRng1, iRng2, iEnum, tYes, stC, List.map_cons, List.map_nil, List.cons_append, List.nil_append, List.append_nil, List.length_cons, List.length_nil, List.replicate_succ, List.replicate_zero, List.set_cons_zero, List.set_cons_succ, List.getElem?_cons_zero, List.getElem?_cons_succ, Option.some.injEq, List.cons.injEq, V.int.injEq, V.ref.injEq, V.bl.injEq, exists_eq_left, exists_eq_left', exists_and_left, true_and, and_true, Option.join_some, Option.join_none, Nat.reduceAdd, Nat.reduceSub, Nat.sub_self, Nat.sub_zero, List.length_map, Int.toNat_natCast, rSlL, rCat, rAppend, rReverse, rClear, rCount, rIndex, tTup, rRep, rIn, tDNewT, tDNotIn, sDPut, iZip, rInLL, rIndexLL]
      exact k
theorem d_greatest_part (D : Dfn K mg "greatest_part" s_greatest_part ["stair", "turns"]) (T : Txt K mg uM) : OkD P w K mg base 1 "greatest_part" ["stair", "turns"] (spGreat K) := by
  have SC := sc_greatest_part
  refine D.ok SC (fun vs H Q E h => ?_) (fun f cdv A outer s H vs Q E hr h => ?_)
  · obtain ⟨k, t, rfl, _⟩ := h; rfl
  · obtain ⟨kk, t, rfl, h0, h1, k⟩ := h
    refine ⟨_, (pss_one (ps_ret (pe_callB (call_maxL rfl) rfl T.n_max PyProof.Rows.boot_max (pa_cons (pe_comp (own := ["part"]) (fr := ["stair", "turns"]) (ixs := [0, 1]) rfl ⟨rfl, rfl, rfl, rfl, rfl, rfl, rfl⟩ ⟨fun _ _ _ _ => pg_name (i := 0) (by decide +kernel : (["part", "stair", "turns"] : List Str).Nodup) rfl (Or.inl rfl) (.inr rfl), fun _ _ _ _ => pts_one (PW.pt (pw_and (pt_cmpR op_eq (pe_op op_mod (pv 1) (pv 0)) pe_int (nomark _)) (pw_and1 (pt_cmpR op_eq (pe_op op_mod (pv 2) (pv 0)) pe_int (nomark _))))), fun _ _ _ _ => (pv 0)⟩ (pi_range2 rfl T.n_range (pa_cons pe_int (pa_cons (pe_op op_add (pv 0) pe_int) pa_nil)))) pa_nil)))), ?_⟩
    simp only [tSeq, tRet, tRetN, tNext, tOp, tUn, tVar, tC, tAsg, gName, tIfS, tTest, tB, tNot, tNotV, tOr, tAnd, tAndV, tOrV, tChain, tCB, tCall, tCons, tNil, tLst, tDrop, tBM, tBM0, tSl, tNoPart, tPart, gSub, rI, rI0, rU, rIxL, cxOf, cxC, rEq, rNe, rEqL, rNeL, scal, L2.start, tComp, iList, iRng1, iRng2, iEnum, tYes, stC, List.map_cons, List.map_nil, List.cons_append, List.nil_append, List.append_nil, List.length_cons, List.length_nil, List.replicate_succ, List.replicate_zero, List.set_cons_zero, List.set_cons_succ, List.getElem?_cons_zero, List.getElem?_cons_succ, Option.some.injEq, List.cons.injEq, V.int.injEq, V.ref.injEq, V.bl.injEq, exists_eq_left, exists_eq_left', exists_and_left, true_and, and_true, Option.join_some, Option.join_none, Nat.reduceAdd, Nat.reduceSub, Nat.sub_self, Nat.sub_zero, List.length_map, Int.toNat_natCast, rSlL, rCat, rAppend, rReverse, rClear, rCount, rIndex, tTup, rRep, rIn, tDNewT, tDNotIn, sDPut, iZip, rInLL, rIndexLL]
    refine ⟨1, (kk : Int) + 1, ⟨rfl, rfl⟩, ⟨by omega, by omega, by omega, by omega⟩, fun D1 hD1 => ?_⟩
    refine comp_rangeI (lo := 1) ((kk : Int) + 1 - 1).toNat (fun i => decide ((kk : Int) % i = 0) && decide ((t : Int) % i = 0)) id [some (.int kk), some (.int t)] (small1000 (by omega)) hD1 (fun i i0 i1 H' Q' sm q => ?_) (fun i i0 i1 _ H' Q' sm q => ?_) ?_
    · simp only [tSeq, tRet, tRetN, tNext, tOp, tUn, tVar, tC, tAsg, gName, tIfS, tTest, tB, tNot, tNotV, tOr, tAnd, tAndV, tOrV, tChain, tCB, tCall, tCons, tNil, tLst, tDrop, tBM, tBM0, tSl, tNoPart, tPart, gSub, rI, rI0, rU, rIxL, cxOf, cxC, rEq, rNe, rEqL, rNeL, scal, L2.start, tComp, iList, iRng1, iRng2, iEnum, tYes, stC, List.map_cons, List.map_nil, List.cons_append, List.nil_append, List.append_nil, List.length_cons, List.length_nil, List.replicate_succ, List.replicate_zero, List.set_cons_zero, List.set_cons_succ, List.getElem?_cons_zero, List.getElem?_cons_succ, Option.some.injEq, List.cons.injEq, V.int.injEq, V.ref.injEq, V.bl.injEq, exists_eq_left, exists_eq_left', exists_and_left, true_and, and_true, Option.join_some, Option.join_none, Nat.reduceAdd, Nat.reduceSub, Nat.sub_self, Nat.sub_zero, List.length_map, Int.toNat_natCast, rSlL, rCat, rAppend, rReverse, rClear, rCount, rIndex, tTup, rRep, rIn, tDNewT, tDNotIn, sDPut, iZip, rInLL, rIndexLL]
      refine ⟨by omega, ?_⟩
      by_cases c : (kk : Int) % i = 0
      · rw [if_pos (by simpa using c)]
        refine ⟨by omega, ?_⟩
        simpa [c] using q
      · rw [if_neg (by simpa using c)]
        simpa [c] using q
    · simp only [tSeq, tRet, tRetN, tNext, tOp, tUn, tVar, tC, tAsg, gName, tIfS, tTest, tB, tNot, tNotV, tOr, tAnd, tAndV, tOrV, tChain, tCB, tCall, tCons, tNil, tLst, tDrop, tBM, tBM0, tSl, tNoPart, tPart, gSub, rI, rI0, rU, rIxL, cxOf, cxC, rEq, rNe, rEqL, rNeL, scal, L2.start, tComp, iList, iRng1, iRng2, iEnum, tYes, stC, List.map_cons, List.map_nil, List.cons_append, List.nil_append, List.append_nil, List.length_cons, List.length_nil, List.replicate_succ, List.replicate_zero, List.set_cons_zero, List.set_cons_succ, List.getElem?_cons_zero, List.getElem?_cons_succ, Option.some.injEq, List.cons.injEq, V.int.injEq, V.ref.injEq, V.bl.injEq, exists_eq_left, exists_eq_left', exists_and_left, true_and, and_true, Option.join_some, Option.join_none, Nat.reduceAdd, Nat.reduceSub, Nat.sub_self, Nat.sub_zero, List.length_map, Int.toNat_natCast, rSlL, rCat, rAppend, rReverse, rClear, rCount, rIndex, tTup, rRep, rIn, tDNewT, tDNotIn, sDPut, iZip, rInLL, rIndexLL]; exact q
    · have mem : ∀ x, x ∈ (((List.range ((kk : Int) + 1 - 1).toNat).map fun (i : Nat) => (1 : Int) + (i : Int)).filter fun i => decide ((kk : Int) % i = 0) && decide ((t : Int) % i = 0)) ↔ 1 ≤ x ∧ x ≤ kk ∧ (kk : Int) % x = 0 ∧ (t : Int) % x = 0 := fun x => by
        rw [List.mem_filter, List.mem_map, Bool.and_eq_true, decide_eq_true_eq, decide_eq_true_eq]
        constructor
        · rintro ⟨⟨j, hj, rfl⟩, c⟩
          have hj := List.mem_range.mp hj
          exact ⟨by omega, by omega, c⟩
        · rintro ⟨x0, x1, c⟩
          exact ⟨⟨(x - 1).toNat, List.mem_range.mpr (by omega), by omega⟩, c⟩
      rw [List.map_id]
      generalize hl : (((List.range ((kk : Int) + 1 - 1).toNat).map fun (i : Nat) => (1 : Int) + (i : Int)).filter fun i => decide ((kk : Int) % i = 0) && decide ((t : Int) % i = 0)) = l at mem ⊢
      refine ⟨D1, rfl, l, SqL.of upd_same, fun z => ?_, fun M m1 m2 => ?_⟩
      · have := (mem 1).mpr ⟨by omega, by omega, Int.emod_one _, Int.emod_one _⟩
        rw [z] at this; cases this
      · obtain ⟨a0, a1, a2, a3⟩ := (mem M).mp m1
        rw [RC.gcd_max h0 a0 a2 a3 fun b b0 b1 b2 b3 => m2 b ((mem b).mpr ⟨b0, b1, b2, b3⟩)]
        exact k _ (Same.put hD1)
theorem d_many_again (D : Dfn K mg "many_again" s_many_again ["stair", "rest", "turns"]) (T : Txt K mg uM) (D_greatest_part : OkD P w K mg base 1 "greatest_part" ["stair", "turns"] (spGreat K)) (D_many_choices : OkD P w K mg base 1 "many_choices" ["places", "ones"] spChoices) : OkD P w K mg base 2 "many_again" ["stair", "rest", "turns"] (spAgain K) := by
  have SC := sc_many_again
  refine D.ok SC (fun vs H Q E h => ?_) (fun f cdv A outer s H vs Q E hr h => ?_)
  · obtain ⟨k, r, t, rfl, _⟩ := h; rfl
  · obtain ⟨kk, r, t, rfl, h0, h1, h2, k⟩ := h
    refine ⟨_, (pss_cons (ps_set (i := 3) SC.nd rfl (Or.inl rfl) (pe_callD D_greatest_part (hr.mono (by first | decide | omega)) rfl (pa_cons (pv 0) (pa_cons (pv 2) pa_nil))))
      (pss_cons (ps_set (i := 4) SC.nd rfl (Or.inl rfl) (pe_op op_fdiv (pv 0) (pv 3)))
      (pss_cons (ps_if (pt_cmpR op_ne (pe_op op_mod (pv 1) (pv 4)) pe_int (nomark _)) (pss_one (ps_ret pe_int)) pss_nil)
      (pss_one (ps_ret (pe_callD D_many_choices (hr.mono (by first | decide | omega)) rfl (pa_cons (pv 3) (pa_cons (pe_op op_fdiv (pv 1) (pv 4)) pa_nil)))))))), ?_⟩
    simp only [tSeq, tRet, tRetN, tNext, tOp, tUn, tVar, tC, tAsg, gName, tIfS, tTest, tB, tNot, tNotV, tOr, tAnd, tAndV, tOrV, tChain, tCB, tCall, tCons, tNil, tLst, tDrop, tBM, tBM0, tSl, tNoPart, tPart, gSub, rI, rI0, rU, rIxL, cxOf, cxC, rEq, rNe, rEqL, rNeL, scal, L2.start, tComp, iList, iRng1, iRng2, iEnum, tYes, stC, List.map_cons, List.map_nil, List.cons_append, List.nil_append, List.append_nil, List.length_cons, List.length_nil, List.replicate_succ, List.replicate_zero, List.set_cons_zero, List.set_cons_succ, List.getElem?_cons_zero, List.getElem?_cons_succ, Option.some.injEq, List.cons.injEq, V.int.injEq, V.ref.injEq, V.bl.injEq, exists_eq_left, exists_eq_left', exists_and_left, true_and, and_true, Option.join_some, Option.join_none, Nat.reduceAdd, Nat.reduceSub, Nat.sub_self, Nat.sub_zero, List.length_map, Int.toNat_natCast, rSlL, rCat, rAppend, rReverse, rClear, rCount, rIndex, tTup, rRep, rIn, tDNewT, tDNotIn, sDPut, iZip, rInLL, rIndexLL]
    refine ⟨kk, t, rfl, h0, h1, fun H1 s1 => ?_⟩
    have g0 := Nat.gcd_pos_of_pos_left t (show 0 < kk by omega)
    have g1 := Nat.le_of_dvd (show 0 < kk by omega) (Nat.gcd_dvd_left kk t)
    have q0 : 1 ≤ kk / Nat.gcd kk t := Nat.div_pos g1 g0
    have kc := k H1 s1
    unfold RC.again at kc
    have hq : kk / Nat.gcd kk t * Nat.gcd kk t = kk := Nat.div_mul_cancel (Nat.gcd_dvd_left kk t)
    have ec : ((kk : Int) / ((Nat.gcd kk t : Nat) : Int)) = ((kk / Nat.gcd kk t : Nat) : Int) := (Int.natCast_ediv _ _).symm
    simp only [tSeq, tRet, tRetN, tNext, tOp, tUn, tVar, tC, tAsg, gName, tIfS, tTest, tB, tNot, tNotV, tOr, tAnd, tAndV, tOrV, tChain, tCB, tCall, tCons, tNil, tLst, tDrop, tBM, tBM0, tSl, tNoPart, tPart, gSub, rI, rI0, rU, rIxL, cxOf, cxC, rEq, rNe, rEqL, rNeL, scal, L2.start, tComp, iList, iRng1, iRng2, iEnum, tYes, stC, List.map_cons, List.map_nil, List.cons_append, List.nil_append, List.append_nil, List.length_cons, List.length_nil, List.replicate_succ, List.replicate_zero, List.set_cons_zero, List.set_cons_succ, List.getElem?_cons_zero, List.getElem?_cons_succ, Option.some.injEq, List.cons.injEq, V.int.injEq, V.ref.injEq, V.bl.injEq, exists_eq_left, exists_eq_left', exists_and_left, true_and, and_true, Option.join_some, Option.join_none, Nat.reduceAdd, Nat.reduceSub, Nat.sub_self, Nat.sub_zero, List.length_map, Int.toNat_natCast, rSlL, rCat, rAppend, rReverse, rClear, rCount, rIndex, tTup, rRep, rIn, tDNewT, tDNotIn, sDPut, iZip, rInLL, rIndexLL]
    refine ⟨⟨by omega, by omega⟩, ?_⟩
    rw [ec]
    refine ⟨by omega, ?_⟩
    have em : ((r : Int) % ((kk / Nat.gcd kk t : Nat) : Int)) = ((r % (kk / Nat.gcd kk t) : Nat) : Int) := (Int.natCast_emod _ _).symm
    rw [em]
    by_cases c : r % (kk / Nat.gcd kk t) = 0
    · rw [if_pos c] at kc
      rw [if_neg (by rw [c]; simp)]
      have qs : kk / Nat.gcd kk t ≤ kk := Nat.div_le_self _ _
      refine ⟨⟨by omega, by omega⟩, Nat.gcd kk t, r / (kk / Nat.gcd kk t), ?_, ?_, by omega, kc⟩
      · rw [show ((r : Int) / ((kk / Nat.gcd kk t : Nat) : Int)) = ((r / (kk / Nat.gcd kk t) : Nat) : Int) from (Int.natCast_ediv _ _).symm]
      · refine Nat.div_le_of_le_mul ?_
        rw [hq]; exact h2
    · rw [if_neg c] at kc
      rw [if_pos (by rw [decide_eq_false (show ¬ ((r % (kk / Nat.gcd kk t) : Nat) : Int) = 0 by omega)]; rfl)]
      exact kc
theorem d_rings_many (D : Dfn K mg "rings_many" s_rings_many ["coins"]) (T : Txt K mg uM) (D_check_coins : OkD P w K mg base 1 "check_coins" ["coins", "most"] spCoins) (D_stair_of : OkD P w K mg base 1 "stair_of" ["coins"] spStairOf) (D_rest_of : OkD P w K mg base 2 "rest_of" ["coins"] spRest)
    (D_many_again : OkD P w K mg base 2 "many_again" ["stair", "rest", "turns"] (spAgain K)) : OkD P w K mg base 3 "rings_many" ["coins"] (spMany K) := by
  have SC := sc_rings_many
  refine D.ok SC (fun vs H Q E h => ?_) (fun f cdv A outer s H vs Q E hr h => ?_)
  · obtain ⟨n, k, r, rfl, _⟩ := h; rfl
  · obtain ⟨n, kk, r, rfl, h0, h1, hk, hre, k⟩ := h
    refine ⟨_, (pss_cons (ps_expr (pe_callD D_check_coins (hr.mono (by first | decide | omega)) rfl (pa_cons (pv 0) (pa_cons (pe_glob rfl T.c_MOST_FOR_MANY T.r_MOST_FOR_MANY) pa_nil))))
      (pss_cons (ps_set (i := 1) SC.nd rfl (Or.inr rfl) (pe_callD D_stair_of (hr.mono (by first | decide | omega)) rfl (pa_cons (pv 0) pa_nil)))
      (pss_cons (ps_set (i := 2) SC.nd rfl (Or.inr rfl) (pe_callD D_rest_of (hr.mono (by first | decide | omega)) rfl (pa_cons (pv 0) pa_nil)))
      (pss_one (ps_ret (pe_op op_fdiv (pe_callB (call_sumL rfl) rfl T.n_sum PyProof.Rows.boot_sum (pa_cons (pe_comp (own := ["turns"]) (fr := ["stair", "rest"]) (ixs := [1, 2]) rfl ⟨rfl, rfl, rfl, rfl, rfl, rfl, rfl⟩ ⟨fun _ _ _ _ => pg_name (i := 0) (by decide +kernel : (["turns", "stair", "rest"] : List Str).Nodup) rfl (Or.inl rfl) (.inr rfl), fun _ _ _ _ => pts_nil, fun _ _ _ _ => (pe_callD D_many_again (hr.mono (by first | decide | omega)) rfl (pa_cons (pv 1) (pa_cons (pv 2) (pa_cons (pv 0) pa_nil))))⟩ (pi_range1 rfl T.n_range (pa_cons (pv 1) pa_nil))) pa_nil)) (pv 1))))))), ?_⟩
    have k63 := hk.le63 h1
    have k1 := hk.1
    obtain ⟨r', e1, e2, e3⟩ := hk.rest
    have er : r' = r := by omega
    subst er
    refine cut (fun σ H' => σ = [some (.int n), none, none] ∧ H' = H) (fun R hR => ?_) ?_
    · simp only [tSeq, tRet, tRetN, tNext, tOp, tUn, tVar, tC, tAsg, gName, tIfS, tTest, tB, tNot, tNotV, tOr, tAnd, tAndV, tOrV, tChain, tCB, tCall, tCons, tNil, tLst, tDrop, tBM, tBM0, tSl, tNoPart, tPart, gSub, rI, rI0, rU, rIxL, cxOf, cxC, rEq, rNe, rEqL, rNeL, scal, L2.start, tComp, iList, iRng1, iRng2, iEnum, tYes, stC, List.map_cons, List.map_nil, List.cons_append, List.nil_append, List.append_nil, List.length_cons, List.length_nil, List.replicate_succ, List.replicate_zero, List.set_cons_zero, List.set_cons_succ, List.getElem?_cons_zero, List.getElem?_cons_succ, Option.some.injEq, List.cons.injEq, V.int.injEq, V.ref.injEq, V.bl.injEq, exists_eq_left, exists_eq_left', exists_and_left, true_and, and_true, Option.join_some, Option.join_none, Nat.reduceAdd, Nat.reduceSub, Nat.sub_self, Nat.sub_zero, List.length_map, Int.toNat_natCast, rSlL, rCat, rAppend, rReverse, rClear, rCount, rIndex, tTup, rRep, rIn, tDNewT, tDNotIn, sDPut, iZip, rInLL, rIndexLL]
      exact ⟨n, 2000, rfl, h0, h1, hR _ _ ⟨rfl, rfl⟩⟩
    rintro σ1 H1 ⟨rfl, rfl⟩
    refine cut (fun σ H' => σ = [some (.int n), some (.int kk), none] ∧ H' = H1) (fun R hR => ?_) ?_
    · simp only [tSeq, tRet, tRetN, tNext, tOp, tUn, tVar, tC, tAsg, gName, tIfS, tTest, tB, tNot, tNotV, tOr, tAnd, tAndV, tOrV, tChain, tCB, tCall, tCons, tNil, tLst, tDrop, tBM, tBM0, tSl, tNoPart, tPart, gSub, rI, rI0, rU, rIxL, cxOf, cxC, rEq, rNe, rEqL, rNeL, scal, L2.start, tComp, iList, iRng1, iRng2, iEnum, tYes, stC, List.map_cons, List.map_nil, List.cons_append, List.nil_append, List.append_nil, List.length_cons, List.length_nil, List.replicate_succ, List.replicate_zero, List.set_cons_zero, List.set_cons_succ, List.getElem?_cons_zero, List.getElem?_cons_succ, Option.some.injEq, List.cons.injEq, V.int.injEq, V.ref.injEq, V.bl.injEq, exists_eq_left, exists_eq_left', exists_and_left, true_and, and_true, Option.join_some, Option.join_none, Nat.reduceAdd, Nat.reduceSub, Nat.sub_self, Nat.sub_zero, List.length_map, Int.toNat_natCast, rSlL, rCat, rAppend, rReverse, rClear, rCount, rIndex, tTup, rRep, rIn, tDNewT, tDNotIn, sDPut, iZip, rInLL, rIndexLL]
      refine ⟨n, rfl, h0, by omega, fun j hj => ?_⟩
      have e := hj.uniq hk
      subst e
      exact hR _ _ ⟨rfl, rfl⟩
    rintro σ2 H2 ⟨rfl, rfl⟩
    refine cut (fun σ H' => σ = [some (.int n), some (.int kk), some (.int r')] ∧ H' = H2) (fun R hR => ?_) ?_
    · simp only [tSeq, tRet, tRetN, tNext, tOp, tUn, tVar, tC, tAsg, gName, tIfS, tTest, tB, tNot, tNotV, tOr, tAnd, tAndV, tOrV, tChain, tCB, tCall, tCons, tNil, tLst, tDrop, tBM, tBM0, tSl, tNoPart, tPart, gSub, rI, rI0, rU, rIxL, cxOf, cxC, rEq, rNe, rEqL, rNeL, scal, L2.start, tComp, iList, iRng1, iRng2, iEnum, tYes, stC, List.map_cons, List.map_nil, List.cons_append, List.nil_append, List.append_nil, List.length_cons, List.length_nil, List.replicate_succ, List.replicate_zero, List.set_cons_zero, List.set_cons_succ, List.getElem?_cons_zero, List.getElem?_cons_succ, Option.some.injEq, List.cons.injEq, V.int.injEq, V.ref.injEq, V.bl.injEq, exists_eq_left, exists_eq_left', exists_and_left, true_and, and_true, Option.join_some, Option.join_none, Nat.reduceAdd, Nat.reduceSub, Nat.sub_self, Nat.sub_zero, List.length_map, Int.toNat_natCast, rSlL, rCat, rAppend, rReverse, rClear, rCount, rIndex, tTup, rRep, rIn, tDNewT, tDNotIn, sDPut, iZip, rInLL, rIndexLL]
      exact ⟨n, kk, rfl, h0, by omega, hk, by rw [hre]; exact hR _ _ ⟨rfl, rfl⟩⟩
    rintro σ3 H3 ⟨rfl, rfl⟩
    simp only [tSeq, tRet, tRetN, tNext, tOp, tUn, tVar, tC, tAsg, gName, tIfS, tTest, tB, tNot, tNotV, tOr, tAnd, tAndV, tOrV, tChain, tCB, tCall, tCons, tNil, tLst, tDrop, tBM, tBM0, tSl, tNoPart, tPart, gSub, rI, rI0, rU, rIxL, cxOf, cxC, rEq, rNe, rEqL, rNeL, scal, L2.start, tComp, iList, iRng1, iRng2, iEnum, tYes, stC, List.map_cons, List.map_nil, List.cons_append, List.nil_append, List.append_nil, List.length_cons, List.length_nil, List.replicate_succ, List.replicate_zero, List.set_cons_zero, List.set_cons_succ, List.getElem?_cons_zero, List.getElem?_cons_succ, Option.some.injEq, List.cons.injEq, V.int.injEq, V.ref.injEq, V.bl.injEq, exists_eq_left, exists_eq_left', exists_and_left, true_and, and_true, Option.join_some, Option.join_none, Nat.reduceAdd, Nat.reduceSub, Nat.sub_self, Nat.sub_zero, List.length_map, Int.toNat_natCast, rSlL, rCat, rAppend, rReverse, rClear, rCount, rIndex, tTup, rRep, rIn, tDNewT, tDNotIn, sDPut, iZip, rInLL, rIndexLL]
    refine ⟨by omega, by omega, fun D1 hD1 => ?_⟩
    refine comp_growR (lo := 0) ((kk : Int)).toNat (fun i => (RC.again kk r' i : Int)) _ (small1000 (by omega)) hD1 rfl (fun i hi H' Q' s q => ?_) (fun H' s e => ?_)
    · simp only [tSeq, tRet, tRetN, tNext, tOp, tUn, tVar, tC, tAsg, gName, tIfS, tTest, tB, tNot, tNotV, tOr, tAnd, tAndV, tOrV, tChain, tCB, tCall, tCons, tNil, tLst, tDrop, tBM, tBM0, tSl, tNoPart, tPart, gSub, rI, rI0, rU, rIxL, cxOf, cxC, rEq, rNe, rEqL, rNeL, scal, L2.start, tComp, iList, iRng1, iRng2, iEnum, tYes, stC, List.map_cons, List.map_nil, List.cons_append, List.nil_append, List.append_nil, List.length_cons, List.length_nil, List.replicate_succ, List.replicate_zero, List.set_cons_zero, List.set_cons_succ, List.getElem?_cons_zero, List.getElem?_cons_succ, Option.some.injEq, List.cons.injEq, V.int.injEq, V.ref.injEq, V.bl.injEq, exists_eq_left, exists_eq_left', exists_and_left, true_and, and_true, Option.join_some, Option.join_none, Nat.reduceAdd, Nat.reduceSub, Nat.sub_self, Nat.sub_zero, List.length_map, Int.toNat_natCast, rSlL, rCat, rAppend, rReverse, rClear, rCount, rIndex, tTup, rRep, rIn, tDNewT, tDNotIn, sDPut, iZip, rInLL, rIndexLL]
      exact ⟨kk, r', i, by simp, by omega, by omega, by omega, q⟩
    · refine ⟨D1, rfl, _, SqL.of e, ⟨by omega, by omega⟩, ?_⟩
      have es : (((List.range (kk : Int).toNat).map fun i => (RC.again kk r' i : Int)).sum) = ((RC.S kk r' : Nat) : Int) := by
        unfold RC.S
        rw [← RC.sum_cast, List.map_map]
        rfl
      rw [es, ← Int.natCast_ediv]
      exact k H' s
end
def spWhole : Sp := fun vs H Q _ => ∃ n : Int, vs = [.int n] ∧ Q (.bl true) H
def spCommon : Sp := fun vs H Q _ => ∃ a b : Nat, vs = [.int a, .int b] ∧ Q (.int (Nat.gcd a b : Nat)) H
def wCommon (a0 b0 : Nat) (H : Hp) (m : Nat) (σ : St) (H' : Hp) : Prop := H' = H ∧ ∃ (a b : Nat) (o : Option V), σ = [some (.int a), some (.int b), o] ∧ Nat.gcd a b = Nat.gcd a0 b0 ∧ m = b
theorem free_eq (p : Nat) : ((((List.range p).map fun (i : Nat) => (1 : Int) + (i : Int)).filter fun j => decide (Nat.gcd j.toNat p = 1)).map id).length = RC.free p := by
  unfold RC.free
  rw [List.length_map, List.filter_map, List.filter_map, List.length_map, List.length_map]
  congr 1
  refine List.filter_congr fun i _ => ?_
  show decide (Nat.gcd (1 + (i : Int)).toNat p = 1) = (Nat.gcd (i + 1) p == 1)
  rw [show (1 + (i : Int)).toNat = i + 1 by omega]
  rfl
section
variable {P : Program} {w : World} {K : PySem.W.Frag} {mg : Str → Option Value} {base : Heap} {uM : UM}
theorem d__law_whole (D : Dfn K mg "_law_whole" s__law_whole ["found"]) (T : Txt K mg uM) : OkD P w K mg base 1 "_law_whole" ["found"] spWhole := by
  have SC := sc__law_whole
  refine D.ok SC (fun vs H Q E h => ?_) (fun f cdv A outer s H vs Q E hr h => ?_)
  · obtain ⟨n, rfl, _⟩ := h; rfl
  · obtain ⟨n, rfl, k⟩ := h
    refine ⟨_, (pss_one (ps_ret (pe_and (pe_callB call_isI rfl T.n_isinstance PyProof.Rows.boot_isinstance (pa_cons (pv 0) (pa_cons (pe_bltn (v := .ty "int") rfl T.n_int PyProof.Rows.boot_int rfl) pa_nil))) (pe_one (pe_not (pe_callB call_isI rfl T.n_isinstance PyProof.Rows.boot_isinstance (pa_cons (pv 0) (pa_cons (pe_bltn (v := .ty "bool") rfl T.n_bool PyProof.Rows.boot_bool rfl) pa_nil)))))))), ?_⟩
    simp only [tSeq, tRet, tRetN, tNext, tOp, tUn, tVar, tC, tAsg, gName, tIfS, tTest, tB, tNot, tNotV, tOr, tAnd, tAndV, tOrV, tChain, tCB, tCall, tCons, tNil, tLst, tDrop, tBM, tBM0, tSl, tNoPart, tPart, gSub, rI, rI0, rU, rIxL, cxOf, cxC, rEq, rNe, rEqL, rNeL, scal, L2.start, tComp, iList, iRng1, iRng2, iEnum, tYes, stC, List.map_cons, List.map_nil, List.cons_append, List.nil_append, List.append_nil, List.length_cons, List.length_nil, List.replicate_succ, List.replicate_zero, List.set_cons_zero, List.set_cons_succ, List.getElem?_cons_zero, List.getElem?_cons_succ, Option.some.injEq, List.cons.injEq, V.int.injEq, V.ref.injEq, V.bl.injEq, exists_eq_left, exists_eq_left', exists_and_left, true_and, and_true, Option.join_some, Option.join_none, Nat.reduceAdd, Nat.reduceSub, Nat.sub_self, Nat.sub_zero, List.length_map, Int.toNat_natCast, rSlL, rCat, rAppend, rReverse, rClear, rCount, rIndex, tTup, rRep, rIn, tDNewT, tDNotIn, sDPut, iZip, rInLL, rIndexLL, rIsI]
    refine ⟨_, _, ⟨rfl, rfl⟩, _, .int _, true, if_pos (by decide), ?_⟩
    rw [if_pos rfl]
    exact ⟨_, _, ⟨rfl, rfl⟩, _, .int _, false, T.kib, k⟩
theorem d__law_common (D : Dfn K mg "_law_common" s__law_common ["one", "other"]) (T : Txt K mg uM) : OkD P w K mg base 1 "_law_common" ["one", "other"] spCommon := by
  have SC := sc__law_common
  refine D.ok SC (fun vs H Q E h => ?_) (fun f cdv A outer s H vs Q E hr h => ?_)
  · obtain ⟨a, b, rfl, _⟩ := h; rfl
  · obtain ⟨a, b, rfl, k⟩ := h
    refine ⟨_, (pss_cons (ps_while PassesOwn.never (pt_cmpR op_gt (pv 1) pe_int (nomark _))
        (pss_cons (ps_set (i := 2) SC.nd rfl (Or.inl rfl) (pe_op op_mod (pv 0) (pv 1)))
        (pss_cons (ps_set (i := 0) SC.nd rfl (Or.inl rfl) (pv 1))
        (pss_one (ps_set (i := 1) SC.nd rfl (Or.inl rfl) (pv 2))))))
      (pss_one (ps_ret (pv 0)))), ?_⟩
    simp only [tSeq, tRet, tRetN, tNext, tOp, tUn, tVar, tC, tAsg, gName, tIfS, tTest, tB, tNot, tNotV, tOr, tAnd, tAndV, tOrV, tChain, tCB, tCall, tCons, tNil, tLst, tDrop, tBM, tBM0, tSl, tNoPart, tPart, gSub, rI, rI0, rU, rIxL, cxOf, cxC, rEq, rNe, rEqL, rNeL, scal, L2.start, tComp, iList, iRng1, iRng2, iEnum, tYes, stC, List.map_cons, List.map_nil, List.cons_append, List.nil_append, List.append_nil, List.length_cons, List.length_nil, List.replicate_succ, List.replicate_zero, List.set_cons_zero, List.set_cons_succ, List.getElem?_cons_zero, List.getElem?_cons_succ, Option.some.injEq, List.cons.injEq, V.int.injEq, V.ref.injEq, V.bl.injEq, exists_eq_left, exists_eq_left', exists_and_left, true_and, and_true, Option.join_some, Option.join_none, Nat.reduceAdd, Nat.reduceSub, Nat.sub_self, Nat.sub_zero, List.length_map, Int.toNat_natCast, rSlL, rCat, rAppend, rReverse, rClear, rCount, rIndex, tTup, rRep, rIn, tDNewT, tDNotIn, sDPut, iZip, rInLL, rIndexLL]
    refine ⟨wCommon a b H, ⟨b, rfl, a, b, none, rfl, rfl, rfl⟩, ?_⟩
    rintro m σ H' ⟨rfl, x, y, o, rfl, hg, rfl⟩
    simp only [tSeq, tRet, tRetN, tNext, tOp, tUn, tVar, tC, tAsg, gName, tIfS, tTest, tB, tNot, tNotV, tOr, tAnd, tAndV, tOrV, tChain, tCB, tCall, tCons, tNil, tLst, tDrop, tBM, tBM0, tSl, tNoPart, tPart, gSub, rI, rI0, rU, rIxL, cxOf, cxC, rEq, rNe, rEqL, rNeL, scal, L2.start, tComp, iList, iRng1, iRng2, iEnum, tYes, stC, List.map_cons, List.map_nil, List.cons_append, List.nil_append, List.append_nil, List.length_cons, List.length_nil, List.replicate_succ, List.replicate_zero, List.set_cons_zero, List.set_cons_succ, List.getElem?_cons_zero, List.getElem?_cons_succ, Option.some.injEq, List.cons.injEq, V.int.injEq, V.ref.injEq, V.bl.injEq, exists_eq_left, exists_eq_left', exists_and_left, true_and, and_true, Option.join_some, Option.join_none, Nat.reduceAdd, Nat.reduceSub, Nat.sub_self, Nat.sub_zero, List.length_map, Int.toNat_natCast, rSlL, rCat, rAppend, rReverse, rClear, rCount, rIndex, tTup, rRep, rIn, tDNewT, tDNotIn, sDPut, iZip, rInLL, rIndexLL]
    refine ite2 (fun c => ?_) fun c => ?_
    · have c : (0 : Int) < (m : Int) := of_decide_eq_true c
      refine ⟨fun σ' H1 => ∃ m', m' < m ∧ wCommon a b H' m' σ' H1, fun _ _ z => z, ?_⟩
      refine ⟨c, x % m, Nat.mod_lt _ (by omega), rfl, m, x % m, some (.int ((x % m : Nat) : Int)), ?_, ?_, rfl⟩
      · rw [Int.natCast_emod]
      · rw [← hg, Nat.gcd_comm x m, Nat.gcd_rec m x, Nat.gcd_comm]
    · have c : ¬ (0 : Int) < (m : Int) := fun z => c (decide_eq_true z)
      have e : m = 0 := by omega
      subst e
      rw [Nat.gcd_zero_right] at hg
      rw [hg]; exact k
theorem d__law_chosen (D : Dfn K mg "_law_chosen" s__law_chosen ["all_of", "some"]) (T : Txt K mg uM) : OkD P w K mg base 1 "_law_chosen" ["all_of", "some"] spChoices := by
  have SC := sc__law_chosen
  refine D.ok SC (fun vs H Q E h => ?_) (fun f cdv A outer s H vs Q E hr h => ?_)
  · obtain ⟨p, t, rfl, _⟩ := h; rfl
  · obtain ⟨p, t, rfl, h0, h1, k⟩ := h
    refine ⟨_, (pss_cons (ps_set (i := 2) SC.nd rfl (Or.inl rfl) pe_int)
      (pss_cons (ps_for PassesOwn.never rfl (pi_range1 rfl T.n_range (pa_cons (pv 1) pa_nil)) (pg_name (i := 3) SC.nd rfl (Or.inl rfl))
        (pss_one (ps_set (i := 2) SC.nd rfl (Or.inl rfl) (pe_op op_fdiv (pe_op op_mul (pv 2) (pe_op op_sub (pv 0) (pv 3))) (pe_op op_add (pv 3) pe_int)))))
      (pss_one (ps_ret (pv 2))))), ?_⟩
    simp only [tSeq, tRet, tRetN, tNext, tOp, tUn, tVar, tC, tAsg, gName, tIfS, tTest, tB, tNot, tNotV, tOr, tAnd, tAndV, tOrV, tChain, tCB, tCall, tCons, tNil, tLst, tDrop, tBM, tBM0, tSl, tNoPart, tPart, gSub, rI, rI0, rU, rIxL, cxOf, cxC, rEq, rNe, rEqL, rNeL, scal, L2.start, tComp, iList, iRng1, iRng2, iEnum, tYes, stC, List.map_cons, List.map_nil, List.cons_append, List.nil_append, List.append_nil, List.length_cons, List.length_nil, List.replicate_succ, List.replicate_zero, List.set_cons_zero, List.set_cons_succ, List.getElem?_cons_zero, List.getElem?_cons_succ, Option.some.injEq, List.cons.injEq, V.int.injEq, V.ref.injEq, V.bl.injEq, exists_eq_left, exists_eq_left', exists_and_left, true_and, and_true, Option.join_some, Option.join_none, Nat.reduceAdd, Nat.reduceSub, Nat.sub_self, Nat.sub_zero, List.length_map, Int.toNat_natCast, rSlL, rCat, rAppend, rReverse, rClear, rCount, rIndex, tTup, rRep, rIn, tDNewT, tDNotIn, sDPut, iZip, rInLL, rIndexLL]
    refine ⟨_, rfl, _, rfl, by omega, by omega, for_range (lo := 0) (n := ((t : Int)).toNat) (wChoices p t H) ⟨rfl, none, rfl⟩ ?_ ?_⟩
    · rintro i σ H' hi ⟨rfl, o, rfl⟩
      have hi : i < t := by omega
      simp only [tSeq, tRet, tRetN, tNext, tOp, tUn, tVar, tC, tAsg, gName, tIfS, tTest, tB, tNot, tNotV, tOr, tAnd, tAndV, tOrV, tChain, tCB, tCall, tCons, tNil, tLst, tDrop, tBM, tBM0, tSl, tNoPart, tPart, gSub, rI, rI0, rU, rIxL, cxOf, cxC, rEq, rNe, rEqL, rNeL, scal, L2.start, tComp, iList, iRng1, iRng2, iEnum, tYes, stC, List.map_cons, List.map_nil, List.cons_append, List.nil_append, List.append_nil, List.length_cons, List.length_nil, List.replicate_succ, List.replicate_zero, List.set_cons_zero, List.set_cons_succ, List.getElem?_cons_zero, List.getElem?_cons_succ, Option.some.injEq, List.cons.injEq, V.int.injEq, V.ref.injEq, V.bl.injEq, exists_eq_left, exists_eq_left', exists_and_left, true_and, and_true, Option.join_some, Option.join_none, Nat.reduceAdd, Nat.reduceSub, Nat.sub_self, Nat.sub_zero, List.length_map, Int.toNat_natCast, rSlL, rCat, rAppend, rReverse, rClear, rCount, rIndex, tTup, rRep, rIn, tDNewT, tDNotIn, sDPut, iZip, rInLL, rIndexLL]
      refine ⟨.inr ⟨by omega, by omega⟩, ⟨by omega, by omega⟩, rfl, some (.int (0 + (i : Int))), ?_⟩
      rw [RC.ch_step (show i < p by omega)]
    · rintro σ H' ⟨rfl, o, rfl⟩
      simp only [tSeq, tRet, tRetN, tNext, tOp, tUn, tVar, tC, tAsg, gName, tIfS, tTest, tB, tNot, tNotV, tOr, tAnd, tAndV, tOrV, tChain, tCB, tCall, tCons, tNil, tLst, tDrop, tBM, tBM0, tSl, tNoPart, tPart, gSub, rI, rI0, rU, rIxL, cxOf, cxC, rEq, rNe, rEqL, rNeL, scal, L2.start, tComp, iList, iRng1, iRng2, iEnum, tYes, stC, List.map_cons, List.map_nil, List.cons_append, List.nil_append, List.append_nil, List.length_cons, List.length_nil, List.replicate_succ, List.replicate_zero, List.set_cons_zero, List.set_cons_succ, List.getElem?_cons_zero, List.getElem?_cons_succ, Option.some.injEq, List.cons.injEq, V.int.injEq, V.ref.injEq, V.bl.injEq, exists_eq_left, exists_eq_left', exists_and_left, true_and, and_true, Option.join_some, Option.join_none, Nat.reduceAdd, Nat.reduceSub, Nat.sub_self, Nat.sub_zero, List.length_map, Int.toNat_natCast, rSlL, rCat, rAppend, rReverse, rClear, rCount, rIndex, tTup, rRep, rIn, tDNewT, tDNotIn, sDPut, iZip, rInLL, rIndexLL]
      exact k
end
def spCell (K : PySem.W.Frag) : Sp := fun vs H Q _ => ∃ (a : Addr) (ns : List Int) (k : Int), vs = [.ref a, .int k] ∧ IL K H a ns ∧ ns.length ≤ 63 ∧ 0 ≤ k ∧ k ≤ 1000 ∧ ∀ v : Int, Q (.int v) H
def spLaw (K : PySem.W.Frag) : Sp := fun vs H Q _ => ∃ (a : Addr) (ns : List Int), vs = [.ref a] ∧ SqL K H a (ns.map V.int) ∧ ns.length ≤ 63 ∧ ∀ H', Q (.bl true) H'
def wLst (a : Addr) (n : Int) (H : Hp) (m : Nat) (σ : St) (H' : Hp) : Prop := H' = H ∧ ∃ j : Int, σ = [some (.ref a), some (.int n), some (.int j), none, none, none, none, none] ∧ 1 ≤ j ∧ (j - 1) * j < 2 * n ∧ m = (20000 - j).toNat
def wTot (a : Addr) (n : Int) (k r : Nat) (H : Hp) (i : Nat) (σ : St) (H' : Hp) : Prop := Same H H' ∧ ∃ o1 o2, σ = [some (.ref a), some (.int n), some (.int k), some (.int r), some (.int (((List.range i).map (RC.part k r)).sum : Nat)), o1, o2, none]
section
variable {P : Program} {w : World} {K : PySem.W.Frag} {mg : Str → Option Value} {base : Heap} {uM : UM}
theorem d__law_cell (D : Dfn K mg "_law_cell" s__law_cell ["script", "k"]) (T : Txt K mg uM) : OkD P w K mg base 1 "_law_cell" ["script", "k"] (spCell K) := by
  have SC := sc__law_cell
  refine D.ok SC (fun vs H Q E h => ?_) (fun f cdv A outer s H vs Q E hr h => ?_)
  · obtain ⟨a, ns, n, rfl, _⟩ := h; rfl
  · obtain ⟨a, ns, n, rfl, hS, hl, h0, h1, k⟩ := h
    refine ⟨_, (pss_cons (ps_if (pt_cmpR op_lt (pv 1) (pe_callB call_len_seq rfl T.n_len PySem.boot_len (pa_cons (pv 0) pa_nil)) (nomark _)) (pss_one (ps_ret (pe_ix ix_list (pv 0) (pv 1) (fun _ _ => rfl)))) pss_nil)
      (pss_cons (ps_set (i := 2) SC.nd rfl (Or.inl rfl) pe_int)
      (pss_cons (ps_if (pt_cmpR op_gt (pe_callB call_len_seq rfl T.n_len PySem.boot_len (pa_cons (pv 0) pa_nil)) pe_int (nomark _)) (pss_one (ps_set (i := 2) SC.nd rfl (Or.inl rfl) (pe_ix ix_list (pv 0) pe_int (fun _ _ => rfl)))) pss_nil)
      (pss_one (ps_ret (pe_op op_mod (pe_op op_add (pe_op op_mul (pe_op op_mod (pv 2) pe_int) pe_int) (pe_op op_mul (pv 1) pe_int)) pe_int)))))), ?_⟩
    simp only [tSeq, tRet, tRetN, tNext, tOp, tUn, tVar, tC, tAsg, gName, tIfS, tTest, tB, tNot, tNotV, tOr, tAnd, tAndV, tOrV, tChain, tCB, tCall, tCons, tNil, tLst, tDrop, tBM, tBM0, tSl, tNoPart, tPart, gSub, rI, rI0, rU, rIxL, cxOf, cxC, rEq, rNe, rEqL, rNeL, scal, L2.start, tComp, iList, iRng1, iRng2, iEnum, tYes, stC, List.map_cons, List.map_nil, List.cons_append, List.nil_append, List.append_nil, List.length_cons, List.length_nil, List.replicate_succ, List.replicate_zero, List.set_cons_zero, List.set_cons_succ, List.getElem?_cons_zero, List.getElem?_cons_succ, Option.some.injEq, List.cons.injEq, V.int.injEq, V.ref.injEq, V.bl.injEq, exists_eq_left, exists_eq_left', exists_and_left, true_and, and_true, Option.join_some, Option.join_none, Nat.reduceAdd, Nat.reduceSub, Nat.sub_self, Nat.sub_zero, List.length_map, Int.toNat_natCast, rSlL, rCat, rAppend, rReverse, rClear, rCount, rIndex, tTup, rRep, rIn, tDNewT, tDNotIn, sDPut, iZip, rInLL, rIndexLL]
    refine ⟨_, .inl hS, ite2 (fun c => ?_) fun c => ?_⟩
    · have c : n < ((ns.map V.int).length : Int) := of_decide_eq_true c
      rw [List.length_map] at c
      exact ⟨_, hS, _, at_int h0 c, k _⟩
    · have m1 : ∀ x : Int, CMul (x % 65521) 48271 := fun x => .inr ⟨by decide, by decide⟩
      have m2 : CMul n 30103 := .inr ⟨by decide, by decide⟩
      refine ⟨_, .inl hS, ite2 (fun c => ?_) fun c => ?_⟩
      · have c : (0 : Int) < ((ns.map V.int).length : Int) := of_decide_eq_true c
        rw [List.length_map] at c
        exact ⟨_, hS, _, at_int (Int.le_refl 0) c, _, rfl, by decide, m1 _, m2, by decide, k _⟩
      · exact ⟨by decide, m1 _, m2, by decide, k _⟩
theorem d_law {f : Addr} {fd : FuncData} (D : Fun K "law" "law" s_law f fd) (T : Txt K mg uM) (D__law_cell : OkD P w K mg base 1 "_law_cell" ["script", "k"] (spCell K)) (D__law_whole : OkD P w K mg base 1 "_law_whole" ["found"] spWhole) (D__law_common : OkD P w K mg base 1 "_law_common" ["one", "other"] spCommon)
    (D__law_chosen : OkD P w K mg base 1 "_law_chosen" ["all_of", "some"] spChoices) (D_rings_many : OkD P w K mg base 3 "rings_many" ["coins"] (spMany K)) : FnOk P w K mg base CX0 4 f fd ["script"] (spLaw K) := by
  have SC := sc_law
  refine D.ok SC (fun vs H Q E h => ?_) (fun cdv A outer s H vs Q E hr h => ?_)
  · obtain ⟨a, ns, rfl, _⟩ := h; rfl
  · obtain ⟨a, ns, rfl, hS, hl, k⟩ := h
    have hu := hr.units
    refine ⟨_, (pss_cons (ps_set (i := 1) SC.nd rfl (Or.inl rfl) (pe_op op_add pe_int (pe_op op_mod (pe_callD D__law_cell (hr.mono (by first | decide | omega)) rfl (pa_cons (pv 0) (pa_cons pe_int pa_nil))) pe_int)))
      (pss_cons (ps_if (pt_cmpR op_eq (pe_op op_mod (pe_callD D__law_cell (hr.mono (by first | decide | omega)) rfl (pa_cons (pv 0) (pa_cons pe_int pa_nil))) pe_int) pe_int (nomark _)) (pss_one (ps_set (i := 1) SC.nd rfl (Or.inl rfl) (pe_op op_add pe_int (pe_op op_mod (pe_callD D__law_cell (hr.mono (by first | decide | omega)) rfl (pa_cons (pv 0) (pa_cons pe_int pa_nil))) pe_int)))) pss_nil)
      (pss_cons (ps_set (i := 2) SC.nd rfl (Or.inl rfl) pe_int)
      (pss_cons (ps_while PassesOwn.never (pt_cmpR op_lt (pe_op op_mul (pv 2) (pe_op op_add (pv 2) pe_int)) (pe_op op_mul pe_int (pv 1)) (nomark _))
        (pss_one (ps_set (i := 2) SC.nd rfl (Or.inl rfl) (pe_op op_add (pv 2) pe_int))))
      (pss_cons (ps_set (i := 3) SC.nd rfl (Or.inl rfl) (pe_op op_sub (pv 1) (pe_op op_fdiv (pe_op op_mul (pv 2) (pe_op op_sub (pv 2) pe_int)) pe_int)))
      (pss_cons (ps_set (i := 4) SC.nd rfl (Or.inl rfl) pe_int)
      (pss_cons (ps_for PassesOwn.never rfl (pi_range2 rfl T.n_range (pa_cons pe_int (pa_cons (pe_op op_add (pv 2) pe_int) pa_nil))) (pg_name (i := 5) SC.nd rfl (Or.inr rfl))
        (pss_one (ps_if (PW.pt (pw_and (pt_cmpR op_eq (pe_op op_mod (pv 2) (pv 5)) pe_int (nomark _)) (pw_and1 (pt_cmpR op_eq (pe_op op_mod (pv 3) (pv 5)) pe_int (nomark _))))) (pss_cons (ps_set (i := 6) SC.nd rfl (Or.inl rfl) (pe_callB call_len_seq rfl T.n_len PySem.boot_len (pa_cons (pe_comp (own := ["k"]) (fr := ["part"]) (ixs := [5]) rfl ⟨rfl, rfl, rfl, rfl, rfl, rfl, rfl⟩ ⟨fun _ _ _ _ => pg_name (i := 0) (by decide +kernel : (["k", "part"] : List Str).Nodup) rfl (Or.inl rfl) (.inr rfl), fun _ _ _ _ => pts_one (pt_cmpR op_eq (pe_callD D__law_common (hr.mono (by first | decide | omega)) rfl (pa_cons (pv 0) (pa_cons (pv 1) pa_nil))) pe_int (nomark _)), fun _ _ _ _ => (pv 0)⟩ (pi_range2 rfl T.n_range (pa_cons pe_int (pa_cons (pe_op op_add (pv 5) pe_int) pa_nil)))) pa_nil)))
          (pss_one (ps_set (i := 4) SC.nd rfl (Or.inl rfl) (pe_op op_add (pv 4) (pe_op op_mul (pv 6) (pe_callD D__law_chosen (hr.mono (by first | decide | omega)) rfl (pa_cons (pe_op op_fdiv (pv 2) (pv 5)) (pa_cons (pe_op op_fdiv (pv 3) (pv 5)) pa_nil)))))))) pss_nil)))
      (pss_cons (ps_set (i := 7) SC.nd rfl (Or.inl rfl) (pe_callD D_rings_many (hr.mono (by first | decide | omega)) rfl (pa_cons (pv 1) pa_nil)))
      (pss_one (ps_ret (pe_and (pe_callD D__law_whole (hr.mono (by first | decide | omega)) rfl (pa_cons (pv 7) pa_nil)) (pe_one (pe_cmpR op_eq (pe_op op_mul (pv 7) (pv 2)) (pv 4) (nomark _)))))))))))))), ?_⟩
    refine cut (fun σ H' => ∃ n, σ = [some (.ref a), some (.int n), none, none, none, none, none, none] ∧ H' = H ∧ 1 ≤ n ∧ n ≤ 2000) (fun R hR => ?_) ?_
    · simp only [tSeq, tRet, tRetN, tNext, tOp, tUn, tVar, tC, tAsg, gName, tIfS, tTest, tB, tNot, tNotV, tOr, tAnd, tAndV, tOrV, tChain, tCB, tCall, tCons, tNil, tLst, tDrop, tBM, tBM0, tSl, tNoPart, tPart, gSub, rI, rI0, rU, rIxL, cxOf, cxC, rEq, rNe, rEqL, rNeL, scal, L2.start, tComp, iList, iRng1, iRng2, iEnum, tYes, stC, List.map_cons, List.map_nil, List.cons_append, List.nil_append, List.append_nil, List.length_cons, List.length_nil, List.replicate_succ, List.replicate_zero, List.set_cons_zero, List.set_cons_succ, List.getElem?_cons_zero, List.getElem?_cons_succ, Option.some.injEq, List.cons.injEq, V.int.injEq, V.ref.injEq, V.bl.injEq, exists_eq_left, exists_eq_left', exists_and_left, true_and, and_true, Option.join_some, Option.join_none, Nat.reduceAdd, Nat.reduceSub, Nat.sub_self, Nat.sub_zero, List.length_map, Int.toNat_natCast, rSlL, rCat, rAppend, rReverse, rClear, rCount, rIndex, tTup, rRep, rIn, tDNewT, tDNotIn, sDPut, iZip, rInLL, rIndexLL]
      refine ⟨a, ns, 0, rfl, hS, hl, by decide, by decide, fun v => ⟨_, rfl, by decide, ?_⟩⟩
      have w0 := Int.emod_nonneg v (show (2000 : Int) ≠ 0 by decide)
      have w1 := Int.emod_lt_of_pos v (show (0 : Int) < 2000 by decide)
      exact hR _ _ ⟨_, rfl, rfl, by omega, by omega⟩
    rintro σ1 H1 ⟨n0, rfl, rfl, a0, a1⟩
    refine cut (fun σ H' => ∃ n, σ = [some (.ref a), some (.int n), none, none, none, none, none, none] ∧ H' = H1 ∧ 1 ≤ n ∧ n ≤ 2000) (fun R hR => ?_) ?_
    · simp only [tSeq, tRet, tRetN, tNext, tOp, tUn, tVar, tC, tAsg, gName, tIfS, tTest, tB, tNot, tNotV, tOr, tAnd, tAndV, tOrV, tChain, tCB, tCall, tCons, tNil, tLst, tDrop, tBM, tBM0, tSl, tNoPart, tPart, gSub, rI, rI0, rU, rIxL, cxOf, cxC, rEq, rNe, rEqL, rNeL, scal, L2.start, tComp, iList, iRng1, iRng2, iEnum, tYes, stC, List.map_cons, List.map_nil, List.cons_append, List.nil_append, List.append_nil, List.length_cons, List.length_nil, List.replicate_succ, List.replicate_zero, List.set_cons_zero, List.set_cons_succ, List.getElem?_cons_zero, List.getElem?_cons_succ, Option.some.injEq, List.cons.injEq, V.int.injEq, V.ref.injEq, V.bl.injEq, exists_eq_left, exists_eq_left', exists_and_left, true_and, and_true, Option.join_some, Option.join_none, Nat.reduceAdd, Nat.reduceSub, Nat.sub_self, Nat.sub_zero, List.length_map, Int.toNat_natCast, rSlL, rCat, rAppend, rReverse, rClear, rCount, rIndex, tTup, rRep, rIn, tDNewT, tDNotIn, sDPut, iZip, rInLL, rIndexLL]
      refine ⟨a, ns, 1, rfl, hS, hl, by decide, by decide, fun v => ⟨_, rfl, by decide, ite2 (fun _ => ?_) fun _ => hR _ _ ⟨n0, rfl, rfl, a0, a1⟩⟩⟩
      refine ⟨a, ns, 0, rfl, hS, hl, by decide, by decide, fun v => ⟨_, rfl, by decide, ?_⟩⟩
      have w0 := Int.emod_nonneg v (show (60 : Int) ≠ 0 by decide)
      have w1 := Int.emod_lt_of_pos v (show (0 : Int) < 60 by decide)
      exact hR _ _ ⟨_, rfl, rfl, by omega, by omega⟩
    clear a0 a1
    rintro σ2 H2 ⟨n, rfl, rfl, a0, a1⟩
    refine cut (fun σ H' => σ = [some (.ref a), some (.int n), some (.int 1), none, none, none, none, none] ∧ H' = H2) (fun R hR => hR _ _ ⟨rfl, rfl⟩) ?_
    rintro σ3 H3 ⟨rfl, rfl⟩
    refine cut (fun σ H' => ∃ kk : Int, σ = [some (.ref a), some (.int n), some (.int kk), none, none, none, none, none] ∧ H' = H3 ∧ IsStair n kk) (fun R hR => ?_) ?_
    · refine ⟨wLst a n H3, ⟨_, rfl, 1, rfl, by omega, by omega, rfl⟩, ?_⟩
      rintro m σ H' ⟨rfl, j, rfl, j1, j2, rfl⟩
      have jb : j < 20000 := by
        rcases Int.lt_or_le j 20000 with z | z
        · exact z
        · have : 19999 * 20000 ≤ (j - 1) * j := Int.mul_le_mul (by omega) (by omega) (by omega) (by omega)
          omega
      simp only [tSeq, tRet, tRetN, tNext, tOp, tUn, tVar, tC, tAsg, gName, tIfS, tTest, tB, tNot, tNotV, tOr, tAnd, tAndV, tOrV, tChain, tCB, tCall, tCons, tNil, tLst, tDrop, tBM, tBM0, tSl, tNoPart, tPart, gSub, rI, rI0, rU, rIxL, cxOf, cxC, rEq, rNe, rEqL, rNeL, scal, L2.start, tComp, iList, iRng1, iRng2, iEnum, tYes, stC, List.map_cons, List.map_nil, List.cons_append, List.nil_append, List.append_nil, List.length_cons, List.length_nil, List.replicate_succ, List.replicate_zero, List.set_cons_zero, List.set_cons_succ, List.getElem?_cons_zero, List.getElem?_cons_succ, Option.some.injEq, List.cons.injEq, V.int.injEq, V.ref.injEq, V.bl.injEq, exists_eq_left, exists_eq_left', exists_and_left, true_and, and_true, Option.join_some, Option.join_none, Nat.reduceAdd, Nat.reduceSub, Nat.sub_self, Nat.sub_zero, List.length_map, Int.toNat_natCast, rSlL, rCat, rAppend, rReverse, rClear, rCount, rIndex, tTup, rRep, rIn, tDNewT, tDNotIn, sDPut, iZip, rInLL, rIndexLL]
      refine ⟨.inl ⟨by omega, by omega⟩, .inl ⟨by decide, by decide⟩, ite2 (fun c => ?_) fun c => ?_⟩
      · have c : j * (j + 1) < 2 * n := of_decide_eq_true c
        exact ⟨fun σ' H1 => ∃ m', m' < (20000 - j).toNat ∧ wLst a n H' m' σ' H1, fun _ _ z => z, _, by omega, rfl, j + 1, rfl, by omega, by rw [show j + 1 - 1 = j from by omega]; exact c, rfl⟩
      · have c : ¬ j * (j + 1) < 2 * n := fun z => c (decide_eq_true z)
        exact hR _ _ ⟨j, rfl, rfl, j1, j2, by omega⟩
    rintro σ4 H4 ⟨kk, rfl, rfl, hk⟩
    have k63 := hk.le63 a1
    have k1 := hk.1
    obtain ⟨r, e1, e2, e3⟩ := hk.rest
    obtain ⟨k', rfl⟩ : ∃ k' : Nat, kk = k' := ⟨kk.toNat, by omega⟩
    refine cut (fun σ H' => σ = [some (.ref a), some (.int n), some (.int k'), some (.int r), none, none, none, none] ∧ H' = H4) (fun R hR => ?_) ?_
    · simp only [tSeq, tRet, tRetN, tNext, tOp, tUn, tVar, tC, tAsg, gName, tIfS, tTest, tB, tNot, tNotV, tOr, tAnd, tAndV, tOrV, tChain, tCB, tCall, tCons, tNil, tLst, tDrop, tBM, tBM0, tSl, tNoPart, tPart, gSub, rI, rI0, rU, rIxL, cxOf, cxC, rEq, rNe, rEqL, rNeL, scal, L2.start, tComp, iList, iRng1, iRng2, iEnum, tYes, stC, List.map_cons, List.map_nil, List.cons_append, List.nil_append, List.append_nil, List.length_cons, List.length_nil, List.replicate_succ, List.replicate_zero, List.set_cons_zero, List.set_cons_succ, List.getElem?_cons_zero, List.getElem?_cons_succ, Option.some.injEq, List.cons.injEq, V.int.injEq, V.ref.injEq, V.bl.injEq, exists_eq_left, exists_eq_left', exists_and_left, true_and, and_true, Option.join_some, Option.join_none, Nat.reduceAdd, Nat.reduceSub, Nat.sub_self, Nat.sub_zero, List.length_map, Int.toNat_natCast, rSlL, rCat, rAppend, rReverse, rClear, rCount, rIndex, tTup, rRep, rIn, tDNewT, tDNotIn, sDPut, iZip, rInLL, rIndexLL]
      refine ⟨.inl ⟨by omega, by omega⟩, ⟨by decide, by decide⟩, ?_⟩
      rw [e1]; exact hR _ _ ⟨rfl, rfl⟩
    rintro σ5 H5 ⟨rfl, rfl⟩
    refine cut (fun σ H' => σ = [some (.ref a), some (.int n), some (.int k'), some (.int r), some (.int 0), none, none, none] ∧ H' = H5) (fun R hR => hR _ _ ⟨rfl, rfl⟩) ?_
    rintro σ6 H6 ⟨rfl, rfl⟩
    refine cut (fun σ H' => wTot a n k' r H6 k' σ H') (fun R hR => ?_) ?_
    · refine ⟨_, rfl, _, _, rfl, rfl, 1, (k' : Int) + 1, rfl, ⟨by omega, by omega, by omega, by omega⟩, for_range (lo := 1) (n := ((k' : Int) + 1 - 1).toNat) (wTot a n k' r H6) ⟨Same.refl _, none, none, rfl⟩ ?_ ?_⟩
      · rintro i σ H' hi ⟨sm, o1, o2, rfl⟩
        have hi : i < k' := by omega
        have ei : (1 : Int) + (i : Int) = ((i + 1 : Nat) : Int) := by omega
        have ek : (k' : Int) % (1 + (i : Int)) = ((k' % (i + 1) : Nat) : Int) := by rw [ei]; exact (Int.natCast_emod _ _).symm
        have er : (r : Int) % (1 + (i : Int)) = ((r % (i + 1) : Nat) : Int) := by rw [ei]; exact (Int.natCast_emod _ _).symm
        have fin : ∀ z : Nat, RC.part k' r i = z → ((((List.range (i + 1)).map (RC.part k' r)).sum : Nat) : Int) = ((((List.range i).map (RC.part k' r)).sum : Nat) : Int) + (z : Int) := fun z hz => by
          rw [List.range_succ, List.map_append, List.sum_append, List.map_singleton, List.sum_singleton, hz]; omega
        simp only [tSeq, tRet, tRetN, tNext, tOp, tUn, tVar, tC, tAsg, gName, tIfS, tTest, tB, tNot, tNotV, tOr, tAnd, tAndV, tOrV, tChain, tCB, tCall, tCons, tNil, tLst, tDrop, tBM, tBM0, tSl, tNoPart, tPart, gSub, rI, rI0, rU, rIxL, cxOf, cxC, rEq, rNe, rEqL, rNeL, scal, L2.start, tComp, iList, iRng1, iRng2, iEnum, tYes, stC, List.map_cons, List.map_nil, List.cons_append, List.nil_append, List.append_nil, List.length_cons, List.length_nil, List.replicate_succ, List.replicate_zero, List.set_cons_zero, List.set_cons_succ, List.getElem?_cons_zero, List.getElem?_cons_succ, Option.some.injEq, List.cons.injEq, V.int.injEq, V.ref.injEq, V.bl.injEq, exists_eq_left, exists_eq_left', exists_and_left, true_and, and_true, Option.join_some, Option.join_none, Nat.reduceAdd, Nat.reduceSub, Nat.sub_self, Nat.sub_zero, List.length_map, Int.toNat_natCast, rSlL, rCat, rAppend, rReverse, rClear, rCount, rIndex, tTup, rRep, rIn, tDNewT, tDNotIn, sDPut, iZip, rInLL, rIndexLL]
        refine ⟨by omega, ?_⟩
        rw [ek]
        by_cases c : k' % (i + 1) = 0
        · rw [if_pos (by simp [c])]
          refine ⟨by omega, ?_⟩
          rw [er]
          by_cases c2 : r % (i + 1) = 0
          · rw [if_pos (by simp [c2])]
            refine ⟨1, (1 + (i : Int)) + 1, ⟨rfl, rfl⟩, ⟨by omega, by omega, by omega, by omega⟩, fun D1 hD1 => ?_⟩
            refine comp_rangeI (lo := 1) ((1 + (i : Int)) + 1 - 1).toNat (fun j => decide (Nat.gcd j.toNat (i + 1) = 1)) id _ (small1000 (by omega)) hD1 (fun j j0 j1 H' Q' sm q => ?_) (fun j j0 j1 _ H' Q' sm q => ?_) ?_
            · simp only [tSeq, tRet, tRetN, tNext, tOp, tUn, tVar, tC, tAsg, gName, tIfS, tTest, tB, tNot, tNotV, tOr, tAnd, tAndV, tOrV, tChain, tCB, tCall, tCons, tNil, tLst, tDrop, tBM, tBM0, tSl, tNoPart, tPart, gSub, rI, rI0, rU, rIxL, cxOf, cxC, rEq, rNe, rEqL, rNeL, scal, L2.start, tComp, iList, iRng1, iRng2, iEnum, tYes, stC, List.map_cons, List.map_nil, List.cons_append, List.nil_append, List.append_nil, List.length_cons, List.length_nil, List.replicate_succ, List.replicate_zero, List.set_cons_zero, List.set_cons_succ, List.getElem?_cons_zero, List.getElem?_cons_succ, Option.some.injEq, List.cons.injEq, V.int.injEq, V.ref.injEq, V.bl.injEq, exists_eq_left, exists_eq_left', exists_and_left, true_and, and_true, Option.join_some, Option.join_none, Nat.reduceAdd, Nat.reduceSub, Nat.sub_self, Nat.sub_zero, List.length_map, Int.toNat_natCast, rSlL, rCat, rAppend, rReverse, rClear, rCount, rIndex, tTup, rRep, rIn, tDNewT, tDNotIn, sDPut, iZip, rInLL, rIndexLL]
              refine ⟨j.toNat, i + 1, by rw [ei, Int.toNat_of_nonneg (by omega)], rfl, ?_⟩
              have : decide (((Nat.gcd j.toNat (i + 1) : Nat) : Int) = 1) = decide (Nat.gcd j.toNat (i + 1) = 1) := decide_eq_decide.mpr (by omega)
              simpa [this] using q
            · simp only [tSeq, tRet, tRetN, tNext, tOp, tUn, tVar, tC, tAsg, gName, tIfS, tTest, tB, tNot, tNotV, tOr, tAnd, tAndV, tOrV, tChain, tCB, tCall, tCons, tNil, tLst, tDrop, tBM, tBM0, tSl, tNoPart, tPart, gSub, rI, rI0, rU, rIxL, cxOf, cxC, rEq, rNe, rEqL, rNeL, scal, L2.start, tComp, iList, iRng1, iRng2, iEnum, tYes, stC, List.map_cons, List.map_nil, List.cons_append, List.nil_append, List.append_nil, List.length_cons, List.length_nil, List.replicate_succ, List.replicate_zero, List.set_cons_zero, List.set_cons_succ, List.getElem?_cons_zero, List.getElem?_cons_succ, Option.some.injEq, List.cons.injEq, V.int.injEq, V.ref.injEq, V.bl.injEq, exists_eq_left, exists_eq_left', exists_and_left, true_and, and_true, Option.join_some, Option.join_none, Nat.reduceAdd, Nat.reduceSub, Nat.sub_self, Nat.sub_zero, List.length_map, Int.toNat_natCast, rSlL, rCat, rAppend, rReverse, rClear, rCount, rIndex, tTup, rRep, rIn, tDNewT, tDNotIn, sDPut, iZip, rInLL, rIndexLL]; exact q
            · rw [show ((1 + (i : Int)) + 1 - 1).toNat = i + 1 by omega]
              refine ⟨D1, rfl, _, .inl (SqL.of upd_same), ?_⟩
              rw [List.length_map, free_eq, ei]
              have l1 : RC.free (i + 1) ≤ i + 1 := by
                unfold RC.free
                refine Nat.le_trans (List.length_filter_le _ _) ?_
                rw [List.length_map, List.length_range]; exact Nat.le_refl _
              refine ⟨⟨by omega, by omega⟩, ⟨by omega, by omega⟩, k' / (i + 1), r / (i + 1), ?_, Nat.div_le_div_right (by omega), ?_, ?_⟩
              · rw [← Int.natCast_ediv, ← Int.natCast_ediv]
              · have := Nat.div_le_self k' (i + 1); omega
              · simp only [tSeq, tRet, tRetN, tNext, tOp, tUn, tVar, tC, tAsg, gName, tIfS, tTest, tB, tNot, tNotV, tOr, tAnd, tAndV, tOrV, tChain, tCB, tCall, tCons, tNil, tLst, tDrop, tBM, tBM0, tSl, tNoPart, tPart, gSub, rI, rI0, rU, rIxL, cxOf, cxC, rEq, rNe, rEqL, rNeL, scal, L2.start, tComp, iList, iRng1, iRng2, iEnum, tYes, stC, List.map_cons, List.map_nil, List.cons_append, List.nil_append, List.append_nil, List.length_cons, List.length_nil, List.replicate_succ, List.replicate_zero, List.set_cons_zero, List.set_cons_succ, List.getElem?_cons_zero, List.getElem?_cons_succ, Option.some.injEq, List.cons.injEq, V.int.injEq, V.ref.injEq, V.bl.injEq, exists_eq_left, exists_eq_left', exists_and_left, true_and, and_true, Option.join_some, Option.join_none, Nat.reduceAdd, Nat.reduceSub, Nat.sub_self, Nat.sub_zero, List.length_map, Int.toNat_natCast, rSlL, rCat, rAppend, rReverse, rClear, rCount, rIndex, tTup, rRep, rIn, tDNewT, tDNotIn, sDPut, iZip, rInLL, rIndexLL]
                refine ⟨.inl ⟨by omega, by omega⟩, sm.put' hD1, some (.int ((i + 1 : Nat) : Int)), some (.int (RC.free (i + 1) : Int)), ?_⟩
                rw [fin (RC.free (i + 1) * RC.chN (k' / (i + 1)) (r / (i + 1))) (by unfold RC.part; rw [if_pos ⟨c, c2⟩]), Int.natCast_mul]
          · rw [if_neg (by rw [decide_eq_true_eq]; omega)]
            exact ⟨sm, some (.int (1 + (i : Int))), o2, by rw [fin 0 (by unfold RC.part; rw [if_neg (by omega)])]; simp⟩
        · rw [if_neg (by rw [decide_eq_true_eq]; omega)]
          exact ⟨sm, some (.int (1 + (i : Int))), o2, by rw [fin 0 (by unfold RC.part; rw [if_neg (by omega)])]; simp⟩
      · rintro σ H' z
        rw [show ((k' : Int) + 1 - 1).toNat = k' by omega] at z
        exact hR _ _ z
    rintro σ7 H7 ⟨sm7, o1, o2, rfl⟩
    refine cut (fun σ H' => ∃ o1 o2, σ = [some (.ref a), some (.int n), some (.int k'), some (.int r), some (.int (RC.total k' r : Nat)), o1, o2, some (.int (RC.S k' r / k' : Nat))]) (fun R hR => ?_) ?_
    · simp only [tSeq, tRet, tRetN, tNext, tOp, tUn, tVar, tC, tAsg, gName, tIfS, tTest, tB, tNot, tNotV, tOr, tAnd, tAndV, tOrV, tChain, tCB, tCall, tCons, tNil, tLst, tDrop, tBM, tBM0, tSl, tNoPart, tPart, gSub, rI, rI0, rU, rIxL, cxOf, cxC, rEq, rNe, rEqL, rNeL, scal, L2.start, tComp, iList, iRng1, iRng2, iEnum, tYes, stC, List.map_cons, List.map_nil, List.cons_append, List.nil_append, List.append_nil, List.length_cons, List.length_nil, List.replicate_succ, List.replicate_zero, List.set_cons_zero, List.set_cons_succ, List.getElem?_cons_zero, List.getElem?_cons_succ, Option.some.injEq, List.cons.injEq, V.int.injEq, V.ref.injEq, V.bl.injEq, exists_eq_left, exists_eq_left', exists_and_left, true_and, and_true, Option.join_some, Option.join_none, Nat.reduceAdd, Nat.reduceSub, Nat.sub_self, Nat.sub_zero, List.length_map, Int.toNat_natCast, rSlL, rCat, rAppend, rReverse, rClear, rCount, rIndex, tTup, rRep, rIn, tDNewT, tDNotIn, sDPut, iZip, rInLL, rIndexLL]
      exact ⟨n, k', r, rfl, a0, a1, hk, e1, fun H' _ => hR _ _ ⟨o1, o2, rfl⟩⟩
    rintro σ8 H8 ⟨o1, o2, rfl⟩
    simp only [tSeq, tRet, tRetN, tNext, tOp, tUn, tVar, tC, tAsg, gName, tIfS, tTest, tB, tNot, tNotV, tOr, tAnd, tAndV, tOrV, tChain, tCB, tCall, tCons, tNil, tLst, tDrop, tBM, tBM0, tSl, tNoPart, tPart, gSub, rI, rI0, rU, rIxL, cxOf, cxC, rEq, rNe, rEqL, rNeL, scal, L2.start, tComp, iList, iRng1, iRng2, iEnum, tYes, stC, List.map_cons, List.map_nil, List.cons_append, List.nil_append, List.append_nil, List.length_cons, List.length_nil, List.replicate_succ, List.replicate_zero, List.set_cons_zero, List.set_cons_succ, List.getElem?_cons_zero, List.getElem?_cons_succ, Option.some.injEq, List.cons.injEq, V.int.injEq, V.ref.injEq, V.bl.injEq, exists_eq_left, exists_eq_left', exists_and_left, true_and, and_true, Option.join_some, Option.join_none, Nat.reduceAdd, Nat.reduceSub, Nat.sub_self, Nat.sub_zero, List.length_map, Int.toNat_natCast, rSlL, rCat, rAppend, rReverse, rClear, rCount, rIndex, tTup, rRep, rIn, tDNewT, tDNotIn, sDPut, iZip, rInLL, rIndexLL]
    refine ⟨_, rfl, true, rfl, ?_⟩
    rw [if_pos rfl]
    refine ⟨.inr ⟨by omega, by omega⟩, ?_⟩
    have e := RC.back (k := k') (r := r) (by omega) (by omega) e2 (by omega)
    rw [← Int.natCast_mul, e]
    simpa using k H8
end
theorem all_mk {l : PySem.W.OpenLaw} {w : World} {K : PySem.W.Frag} {h : Heap} {mg : Str → Option Value} {fa : Addr} (X : K.In h) (G : h.Ns mainGlobals mg) (hfa : mg "law" = some (.ref fa))
    {f0 : Addr} {od0 an0 : Option Addr} {sl0 : Array (Option Value)} {oc0 kV0 dc0 pm0 cd0 ct0 : Value} (a0 : PySem.W.nsIn K mainGlobals "stair_of" = some (some (.ref f0))) (l0 : K.lookup f0 = some ⟨oc0, od0, .func (PySem.W.fnOf "stair_of" "stair_of" (defArgs s_stair_of) (defBody s_stair_of) (defScope s_stair_of) .none kV0 dc0 pm0 an0 cd0 ct0), sl0⟩) (c0 : PySem.W.codeIn K cd0 "stair_of" = true) (k0 : PySem.W.keepIn K (.ref f0) = true)
    {f1 : Addr} {od1 an1 : Option Addr} {sl1 : Array (Option Value)} {oc1 kV1 dc1 pm1 cd1 ct1 : Value} (a1 : PySem.W.nsIn K mainGlobals "check_coins" = some (some (.ref f1))) (l1 : K.lookup f1 = some ⟨oc1, od1, .func (PySem.W.fnOf "check_coins" "check_coins" (defArgs s_check_coins) (defBody s_check_coins) (defScope s_check_coins) .none kV1 dc1 pm1 an1 cd1 ct1), sl1⟩) (c1 : PySem.W.codeIn K cd1 "check_coins" = true) (k1 : PySem.W.keepIn K (.ref f1) = true)
    {f2 : Addr} {od2 an2 : Option Addr} {sl2 : Array (Option Value)} {oc2 kV2 dc2 pm2 cd2 ct2 : Value} (a2 : PySem.W.nsIn K mainGlobals "rest_of" = some (some (.ref f2))) (l2 : K.lookup f2 = some ⟨oc2, od2, .func (PySem.W.fnOf "rest_of" "rest_of" (defArgs s_rest_of) (defBody s_rest_of) (defScope s_rest_of) .none kV2 dc2 pm2 an2 cd2 ct2), sl2⟩) (c2 : PySem.W.codeIn K cd2 "rest_of" = true) (k2 : PySem.W.keepIn K (.ref f2) = true)
    {f3 : Addr} {od3 an3 : Option Addr} {sl3 : Array (Option Value)} {oc3 kV3 dc3 pm3 cd3 ct3 : Value} (a3 : PySem.W.nsIn K mainGlobals "rings_many" = some (some (.ref f3))) (l3 : K.lookup f3 = some ⟨oc3, od3, .func (PySem.W.fnOf "rings_many" "rings_many" (defArgs s_rings_many) (defBody s_rings_many) (defScope s_rings_many) .none kV3 dc3 pm3 an3 cd3 ct3), sl3⟩) (c3 : PySem.W.codeIn K cd3 "rings_many" = true) (k3 : PySem.W.keepIn K (.ref f3) = true)
    {f4 : Addr} {od4 an4 : Option Addr} {sl4 : Array (Option Value)} {oc4 kV4 dc4 pm4 cd4 ct4 : Value} (a4 : PySem.W.nsIn K mainGlobals "many_again" = some (some (.ref f4))) (l4 : K.lookup f4 = some ⟨oc4, od4, .func (PySem.W.fnOf "many_again" "many_again" (defArgs s_many_again) (defBody s_many_again) (defScope s_many_again) .none kV4 dc4 pm4 an4 cd4 ct4), sl4⟩) (c4 : PySem.W.codeIn K cd4 "many_again" = true) (k4 : PySem.W.keepIn K (.ref f4) = true)
    {f5 : Addr} {od5 an5 : Option Addr} {sl5 : Array (Option Value)} {oc5 kV5 dc5 pm5 cd5 ct5 : Value} (a5 : PySem.W.nsIn K mainGlobals "greatest_part" = some (some (.ref f5))) (l5 : K.lookup f5 = some ⟨oc5, od5, .func (PySem.W.fnOf "greatest_part" "greatest_part" (defArgs s_greatest_part) (defBody s_greatest_part) (defScope s_greatest_part) .none kV5 dc5 pm5 an5 cd5 ct5), sl5⟩) (c5 : PySem.W.codeIn K cd5 "greatest_part" = true) (k5 : PySem.W.keepIn K (.ref f5) = true)
    {f6 : Addr} {od6 an6 : Option Addr} {sl6 : Array (Option Value)} {oc6 kV6 dc6 pm6 cd6 ct6 : Value} (a6 : PySem.W.nsIn K mainGlobals "many_choices" = some (some (.ref f6))) (l6 : K.lookup f6 = some ⟨oc6, od6, .func (PySem.W.fnOf "many_choices" "many_choices" (defArgs s_many_choices) (defBody s_many_choices) (defScope s_many_choices) .none kV6 dc6 pm6 an6 cd6 ct6), sl6⟩) (c6 : PySem.W.codeIn K cd6 "many_choices" = true) (k6 : PySem.W.keepIn K (.ref f6) = true)
    {f7 : Addr} {od7 an7 : Option Addr} {sl7 : Array (Option Value)} {oc7 kV7 dc7 pm7 cd7 ct7 : Value} (a7 : PySem.W.nsIn K mainGlobals "_law_cell" = some (some (.ref f7))) (l7 : K.lookup f7 = some ⟨oc7, od7, .func (PySem.W.fnOf "_law_cell" "_law_cell" (defArgs s__law_cell) (defBody s__law_cell) (defScope s__law_cell) .none kV7 dc7 pm7 an7 cd7 ct7), sl7⟩) (c7 : PySem.W.codeIn K cd7 "_law_cell" = true) (k7 : PySem.W.keepIn K (.ref f7) = true)
    {f8 : Addr} {od8 an8 : Option Addr} {sl8 : Array (Option Value)} {oc8 kV8 dc8 pm8 cd8 ct8 : Value} (a8 : PySem.W.nsIn K mainGlobals "_law_whole" = some (some (.ref f8))) (l8 : K.lookup f8 = some ⟨oc8, od8, .func (PySem.W.fnOf "_law_whole" "_law_whole" (defArgs s__law_whole) (defBody s__law_whole) (defScope s__law_whole) .none kV8 dc8 pm8 an8 cd8 ct8), sl8⟩) (c8 : PySem.W.codeIn K cd8 "_law_whole" = true) (k8 : PySem.W.keepIn K (.ref f8) = true)
    {f9 : Addr} {od9 an9 : Option Addr} {sl9 : Array (Option Value)} {oc9 kV9 dc9 pm9 cd9 ct9 : Value} (a9 : PySem.W.nsIn K mainGlobals "_law_common" = some (some (.ref f9))) (l9 : K.lookup f9 = some ⟨oc9, od9, .func (PySem.W.fnOf "_law_common" "_law_common" (defArgs s__law_common) (defBody s__law_common) (defScope s__law_common) .none kV9 dc9 pm9 an9 cd9 ct9), sl9⟩) (c9 : PySem.W.codeIn K cd9 "_law_common" = true) (k9 : PySem.W.keepIn K (.ref f9) = true)
    {f10 : Addr} {od10 an10 : Option Addr} {sl10 : Array (Option Value)} {oc10 kV10 dc10 pm10 cd10 ct10 : Value} (a10 : PySem.W.nsIn K mainGlobals "_law_chosen" = some (some (.ref f10))) (l10 : K.lookup f10 = some ⟨oc10, od10, .func (PySem.W.fnOf "_law_chosen" "_law_chosen" (defArgs s__law_chosen) (defBody s__law_chosen) (defScope s__law_chosen) .none kV10 dc10 pm10 an10 cd10 ct10), sl10⟩) (c10 : PySem.W.codeIn K cd10 "_law_chosen" = true) (k10 : PySem.W.keepIn K (.ref f10) = true)
    {f11 : Addr} {od11 an11 : Option Addr} {sl11 : Array (Option Value)} {oc11 kV11 dc11 pm11 cd11 ct11 : Value} (a11 : PySem.W.nsIn K mainGlobals "law" = some (some (.ref f11))) (l11 : K.lookup f11 = some ⟨oc11, od11, .func (PySem.W.fnOf "law" "law" (defArgs s_law) (defBody s_law) (defScope s_law) .none kV11 dc11 pm11 an11 cd11 ct11), sl11⟩) (c11 : PySem.W.codeIn K cd11 "law" = true) (k11 : PySem.W.keepIn K (.ref f11) = true)
    (z_len : PySem.W.nsIn K mainGlobals "len" = some none)
    (z_range : PySem.W.nsIn K mainGlobals "range" = some none)
    (z_sum : PySem.W.nsIn K mainGlobals "sum" = some none)
    (z_max : PySem.W.nsIn K mainGlobals "max" = some none)
    (z_isinstance : PySem.W.nsIn K mainGlobals "isinstance" = some none)
    (z_int : PySem.W.nsIn K mainGlobals "int" = some none)
    (z_bool : PySem.W.nsIn K mainGlobals "bool" = some none)
    {tk_MOST_FOR_MANY : Tok} (zc_MOST_FOR_MANY : PySem.W.nsIn K mainGlobals "MOST_FOR_MANY" = some (some (.int 2000 tk_MOST_FOR_MANY)))
    (kib : PySem.W.kitOne K (.type "int") (.type "bool") = some false) :
    ∃ fd : FuncData, (∀ (s : Shared) (v : Value), BindsTo s fd ⟨[v], []⟩ [("script", v)]) ∧ ∀ base : Heap, K.In base → base.Ns mainGlobals mg → FnOk l.prog w K mg base CX0 4 fa fd ["script"] (spLaw K) := by
  have e : fa = f11 := by
    have e := hfa.symm.trans (PySem.W.mg_of X G a11)
    cases e
    rfl
  have T : Txt K mg (cvOf (.int 2000 tk_MOST_FOR_MANY) .none .none .none .none .none, fun _ => 0) := ⟨PySem.W.mg_none_of X G z_len, PySem.W.mg_none_of X G z_range, PySem.W.mg_none_of X G z_sum, PySem.W.mg_none_of X G z_max, PySem.W.mg_none_of X G z_isinstance, PySem.W.mg_none_of X G z_int, PySem.W.mg_none_of X G z_bool, PySem.W.mg_of X G zc_MOST_FOR_MANY, ⟨_, rfl⟩, kib⟩
  have F0 := fun_mk (st := s_stair_of) l0 c0 k0
  have M_stair_of : Dfn K mg "stair_of" s_stair_of ["coins"] := ⟨f0, _, F0, PySem.W.mg_of X G a0, F0.binds (ps := ["coins"]) fun _ _ _ _ _ _ us hl => match us, hl with | [_], _ => rfl⟩
  have F1 := fun_mk (st := s_check_coins) l1 c1 k1
  have M_check_coins : Dfn K mg "check_coins" s_check_coins ["coins", "most"] := ⟨f1, _, F1, PySem.W.mg_of X G a1, F1.binds (ps := ["coins", "most"]) fun _ _ _ _ _ _ us hl => match us, hl with | [_, _], _ => rfl⟩
  have F2 := fun_mk (st := s_rest_of) l2 c2 k2
  have M_rest_of : Dfn K mg "rest_of" s_rest_of ["coins"] := ⟨f2, _, F2, PySem.W.mg_of X G a2, F2.binds (ps := ["coins"]) fun _ _ _ _ _ _ us hl => match us, hl with | [_], _ => rfl⟩
  have F3 := fun_mk (st := s_rings_many) l3 c3 k3
  have M_rings_many : Dfn K mg "rings_many" s_rings_many ["coins"] := ⟨f3, _, F3, PySem.W.mg_of X G a3, F3.binds (ps := ["coins"]) fun _ _ _ _ _ _ us hl => match us, hl with | [_], _ => rfl⟩
  have F4 := fun_mk (st := s_many_again) l4 c4 k4
  have M_many_again : Dfn K mg "many_again" s_many_again ["stair", "rest", "turns"] := ⟨f4, _, F4, PySem.W.mg_of X G a4, F4.binds (ps := ["stair", "rest", "turns"]) fun _ _ _ _ _ _ us hl => match us, hl with | [_, _, _], _ => rfl⟩
  have F5 := fun_mk (st := s_greatest_part) l5 c5 k5
  have M_greatest_part : Dfn K mg "greatest_part" s_greatest_part ["stair", "turns"] := ⟨f5, _, F5, PySem.W.mg_of X G a5, F5.binds (ps := ["stair", "turns"]) fun _ _ _ _ _ _ us hl => match us, hl with | [_, _], _ => rfl⟩
  have F6 := fun_mk (st := s_many_choices) l6 c6 k6
  have M_many_choices : Dfn K mg "many_choices" s_many_choices ["places", "ones"] := ⟨f6, _, F6, PySem.W.mg_of X G a6, F6.binds (ps := ["places", "ones"]) fun _ _ _ _ _ _ us hl => match us, hl with | [_, _], _ => rfl⟩
  have F7 := fun_mk (st := s__law_cell) l7 c7 k7
  have M__law_cell : Dfn K mg "_law_cell" s__law_cell ["script", "k"] := ⟨f7, _, F7, PySem.W.mg_of X G a7, F7.binds (ps := ["script", "k"]) fun _ _ _ _ _ _ us hl => match us, hl with | [_, _], _ => rfl⟩
  have F8 := fun_mk (st := s__law_whole) l8 c8 k8
  have M__law_whole : Dfn K mg "_law_whole" s__law_whole ["found"] := ⟨f8, _, F8, PySem.W.mg_of X G a8, F8.binds (ps := ["found"]) fun _ _ _ _ _ _ us hl => match us, hl with | [_], _ => rfl⟩
  have F9 := fun_mk (st := s__law_common) l9 c9 k9
  have M__law_common : Dfn K mg "_law_common" s__law_common ["one", "other"] := ⟨f9, _, F9, PySem.W.mg_of X G a9, F9.binds (ps := ["one", "other"]) fun _ _ _ _ _ _ us hl => match us, hl with | [_, _], _ => rfl⟩
  have F10 := fun_mk (st := s__law_chosen) l10 c10 k10
  have M__law_chosen : Dfn K mg "_law_chosen" s__law_chosen ["all_of", "some"] := ⟨f10, _, F10, PySem.W.mg_of X G a10, F10.binds (ps := ["all_of", "some"]) fun _ _ _ _ _ _ us hl => match us, hl with | [_, _], _ => rfl⟩
  have F11 := fun_mk (st := s_law) l11 c11 k11
  have M_law : Dfn K mg "law" s_law ["script"] := ⟨f11, _, F11, PySem.W.mg_of X G a11, F11.binds (ps := ["script"]) fun _ _ _ _ _ _ us hl => match us, hl with | [_], _ => rfl⟩
  refine ⟨PySem.W.fnOf "law" "law" (defArgs s_law) (defBody s_law) (defScope s_law) .none kV11 dc11 pm11 an11 cd11 ct11, fun s v => .of_eq rfl, fun base _ _ => ?_⟩
  have Dcell := d__law_cell (P := l.prog) (w := w) (base := base) M__law_cell T
  have Dwh := d__law_whole (P := l.prog) (w := w) (base := base) M__law_whole T
  have Dco := d__law_common (P := l.prog) (w := w) (base := base) M__law_common T
  have Dch := d__law_chosen (P := l.prog) (w := w) (base := base) M__law_chosen T
  have Dso := d_stair_of (P := l.prog) (w := w) (base := base) M_stair_of T
  have Dck := d_check_coins (P := l.prog) (w := w) (base := base) M_check_coins T
  have Dro := d_rest_of M_rest_of T Dso
  have Dmc := d_many_choices (P := l.prog) (w := w) (base := base) M_many_choices T
  have Dgp := d_greatest_part (P := l.prog) (w := w) (base := base) M_greatest_part T
  have Dma := d_many_again M_many_again T Dgp Dmc
  have Drm := d_rings_many M_rings_many T Dck Dso Dro Dma
  rw [e]
  exact d_law F11 T Dcell Dwh Dco Dch Drm
theorem walk {l : PySem.W.OpenLaw} {q : Program} {loose : List Str} {XP : (Str → Option Value) → Heap → Prop} {YP : World → Heap → Prop} {d : DefRec} {K : Params → PySem.W.Frag} (hn : l.most = some 63) (hdf : d.params.defaults = [])
    (hY : ∀ (w : World) (h : Heap), YP w h → (K w.params).In h)
    (F : ∀ (w : World) (mg : Str → Option Value) (fa : Addr) (h : Heap), (K w.params).In h → h.Ns mainGlobals mg → mg d.name = some (.ref fa) →
      ∃ fd : FuncData, (∀ (s : Shared) (u : Value), BindsTo s fd ⟨[u], []⟩ [("script", u)]) ∧ ∀ base : Heap, (K w.params).In base → base.Ns mainGlobals mg → FnOk l.prog w (K w.params) mg base CX0 4 fa fd ["script"] (spLaw (K w.params))) :
    PySem.W.WalkO q loose XP YP l.row.toRowW d [] (fun f vs => PySem.call f vs) :=
  L2.walk_of (n := 63) (k := 4) (x := "script") (CX := fun _ => CX0) (sp := fun w => spLaw (K w.params)) hn (by decide) hdf ⟨rfl, by decide, by decide⟩ hY F (fun _ _ a ns hl _ hS => ⟨a, ns, rfl, hS, hl, fun _ => rfl⟩) fun _ _ _ _ _ z => z
end My
open PySem PySem.W PyProof.Rows
set_option maxRecDepth 100000 in
set_option maxHeartbeats 0 in
theorem PySem.Challenge.cw_pilewheel_k15_rings_counted_holds : PySem.Challenge.rw_pilewheel_k15_rings_counted.Holds := by
  w_on; o_law; k_head; (case hw => w_witness2)
  k_fill
  refine My.walk (l := PySem.Challenge.rw_pilewheel_k15_rings_counted) rfl rfl (fun w h Y => PySem.W.kIn_of Y) ?F
  case F =>
    intro w mg fa h KX G hmg
    refine' My.all_mk KX G hmg ?a0 ?l0 ?c0 ?k0 ?a1 ?l1 ?c1 ?k1 ?a2 ?l2 ?c2 ?k2 ?a3 ?l3 ?c3 ?k3 ?a4 ?l4 ?c4 ?k4 ?a5 ?l5 ?c5 ?k5 ?a6 ?l6 ?c6 ?k6 ?a7 ?l7 ?c7 ?k7 ?a8 ?l8 ?c8 ?k8 ?a9 ?l9 ?c9 ?k9 ?a10 ?l10 ?c10 ?k10 ?a11 ?l11 ?c11 ?k11 ?z_len ?z_range ?z_sum ?z_max ?z_isinstance ?z_int ?z_bool ?zc_MOST_FOR_MANY ?kib
    (case a0 => k_is); (case l0 => k_is); (case c0 => k_is); (case k0 => k_is)
    (case a1 => k_is); (case l1 => k_is); (case c1 => k_is); (case k1 => k_is)
    (case a2 => k_is); (case l2 => k_is); (case c2 => k_is); (case k2 => k_is)
    (case a3 => k_is); (case l3 => k_is); (case c3 => k_is); (case k3 => k_is)
    (case a4 => k_is); (case l4 => k_is); (case c4 => k_is); (case k4 => k_is)
    (case a5 => k_is); (case l5 => k_is); (case c5 => k_is); (case k5 => k_is)
    (case a6 => k_is); (case l6 => k_is); (case c6 => k_is); (case k6 => k_is)
    (case a7 => k_is); (case l7 => k_is); (case c7 => k_is); (case k7 => k_is)
    (case a8 => k_is); (case l8 => k_is); (case c8 => k_is); (case k8 => k_is)
    (case a9 => k_is); (case l9 => k_is); (case c9 => k_is); (case k9 => k_is)
    (case a10 => k_is); (case l10 => k_is); (case c10 => k_is); (case k10 => k_is)
    (case a11 => k_is); (case l11 => k_is); (case c11 => k_is); (case k11 => k_is)
    (case z_len => k_is)
    (case z_range => k_is)
    (case z_sum => k_is)
    (case z_max => k_is)
    (case z_isinstance => k_is)
    (case z_int => k_is)
    (case z_bool => k_is)
    (case zc_MOST_FOR_MANY => k_is)
    (case kib => kit_is)

