import PyProof.Rows.All
import Wide.All
import OpenK.AllK
import Wide.FinOn
import Lean
import PyProof.EqAt
import PyProof.EqKinds
import PyProof.TupleCall
import PySem.Challenge.RW_pilewheel_k11_elders_of_few_coins
set_option Elab.async false
-- CHANGE: your row's module here, as the last of these rows
set_option Elab.async false
set_option linter.all false
set_option maxRecDepth 100000
/-! THE HAND LAYER, for ints, bools, texts, own classes, LISTS and tuples (index, slices, in, append, pop ..), calls, loops. Paste it whole ahead of your own text; what your proof does not reach may be deleted. -/
namespace L2
open PySem PySem.Spec PyProof.Rows

/-- a key: an int or a str -/
abbrev Key := Sum Int Str
def keyIs : Key → Value → Bool
  | .inl k, v => Value.isInt k v
  | .inr x, v => Value.isStrOf x v
def keyH (w : World) : Key → Int
  | .inl k => hashInt k
  | .inr x => hashStr w x
theorem keyIs_shape : ∀ {k : Key} {v : Value}, keyIs k v = true → (∃ i t, k = Sum.inl i ∧ v = Value.int i t) ∨ (∃ x t, k = Sum.inr x ∧ v = Value.str x t)
  | .inl i, v, h => by
    obtain ⟨t, e⟩ := Value.isInt_shape (k := i) (v := v) h
    exact .inl ⟨i, t, rfl, e⟩
  | .inr x, v, h => by
    obtain ⟨t, e⟩ := Value.isStrOf_shape (x := x) (v := v) h
    exact .inr ⟨x, t, rfl, e⟩
theorem key_ll (a b : Int) : decide ((Sum.inl a : Key) = Sum.inl b) = (a == b) := by
  by_cases e : a = b
  · subst e; simp
  · have h : ¬ (Sum.inl a : Key) = Sum.inl b := fun q => e (Sum.inl.inj q)
    rw [decide_eq_false h]
    exact (beq_eq_false_iff_ne.mpr e).symm
theorem key_rr (a b : Str) : decide ((Sum.inr a : Key) = Sum.inr b) = decide (a = b) := by
  by_cases e : a = b
  · subst e; simp
  · have h : ¬ (Sum.inr a : Key) = Sum.inr b := fun q => e (Sum.inr.inj q)
    rw [decide_eq_false h, decide_eq_false e]
theorem key_lr (a : Int) (b : Str) : decide ((Sum.inl a : Key) = Sum.inr b) = false := decide_eq_false (fun q => nomatch q)
theorem key_rl (a : Str) (b : Int) : decide ((Sum.inr a : Key) = Sum.inl b) = false := decide_eq_false (fun q => nomatch q)

def mixKind (prog : Program) (w : World) : PySem.KeyKind prog w Key where
  is := keyIs
  hash := keyH w
  inj := fun v a b ha hb => by
    rcases keyIs_shape ha with ⟨i, t, rfl, rfl⟩ | ⟨x, t, rfl, rfl⟩
    · rcases keyIs_shape hb with ⟨j, u, rfl, e⟩ | ⟨y, u, rfl, e⟩
      · injection e with e1 _; rw [e1]
      · exact nomatch e
    · rcases keyIs_shape hb with ⟨j, u, rfl, e⟩ | ⟨y, u, rfl, e⟩
      · exact nomatch e
      · injection e with e1 _; rw [e1]
  byValue := fun k v h => by
    rcases keyIs_shape h with ⟨i, t, rfl, rfl⟩ | ⟨x, t, rfl, rfl⟩ <;> rfl
  pyHash := fun hv h => by
    rcases keyIs_shape hv with ⟨i, t, rfl, rfl⟩ | ⟨x, t, rfl, rfl⟩
    · exact wpAny_pyHash_int h
    · exact wpAny_pyHash_str h
  eqBool := fun hu hv h => by
    rcases keyIs_shape hu with ⟨i, t, rfl, rfl⟩ | ⟨x, t, rfl, rfl⟩
    · rcases keyIs_shape hv with ⟨j, u, rfl, rfl⟩ | ⟨y, u, rfl, rfl⟩
      · rw [key_ll] at h; exact wpAny_eqBool_int h
      · rw [key_lr] at h; exact SeqAt.EqAt.int_str i t y u _ _ _ _ h
    · rcases keyIs_shape hv with ⟨j, u, rfl, rfl⟩ | ⟨y, u, rfl, rfl⟩
      · rw [key_rl] at h; exact SeqAt.EqAt.str_int x t j u _ _ _ _ h
      · rw [key_rr] at h; exact wpAny_eqBool_str h
  «strs» := fun k x t v h => by
    rcases keyIs_shape h with ⟨i, u, rfl, e⟩ | ⟨y, u, rfl, e⟩
    · exact nomatch e
    · injection e with e1 _
      subst e1
      cases v <;> rfl

end L2

namespace L2
open PySem PySem.Spec PyProof.Rows

/-- a value, without the heap -/
inductive V where
  | non | bl (b : Bool) | int (i : Int) | str (x : Str) | byt (b : Array UInt8) | flt (b : UInt64) | ref (a : Addr) | ty (n : String)
  deriving DecidableEq

def RelV : V → Value → Prop
  | .non, u => u = Value.none
  | .bl b, u => u = Value.bool b
  | .int i, u => ∃ t, u = Value.int i t
  | .str x, u => ∃ t, u = Value.str x t
  | .byt b, u => ∃ t, u = Value.bytes b t
  | .flt b, u => ∃ t, u = Value.float b t
  | .ref a, u => u = Value.ref a
  | .ty n, u => u = Value.type n

abbrev Vals : List V → List Value → Prop := Paired RelV
theorem Vals.length {xs : List V} {us : List Value} (r : Vals xs us) : xs.length = us.length := Paired.length r
theorem Vals.get : ∀ {xs : List V} {us : List Value} {i : Nat} {x : V}, Vals xs us → xs[i]? = some x → ∃ u, us[i]? = some u ∧ RelV x u
  | _, _, _, _, .nil, e => by simp at e
  | _, _, 0, _, .cons r _, e => by simp at e; subst e; exact ⟨_, rfl, r⟩
  | _, _, i + 1, x, .cons _ t, e => by
    obtain ⟨u, h1, h2⟩ := Vals.get (i := i) (x := x) t (by simpa using e)
    exact ⟨u, by simpa using h1, h2⟩
theorem Vals.set {x : V} {u : Value} (r : RelV x u) : ∀ {xs : List V} {us : List Value} (i : Nat), Vals xs us → Vals (xs.set i x) (us.set i u)
  | _, _, _, .nil => .nil
  | _, _, 0, .cons _ t => .cons r t
  | _, _, i + 1, .cons q t => .cons q (Vals.set r i t)
theorem Vals.append : ∀ {xs ys : List V} {us ws : List Value}, Vals xs us → Vals ys ws → Vals (xs ++ ys) (us ++ ws)
  | _, _, _, _, .nil, s => s
  | _, _, _, _, .cons r t, s => .cons r (Vals.append t s)
theorem Vals.take : ∀ {xs : List V} {us : List Value} (n : Nat), Vals xs us → Vals (xs.take n) (us.take n)
  | _, _, 0, _ => .nil
  | _, _, _ + 1, .nil => .nil
  | _, _, n + 1, .cons r t => .cons r (Vals.take n t)
theorem Vals.drop : ∀ {xs : List V} {us : List Value} (n : Nat), Vals xs us → Vals (xs.drop n) (us.drop n)
  | _, _, 0, r => r
  | _, _, _ + 1, .nil => .nil
  | _, _, n + 1, .cons _ t => Vals.drop n t
def RelO : Option V → Option Value → Prop
  | some v, some u => RelV v u
  | none, none => True
  | _, _ => False
def KV {κ : Type} : List (κ × V) → List (κ × Value) → Prop := Paired fun (p : κ × V) (q : κ × Value) => p.1 = q.1 ∧ RelV p.2 q.2

/-- a key of a dict (00_mix): an int or a text -/
def kV : Key → V
  | .inl i => .int i
  | .inr x => .str x

/-- what stands at a tracked address -/
inductive HO where
  /-- a list -/
  | lst (xs : List V)
  /-- a tuple (never changes) -/
  | tup (xs : List V)
  /-- a dict whose keys are ints and texts; one whose keys are tuples of ints and texts (the empty one is both) -/
  | dK (kvs : List (Key × V)) | dT (kvs : List (List Key × V))
  /-- a set of ints: its members, its size -/
  | set (S : Int → Bool) (n : Nat)
  /-- an instance of the class at C, its dict at dx, its attributes -/
  | ins (C dx : Addr) (fs : List (Str × V))
  /-- the dict of the instance at x -/
  | own (x : Addr)
  /-- the dict of an exception -/
  | xd (fs : List (Str × V))
  /-- a bound method, f of x -/
  | met (f x : Addr)
  /-- a range object lo, lo + 1, .. below hi -/
  | rng (lo hi : Int)
  /-- a thing that is known to the object (the script; a dict while a loop walks it): read, never written while it is so -/
  | frz (o : Obj) (u : HO)
  /-- a code object's table -/
  | tbl (ps : Array Value)
  /-- any other thing, by what is true of its one object (a def of one's own: SetO a S n := HO.ext fun h => ..) -/
  | ext (φ : Heap → Prop)

abbrev Hp := Addr → Option HO
def upd (H : Hp) (a : Addr) (o : HO) : Hp := fun b => if b = a then some o else H b
theorem upd_same {H : Hp} {a : Addr} {o : HO} : upd H a o a = some o := by unfold upd; rw [if_pos rfl]
theorem upd_ne {H : Hp} {a b : Addr} {o : HO} (h : b ≠ a) : upd H a o b = H b := by unfold upd; rw [if_neg h]
theorem upd_upd {H : Hp} {a : Addr} {o u : HO} : upd (upd H a o) a u = upd H a u := by
  funext b; unfold upd; split <;> rfl
theorem ne_of_none {H : Hp} {a b : Addr} {o : HO} (h : H a = some o) (h' : H b = none) : a ≠ b := by
  intro e; subst e; rw [h] at h'; cases h'

section
variable (P : Program) (w : World)
def ObjOk (H : Hp) (h : Heap) (a : Addr) : HO → Prop
  | .lst xs => xs.length ≤ sizeLine ∧ ∃ (its : List Value) (n : Nat), Vals xs its ∧ h.get? a = some { cls := .type "list", data := .seq its.toArray n }
  | .tup xs => xs.length ≤ sizeLine ∧ ∃ its : List Value, Vals xs its ∧ IsTup h a its.toArray
  | .dK kvs => kvs.length ≤ sizeLine ∧ (a == sysModules) = false ∧ ∃ vs, KV kvs vs ∧ h.DictOf (mixKind P w) a vs
  | .dT kvs => kvs.length ≤ sizeLine ∧ (a == sysModules) = false ∧ ∃ xs : List (List Key × Addr × Value),
      Paired (fun (p : List Key × V) (q : List Key × Addr × Value) => p.1 = q.1 ∧ H q.2.1 = some (.tup (p.1.map kV)) ∧ RelV p.2 q.2.2) kvs xs ∧
      ∃ o es ep, h.get? a = some o ∧ o.ExactDict ∧ o.data = .dict es ep ∧ es.toList = xs.map (entryOfKey (tupleKind (mixKind P w))) ∧ (xs.map (·.1)).Nodup
  | .set S n => h.SetOf (intKind P w) a S n
  | .ins C dx fs => H dx = some (.own a) ∧ fs.length ≤ 1000 ∧ dx ≠ a ∧ h.get? a = some (PySem.W.instObj C dx) ∧
      ∃ mA, h.Ns1 dx mA ∧ (∀ f, RelO (fs.lookup f) (mA f)) ∧ PySem.Within mA (fs.map (·.1))
  | .own _ => ∃ o, h.get? a = some o
  | .xd fs => ∃ mA, h.Ns1 a mA ∧ ∀ f, RelO (fs.lookup f) (mA f)
  | .rng lo hi => ∃ t u v, h.get? a = some { cls := .type "range", data := .fields #[.int lo t, .int hi u, .int 1 v] }
  | .frz o u => h.get? a = some o ∧ ObjOk H h a u
  | .tbl ps => h.get? a = some { cls := .none, data := .fields ps }
  | .met f x => h.get? a = some (PySem.W.methodObj (.ref f) (.ref x))
  | .ext φ => φ h ∧ (∃ o, h.get? a = some o) ∧ ∀ h1 h2 : Heap, φ h1 → (∀ o, h1.get? a = some o → h2.get? a = some o) → φ h2
/-- the abstract heap is held -/
def HOk (H : Hp) (h : Heap) : Prop := ∀ a o, H a = some o → ObjOk P w H h a o
end

section
variable {P : Program} {w : World} {H H' : Hp} {h h' : Heap} {a : Addr} {o : HO}
theorem ObjOk.lt (x : ObjOk P w H h a o) : a < h.objs.size := by
  cases o with
  | lst xs => obtain ⟨_, _, _, _, e⟩ := x; exact Heap.lt_size e
  | tup xs => obtain ⟨_, _, _, p⟩ := x; exact p.lt
  | dK kvs => obtain ⟨_, _, _, _, o, _, _, e, _⟩ := x; exact Heap.lt_size e
  | dT kvs => obtain ⟨_, _, _, _, o, _, _, e, _⟩ := x; exact Heap.lt_size e
  | set S n => obtain ⟨o, _, _, _, e, _⟩ := x; exact Heap.lt_size e
  | ins C dx fs => obtain ⟨_, _, _, e, _⟩ := x; exact Heap.lt_size e
  | own y => obtain ⟨_, e⟩ := x; exact Heap.lt_size e
  | xd fs => obtain ⟨_, ⟨_, _, _, e, _⟩, _⟩ := x; exact Heap.lt_size e
  | rng lo hi => obtain ⟨_, _, _, e⟩ := x; exact Heap.lt_size e
  | frz ob u => obtain ⟨e, _⟩ := x; exact Heap.lt_size e
  | tbl ps => exact Heap.lt_size (show h.get? a = some _ from x)
  | met f y => exact Heap.lt_size (show h.get? a = some _ from x)
  | ext φ => obtain ⟨_, ⟨_, e⟩, _⟩ := x; exact Heap.lt_size e
theorem Paired.mapP {α β : Type} {F G : α → β → Prop} : ∀ {l₁ : List α} {l₂ : List β}, Paired F l₁ l₂ → (∀ a b, F a b → G a b) → Paired G l₁ l₂
  | _, _, .nil, _ => .nil
  | _, _, .cons r t, f => .cons (f _ _ r) (Paired.mapP t f)
/-- what an object's description leans on: its own object, its own dict, the tuples -/
theorem ObjOk.stay (x : ObjOk P w H h a o) (k : ∀ b u, (b = a ∨ H b = some (.own a)) → h.get? b = some u → h'.get? b = some u)
    (ho : ∀ b, H b = some (.own a) → H' b = some (.own a)) (ht : ∀ b xs, H b = some (.tup xs) → H' b = some (.tup xs)) : ObjOk P w H' h' a o := by
  induction o with
  | lst xs => obtain ⟨z, its, n, r, e⟩ := x; exact ⟨z, its, n, r, k _ _ (.inl rfl) e⟩
  | tup xs => obtain ⟨z, its, r, ob, e, c⟩ := x; exact ⟨z, its, r, ob, k _ _ (.inl rfl) e, c⟩
  | dK kvs => obtain ⟨z, y, vs, r, ob, es, ep, e, c⟩ := x; exact ⟨z, y, vs, r, ob, es, ep, k _ _ (.inl rfl) e, c⟩
  | dT kvs =>
    obtain ⟨z, y, xs, r, ob, es, ep, e, c⟩ := x
    exact ⟨z, y, xs, Paired.mapP r fun p q z => ⟨z.1, ht _ _ z.2.1, z.2.2⟩, ob, es, ep, k _ _ (.inl rfl) e, c⟩
  | set S n => obtain ⟨ob, es, ep, t, e, c⟩ := x; exact ⟨ob, es, ep, t, k _ _ (.inl rfl) e, c⟩
  | ins C dx fs =>
    obtain ⟨d, z, ne, e, mA, ⟨od, es, ep, e2, c⟩, r⟩ := x
    exact ⟨ho _ d, z, ne, k _ _ (.inl rfl) e, mA, ⟨od, es, ep, k _ _ (.inr d) e2, c⟩, r⟩
  | own y => obtain ⟨ob, e⟩ := x; exact ⟨ob, k _ _ (.inl rfl) e⟩
  | xd fs => obtain ⟨mA, ⟨od, es, ep, e, c⟩, r⟩ := x; exact ⟨mA, ⟨od, es, ep, k _ _ (.inl rfl) e, c⟩, r⟩
  | rng lo hi => obtain ⟨t, u, v, e⟩ := x; exact ⟨t, u, v, k _ _ (.inl rfl) e⟩
  | frz ob u ih => obtain ⟨e, q⟩ := x; exact ⟨k _ _ (.inl rfl) e, ih q⟩
  | tbl ps =>
    have e : h.get? a = some { cls := .none, data := .fields ps } := x
    show h'.get? a = some { cls := .none, data := .fields ps }
    exact k a _ (.inl rfl) e
  | met f y =>
    have e : h.get? a = some (PySem.W.methodObj (.ref f) (.ref y)) := x
    show h'.get? a = some (PySem.W.methodObj (.ref f) (.ref y))
    exact k a _ (.inl rfl) e
  | ext φ => obtain ⟨p, ⟨o, e⟩, st⟩ := x; exact ⟨st _ _ p fun o q => k _ _ (.inl rfl) q, ⟨o, k _ _ (.inl rfl) e⟩, st⟩
theorem HOk.lt (x : HOk P w H h) (e : H a = some o) : a < h.objs.size := (x a o e).lt
theorem HOk.fresh (x : HOk P w H h) (e : h.objs.size ≤ a) : H a = none := by
  cases q : H a with
  | none => rfl
  | some u => exact absurd (Nat.lt_of_lt_of_le (x.lt q) e) (Nat.lt_irrefl _)
/-- every object of the heap is kept -/
theorem HOk.kept (x : HOk P w H h) (k : ∀ b u, h.get? b = some u → h'.get? b = some u) : HOk P w H h' := fun a o e =>
  (x a o e).stay (fun b u _ q => k b u q) (fun _ q => q) fun _ _ q => q
/-- a new object is laid and tracked -/
theorem HOk.laid (x : HOk P w H h) (k : ∀ b u, h.get? b = some u → h'.get? b = some u) (hp : h.objs.size ≤ a) (new : ObjOk P w (upd H a o) h' a o) : HOk P w (upd H a o) h' := fun b u e => by
  have hn := x.fresh hp
  by_cases hb : b = a
  · subst hb; rw [upd_same] at e; cases e; exact new
  · rw [upd_ne hb] at e
    exact (x b u e).stay (fun c v _ q => k c v q) (fun c q => by rw [upd_ne (ne_of_none q hn)]; exact q) fun c xs q => by rw [upd_ne (ne_of_none q hn)]; exact q
end

/-- what may be read as u: it is u, or a known u -/
def Rd (H : Hp) (a : Addr) (u : HO) : Prop := H a = some u ∨ ∃ o, H a = some (.frz o u)
theorem Rd.ok {P : Program} {w : World} {H : Hp} {h : Heap} {a : Addr} {u : HO} (r : Rd H a u) (x : HOk P w H h) : ObjOk P w H h a u := by
  rcases r with r | ⟨o, r⟩
  · exact x a u r
  · obtain ⟨_, q⟩ := x a _ r
    exact q
/-- what may be written -/
def Mut : Option HO → Prop
  | some (.lst _) => True
  | some (.dK _) => True
  | some (.dT _) => True
  | some (.set _ _) => True
  | some (.ins _ _ _) => True
  | some (.ext _) => True
  | _ => False
section
variable {P : Program} {w : World} {H : Hp} {h h' : Heap} {x e : Addr} {o' : HO}
/-- the object at e is changed: x itself, or the dict of the instance x -/
theorem HOk.write (ok : HOk P w H h) (mu : Mut (H x)) (he : e = x ∨ H e = some (.own x)) (k : ∀ b u, b ≠ e → h.get? b = some u → h'.get? b = some u) (heo : ∃ u, h'.get? e = some u)
    (new : ObjOk P w (upd H x o') h' x o') : HOk P w (upd H x o') h' := fun b u q => by
  have nown : ∀ c y, H c = some (.own y) → c ≠ x := fun c y r z => by subst z; rw [r] at mu; exact mu
  have ntup : ∀ c xs, H c = some (.tup xs) → c ≠ x := fun c xs r z => by subst z; rw [r] at mu; exact mu
  by_cases hb : b = x
  · subst hb; rw [upd_same] at q; cases q; exact new
  · rw [upd_ne hb] at q
    by_cases hbe : b = e
    · have q' : H b = some (.own x) := by
        rcases he with z | z
        · exact absurd (hbe.trans z) hb
        · rw [hbe]; exact z
      rw [q] at q'; cases q'
      obtain ⟨v, hv⟩ := heo
      exact ⟨v, by rw [hbe]; exact hv⟩
    · refine (ok b u q).stay (fun c v hc r => k c v ?_ r) (fun c r => by rw [upd_ne (nown c b r)]; exact r) fun c xs r => by rw [upd_ne (ntup c xs r)]; exact r
      rcases hc with rfl | hc
      · exact hbe
      · rintro rfl
        rcases he with z | z
        · exact nown c b hc z
        · rw [hc] at z; cases z; exact hb rfl
end

/-! ### kept unless tracked; of the frames at fs (the callers') the slots may change (an exception that passes writes there); of the records at ex (iterators) nothing is said -/
structure Un (fs ex : List Addr) (H H' : Hp) (h h' : Heap) : Prop where
  keep : ∀ b o, h.get? b = some o → H b = none → b ∉ fs → b ∉ ex → h'.get? b = some o
  slot : ∀ b o, h.get? b = some o → H b = none → b ∈ fs → b ∉ ex → ∃ sl, h'.get? b = some { o with slots := sl }
  free : ∀ b o, h.get? b = some o → H b = none → b ∉ ex → H' b = none
  there : ∀ b o, h.get? b = some o → b ∉ ex → ∃ o', h'.get? b = some o'
  tups : ∀ b xs, H b = some (.tup xs) → H' b = some (.tup xs)
  frzs : ∀ b o u, H b = some (.frz o u) → H' b = some (.frz o u)
  tbls : ∀ b ps, H b = some (.tbl ps) → ∃ more, H' b = some (.tbl (ps ++ more))
section
variable {fs fs' ex ex' : List Addr} {H H1 H2 : Hp} {h h1 h2 h' : Heap} {a x e : Addr} {o : HO}
theorem Un.any (u : Un fs ex H H1 h h1) {b : Addr} {ob : Obj} (q : h.get? b = some ob) (n : H b = none) (hx : b ∉ ex) : ∃ sl, h1.get? b = some { ob with slots := sl } := by
  by_cases hb : b ∈ fs
  · exact u.slot b ob q n hb hx
  · exact ⟨ob.slots, u.keep b ob q n hb hx⟩
theorem Un.kept (k : ∀ b u, h.get? b = some u → h'.get? b = some u) : Un fs ex H H h h' :=
  ⟨fun b ob q _ _ _ => k b ob q, fun b ob q _ _ _ => ⟨ob.slots, k b ob q⟩, fun _ _ _ n _ => n, fun b ob q _ => ⟨ob, k b ob q⟩, fun _ _ q => q, fun _ _ _ q => q, fun _ ps q => ⟨#[], by rw [q]; simp⟩⟩
theorem Un.refl : Un fs ex H H h h := Un.kept fun _ _ q => q
theorem Un.laid (k : ∀ b u, h.get? b = some u → h'.get? b = some u) (hp : h.objs.size ≤ a) (hn : H a = none) : Un fs ex H (upd H a o) h h' where
  keep := fun b u q _ _ _ => k b u q
  slot := fun b u q _ _ _ => ⟨u.slots, k b u q⟩
  free := fun b u q n _ => by rw [upd_ne (Nat.ne_of_lt (Nat.lt_of_lt_of_le (Heap.lt_size q) hp))]; exact n
  there := fun b u q _ => ⟨u, k b u q⟩
  tups := fun b xs q => by rw [upd_ne (ne_of_none q hn)]; exact q
  frzs := fun b u xs q => by rw [upd_ne (ne_of_none q hn)]; exact q
  tbls := fun b ps q => ⟨#[], by rw [upd_ne (ne_of_none q hn), q]; simp⟩
theorem Un.write (mu : Mut (H x)) (he : e = x ∨ H e = some (.own x)) (k : ∀ b u, b ≠ e → h.get? b = some u → h'.get? b = some u) (heo : ∃ u, h'.get? e = some u) : Un fs ex H (upd H x o) h h' := by
  have hx : ∀ b, H b = none → b ≠ x := fun b n z => by subst z; rw [n] at mu; exact mu
  have hb : ∀ b, H b = none → b ≠ e := fun b n z => by
    subst z
    rcases he with r | r
    · exact hx b n r
    · rw [n] at r; cases r
  have hm : ∀ b u, H b = some u → ¬ Mut (some u) → b ≠ x := fun b u q nm z => by subst z; rw [q] at mu; exact nm mu
  refine ⟨fun b u q n _ _ => k b u (hb b n) q, fun b u q n _ _ => ⟨u.slots, k b u (hb b n) q⟩, fun b u q n _ => by rw [upd_ne (hx b n)]; exact n, fun b u q _ => ?_,
    fun b xs q => by rw [upd_ne (hm b _ q fun z => z)]; exact q, fun b u xs q => by rw [upd_ne (hm b _ q fun z => z)]; exact q, fun b ps q => ⟨#[], by rw [upd_ne (hm b _ q fun z => z), q]; simp⟩⟩
  by_cases hbe : b = e
  · subst hbe; exact heo
  · exact ⟨u, k b u hbe q⟩
end

/-! ### the heap without what is tracked -/
def trk (h : Heap) (H : Hp) : List Addr := (List.range h.objs.size).filter fun a => (H a).isSome
def hidT (h : Heap) (H : Hp) : Heap := PySem.W.hideAll h (trk h H)
theorem hidT_size (h : Heap) (H : Hp) : (hidT h H).objs.size = h.objs.size := PySem.W.hideAll_size _ _
theorem hidT_get {h : Heap} {H : Hp} {b : Addr} {o : Obj} (e : h.get? b = some o) (n : H b = none) : (hidT h H).get? b = some o :=
  PySem.W.hideAll_get _ e fun hm => by
    have q : (H b).isSome = true := (List.mem_filter.mp hm).2
    rw [n] at q; simp at q
theorem of_hidT {h : Heap} {H : Hp} {b : Addr} {o : Obj} (e : (hidT h H).get? b = some o) : h.get? b = some o ∧ H b = none := by
  have e' : h.get? b = some o := PySem.W.of_hideAll (trk h H) e
  refine ⟨e', ?_⟩
  cases q : H b with
  | none => rfl
  | some x =>
    have hm : b ∈ trk h H := List.mem_filter.mpr ⟨List.mem_range.mpr (Heap.lt_size e'), by simp [q]⟩
    have z : (hidT h H).get? b = none := PySem.W.hideAll_none (trk h H) hm
    rw [z] at e; cases e

/-! ### OpenK's ledger, filled with every new object but one -/
def allNews (g h : Heap) (L : Addr) : List (Addr × Obj) := (List.range h.objs.size).filterMap fun a => if a = L ∨ (g.get? a).isSome = true then none else (h.get? a).map fun o => (a, o)
def rest (g h : Heap) (L d : Addr) : List (Addr × Obj) := (allNews g h L).filter fun p => decide (p.1 ≠ d)
end L2

namespace L2
open PySem PySem.Spec PyProof.Rows

/-- the module's facts, over the base: the heap at the law's entry without what is tracked there -/
structure Mod (K : PySem.W.Frag) (mg : Str → Option Value) (base : Heap) : Prop where
  kin : K.In base
  glob : base.Ns mainGlobals mg
  blt : ∃ mb, base.Ns builtinsNs mb ∧ ∀ x : Str, x ≠ "__name__" → mb x = bootBuiltins x
  nolimit : base.NoLimit

/-- the context: a def's body (or a comprehension's block) running. base: fixed through the whole law; s₀, H₀: the entry; outer: the frames whose slots others may change (a def's callers); stack: all frames that run;
   ex: iterators that were made ahead of the entry and are walked here (a comprehension's); fn: the names whose cells were made at the entry (a def: all; a comprehension's block: its own); calm: not within an except suite; pn: pins that every state bears; xe: what is wanted of an exception that leaves the code -/
structure Cx where
  prog : Program
  w : World
  K : PySem.W.Frag
  mg : Str → Option Value
  base : Heap
  A : Around
  N : List Str
  s₀ : Shared
  H₀ : Hp
  env : Env
  outer : List Env
  stack : List Env
  ex : List Addr
  fn : Str → Bool
  calm : Bool
  pn : List (Addr × Obj)
  xe : Value → Shared → Prop
/-- the callers' frames -/
def frs (l : List Env) : List Addr := l.filterMap (·.frame)
abbrev Cx.fs (X : Cx) : List Addr := frs X.outer

def Vis (sc : Scope) (x : Str) : Prop := sc.names.lookup x = some .local ∨ sc.names.lookup x = some .cell ∨ sc.names.lookup x = some .free
def Loc (sc : Scope) (x : Str) : Prop := sc.names.lookup x = some .local ∨ sc.names.lookup x = some .cell
def Look (env : Env) (h : Heap) (m : Str → Option Value) (x : Str) (u : Value) : Prop :=
  (env.kindOf x = some .local ∧ m x = some u) ∨ ((env.kindOf x = some .cell ∨ env.kindOf x = some .free) ∧ ∃ c, env.cells.lookup x = some c ∧ h.IsCell c (some u))

structure Cx.Ok (X : Cx) : Prop where
  mod : Mod X.K X.mg X.base
  kind : X.env.scope.kind = .function
  glob : X.env.globals = mainGlobals
  blt : X.env.builtins = builtinsNs
  above : X.s₀.heap.objs.size ≤ X.env.locals
  inj : ∀ x y c, X.env.cells.lookup x = some c → X.env.cells.lookup y = some c → x = y
  has : ∀ x, (X.env.kindOf x = some .cell ∨ X.env.kindOf x = some .free) → ∃ c, X.env.cells.lookup x = some c
  cab : ∀ x c, X.fn x = true → X.env.cells.lookup x = some c → X.s₀.heap.objs.size ≤ c
  hd : X.calm = true → X.A.handled = none
  frames : X.A.frames = some X.stack
  stk : X.stack = X.outer ∨ (X.stack = X.env :: X.outer ∧ X.env.frame = some X.env.locals)
  exf : ∀ b ∈ X.ex, b ≠ X.env.locals ∧ ∀ x c, X.env.cells.lookup x = some c → c ≠ b
  bs : ∀ b o, X.base.get? b = some o → X.s₀.heap.get? b = some o ∧ X.H₀ b = none
  bsz : X.base.objs.size ≤ X.s₀.heap.objs.size
  noex : ∀ b o, X.base.get? b = some o → b ∉ X.ex
  exfs : ∀ b ∈ X.ex, b ∉ X.fs
  funs : X.s₀.heap.FunFrames X.base X.outer
  frf : ∀ b ∈ X.fs, X.H₀ b = none

structure Inv (X : Cx) (pins : List (Addr × Obj)) (σ : List (Option V)) (H : Hp) (s : Shared) : Prop where
  ok : X.Ok
  os : s.os = X.s₀.os
  bare : AllBare s.gens
  base : Un X.fs X.ex X.H₀ H X.s₀.heap s.heap
  loc : ∃ m, s.heap.Ns X.env.locals m ∧ ∀ (i : Nat) (x : Str) (v : V), X.N[i]? = some x → σ[i]? = some (some v) → Vis X.env.scope x → ∃ u, RelV v u ∧ Look X.env s.heap m x u
  cell : ∀ x c, X.env.cells.lookup x = some c → ∃ v, s.heap.IsCell c v
  free : H X.env.locals = none
  freeC : ∀ x c, X.env.cells.lookup x = some c → H c = none
  pin : ∀ p ∈ X.pn ++ pins, s.heap.get? p.1 = some p.2 ∧ H p.1 = none ∧ p.1 ≠ X.env.locals ∧ p.1 ∉ X.fs ∧ ∀ v, p.2.data ≠ .cell v
  hok : HOk X.prog X.w H s.heap
  len : σ.length = X.N.length

section
variable {X : Cx} {pins : List (Addr × Obj)} {σ : List (Option V)} {H H' : Hp} {s : Shared} {h' : Heap}

theorem Cx.Ok.nofr (ok : X.Ok) {b : Addr} {o : Obj} (e : X.base.get? b = some o) : b ∉ X.fs := fun hb => by
  have := (ok.funs.mem hb).1
  rw [e] at this; cases this
theorem Inv.bs (I : Inv X pins σ H s) : ∀ b o, X.base.get? b = some o → s.heap.get? b = some o ∧ H b = none := fun b o e =>
  ⟨I.base.keep b o (I.ok.bs b o e).1 (I.ok.bs b o e).2 (I.ok.nofr e) (I.ok.noex b o e), I.base.free b o (I.ok.bs b o e).1 (I.ok.bs b o e).2 (I.ok.noex b o e)⟩
theorem Inv.bk (I : Inv X pins σ H s) : ∀ b o, X.base.get? b = some o → s.heap.get? b = some o := fun b o e => (I.bs b o e).1
theorem Inv.mod (I : Inv X pins σ H s) : Mod X.K X.mg X.base := I.ok.mod
theorem Inv.kIn (I : Inv X pins σ H s) : X.K.In s.heap := I.ok.mod.kin.keeps I.bk
/-- the frame over the base: for OpenK's rules (K.In X.base is I.mod.kin) -/
theorem Inv.fr (I : Inv X pins σ H s) : ∃ m, Fr X.base X.env.locals s.heap m :=
  let ⟨m, hn, _⟩ := I.loc
  ⟨m, hn, I.bk, Nat.le_trans I.ok.bsz I.ok.above⟩
theorem Inv.lt (I : Inv X pins σ H s) : X.env.locals < s.heap.objs.size := let ⟨_, hn, _⟩ := I.loc; hn.lt
theorem Inv.sz (I : Inv X pins σ H s) : X.s₀.heap.objs.size ≤ s.heap.objs.size := Nat.le_trans I.ok.above (Nat.le_of_lt I.lt)
theorem Inv.nofs (I : Inv X pins σ H s) {a : Addr} (h : s.heap.objs.size ≤ a) : a ∉ X.fs := fun hb => by
  obtain ⟨_, o, ho, _⟩ := I.ok.funs.mem hb
  exact absurd (Nat.lt_of_lt_of_le (Heap.lt_size ho) (Nat.le_trans I.sz h)) (Nat.lt_irrefl _)
theorem Inv.cne (I : Inv X pins σ H s) : ∀ x c, X.env.cells.lookup x = some c → c ≠ X.env.locals := fun x c e z => by
  obtain ⟨v, o, ho, hd⟩ := I.cell x c e
  obtain ⟨m, ⟨o', es, ep, ho', hd', _⟩, _⟩ := I.loc
  rw [z, ho'] at ho; cases ho; rw [hd'] at hd; cases hd
theorem Inv.funs (I : Inv X pins σ H s) : s.heap.FunFrames X.base X.outer := by
  have all : ∀ (l : List Env), (∀ b ∈ frs l, b ∈ X.fs) → X.s₀.heap.FunFrames X.base l → s.heap.FunFrames X.base l := by
    intro l
    induction l with
    | nil => intro _ _; trivial
    | cons env r ih =>
      intro hs hl
      obtain ⟨hk, ⟨L, o, hf, hn, ho, hd⟩, hr⟩ := hl
      have hL : L ∈ X.fs := hs L (by unfold frs; rw [List.filterMap_cons, hf]; exact List.mem_cons_self)
      obtain ⟨sl, e⟩ := I.base.slot L o ho (I.ok.frf L hL) hL fun z => I.ok.exfs L z hL
      exact ⟨hk, ⟨L, _, hf, hn, e, hd⟩, ih (fun b hb => hs b (by unfold frs; rw [List.filterMap_cons, hf]; exact List.mem_cons_of_mem _ hb)) hr⟩
  exact all X.outer (fun _ hb => hb) I.ok.funs

/-- the frames that run, for a call -/
theorem Inv.stack (I : Inv X pins σ H s) : s.heap.FunFrames X.base X.stack := by
  rcases I.ok.stk with e | ⟨e, hf⟩
  · rw [e]; exact I.funs
  · rw [e]
    obtain ⟨m, hn, _⟩ := I.loc
    refine .cons (by rw [I.ok.kind]; decide) hf hn ?_ I.funs
    exact Heap.get?_none_of_le (Nat.le_trans I.ok.bsz I.ok.above)
theorem Inv.stkSub (I : Inv X pins σ H s) : ∀ b ∈ frs X.stack, b ∈ X.env.locals :: X.fs := fun b hb => by
  rcases I.ok.stk with e | ⟨e, hf⟩
  · rw [e] at hb; exact List.mem_cons_of_mem _ hb
  · rw [e] at hb
    unfold frs at hb
    rw [List.filterMap_cons, hf] at hb
    exact hb
theorem Inv.stkFree (I : Inv X pins σ H s) : ∀ b ∈ frs X.stack, H b = none := fun b hb => by
  rcases List.mem_cons.mp (I.stkSub b hb) with e | hb
  · rw [e]; exact I.free
  · obtain ⟨_, o, ho, _⟩ := I.ok.funs.mem hb
    exact I.base.free b o ho (I.ok.frf b hb) fun z => I.ok.exfs b z hb

/-- THE STEP: the untracked objects but the frame and the records at ch are kept (the callers' frames up to slots), the frame's map is kept, the new abstract heap is held -/
theorem Inv.step {g' : Array GenState} {t' : Nat} {d' : Drawn} {ch : List Addr} (I : Inv X pins σ H s)
    (hch : ∀ b ∈ ch, (b ∈ X.ex ∨ X.s₀.heap.objs.size ≤ b) ∧ b ≠ X.env.locals ∧ (∀ x c, X.env.cells.lookup x = some c → c ≠ b) ∧ ∀ p ∈ X.pn ++ pins, p.1 ≠ b)
    (keep : ∀ b o, b ≠ X.env.locals → b ∉ X.fs → b ∉ ch → s.heap.get? b = some o → H b = none → h'.get? b = some o)
    (slot : ∀ b o, b ≠ X.env.locals → b ∈ X.fs → b ∉ ch → s.heap.get? b = some o → H b = none → ∃ sl, h'.get? b = some { o with slots := sl }) (free : ∀ b o, b ∉ ch → s.heap.get? b = some o → H b = none → H' b = none)
    (there : ∀ b o, b ∉ ch → s.heap.get? b = some o → ∃ o', h'.get? b = some o')
    (tups : ∀ b xs, H b = some (.tup xs) → H' b = some (.tup xs)) (frzs : ∀ b o u, H b = some (.frz o u) → H' b = some (.frz o u)) (tbls : ∀ b ps, H b = some (.tbl ps) → ∃ more, H' b = some (.tbl (ps ++ more)))
    (ns : ∀ m, s.heap.Ns X.env.locals m → h'.Ns X.env.locals m) (hok : HOk X.prog X.w H' h') (hg : AllBare g') :
    Inv X pins σ H' { s with heap := h', gens := g', drawn := d', toks := t' } := by
  have neL : ∀ b o, X.s₀.heap.get? b = some o → b ≠ X.env.locals := fun b o e => Nat.ne_of_lt (Nat.lt_of_lt_of_le (Heap.lt_size e) I.ok.above)
  have neC : ∀ b o, X.s₀.heap.get? b = some o → b ∉ X.ex → b ∉ ch := fun b o e hx hb => by
    rcases (hch b hb).1 with z | z
    · exact hx z
    · exact absurd (Nat.lt_of_lt_of_le (Heap.lt_size e) z) (Nat.lt_irrefl _)
  have cellK : ∀ x c, X.env.cells.lookup x = some c → ∀ v, s.heap.IsCell c v → h'.IsCell c v := fun x c e v ⟨o, ho, hd⟩ => by
    have nch : c ∉ ch := fun z => (hch c z).2.2.1 x c e rfl
    by_cases hc : c ∈ X.fs
    · obtain ⟨sl, q⟩ := slot c o (I.cne x c e) hc nch ho (I.freeC x c e)
      exact ⟨_, q, hd⟩
    · exact ⟨o, keep c o (I.cne x c e) hc nch ho (I.freeC x c e), hd⟩
  refine ⟨I.ok, I.os, hg, ⟨fun b o e n hb hx => ?_, fun b o e n hb hx => ?_, fun b o e n hx => ?_, fun b o e hx => ?_, fun b xs e => tups b xs (I.base.tups b xs e), fun b o xs e => frzs b o xs (I.base.frzs b o xs e), fun b ps e => ?_⟩, ?_, fun x c e => ?_, ?_, fun x c e => ?_, fun p hp => ?_, hok, I.len⟩
  · exact keep b o (neL b o e) hb (neC b o e hx) (I.base.keep b o e n hb hx) (I.base.free b o e n hx)
  · obtain ⟨sl, e1⟩ := I.base.slot b o e n hb hx
    obtain ⟨sl', e2⟩ := slot b _ (neL b o e) hb (neC b o e hx) e1 (I.base.free b o e n hx)
    exact ⟨sl', e2⟩
  · obtain ⟨o', e1⟩ := I.base.there b o e hx
    exact free b o' (neC b o e hx) e1 (I.base.free b o e n hx)
  · obtain ⟨o', e1⟩ := I.base.there b o e hx
    exact there b o' (neC b o e hx) e1
  · obtain ⟨m1, e1⟩ := I.base.tbls b ps e
    obtain ⟨m2, e2⟩ := tbls b _ e1
    exact ⟨m1 ++ m2, by rw [e2, Array.append_assoc]⟩
  · obtain ⟨m, hn, hl⟩ := I.loc
    refine ⟨m, ns m hn, fun i x v e1 e2 e3 => ?_⟩
    obtain ⟨u, r, l⟩ := hl i x v e1 e2 e3
    refine ⟨u, r, ?_⟩
    rcases l with l | ⟨k, c, e, z⟩
    · exact .inl l
    · exact .inr ⟨k, c, e, cellK x c e _ z⟩
  · obtain ⟨v, z⟩ := I.cell x c e
    exact ⟨v, cellK x c e v z⟩
  · obtain ⟨m, ⟨o, _, _, ho, _⟩, _⟩ := I.loc
    exact free _ o (fun z => (hch _ z).2.1 rfl) ho I.free
  · obtain ⟨v, o, ho, hd⟩ := I.cell x c e
    exact free c o (fun z => (hch c z).2.2.1 x c e rfl) ho (I.freeC x c e)
  · obtain ⟨e, n, ne, nf, d⟩ := I.pin p hp
    have nch : p.1 ∉ ch := fun z => (hch p.1 z).2.2.2 p hp rfl
    exact ⟨keep p.1 p.2 ne nf nch e n, free p.1 p.2 nch e n, ne, nf, d⟩
/-- .. where the frame's own object is kept too -/
theorem Inv.un {t' : Nat} (I : Inv X pins σ H s) (u : Un X.fs [] H H' s.heap h') (hok : HOk X.prog X.w H' h') : Inv X pins σ H' { s with heap := h', toks := t' } := by
  obtain ⟨m, ⟨o, es, ep, ho, r⟩, _⟩ := id I.loc
  obtain ⟨sl, hL⟩ := u.any ho I.free (by simp)
  exact I.step (g' := s.gens) (d' := s.drawn) (ch := []) (fun _ z => nomatch z) (fun b o _ hb _ e n => u.keep b o e n hb (by simp)) (fun b o _ hb _ e n => u.slot b o e n hb (by simp)) (fun b o _ e n => u.free b o e n (by simp)) (fun b o _ e => u.there b o e (by simp)) u.tups u.frzs u.tbls (fun m' hm => by
    obtain ⟨o', es', ep', ho', r'⟩ := hm
    rw [ho] at ho'; cases ho'
    exact ⟨_, es', ep', hL, r'⟩) hok I.bare
/-- behind a call (or a comprehension's block): the slots of this frame may have changed too, the records at ch may have turned -/
theorem Inv.call {g' : Array GenState} {t' : Nat} {d' : Drawn} {ch : List Addr} (I : Inv X pins σ H s) (u : Un (frs X.stack) ch H H' s.heap h') (hok : HOk X.prog X.w H' h') (hg : AllBare g')
    (hch : ∀ b ∈ ch, (b ∈ X.ex ∨ X.s₀.heap.objs.size ≤ b) ∧ b ≠ X.env.locals ∧ (∀ x c, X.env.cells.lookup x = some c → c ≠ b) ∧ ∀ p ∈ X.pn ++ pins, p.1 ≠ b) :
    Inv X pins σ H' { s with heap := h', gens := g', drawn := d', toks := t' } := by
  obtain ⟨m, ⟨o, es, ep, ho, r⟩, _⟩ := id I.loc
  obtain ⟨sl, hL⟩ := u.any ho I.free fun z => (hch _ z).2.1 rfl
  exact I.step (ch := ch) hch (fun b o hL hb hc e n => u.keep b o e n (fun z => (List.mem_cons.mp (I.stkSub b z)).elim hL hb) hc) (fun b o _ _ hc e n => u.any e n hc) (fun b o hc e n => u.free b o e n hc) (fun b o hc e => u.there b o e hc) u.tups u.frzs u.tbls (fun m' hm => by
    obtain ⟨o', es', ep', ho', r'⟩ := hm
    rw [ho] at ho'; cases ho'
    exact ⟨_, es', ep', hL, r'⟩) hok hg
/-- an untracked record of ours (an iterator) has turned -/
theorem Inv.turned {t' : Nat} {it : Addr} (I : Inv X pins σ H s) (k : ∀ b o, b ≠ it → s.heap.get? b = some o → h'.get? b = some o) (hn : H it = none) (hL : it ≠ X.env.locals)
    (h1 : it ∈ X.ex ∨ X.s₀.heap.objs.size ≤ it) (h2 : ∀ x c, X.env.cells.lookup x = some c → c ≠ it) (h3 : ∀ p ∈ X.pn ++ pins, p.1 ≠ it) : Inv X pins σ H { s with heap := h', toks := t' } := by
  have nit : ∀ b u, H b = some u → b ≠ it := fun b u e z => by rw [z, hn] at e; cases e
  refine I.step (g' := s.gens) (d' := s.drawn) (ch := [it]) (fun b hb => ?_) (fun b o _ _ hc e _ => k b o (fun z => hc (by simp [z])) e) (fun b o _ _ hc e _ => ⟨o.slots, k b o (fun z => hc (by simp [z])) e⟩) (fun _ _ _ _ n => n)
    (fun b o hc e => ⟨o, k b o (fun z => hc (by simp [z])) e⟩) (fun _ _ e => e) (fun _ _ _ e => e) (fun b ps e => ⟨#[], by rw [e]; simp⟩) (fun m hm => ?_) (fun b u e => ?_) I.bare
  · have e : b = it := by simpa using hb
    subst e
    exact ⟨h1, hL, h2, h3⟩
  · obtain ⟨o, es, ep, ho, r⟩ := hm
    exact ⟨o, es, ep, k _ o (Ne.symm hL) ho, r⟩
  · refine (I.hok b u e).stay (fun c v hc q => k c v ?_ q) (fun _ q => q) fun _ _ q => q
    rcases hc with z | z
    · rw [z]; exact nit b u e
    · exact nit c _ z
theorem Inv.tok (I : Inv X pins σ H s) (t : Nat) : Inv X pins σ H { s with toks := t } := I.un (h' := s.heap) (t' := t) Un.refl I.hok
/-- all objects kept -/
theorem Inv.kept {t' : Nat} (I : Inv X pins σ H s) (k : ∀ b u, s.heap.get? b = some u → h'.get? b = some u) : Inv X pins σ H { s with heap := h', toks := t' } := I.un (Un.kept k) (I.hok.kept k)
/-- a new object laid and tracked -/
theorem Inv.laid {a : Addr} {o : HO} {t' : Nat} (I : Inv X pins σ H s) (k : ∀ b u, s.heap.get? b = some u → h'.get? b = some u) (hp : s.heap.objs.size ≤ a) (new : ObjOk X.prog X.w (upd H a o) h' a o) :
    Inv X pins σ (upd H a o) { s with heap := h', toks := t' } := I.un (Un.laid k hp (I.hok.fresh hp)) (I.hok.laid k hp new)
/-- an object written -/
theorem Inv.write {x e : Addr} {o : HO} {t' : Nat} (I : Inv X pins σ H s) (mu : Mut (H x)) (he : e = x ∨ H e = some (.own x)) (k : ∀ b u, b ≠ e → s.heap.get? b = some u → h'.get? b = some u) (heo : ∃ u, h'.get? e = some u)
    (new : ObjOk X.prog X.w (upd H x o) h' x o) : Inv X pins σ (upd H x o) { s with heap := h', toks := t' } := I.un (Un.write mu he k heo) (I.hok.write mu he k heo new)
theorem Inv.pins_of {pins' : List (Addr × Obj)} (I : Inv X pins σ H s) (h : ∀ p ∈ pins', s.heap.get? p.1 = some p.2 ∧ H p.1 = none ∧ p.1 ≠ X.env.locals ∧ p.1 ∉ X.fs ∧ ∀ v, p.2.data ≠ .cell v) : Inv X pins' σ H s :=
  ⟨I.ok, I.os, I.bare, I.base, I.loc, I.cell, I.free, I.freeC, fun p hp => (List.mem_append.mp hp).elim (fun z => I.pin p (List.mem_append_left _ z)) (h p), I.hok, I.len⟩

theorem nodup_ix {N : List Str} (hN : N.Nodup) {i j : Nat} {x : Str} (a : N[i]? = some x) (b : N[j]? = some x) : i = j := by
  obtain ⟨h1, e1⟩ := List.getElem?_eq_some_iff.mp a
  obtain ⟨h2, e2⟩ := List.getElem?_eq_some_iff.mp b
  exact (List.getElem_inj hN).mp (e1.trans e2.symm)

/-- a name is stored; what changed -/
theorem store_ok2 {M : Model} {A : Around} {E : Value → Shared → Prop} {i : Nat} {x : Str} {v : V} {u : Value} {Q : Unit → Shared → Prop} (I : Inv X pins σ H s) (hN : X.N.Nodup) (hi : X.N[i]? = some x) (hx : Loc X.env.scope x) (r : RelV v u)
    (h : ∀ s', Inv X pins (σ.set i (some v)) H s' → (∃ a, Heap.SameBut a s.heap s'.heap ∧ (a = X.env.locals ∨ X.env.cells.lookup x = some a)) → Q () s') (hf : X.fn x = true ∨ X.env.scope.names.lookup x = some .local := by first | exact .inl rfl | exact .inr rfl | assumption) : wpAny M A (storeName X.env x u) Q E s := by
  obtain ⟨m, hn, hl⟩ := id I.loc
  have hcls : (X.env.scope.kind == .class || (X.env.scope.kind == .module && X.env.locals != X.env.globals)) = false := by rw [I.ok.kind]; rfl
  have hiσ : i < σ.length := by rw [I.len]; exact (List.getElem?_eq_some_iff.mp hi).1
  have cne := I.cne
  have tracked : ∀ {a : Addr} {h' : Heap}, (∃ o, s.heap.get? a = some o ∧ H a = none) → Heap.SameBut a s.heap h' → HOk X.prog X.w H h' := fun {a h'} ha hs b ob e => by
    obtain ⟨_, _, hfree⟩ := ha
    refine (I.hok b ob e).stay (fun c w' hc q => (hs.2 c ?_).trans q) (fun _ q => q) fun _ _ q => q
    rintro rfl
    rcases hc with rfl | hc
    · rw [hfree] at e; cases e
    · rw [hfree] at hc; cases hc
  rcases hx with hk | hk
  · refine wpAny_storeName_local hk hn (fun h' hn' hs => ?_) hcls
    obtain ⟨oL, _, _, hoL, _⟩ := id hn
    refine h _ ⟨I.ok, I.os, I.bare, ⟨fun b o e n hb hx => ?_, fun b o e n hb hx => ?_, I.base.free, fun b o e hx => ?_, I.base.tups, I.base.frzs, I.base.tbls⟩, ⟨_, hn', fun j y v' e1 e2 e3 => ?_⟩, fun y c e => ?_, I.free, I.freeC, fun p hp => ?_, tracked ⟨oL, hoL, I.free⟩ hs, by simpa using I.len⟩ ⟨_, hs, .inl rfl⟩
    · exact (hs.2 b (Nat.ne_of_lt (Nat.lt_of_lt_of_le (Heap.lt_size e) I.ok.above))).trans (I.base.keep b o e n hb hx)
    · obtain ⟨sl, e1⟩ := I.base.slot b o e n hb hx
      exact ⟨sl, (hs.2 b (Nat.ne_of_lt (Nat.lt_of_lt_of_le (Heap.lt_size e) I.ok.above))).trans e1⟩
    · obtain ⟨o', e1⟩ := I.base.there b o e hx
      exact ⟨o', (hs.2 b (Nat.ne_of_lt (Nat.lt_of_lt_of_le (Heap.lt_size e) I.ok.above))).trans e1⟩
    · by_cases hj : j = i
      · subst hj
        rw [hi] at e1; cases e1
        rw [List.getElem?_set_self hiσ] at e2
        cases e2
        exact ⟨u, r, .inl ⟨hk, by simp⟩⟩
      · rw [List.getElem?_set_ne (Ne.symm hj)] at e2
        obtain ⟨u', r', q⟩ := hl j y v' e1 e2 e3
        refine ⟨u', r', ?_⟩
        rcases q with ⟨k, e⟩ | ⟨k, c, e, z⟩
        · refine .inl ⟨k, ?_⟩
          have : y ≠ x := fun e => hj (nodup_ix hN e1 (e ▸ hi))
          simp [this, e]
        · exact .inr ⟨k, c, e, z.sameBut hs (cne y c e)⟩
    · obtain ⟨w', z⟩ := I.cell y c e
      exact ⟨w', z.sameBut hs (cne y c e)⟩
    · obtain ⟨e, n, ne, nf, d⟩ := I.pin p hp
      exact ⟨(hs.2 p.1 ne).trans e, n, ne, nf, d⟩
  · have hfn : X.fn x = true := by
      rcases hf with z | z
      · exact z
      · rw [z] at hk; cases hk
    obtain ⟨c, hc⟩ := I.ok.has x (.inl hk)
    obtain ⟨w', z⟩ := I.cell x c hc
    refine wpAny_storeName_cell I.ok.kind hk hc z (fun h' hc' hs => ?_)
    obtain ⟨oc, hoc, hocd⟩ := id z
    refine h { s with heap := h' } ⟨I.ok, I.os, I.bare, ⟨fun b o e n hb hx => ?_, fun b o e n hb hx => ?_, I.base.free, fun b o e hx => ?_, I.base.tups, I.base.frzs, I.base.tbls⟩, ⟨m, hn.sameBut hs (Ne.symm (cne x c hc)), fun j y v' e1 e2 e3 => ?_⟩, fun y c' e => ?_, I.free, I.freeC, fun p hp => ?_, tracked ⟨oc, hoc, I.freeC x c hc⟩ hs, by simpa using I.len⟩ ⟨c, hs, .inr hc⟩
    · exact (hs.2 b (Nat.ne_of_lt (Nat.lt_of_lt_of_le (Heap.lt_size e) (I.ok.cab x c hfn hc)))).trans (I.base.keep b o e n hb hx)
    · obtain ⟨sl, e1⟩ := I.base.slot b o e n hb hx
      exact ⟨sl, (hs.2 b (Nat.ne_of_lt (Nat.lt_of_lt_of_le (Heap.lt_size e) (I.ok.cab x c hfn hc)))).trans e1⟩
    · obtain ⟨o', e1⟩ := I.base.there b o e hx
      exact ⟨o', (hs.2 b (Nat.ne_of_lt (Nat.lt_of_lt_of_le (Heap.lt_size e) (I.ok.cab x c hfn hc)))).trans e1⟩
    · by_cases hj : j = i
      · subst hj
        rw [hi] at e1; cases e1
        rw [List.getElem?_set_self hiσ] at e2
        cases e2
        exact ⟨u, r, .inr ⟨.inl hk, c, hc, hc'⟩⟩
      · rw [List.getElem?_set_ne (Ne.symm hj)] at e2
        obtain ⟨u', r', q⟩ := hl j y v' e1 e2 e3
        refine ⟨u', r', ?_⟩
        rcases q with q | ⟨k, c', e, z'⟩
        · exact .inl q
        · refine .inr ⟨k, c', e, z'.sameBut hs ?_⟩
          rintro rfl
          exact hj (nodup_ix hN e1 (I.ok.inj _ _ _ e hc ▸ hi))
    · by_cases hcc : c' = c
      · subst hcc; exact ⟨_, hc'⟩
      · obtain ⟨w2, z2⟩ := I.cell y c' e
        exact ⟨w2, z2.sameBut hs hcc⟩
    · obtain ⟨e, n, ne, nf, d⟩ := I.pin p hp
      refine ⟨(hs.2 p.1 ?_).trans e, n, ne, nf, d⟩
      intro q
      rw [q, hoc] at e
      have q' : oc = p.2 := Option.some.inj e
      exact d w' (by rw [← q']; exact hocd)
theorem store_ok {M : Model} {A : Around} {E : Value → Shared → Prop} {i : Nat} {x : Str} {v : V} {u : Value} {Q : Unit → Shared → Prop} (I : Inv X pins σ H s) (hN : X.N.Nodup) (hi : X.N[i]? = some x) (hx : Loc X.env.scope x) (r : RelV v u)
    (h : ∀ s', Inv X pins (σ.set i (some v)) H s' → Q () s') (hf : X.fn x = true ∨ X.env.scope.names.lookup x = some .local := by first | exact .inl rfl | exact .inr rfl | assumption) : wpAny M A (storeName X.env x u) Q E s :=
  store_ok2 I hN hi hx r (fun s' I' _ => h s' I') hf
/-- behind a call or a block, the state as it is -/
theorem Inv.call' {s' : Shared} {ch : List Addr} (I : Inv X pins σ H s) (ho : s'.os = s.os) (u : Un (frs X.stack) ch H H' s.heap s'.heap) (hok : HOk X.prog X.w H' s'.heap) (hg : AllBare s'.gens)
    (hch : ∀ b ∈ ch, (b ∈ X.ex ∨ X.s₀.heap.objs.size ≤ b) ∧ b ≠ X.env.locals ∧ (∀ x c, X.env.cells.lookup x = some c → c ≠ b) ∧ ∀ p ∈ X.pn ++ pins, p.1 ≠ b) : Inv X pins σ H' s' := by
  obtain ⟨h', g', d', t', o'⟩ := s'
  have e : o' = s.os := ho
  subst e
  exact I.call (g' := g') (t' := t') (d' := d') u hok hg hch
end

/-! ### the judgements -/
/-- an exception: its class, its own dict's address (where it has one), the abstract heap behind it -/
abbrev XK := Value → Option Addr → Hp → Prop
abbrev St := List (Option V)
abbrev VK := V → Hp → Prop
/-- an expression's reading; a test's; an argument list's -/
abbrev TE := St → Hp → VK → Prop
abbrev TT := St → Hp → (Bool → Hp → Prop) → Prop
abbrev TA := St → Hp → (List V → Hp → Prop) → Prop
/-- what is wanted behind a statement -/
structure Ends where
  nx : St → Hp → Prop
  rt : VK
  bk : St → Hp → Prop := fun _ _ => False
  ct : St → Hp → Prop := fun _ _ => False
abbrev TS := Ends → St → Hp → Prop

def EP (X : Cx) (pins : List (Addr × Obj)) (σ : St) (Q : VK) (u : Value) (s' : Shared) : Prop := ∃ v H', Inv X pins σ H' s' ∧ RelV v u ∧ Q v H'
def TP (X : Cx) (pins : List (Addr × Obj)) (σ : St) (Q : Bool → Hp → Prop) (b : Bool) (s' : Shared) : Prop := ∃ H', Inv X pins σ H' s' ∧ Q b H'
def AP (X : Cx) (pins : List (Addr × Obj)) (σ : St) (Q : List V → Hp → Prop) (us : List Value) (s' : Shared) : Prop := ∃ vs H', Inv X pins σ H' s' ∧ Vals vs us ∧ Q vs H'
def SP (X : Cx) (pins : List (Addr × Obj)) (D : Ends) (f : Flow) (s' : Shared) : Prop :=
  match f with
  | .next => ∃ σ' H', Inv X pins σ' H' s' ∧ D.nx σ' H'
  | .brk => ∃ σ' H', Inv X pins σ' H' s' ∧ D.bk σ' H'
  | .cont => ∃ σ' H', Inv X pins σ' H' s' ∧ D.ct σ' H'
  | .ret u => ∃ v σ' H', Inv X pins σ' H' s' ∧ RelV v u ∧ D.rt v H'

def PE (X : Cx) (e : Expr) (t : TE) : Prop :=
  ∀ (pins : List (Addr × Obj)) (s : Shared) (σ : St) (H : Hp) (Q : VK), Inv X pins σ H s → t σ H Q → wpAny (model X.prog X.w) X.A (eval e X.env) (EP X pins σ Q) X.xe s
def PT (X : Cx) (e : Expr) (t : TT) : Prop :=
  ∀ (pins : List (Addr × Obj)) (s : Shared) (σ : St) (H : Hp) (Q : Bool → Hp → Prop), Inv X pins σ H s → t σ H Q → wpAny (model X.prog X.w) X.A (isTrue e X.env (eval e X.env)) (TP X pins σ Q) X.xe s
/-- a test whatever its 'whole' is (and, or) -/
def PW (X : Cx) (e : Expr) (t : TT) : Prop :=
  ∀ (whole : Sem Value) (pins : List (Addr × Obj)) (s : Shared) (σ : St) (H : Hp) (Q : Bool → Hp → Prop), Inv X pins σ H s → t σ H Q → wpAny (model X.prog X.w) X.A (isTrue e X.env whole) (TP X pins σ Q) X.xe s
theorem PW.pt {X : Cx} {e : Expr} {t : TT} (h : PW X e t) : PT X e t := h _
/-- an argument list (no star), from the left -/
def PA (X : Cx) (es : List Expr) (t : TA) : Prop :=
  ∀ (pos : Pos) (pins : List (Addr × Obj)) (s : Shared) (σ : St) (H : Hp) (Q : List V → Hp → Prop), Inv X pins σ H s → t σ H Q → wpAny (model X.prog X.w) X.A (spliced (backTo pos (starEach es X.env))) (AP X pins σ Q) X.xe s
def PS (X : Cx) (st : Stmt) (t : TS) : Prop :=
  ∀ (pins : List (Addr × Obj)) (s : Shared) (σ : St) (H : Hp) (D : Ends), Inv X pins σ H s → t D σ H → wpAny (model X.prog X.w) X.A (exec st X.env) (SP X pins D) X.xe s
def PSs (X : Cx) (st : List Stmt) (t : TS) : Prop :=
  ∀ (pins : List (Addr × Obj)) (s : Shared) (σ : St) (H : Hp) (D : Ends), Inv X pins σ H s → t D σ H → wpAny (model X.prog X.w) X.A (execs st X.env) (SP X pins D) X.xe s
/-- weaken the end -/
theorem thn {α : Type} {t : Sem α} {Q Q' : α → Shared → Prop} {M : Model} {A : Around} {E : Value → Shared → Prop} {s : Shared} (h : wpAny M A t Q E s) (hQ : ∀ a s, Q a s → Q' a s) : wpAny M A t Q' E s := wpAny_mono h hQ fun _ _ x => x
end L2

namespace L2
open PySem PySem.Spec PyProof.Rows
section
variable {X : Cx}

/-- two expressions in a row -/
theorem bin {a b : Expr} {ta tb : TE} (ha : PE X a ta) (hb : PE X b tb) {pins : List (Addr × Obj)} {s : Shared} {σ : St} {H : Hp} {R : V → V → Hp → Prop} (I : Inv X pins σ H s) (h : ta σ H fun x H1 => tb σ H1 fun y H2 => R x y H2)
    {α : Type} {Q : α → Shared → Prop} {f : Value → Value → Sem α}
    (hf : ∀ v u s2 x y H2, Inv X pins σ H2 s2 → RelV x v → RelV y u → R x y H2 → wpAny (model X.prog X.w) X.A (f v u) Q X.xe s2) :
    wpAny (model X.prog X.w) X.A (eval a X.env) (fun v s₁ => wpAny (model X.prog X.w) X.A (eval b X.env) (fun u s₂ => wpAny (model X.prog X.w) X.A (f v u) Q X.xe s₂) X.xe s₁) X.xe s := by
  refine thn (ha pins s σ H _ I h) fun v s1 ⟨x, H1, I1, r1, q1⟩ => ?_
  refine thn (hb pins s1 σ H1 _ I1 q1) fun u s2 ⟨y, H2, I2, r2, q2⟩ => ?_
  exact hf v u s2 x y H2 I2 r1 r2 q2

/-! ### names and constants -/
def tVar (i : Nat) : TE := fun σ H Q => ∃ v, σ[i]? = some (some v) ∧ Q v H
def tC (v : V) : TE := fun _ H Q => Q v H
theorem pe_var {i : Nat} {x : Str} {pos : Pos} (hN : X.N[i]? = some x) (hv : Vis X.env.scope x) (hd : (x == ("__debug__" : Str)) = false := by decide) (hcd : (x == ("__classdict__" : Str)) = false := by decide) : PE X (.Name x pos) (tVar i) := by
  intro pins s σ H Q I h
  obtain ⟨v, e, h⟩ := h
  obtain ⟨m, hn, hl⟩ := I.loc
  obtain ⟨u, r, l⟩ := hl i x v hN e hv
  have fin : EP X pins σ Q u s := ⟨v, H, I, r, h⟩
  rcases l with ⟨hk, hm⟩ | ⟨hk, c, hc, hcell⟩
  · exact wpAny_Name (wpAny_loadName_local I.ok.kind hk hn hm fin) hd
  · rcases hk with hk | hk
    · exact wpAny_Name (wpAny_loadName_cell I.ok.kind hk hc hcell fin) hd
    · exact wpAny_Name (wpAny_loadName_free I.ok.kind hk hc hcell fin hcd) hd
theorem pe_int {i j pos} : PE X (.Constant (.int i) j pos) (tC (.int i)) := fun _ _ _ H _ I h => wpAny_Constant_int ⟨.int i, H, I.tok _, ⟨_, rfl⟩, h⟩
theorem pe_bl {b j pos} : PE X (.Constant (.bool b) j pos) (tC (.bl b)) := fun _ _ _ H _ I h => Constant_bool ⟨.bl b, H, I, rfl, h⟩
/-- a global name of the def -/
def Gl (X : Cx) (x : Str) : Prop := X.env.kindOf x = some .globalImplicit
theorem ld_glob {E : Value → Shared → Prop} {pins : List (Addr × Obj)} {s : Shared} {σ : St} {H : Hp} {x : Str} {u : Value} {pos : Pos} {Q : Value → Shared → Prop} (I : Inv X pins σ H s) (hg : Gl X x) (hm : X.mg x = some u) (h : Q u s)
    (hd : (x == ("__debug__" : Str)) = false := by decide) : wpAny (model X.prog X.w) X.A (eval (.Name x pos) X.env) Q E s :=
  Calls.Name_function_global I.ok.kind hg (Calls.loadGlobal_global (by rw [I.ok.glob]; exact I.mod.glob.keeps I.bk) hm h) hd
theorem ld_blt {E : Value → Shared → Prop} {pins : List (Addr × Obj)} {s : Shared} {σ : St} {H : Hp} {x : Str} {u : Value} {pos : Pos} {Q : Value → Shared → Prop} (I : Inv X pins σ H s) (hg : Gl X x) (hm : X.mg x = none) (hv : bootBuiltins x = some u) (h : Q u s)
    (hn : x ≠ "__name__" := by decide) (hd : (x == ("__debug__" : Str)) = false := by decide) : wpAny (model X.prog X.w) X.A (eval (.Name x pos) X.env) Q E s := by
  obtain ⟨mb, h1, h2⟩ := I.mod.blt
  exact Calls.Name_function_global I.ok.kind hg (Calls.loadGlobal_builtin (by rw [I.ok.glob]; exact I.mod.glob.keeps I.bk) hm (by rw [I.ok.blt]; exact h1.keeps I.bk) ((h2 x hn).trans hv) h) hd
/-- a module's constant, a class, a function, as a value -/
theorem pe_glob {x : Str} {v : V} {u : Value} {pos : Pos} (hg : Gl X x) (hm : X.mg x = some u) (r : RelV v u) (hd : (x == ("__debug__" : Str)) = false := by decide) : PE X (.Name x pos) (tC v) :=
  fun _ _ _ H _ I h => ld_glob I hg hm ⟨v, H, I, r, h⟩ hd
theorem pe_bltn {x : Str} {v : V} {u : Value} {pos : Pos} (hg : Gl X x) (hm : X.mg x = none) (hv : bootBuiltins x = some u) (r : RelV v u) (hn : x ≠ "__name__" := by decide) (hd : (x == ("__debug__" : Str)) = false := by decide) : PE X (.Name x pos) (tC v) :=
  fun _ _ _ H _ I h => ld_blt I hg hm hv ⟨v, H, I, r, h⟩ hn hd

/-! ### arithmetic -/
variable {a b : Expr} {ta tb : TE} {pos : Pos}
/-! ### comparisons -/
def PC (X : Cx) (op : CmpOp) (a b : Expr) (t : TE) : Prop :=
  ∀ (pins : List (Addr × Obj)) (s : Shared) (σ : St) (H : Hp) (Q : VK), Inv X pins σ H s → t σ H Q →
    wpAny (model X.prog X.w) X.A (eval a X.env) (fun v s₁ => wpAny (model X.prog X.w) X.A (eval b X.env) (fun u s₂ => wpAny (model X.prog X.w) X.A (compareOp op v u) (EP X pins σ Q) X.xe s₂) X.xe s₁) X.xe s
/-- a comparison as a value, as a test -/
def tB (t : TE) : TT := fun σ H Q => t σ H fun x H1 => ∃ c, x = .bl c ∧ Q c H1
theorem pt_cmp {op : CmpOp} {t : TE} (h : PC X op a b t) (h1 : behindInMarks op b = false := by first | exact nobehind _ (by decide) (by decide) | rfl) : PT X (.Compare a [op] [b] pos) (tB t) := by
  intro pins s σ H Q I hw
  refine wpAny_isTrue_Compare1 (thn (h pins s σ H _ I hw) fun v s1 h1 => thn h1 fun u s2 h2 => thn h2 fun c s3 ⟨x, H1, I1, r1, q1⟩ => ?_) h1
  obtain ⟨d, rfl, q⟩ := q1
  cases r1
  exact wpAny_truthy_bool ⟨H1, I1, q⟩
/-- an expression whose value is a bool, as a test -/
theorem pt_val {e : Expr} {t : TE} (h : PE X e t) (he : ∀ whole, isTrue e X.env whole = (do let v ← whole; standAt e.pos; holding [v] (truthy v)) := by intro _; rfl) : PT X e (tB t) := by
  intro pins s σ H Q I hw
  refine isTrue_plain (thn (h pins s σ H _ I hw) fun v s1 ⟨x, H1, I1, r1, q1⟩ => ?_) (he _)
  obtain ⟨d, rfl, q⟩ := q1
  cases r1
  exact wpAny_truthy_bool ⟨H1, I1, q⟩

/-! ### and, or, not -/
variable {tA tB' : TT} {rest : List Expr}
def tAnd (t u : TT) : TT := fun σ H Q => t σ H fun c H1 => if c = true then u σ H1 Q else Q false H1
def tOr (t u : TT) : TT := fun σ H Q => t σ H fun c H1 => if c = true then Q true H1 else u σ H1 Q
def tNot (t : TT) : TT := fun σ H Q => t σ H fun c H1 => Q (!c) H1
theorem pw_or1 (ha : PT X a tA) : PW X (.BoolOp .Or [a] pos) tA := by
  intro wh pins s σ H Q I h
  refine isTrue_or (thn (ha pins s σ H Q I h) fun c s1 e => ?_)
  cases c with
  | false => exact isTrue_or_nil e
  | true => exact e
theorem pw_or (ha : PT X a tA) (hb : PW X (.BoolOp .Or (b :: rest) pos) tB') : PW X (.BoolOp .Or (a :: b :: rest) pos) (tOr tA tB') := by
  intro wh pins s σ H Q I h
  refine isTrue_or (thn (ha pins s σ H _ I h) fun c s1 ⟨H1, I1, q1⟩ => ?_)
  cases c with
  | true => exact ⟨H1, I1, q1⟩
  | false => exact hb wh pins s1 σ H1 Q I1 q1
theorem pt_not (ha : PT X a tA) : PT X (.UnaryOp .Not a pos) (tNot tA) := by
  intro pins s σ H Q I h
  exact isTrue_not (ha pins s σ H (fun c H1 => Q (!c) H1) I h)
/-- .. as values (bools) -/
def tAndV (ta tb : TE) : TE := fun σ H Q => ta σ H fun x H1 => ∃ c, x = .bl c ∧ if c = true then tb σ H1 Q else Q (.bl false) H1
def tOrV (ta tb : TE) : TE := fun σ H Q => ta σ H fun x H1 => ∃ c, x = .bl c ∧ if c = true then Q (.bl true) H1 else tb σ H1 Q
def tNotV (ta : TE) : TE := fun σ H Q => ta σ H fun x H1 => ∃ c, x = .bl c ∧ Q (.bl (!c)) H1
theorem pe_one {op} {t : TE} (h : PE X a t) : PE X (.BoolOp op [a] pos) t := fun pins s σ H Q I hw => BoolOp_one (h pins s σ H Q I hw)
theorem pe_and (ha : PE X a ta) (hb : PE X (.BoolOp .And (b :: rest) pos) tb) : PE X (.BoolOp .And (a :: b :: rest) pos) (tAndV ta tb) := by
  intro pins s σ H Q I h
  refine BoolOp_and (thn (ha pins s σ H _ I h) fun v s1 ⟨x, H1, I1, r1, q1⟩ => ?_)
  obtain ⟨c, rfl, q1⟩ := q1
  cases r1
  refine wpAny_truthy_bool ?_
  cases c with
  | true => exact hb pins s1 σ H1 Q I1 q1
  | false => exact ⟨.bl false, H1, I1, rfl, q1⟩
end
end L2

namespace L2
open PySem PySem.Spec PyProof.Rows

/-! ### a list, a tuple that is read: tracked, frozen, or an object of the module -/
def SqL (K : PySem.W.Frag) (H : Hp) (a : Addr) (xs : List V) : Prop :=
  Rd H a (.lst xs) ∨
    ∃ (o : Obj) (its : Array Value) (n : Nat), K.lookup a = some o ∧ o.cls = .type "list" ∧ o.dict = none ∧ o.data = .seq its n ∧ its.size ≤ sizeLine ∧ Vals xs its.toList
def SqT (K : PySem.W.Frag) (H : Hp) (a : Addr) (xs : List V) : Prop :=
  Rd H a (.tup xs) ∨
    ∃ (o : Obj) (its : Array Value) (n : Nat), K.lookup a = some o ∧ o.cls = .type "tuple" ∧ o.data = .seq its n ∧ its.size ≤ sizeLine ∧ Vals xs its.toList
def absV : Value → Option V
  | .none => some .non
  | .bool b => some (.bl b)
  | .int i _ => some (.int i)
  | .str x _ => some (.str x)
  | .bytes b _ => some (.byt b)
  | .float b _ => some (.flt b)
  | .ref a => some (.ref a)
  | .type n => some (.ty n)
  | _ => none
theorem RelV.abs {x : V} {u : Value} (r : RelV x u) : absV u = some x := by
  cases x with
  | non => cases r; rfl
  | bl _ => cases r; rfl
  | int _ => obtain ⟨t, rfl⟩ := r; rfl
  | str _ => obtain ⟨t, rfl⟩ := r; rfl
  | byt _ => obtain ⟨t, rfl⟩ := r; rfl
  | flt _ => obtain ⟨t, rfl⟩ := r; rfl
  | ref _ => cases r; rfl
  | ty _ => cases r; rfl
theorem RelV.inj {x y : V} {u : Value} (r : RelV x u) (q : RelV y u) : x = y := Option.some.inj (r.abs.symm.trans q.abs)
theorem Vals.inj : ∀ {xs ys : List V} {us : List Value}, Vals xs us → Vals ys us → xs = ys
  | _, _, _, .nil, .nil => rfl
  | _, _, _, .cons r t, .cons r' t' => by rw [r.inj r', Vals.inj t t']
section
variable {X : Cx} {pins : List (Addr × Obj)} {σ : St} {H : Hp} {s : Shared} {a : Addr} {xs ys : List V}
theorem SqL.of {K : PySem.W.Frag} (h : H a = some (.lst xs)) : SqL K H a xs := .inl (.inl h)
theorem SqT.of {K : PySem.W.Frag} (h : H a = some (.tup xs)) : SqT K H a xs := .inl (.inl h)
theorem Inv.list (I : Inv X pins σ H s) (h : SqL X.K H a xs) : ∃ its : List Value, Vals xs its ∧ PlainL s.heap a its.toArray ∧ xs.length ≤ sizeLine := by
  rcases h with h | ⟨o, its, n, hk, hc, hd, hs, hz, r⟩
  · obtain ⟨z, its, n, r, e⟩ := h.ok I.hok
    exact ⟨its, r, ⟨_, n, e, rfl, rfl, rfl⟩, z⟩
  · refine ⟨its.toList, r, ⟨o, n, I.kIn a o hk, hc, hd, by simpa using hs⟩, ?_⟩
    have e := r.length
    simp only [Array.length_toList] at e
    omega
theorem Inv.tuple (I : Inv X pins σ H s) (h : SqT X.K H a xs) : ∃ its : List Value, Vals xs its ∧ IsTup s.heap a its.toArray ∧ xs.length ≤ sizeLine := by
  rcases h with h | ⟨o, its, n, hk, hc, hs, hz, r⟩
  · obtain ⟨z, its, r, p⟩ := h.ok I.hok
    exact ⟨its, r, p, z⟩
  · refine ⟨its.toList, r, ⟨o, I.kIn a o hk, hc, n, by simpa using hs⟩, ?_⟩
    have e := r.length
    simp only [Array.length_toList] at e
    omega
theorem Inv.list_inj (I : Inv X pins σ H s) (h : SqL X.K H a xs) (h' : SqL X.K H a ys) : xs = ys := by
  obtain ⟨its, r, ⟨o, n, e, _, _, d⟩, _⟩ := I.list h
  obtain ⟨its', r', ⟨o', n', e', _, _, d'⟩, _⟩ := I.list h'
  rw [e] at e'; cases e'
  rw [d] at d'
  injection d' with d1 _
  have : its = its' := by simpa using congrArg Array.toList d1
  subst this
  exact r.inj r'
end

/-! ### another wish about exceptions -/
abbrev Cx.wish (X : Cx) (E : Value → Shared → Prop) : Cx := { X with xe := E }
/-- no exception leaves -/
abbrev Cx.nox (X : Cx) : Cx := X.wish fun _ _ => False
theorem Cx.Ok.wish {X : Cx} (ok : X.Ok) (E : Value → Shared → Prop) : (X.wish E).Ok :=
  ⟨ok.mod, ok.kind, ok.glob, ok.blt, ok.above, ok.inj, ok.has, ok.cab, ok.hd, ok.frames, ok.stk, ok.exf, ok.bs, ok.bsz, ok.noex, ok.exfs, ok.funs, ok.frf⟩
theorem Cx.Ok.unwish {X : Cx} {E : Value → Shared → Prop} (ok : (X.wish E).Ok) : X.Ok :=
  ⟨ok.mod, ok.kind, ok.glob, ok.blt, ok.above, ok.inj, ok.has, ok.cab, ok.hd, ok.frames, ok.stk, ok.exf, ok.bs, ok.bsz, ok.noex, ok.exfs, ok.funs, ok.frf⟩
section
variable {X : Cx} {pins : List (Addr × Obj)} {σ : St} {H : Hp} {s : Shared} {E : Value → Shared → Prop}
theorem Inv.wish (I : Inv X pins σ H s) (E : Value → Shared → Prop) : Inv (X.wish E) pins σ H s := ⟨I.ok.wish E, I.os, I.bare, I.base, I.loc, I.cell, I.free, I.freeC, I.pin, I.hok, I.len⟩
theorem Inv.unwish (I : Inv (X.wish E) pins σ H s) : Inv X pins σ H s := ⟨I.ok.unwish, I.os, I.bare, I.base, I.loc, I.cell, I.free, I.freeC, I.pin, I.hok, I.len⟩
theorem SP.unwish {D : Ends} {f : Flow} {s' : Shared} (h : SP (X.wish E) pins D f s') : SP X pins D f s' := by
  cases f with
  | next => obtain ⟨σ', H', I, q⟩ := h; exact ⟨σ', H', I.unwish, q⟩
  | brk => obtain ⟨σ', H', I, q⟩ := h; exact ⟨σ', H', I.unwish, q⟩
  | cont => obtain ⟨σ', H', I, q⟩ := h; exact ⟨σ', H', I.unwish, q⟩
  | ret u => obtain ⟨v, σ', H', I, r, q⟩ := h; exact ⟨v, σ', H', I.unwish, r, q⟩
theorem PSs.nox {st : List Stmt} {t : TS} (h : PSs X.nox st t) : PSs X st t := fun pins s σ H D I hw =>
  wpAny_mono (h pins s σ H D (I.wish _) hw) (fun _ _ q => q.unwish) fun _ _ z => False.elim z
end

/-! ### blocks and small statements -/
section
variable {X : Cx} {st : Stmt} {rest : List Stmt} {t u : TS} {e : Expr} {te : TE} {pos : Pos}
def tNext : TS := fun D σ H => D.nx σ H
def tSeq (t u : TS) : TS := fun D σ H => t { D with nx := u D } σ H
theorem pss_nil : PSs X [] tNext := fun _ _ σ H _ I h => wpAny_execs_nil ⟨σ, H, I, h⟩
theorem pss_cons (h1 : PS X st t) (h2 : PSs X rest u) : PSs X (st :: rest) (tSeq t u) := by
  intro pins s σ H D I h
  refine wpAny_execs_cons (thn (h1 pins s σ H { D with nx := u D } I h) fun f s1 q => ?_)
  cases f with
  | next =>
    obtain ⟨σ', H', I', q⟩ := q
    exact h2 pins s1 σ' H' D I' q
  | ret v => exact q
  | brk => exact q
  | cont => exact q
theorem pss_one (h1 : PS X st t) : PSs X [st] t := by
  intro pins s σ H D I h
  refine wpAny_execs_cons (thn (h1 pins s σ H D I h) fun f s1 q => ?_)
  cases f with
  | next => exact wpAny_execs_nil q
  | ret v => exact q
  | brk => exact q
  | cont => exact q
/-- in a def's body nothing is shown -/
theorem Inv.quiet {pins : List (Addr × Obj)} {σ : St} {H : Hp} {s : Shared} (I : Inv X pins σ H s) : interactive X.env = false := by simp [interactive, I.ok.kind]
/-- an expression whose value is dropped -/
def tDrop (te : TE) : TS := fun D σ H => te σ H fun _ H1 => D.nx σ H1
theorem ps_expr (he : PE X e te) (hs : swapsWith e none pos.line X.env = pure false := by rfl) : PS X (.Expr e pos) (tDrop te) := by
  intro pins s σ H D I h
  exact wpAny_Expr_any (thn (he pins s σ H _ I h) fun v s1 ⟨x, H1, I1, r1, q1⟩ => ⟨σ, H1, I1, q1⟩) I.quiet hs
def tRet (te : TE) : TS := fun D σ H => te σ H D.rt
theorem ps_ret (he : PE X e te) : PS X (.Return (some e) pos) (tRet te) := by
  intro pins s σ H D I h
  exact wpAny_Return_some (thn (he pins s σ H _ I h) fun v s1 ⟨x, H1, I1, r1, q1⟩ => ⟨x, σ, H1, I1, r1, q1⟩)
def tRetN : TS := fun D _ H => D.rt .non H
def tIfS (c : TT) (t u : TS) : TS := fun D σ H => c σ H fun b H1 => if b = true then t D σ H1 else u D σ H1
theorem ps_if {c : Expr} {a b : List Stmt} {tc : TT} (hc : PT X c tc) (ha : PSs X a t) (hb : PSs X b u) : PS X (.If c a b pos) (tIfS tc t u) := by
  intro pins s σ H D I h
  refine wpAny_If (thn (hc pins s σ H _ I h) fun d s1 ⟨H1, I1, q1⟩ => ?_)
  cases d with
  | true => exact ha pins s1 σ H1 D I1 q1
  | false => exact hb pins s1 σ H1 D I1 q1
/-- code that the proof never comes to -/
def tNever : TS := fun _ _ _ => False
theorem ps_never : PS X st tNever := fun _ _ _ _ _ _ h => h.elim
end

/-! ### targets -/
abbrev TG := V → St → Hp → (St → Hp → Prop) → Prop
abbrev TGs := List V → St → Hp → (St → Hp → Prop) → Prop
def PG (X : Cx) (target : Expr) (t : TG) : Prop :=
  ∀ (pins : List (Addr × Obj)) (s : Shared) (σ : St) (H : Hp) (v : V) (u : Value) (Q : St → Hp → Prop), Inv X pins σ H s → RelV v u → t v σ H Q →
    wpAny (model X.prog X.w) X.A (assign target X.env u) (fun _ s' => ∃ σ' H', Inv X pins σ' H' s' ∧ Q σ' H') X.xe s
/-- several targets, one after another -/
def PGs (X : Cx) (ts : List Expr) (t : TGs) : Prop :=
  ∀ (pins : List (Addr × Obj)) (s : Shared) (σ : St) (H : Hp) (vs : List V) (us : List Value) (Q : St → Hp → Prop), Inv X pins σ H s → Vals vs us → t vs σ H Q →
    wpAny (model X.prog X.w) X.A (assignInOrder ((assignEach ts X.env).map (·.2)) us) (fun _ s' => ∃ σ' H', Inv X pins σ' H' s' ∧ Q σ' H') X.xe s
/-- o[i] = v, by values -/
abbrev TSet := V → V → V → Hp → (Hp → Prop) → Prop
section
variable {X : Cx} {pos : Pos}
def gName (i : Nat) : TG := fun v σ H Q => Q (σ.set i (some v)) H
theorem pg_name {i : Nat} {x : Str} (hN : X.N.Nodup) (hi : X.N[i]? = some x) (hx : Loc X.env.scope x) (hf : X.fn x = true ∨ X.env.scope.names.lookup x = some .local := by first | exact .inl rfl | exact .inr rfl | assumption) : PG X (.Name x pos) (gName i) := by
  intro pins s σ H v u Q I r h
  exact wpAny_assign_Name (store_ok I hN hi hx r (fun s' I' => ⟨_, H, I', h⟩) hf)
def gNil : TGs := fun vs σ H Q => vs = [] ∧ Q σ H
def gCons (t : TG) (u : TGs) : TGs := fun vs σ H Q => ∃ v r, vs = v :: r ∧ t v σ H fun σ' H' => u r σ' H' Q
theorem pgs_nil : PGs X [] gNil := by
  intro pins s σ H vs us Q I r h
  obtain ⟨e, h⟩ := h
  subst e
  cases r
  exact assignInOrder_nil ⟨σ, H, I, h⟩
theorem pgs_cons {e : Expr} {es : List Expr} {t : TG} {u : TGs} (h1 : PG X e t) (h2 : PGs X es u)
    (hs : (assignEach (e :: es) X.env).map (·.2) = assign e X.env :: (assignEach es X.env).map (·.2) := by rfl) : PGs X (e :: es) (gCons t u) := by
  intro pins s σ H vs us Q I r h
  obtain ⟨v, vr, e1, h⟩ := h
  subst e1
  cases r with
  | cons r rr =>
    rw [hs]
    refine assignInOrder_cons (thn (h1 pins s σ H _ _ _ I r h) fun _ s1 ⟨σ1, H1, I1, q1⟩ => ?_)
    exact h2 pins s1 σ1 H1 _ _ Q I1 rr q1
/-- (a, b, ..) = a tuple of that length -/
def gTup (K : PySem.W.Frag) (n : Nat) (t : TGs) : TG := fun v σ H Q => ∃ a xs, v = .ref a ∧ SqT K H a xs ∧ xs.length = n ∧ t xs σ H Q
theorem pg_tup {es : List Expr} {k : Nat} {t : TGs} {n : Nat} (hc : X.calm = true) (h : PGs X es t)
    (hn : (assignEach es X.env).length = n := by rfl) (hst : (assignEach es X.env).findIdx? (·.1) = none := by rfl) : PG X (.Tuple es k pos) (gTup X.K n t) := by
  intro pins s σ H v u Q I r hw
  obtain ⟨a, xs, e1, hq, hl, hw⟩ := hw
  subst e1
  cases r
  obtain ⟨its, rv, ht, hz⟩ := I.tuple hq
  refine assign_Tuple_tuple (I.ok.hd hc) ht (by simp [hn, ← hl, rv.length]) hst fun h' hx => ?_
  have I1 : Inv X pins σ H { s with heap := h' } := I.kept (t' := s.toks) fun b o e => hx b o (Nat.ne_of_lt (Heap.lt_size e)) e
  exact h pins _ σ H xs _ Q I1 (by simpa using rv) hw
/-- o[i] = .. -/
def gSub (to ti : TE) (t : TSet) : TG := fun v σ H Q => to σ H fun o H1 => ti σ H1 fun i H2 => t o i v H2 fun H3 => Q σ H3
/-- target = value -/
def tAsg (te : TE) (g : TG) : TS := fun D σ H => te σ H fun x H1 => g x σ H1 D.nx
/-- name = value -/
theorem ps_set {i : Nat} {x : Str} {e : Expr} {te : TE} {pos' : Pos} (hN : X.N.Nodup) (hi : X.N[i]? = some x) (hx : Loc X.env.scope x) (he : PE X e te) (hs : swapsWith e (some (.Name x pos')) pos.line X.env = pure false := by rfl) (hf : X.fn x = true ∨ X.env.scope.names.lookup x = some .local := by first | exact .inl rfl | exact .inr rfl | assumption) :
    PS X (.Assign [.Name x pos'] e pos) (tAsg te (gName i)) := by
  intro pins s σ H D I h
  refine wpAny_Assign_Name (thn (he pins s σ H _ I h) fun v s1 ⟨y, H1, I1, r1, q1⟩ => ?_) hs
  exact store_ok I1 hN hi hx r1 (fun s2 I2 => ⟨_, H1, I2, q1⟩) hf
end

/-! ### while -/
section
variable {X : Cx} {pos : Pos}
/-- the invariant W with its measure -/
def tWhile (c : TT) (tb : TS) : TS := fun D σ H => ∃ W : Nat → St → Hp → Prop, (∃ m, W m σ H) ∧ ∀ m σ H, W m σ H →
  c σ H fun b H1 => if b = true then ∃ N : St → Hp → Prop, (∀ σ' H', N σ' H' → ∃ m', m' < m ∧ W m' σ' H') ∧ tb { D with nx := N, ct := N, bk := D.nx } σ H1 else D.nx σ H1
theorem ps_while {c : Expr} {body : List Stmt} {tc : TT} {tb : TS} (hp : PassesOwn (model X.prog X.w) X.A X.env X.xe) (hc : PT X c tc) (hb : PSs X body tb) : PS X (.While c body [] pos) (tWhile tc tb) := by
  intro pins s σ H D I h
  obtain ⟨W, ⟨m0, w0⟩, turn⟩ := h
  refine wpAny_While (codeAny_whileLoop (fun n s' => ∃ σ' H', Inv X pins σ' H' s' ∧ W n σ' H') ?_ m0 ⟨σ, H, I, w0⟩)
  rintro n s1 ⟨σ1, H1, I1, w1⟩
  refine wpAny_passesOwn hp (thn (hc pins s1 σ1 H1 _ I1 (turn n σ1 H1 w1)) fun b s2 ⟨H2, I2, q2⟩ => ?_)
  cases b with
  | true =>
    obtain ⟨N, hN, q2⟩ := q2
    rw [if_pos rfl]
    refine wpAny_passesOwn hp (thn (hb pins s2 σ1 H2 _ I2 q2) fun f s3 q3 => ?_)
    cases f with
    | next =>
      obtain ⟨σ3, H3, I3, n3⟩ := q3
      obtain ⟨m', hm, w3⟩ := hN σ3 H3 n3
      exact ⟨m', hm, σ3, H3, I3, w3⟩
    | cont =>
      obtain ⟨σ3, H3, I3, n3⟩ := q3
      obtain ⟨m', hm, w3⟩ := hN σ3 H3 n3
      exact ⟨m', hm, σ3, H3, I3, w3⟩
    | brk => exact q3
    | ret v => exact q3
  | false =>
    rw [if_neg Bool.false_ne_true]
    exact wpAny_execs_nil ⟨σ1, H2, I2, q2⟩
end

/-! ### what a loop or a comprehension walks -/
/-- at turn i: it yields x (the heap may grow), or it stops -/
structure It where
  go : Nat → Hp → Prop
  yld : Nat → Hp → V → Hp → Prop
  stop : Nat → Hp → Prop
/-- the iterator's own objects may turn: they are not the frame's, not pinned, younger than the entry (or a comprehension's own) -/
def FpOk (X : Cx) (pins : List (Addr × Obj)) (H : Hp) (b : Addr) : Prop :=
  H b = none ∧ b ≠ X.env.locals ∧ b ∉ X.fs ∧ (b ∈ X.ex ∨ X.s₀.heap.objs.size ≤ b) ∧ (∀ x c, X.env.cells.lookup x = some c → c ≠ b) ∧ ∀ p ∈ X.pn ++ pins, p.1 ≠ b
theorem Inv.fpOk {X : Cx} {pins : List (Addr × Obj)} {σ : St} {H H' : Hp} {s : Shared} {b : Addr} (I : Inv X pins σ H s) (hb : s.heap.objs.size ≤ b) (hn : H' b = none) : FpOk X pins H' b := by
  refine ⟨hn, Nat.ne_of_gt (Nat.lt_of_lt_of_le I.lt hb), I.nofs hb, .inr (Nat.le_trans I.sz hb), fun x c e z => ?_, fun p hp z => ?_⟩
  · obtain ⟨v, q⟩ := I.cell x c e
    exact absurd (Nat.lt_of_lt_of_le q.lt (by rw [z]; exact hb)) (Nat.lt_irrefl _)
  · exact absurd (Nat.lt_of_lt_of_le (Heap.lt_size (I.pin p hp).1) (by rw [z]; exact hb)) (Nat.lt_irrefl _)
structure Turn (P : Program) (w : World) (K : PySem.W.Frag) (tg : Expr) (J : It) (fp : List Addr) (it : Addr) (tn : Nat → Heap → Prop) : Prop where
  mem : it ∈ fp
  obj : ∀ i h, tn i h → ∀ b ∈ fp, ∃ o, h.get? b = some o ∧ ∀ v, o.data ≠ .cell v
  keep : ∀ i h h', tn i h → (∀ b ∈ fp, ∀ o, h.get? b = some o → h'.get? b = some o) → tn i h'
  item : ∀ (X : Cx), X.prog = P → X.w = w → X.K = K → X.calm = true → ∀ (i : Nat) (pins : List (Addr × Obj)) (s : Shared) (σ : St) (H : Hp) (E : Value → Shared → Prop), Inv X pins σ H s → (∀ b ∈ fp, FpOk X pins H b) → tn i s.heap → J.go i H →
    wpAny (model P w) X.A (pyNext (.ref it)) (fun r s1 => ∃ u, r = some u ∧
      wpAny (model P w) X.A (letOwnedTupleGo tg (.ref it) u) (fun _ s2 => ∃ x H', Inv X pins σ H' s2 ∧ RelV x u ∧ J.yld i H x H' ∧ tn (i + 1) s2.heap ∧ ∀ b ∈ fp, H' b = none) E s1) E s
  done : ∀ (X : Cx), X.prog = P → X.w = w → X.K = K → X.calm = true → ∀ (i : Nat) (pins : List (Addr × Obj)) (s : Shared) (σ : St) (H : Hp) (E : Value → Shared → Prop), Inv X pins σ H s → (∀ b ∈ fp, FpOk X pins H b) → tn i s.heap → J.stop i H →
    wpAny (model P w) X.A (pyNext (.ref it)) (fun r s1 => r = none ∧ Inv X pins σ H s1) E s
  self : ∀ (A : Around) (i : Nat) (s : Shared) (Q : Value → Shared → Prop) (E : Value → Shared → Prop), tn i s.heap → Q (.ref it) s → wpAny (model P w) A (pyIter (.ref it)) Q E s
abbrev TI := St → Hp → (It → Hp → Prop) → Prop
/-- an iterator has come -/
def PIE (X : Cx) (pins : List (Addr × Obj)) (σ : St) (tg : Expr) (R : It → Hp → Prop) (itv : Value) (s2 : Shared) : Prop :=
  ∃ (it : Addr) (fp : List Addr) (tn : Nat → Heap → Prop) (J : It) (H' : Hp), itv = .ref it ∧ Inv X pins σ H' s2 ∧ Turn X.prog X.w X.K tg J fp it tn ∧ tn 0 s2.heap ∧ (∀ b ∈ fp, FpOk X pins H' b) ∧ R J H'
def PI (X : Cx) (tg iter : Expr) (wi : TI) : Prop :=
  ∀ (pins : List (Addr × Obj)) (s : Shared) (σ : St) (H : Hp) (R : It → Hp → Prop), Inv X pins σ H s → wi σ H R →
    wpAny (model X.prog X.w) X.A (eval iter X.env) (fun v s1 => wpAny (model X.prog X.w) X.A (pyIter v) (PIE X pins σ tg R) X.xe s1) X.xe s

/-- the step ahead of the store is nothing for an iterator that keeps no tuple -/
theorem go_of {M : Model} {A : Around} {E : Value → Shared → Prop} {s : Shared} {tg : Expr} {it : Addr} {u : Value} {o : Obj} {n : String} {vs : Array Value} {Q : Unit → Shared → Prop} (ho : s.heap.get? it = some o) (hc : o.cls = .type n) (hd : o.data = .fields vs)
    (hn : ["enumerate", "zip", "dict_itemiterator", "dict_reverseitemiterator", "odict_iterator", "itertools.zip_longest", "itertools.pairwise"].contains n = false) (hQ : Q () s) : wpAny M A (letOwnedTupleGo tg (.ref it) u) Q E s := by
  unfold letOwnedTupleGo
  cases tg <;> first
    | exact wpAny_pure hQ
    | (cases u <;> first
        | exact wpAny_pure hQ
        | (refine wpAny_bind (wpAny_load ho ?_)
           rw [hc, hd]
           show wpAny M A (if (["enumerate", "zip", "dict_itemiterator", "dict_reverseitemiterator", "odict_iterator", "itertools.zip_longest", "itertools.pairwise"].contains n && vs[0]? == some (rawInt _)) = true then _ else _) Q E s
           rw [if_neg (by intro h; rw [hn, Bool.false_and] at h; cases h)]
           exact wpAny_pure hQ))

/-- the list at a, as it stands at each turn (a loop may append to it) -/
def Itl (K : PySem.W.Frag) (a : Addr) : It :=
  ⟨fun i H => ∃ xs x, SqL K H a xs ∧ xs[i]? = some x, fun i H x H' => H' = H ∧ ∀ xs, SqL K H a xs → xs[i]? = some x, fun i H => ∃ xs, SqL K H a xs ∧ xs.length ≤ i⟩
/-- lo, lo + 1, .. (n of them) -/
def Itr (lo : Int) (n : Nat) : It := ⟨fun i _ => i < n, fun i H x H' => H' = H ∧ x = .int (lo + i), fun i _ => n ≤ i⟩
theorem turn_list {P : Program} {w : World} {K : PySem.W.Frag} {tg : Expr} (a it : Addr) : Turn P w K tg (Itl K a) [it] it (fun i h => h.IsListIter it a i) where
  mem := by simp
  obj := fun i h st b hb => by
    have e : b = it := by simpa using hb
    subst e
    obtain ⟨o, e, c, d⟩ := st
    exact ⟨o, e, fun v z => by rw [d] at z; cases z⟩
  keep := fun i h h' st k => st.at fun o e => k it (by simp) o e
  item := by
    intro X hP hw hK hc i pins s σ H E I hf st hg
    subst hP hw hK
    obtain ⟨xs, x, hq, hx⟩ := hg
    obtain ⟨its, rv, p, hz⟩ := I.list hq
    obtain ⟨u, hu, ru⟩ := rv.get hx
    obtain ⟨f0, f1, f2, f3, f4, f5⟩ := hf it (by simp)
    refine wpAny_pyNext_list_item st p.isList (x := u) (by simpa using hu) fun h' st' sb => ?_
    have I1 : Inv X pins σ H { s with heap := h' } := I.turned (t' := s.toks) (fun b o hb e => (sb.2 b hb).trans e) f0 f1 f3 f4 f5
    obtain ⟨o, e, c, d⟩ := id st'
    exact ⟨u, rfl, go_of (s := { s with heap := h' }) e c d (by decide) ⟨x, H, I1, ru, ⟨rfl, fun ys hy => by rw [I.list_inj hy hq]; exact hx⟩, st', fun b hb => (hf b hb).1⟩⟩
  done := by
    intro X hP hw hK hc i pins s σ H E I hf st hg
    subst hP hw hK
    obtain ⟨xs, hq, hx⟩ := hg
    obtain ⟨its, rv, p, hz⟩ := I.list hq
    obtain ⟨f0, f1, f2, f3, f4, f5⟩ := hf it (by simp)
    have hl := rv.length
    exact wpAny_pyNext_list_end (I.ok.hd hc) st p.isList (by simp; omega) fun h' eb => ⟨rfl, I.turned (t' := s.toks) (fun b o hb e => eb b o hb e) f0 f1 f3 f4 f5⟩
  self := fun _ _ _ _ _ st h => wpAny_pyIter_listiter st h
theorem turn_range {P : Program} {w : World} {K : PySem.W.Frag} {tg : Expr} (it : Addr) (lo : Int) (n : Nat) : Turn P w K tg (Itr lo n) [it] it (fun i h => IsRangeIter h it (lo + (i : Nat) * 1) ((n : Int) - (i : Nat)) 1) where
  mem := by simp
  obj := fun i h st b hb => by
    have e : b = it := by simpa using hb
    subst e
    exact ⟨_, st, fun v z => by
      have z' : Data.fields _ = Data.cell v := z
      cases z'⟩
  keep := fun i h h' st k => k it (by simp) _ st
  item := by
    intro X hP hw hK hc i pins s σ H E I hf st hg
    subst hP hw hK
    obtain ⟨f0, f1, f2, f3, f4, f5⟩ := hf it (by simp)
    have W := Walks.range (prog := X.prog) (w := X.w) (I.ok.hd hc) it lo 1 n
    refine W.item i s _ _ hg st fun v h' tk hv st' kk => ?_
    obtain ⟨t, rfl⟩ := hv
    have I1 : Inv X pins σ H { s with heap := h', toks := tk } := I.turned (fun b o hb e => kk b o (by simpa using hb) e) f0 f1 f3 f4 f5
    refine ⟨_, rfl, go_of (s := { s with heap := h', toks := tk }) (n := "range_iterator") st' rfl rfl (by decide) ⟨.int (lo + i), H, I1, ⟨t, ?_⟩, ⟨rfl, rfl⟩, st', fun b hb => (hf b hb).1⟩⟩
    rw [Int.mul_one]
  done := by
    intro X hP hw hK hc i pins s σ H E I hf st hg
    subst hP hw hK
    obtain ⟨f0, f1, f2, f3, f4, f5⟩ := hf it (by simp)
    exact wpAny_pyNext_range_end (I.ok.hd hc) st (by have : n ≤ i := hg; omega) fun h' eb => ⟨rfl, I.turned (t' := s.toks) (fun b o hb e => eb b o hb e) f0 f1 f3 f4 f5⟩
  self := fun _ _ _ _ _ st h => wpAny_pyIter_rangeiter st h
end L2

namespace L2
open PySem PySem.Spec PyProof.Rows
section
variable {X : Cx} {tg : Expr}
def iList (K : PySem.W.Frag) (tl : TE) : TI := fun σ H R => tl σ H fun x H1 => ∃ a, x = .ref a ∧ (∃ xs, SqL K H1 a xs) ∧ R (Itl K a) H1
theorem pi_list {l : Expr} {tl : TE} (hl : PE X l tl) : PI X tg l (iList X.K tl) := by
  intro pins s σ H R I h
  refine thn (hl pins s σ H _ I h) fun v s1 ⟨x, H1, I1, r1, q1⟩ => ?_
  obtain ⟨a, e, ⟨xs, hq⟩, q⟩ := q1
  subst e
  cases r1
  obtain ⟨its, rv, p, hz⟩ := I1.list hq
  refine wpAny_pyIter_list p.isList ?_
  refine ⟨s1.heap.objs.size, [s1.heap.objs.size], _, _, H1, rfl, I1.kept (t' := s1.toks) fun b o e => Heap.get?_push_of_some _ e, turn_list a _, ⟨_, Heap.get?_push_size _ rfl, rfl, rfl⟩, fun b hb => ?_, q⟩
  have e : b = s1.heap.objs.size := by simpa using hb
  subst e
  exact I1.fpOk (Nat.le_refl _) (I1.hok.fresh (Nat.le_refl _))
/-- a range object just made, walked -/
theorem range_it {pins : List (Addr × Obj)} {σ : St} {H : Hp} {s : Shared} {R : It → Hp → Prop} {E : Value → Shared → Prop} {lo hi : Int} {t u v : Tok} {tk : Nat} (I : Inv X pins σ H s) (h1 : -(2 ^ 62) ≤ lo) (h2 : lo < 2 ^ 62) (h3 : -(2 ^ 62) ≤ hi) (h4 : hi < 2 ^ 62)
    (q : R (Itr lo (hi - lo).toNat) H) : wpAny (model X.prog X.w) X.A (pyIter (.ref s.heap.objs.size)) (PIE X pins σ tg R) E { s with heap := s.heap.push { cls := .type "range", data := .fields #[.int lo t, .int hi u, .int 1 v] }, toks := tk } := by
  refine wpAny_pyIter_range (IsRange.new ..) (small_one h1 h2 h3 h4) ?_
  have I1 : Inv X pins σ H { s with heap := s.heap.push { cls := .type "range", data := .fields #[.int lo t, .int hi u, .int 1 v] }, toks := tk } := I.kept fun b o e => Heap.get?_push_of_some _ e
  refine ⟨(s.heap.push { cls := .type "range", data := .fields #[.int lo t, .int hi u, .int 1 v] }).objs.size, [(s.heap.push { cls := .type "range", data := .fields #[.int lo t, .int hi u, .int 1 v] }).objs.size], _, _, H, rfl,
    I1.kept (t' := tk) fun b o e => Heap.get?_push_of_some _ e, turn_range _ lo (hi - lo).toNat, ?_, fun b hb => ?_, q⟩
  · have e1 : lo + ((0 : Nat) : Int) * 1 = lo := by simp
    have e2 : (((hi - lo).toNat : Nat) : Int) - ((0 : Nat) : Int) = Builtin.Range.rangeSize lo hi 1 := by rw [rangeSize_one]; split <;> omega
    show IsRangeIter _ _ (lo + ((0 : Nat) : Int) * 1) ((((hi - lo).toNat : Nat) : Int) - ((0 : Nat) : Int)) 1
    rw [e1, e2]
    exact Heap.get?_push_size _ rfl
  · have e : b = (s.heap.push { cls := .type "range", data := .fields #[.int lo t, .int hi u, .int 1 v] }).objs.size := by simpa using hb
    subst e
    exact I1.fpOk (Nat.le_refl _) (I1.hok.fresh (Nat.le_refl _))
def iRng1 (ta : TA) : TI := fun σ H R => ta σ H fun vs H1 => ∃ j : Int, vs = [.int j] ∧ -(2 ^ 62) ≤ j ∧ j < 2 ^ 62 ∧ R (Itr 0 j.toNat) H1
def iRng2 (ta : TA) : TI := fun σ H R => ta σ H fun vs H1 => ∃ i j : Int, vs = [.int i, .int j] ∧ (-(2 ^ 62) ≤ i ∧ i < 2 ^ 62 ∧ -(2 ^ 62) ≤ j ∧ j < 2 ^ 62) ∧ R (Itr i (j - i).toNat) H1
theorem pi_range1 {a : Expr} {ta : TA} {p pos : Pos} (hg : Gl X "range") (hm : X.mg "range" = none) (ha : PA X [a] ta) (hs : starEach [a] X.env = [(false, eval a X.env)] := by rfl) : PI X tg (.Call (.Name "range" p) [a] [] pos) (iRng1 ta) := by
  intro pins s σ H R I h
  refine Call_ (ld_blt I hg hm boot_range (PyProof.Rows.callWith_type1 (thn (ha pos pins s σ H _ I h) fun us s1 ⟨vs, H1, I1, r1, q1⟩ => ?_) hs rfl))
  obtain ⟨j, e, q1, q2, q⟩ := q1
  subst e
  cases r1 with
  | cons r rr =>
    cases rr
    obtain ⟨t, rfl⟩ := r
    exact call_range_1 (range_it I1 (by omega) (by omega) q1 q2 (by simpa using q))
theorem pi_range2 {a b : Expr} {ta : TA} {p pos : Pos} (hg : Gl X "range") (hm : X.mg "range" = none) (ha : PA X [a, b] ta) (hs : starEach [a, b] X.env = [(false, eval a X.env), (false, eval b X.env)] := by rfl) (hs2 : starEach [b] X.env = [(false, eval b X.env)] := by rfl) :
    PI X tg (.Call (.Name "range" p) [a, b] [] pos) (iRng2 ta) := by
  intro pins s σ H R I h
  refine Call_ (ld_blt I hg hm boot_range (PyProof.Rows.callWith_type1 (thn (ha pos pins s σ H _ I h) fun us s1 ⟨vs, H1, I1, r1, q1⟩ => ?_) (by rw [hs, hs2]) (by rw [hs2]; rfl)))
  obtain ⟨i, j, e, ⟨q1, q2, q3, q4⟩, q⟩ := q1
  subst e
  cases r1 with
  | cons r rr =>
    cases rr with
    | cons r' rr =>
      cases rr
      obtain ⟨t, rfl⟩ := r
      obtain ⟨t', rfl⟩ := r'
      exact call_range_2 (range_it I1 q1 q2 q3 q4 q)

/-! ### for -/
/-- W: the invariant by the turn and a measure; N: what the body is to reach -/
def tFor (wi : TI) (g : TG) (tb : TS) : TS := fun D σ H => wi σ H fun J H1 => ∃ W : Nat → Nat → St → Hp → Prop, (∃ m, W 0 m σ H1) ∧ ∀ i m σ H, W i m σ H →
  (J.stop i H ∧ D.nx σ H) ∨ (J.go i H ∧ ∃ N : St → Hp → Prop, (∀ σ' H', N σ' H' → ∃ m', m' < m ∧ W (i + 1) m' σ' H') ∧ ∀ x H', J.yld i H x H' → g x σ H' fun σ2 H2 => tb { D with nx := N, ct := N, bk := D.nx } σ2 H2)
/-- the records at fp as they stand -/
def pinsAt (fp : List Addr) (h : Heap) : List (Addr × Obj) := fp.filterMap fun b => (h.get? b).map fun o => (b, o)
theorem mem_pinsAt {fp : List Addr} {h : Heap} {b : Addr} {o : Obj} (hb : b ∈ fp) (e : h.get? b = some o) : (b, o) ∈ pinsAt fp h := List.mem_filterMap.mpr ⟨b, hb, by rw [e]; rfl⟩
theorem of_pinsAt {fp : List Addr} {h : Heap} {p : Addr × Obj} (hp : p ∈ pinsAt fp h) : p.1 ∈ fp ∧ h.get? p.1 = some p.2 := by
  obtain ⟨b, hb, e⟩ := List.mem_filterMap.mp hp
  cases q : h.get? b with
  | none => rw [q] at e; cases e
  | some o =>
    rw [q] at e
    have e' : (b, o) = p := Option.some.inj e
    subst e'
    exact ⟨hb, q⟩
theorem Inv.pinned {pins : List (Addr × Obj)} {σ : St} {H : Hp} {s : Shared} {fp : List Addr} (I : Inv X pins σ H s) (hf : ∀ b ∈ fp, FpOk X pins H b) (ho : ∀ b ∈ fp, ∃ o, s.heap.get? b = some o ∧ ∀ v, o.data ≠ .cell v) : Inv X (pins ++ pinsAt fp s.heap) σ H s :=
  I.pins_of fun p hp => (List.mem_append.mp hp).elim (fun z => I.pin p (List.mem_append_right _ z)) fun z => by
    obtain ⟨hb, e⟩ := of_pinsAt z
    obtain ⟨f0, f1, f2, _⟩ := hf p.1 hb
    obtain ⟨o, e', d⟩ := ho p.1 hb
    rw [e] at e'; cases e'
    exact ⟨e, f0, f1, f2, d⟩
theorem Inv.unpinned {pins pl : List (Addr × Obj)} {σ : St} {H : Hp} {s : Shared} (I : Inv X (pins ++ pl) σ H s) : Inv X pins σ H s := I.pins_of fun p hp => I.pin p (List.mem_append_right _ (List.mem_append_left _ hp))
theorem ps_for {iter : Expr} {body : List Stmt} {wi : TI} {g : TG} {tb : TS} {pos : Pos} (hp : PassesOwn (model X.prog X.w) X.A X.env X.xe) (hc : X.calm = true) (hi : PI X tg iter wi) (hg : PG X tg g) (hb : PSs X body tb)
    (hs : ∀ x, foldedSetIterable iter X.env x = pure x := by intro _; rfl) : PS X (.For tg iter body [] pos) (tFor wi g tb) := by
  intro pins s σ H D I h
  refine wpAny_For (thn (hi pins s σ H _ I h) fun v s1 h1 => thn h1 fun itv s2 h2 => ?_) hs
  obtain ⟨it, fp, tn, J, H2, e, I2, T, st2, f2, W, ⟨m0, w0⟩, turn⟩ := h2
  subst e
  -- what stays true of the iterator's objects through the loop
  have stat : ∀ {H' : Hp}, (∀ b ∈ fp, H' b = none) → ∀ b ∈ fp, FpOk X pins H' b := fun hn b hb => ⟨hn b hb, (f2 b hb).2⟩
  refine codeAny_forLoop_any (fun n s' => ∃ i σ' H', Inv X pins σ' H' s' ∧ tn i s'.heap ∧ (∀ b ∈ fp, H' b = none) ∧ W i n σ' H') ?_ m0 ⟨0, σ, H2, I2, st2, fun b hb => (f2 b hb).1, w0⟩
  rintro n s3 ⟨i, σ3, H3, I3, st3, fr3, w3⟩
  rcases turn i n σ3 H3 w3 with ⟨stop, qn⟩ | ⟨go, N, hN, step⟩
  · refine wpAny_passesOwn hp (thn (T.done X rfl rfl rfl hc i pins s3 σ3 H3 X.xe I3 (stat fr3) st3 stop) fun r s4 ⟨hr, I4⟩ => ?_)
    subst hr
    exact wpAny_execs_nil ⟨σ3, H3, I4, qn⟩
  · refine wpAny_passesOwn hp (thn (T.item X rfl rfl rfl hc i pins s3 σ3 H3 X.xe I3 (stat fr3) st3 go) fun r s4 ⟨u, hr, h4⟩ => ?_)
    subst hr
    refine wpAny_passesOwn hp (thn h4 fun _ s5 ⟨x, H5, I5, r5, y5, st5, fr5⟩ => ?_)
    have I5' := I5.pinned (stat fr5) (T.obj _ _ st5)
    refine wpAny_passesOwn hp (thn (hg _ s5 σ3 H5 x u _ I5' r5 (step x H5 y5)) fun _ s6 ⟨σ6, H6, I6, q6⟩ => ?_)
    refine wpAny_passesOwn hp (thn (hb _ s6 σ6 H6 _ I6 q6) fun f s7 q7 => ?_)
    have again : ∀ {σ7 : St} {H7 : Hp}, Inv X (pins ++ pinsAt fp s5.heap) σ7 H7 s7 → N σ7 H7 → ∃ m, m < n ∧ ∃ i σ' H', Inv X pins σ' H' s7 ∧ tn i s7.heap ∧ (∀ b ∈ fp, H' b = none) ∧ W i m σ' H' := fun {σ7 H7} I7 n7 => by
      obtain ⟨m', hm, w7⟩ := hN σ7 H7 n7
      refine ⟨m', hm, i + 1, σ7, H7, I7.unpinned, T.keep _ _ _ st5 fun b hb o e => (I7.pin (b, o) (List.mem_append_right _ (List.mem_append_right _ (mem_pinsAt hb e)))).1, fun b hb => ?_, w7⟩
      obtain ⟨o, e, d⟩ := T.obj _ _ st5 b hb
      exact (I7.pin (b, o) (List.mem_append_right _ (List.mem_append_right _ (mem_pinsAt hb e)))).2.1
    cases f with
    | next => obtain ⟨σ7, H7, I7, n7⟩ := q7; exact again I7 n7
    | cont => obtain ⟨σ7, H7, I7, n7⟩ := q7; exact again I7 n7
    | brk => obtain ⟨σ7, H7, I7, q7⟩ := q7; exact ⟨σ7, H7, I7.unpinned, q7⟩
    | ret v => obtain ⟨x7, σ7, H7, I7, r7, q7⟩ := q7; exact ⟨x7, σ7, H7, I7.unpinned, r7, q7⟩
end

/-! ### the forms one uses -/
/-- over a list that the body leaves as it is -/
theorem for_list {K : PySem.W.Frag} {a : Addr} {xs : List V} {g : TG} {tb : TS} {D : Ends} {σ : St} {H : Hp} (Pv : Nat → St → Hp → Prop) (h0 : Pv 0 σ H) (hl : ∀ i σ H, i ≤ xs.length → Pv i σ H → SqL K H a xs)
    (hs : ∀ i x σ H, xs[i]? = some x → Pv i σ H → g x σ H fun σ2 H2 => tb { D with nx := Pv (i + 1), ct := Pv (i + 1), bk := D.nx } σ2 H2) (hd : ∀ σ H, Pv xs.length σ H → D.nx σ H) :
    ∃ W : Nat → Nat → St → Hp → Prop, (∃ m, W 0 m σ H) ∧ ∀ i m σ H, W i m σ H →
      ((Itl K a).stop i H ∧ D.nx σ H) ∨ ((Itl K a).go i H ∧ ∃ N : St → Hp → Prop, (∀ σ' H', N σ' H' → ∃ m', m' < m ∧ W (i + 1) m' σ' H') ∧ ∀ x H', (Itl K a).yld i H x H' → g x σ H' fun σ2 H2 => tb { D with nx := N, ct := N, bk := D.nx } σ2 H2) := by
  refine ⟨fun i m σ H => m = xs.length - i ∧ i ≤ xs.length ∧ Pv i σ H, ⟨xs.length, by simp, Nat.zero_le _, h0⟩, ?_⟩
  rintro i m σ H ⟨rfl, hi, p⟩
  have q := hl i σ H hi p
  by_cases hlt : i < xs.length
  · refine .inr ⟨⟨xs, xs[i], q, by simp [hlt]⟩, Pv (i + 1), fun σ' H' p' => ⟨xs.length - (i + 1), by omega, rfl, hlt, p'⟩, fun x H' y => ?_⟩
    obtain ⟨e, y⟩ := y
    subst e
    exact hs i x σ _ (y xs q) p
  · have e : i = xs.length := by omega
    subst e
    exact .inl ⟨⟨xs, q, Nat.le_refl _⟩, hd σ H p⟩
theorem for_range {lo : Int} {n : Nat} {g : TG} {tb : TS} {D : Ends} {σ : St} {H : Hp} (Pv : Nat → St → Hp → Prop) (h0 : Pv 0 σ H)
    (hs : ∀ i σ H, i < n → Pv i σ H → g (.int (lo + i)) σ H fun σ2 H2 => tb { D with nx := Pv (i + 1), ct := Pv (i + 1), bk := D.nx } σ2 H2) (hd : ∀ σ H, Pv n σ H → D.nx σ H) :
    ∃ W : Nat → Nat → St → Hp → Prop, (∃ m, W 0 m σ H) ∧ ∀ i m σ H, W i m σ H →
      ((Itr lo n).stop i H ∧ D.nx σ H) ∨ ((Itr lo n).go i H ∧ ∃ N : St → Hp → Prop, (∀ σ' H', N σ' H' → ∃ m', m' < m ∧ W (i + 1) m' σ' H') ∧ ∀ x H', (Itr lo n).yld i H x H' → g x σ H' fun σ2 H2 => tb { D with nx := N, ct := N, bk := D.nx } σ2 H2) := by
  refine ⟨fun i m σ H => m = n - i ∧ i ≤ n ∧ Pv i σ H, ⟨n, by simp, Nat.zero_le _, h0⟩, ?_⟩
  rintro i m σ H ⟨rfl, hi, p⟩
  by_cases hlt : i < n
  · refine .inr ⟨hlt, Pv (i + 1), fun σ' H' p' => ⟨n - (i + 1), by omega, rfl, hlt, p'⟩, fun x H' y => ?_⟩
    obtain ⟨e, y⟩ := y
    subst e y
    exact hs i σ _ hlt p
  · have e : i = n := by omega
    subst e
    exact .inl ⟨Nat.le_refl _, hd σ H p⟩
end L2

namespace L2
open PySem PySem.Spec PyProof.Rows

abbrev R2 := V → V → Hp → VK → Prop
/-- a two-place operation on values: f is binaryOp op, inplaceOp op or compareOp op -/
def OpR (X : Cx) (f : Value → Value → Sem Value) (r : R2) : Prop :=
  ∀ (pins : List (Addr × Obj)) (s : Shared) (σ : St) (H : Hp) (x y : V) (v u : Value) (Q : VK), Inv X pins σ H s → RelV x v → RelV y u → r x y H Q →
    wpAny (model X.prog X.w) X.A (f v u) (EP X pins σ Q) X.xe s
/-- a one-place operation -/
def UnR (X : Cx) (f : Value → Sem Value) (r : V → Hp → VK → Prop) : Prop :=
  ∀ (pins : List (Addr × Obj)) (s : Shared) (σ : St) (H : Hp) (x : V) (v : Value) (Q : VK), Inv X pins σ H s → RelV x v → r x H Q →
    wpAny (model X.prog X.w) X.A (f v) (EP X pins σ Q) X.xe s
/-- a call of a value that is known (a builtin, a type) with values -/
def CallR (X : Cx) (f : Value) (r : List V → Hp → VK → Prop) : Prop :=
  ∀ (pins : List (Addr × Obj)) (s : Shared) (σ : St) (H : Hp) (xs : List V) (us : List Value) (Q : VK), Inv X pins σ H s → Vals xs us → r xs H Q →
    wpAny (model X.prog X.w) X.A (call f us) (EP X pins σ Q) X.xe s
def tOp (r : R2) (ta tb : TE) : TE := fun σ H Q => ta σ H fun x H1 => tb σ H1 fun y H2 => r x y H2 Q
def tUn (r : V → Hp → VK → Prop) (ta : TE) : TE := fun σ H Q => ta σ H fun x H1 => r x H1 Q
/-- ints in, under C, and a value out -/
def rI (C : Int → Int → Prop) (g : Int → Int → V) : R2 := fun x y H Q => ∃ i j, x = .int i ∧ y = .int j ∧ C i j ∧ Q (g i j) H
def rI0 (g : Int → Int → V) : R2 := fun x y H Q => ∃ i j, x = .int i ∧ y = .int j ∧ Q (g i j) H
def rU (g : Int → V) : V → Hp → VK → Prop := fun x H Q => ∃ i, x = .int i ∧ Q (g i) H

section
variable {X : Cx} {a b c : Expr} {ta tb tc : TE} {pos : Pos}

theorem binT (ha : PE X a ta) (hb : PE X b tb) {pins : List (Addr × Obj)} {s : Shared} {σ : St} {H : Hp} {R : V → V → Hp → Prop} (I : Inv X pins σ H s)
    (h : ta σ H fun x H1 => tb σ H1 fun y H2 => R x y H2) {Q : Value → Shared → Prop} {f : Value → Value → Sem Value}
    (hf : ∀ v u s2 x y H2, Inv X pins σ H2 s2 → RelV x v → RelV y u → R x y H2 → wpAny (model X.prog X.w) X.A (f v u) Q X.xe s2) :
    wpAny (model X.prog X.w) X.A (eval a X.env) (fun v s₁ => wpAny (model X.prog X.w) X.A (eval b X.env) (fun u s₂ => wpAny (model X.prog X.w) X.A (f v u) Q X.xe s₂) X.xe s₁) X.xe s := by
  refine thn (ha pins s σ H _ I h) fun v s1 ⟨x, H1, I1, r1, q1⟩ => ?_
  refine thn (hb pins s1 σ H1 _ I1 q1) fun u s2 ⟨y, H2, I2, r2, q2⟩ => ?_
  exact hf v u s2 x y H2 I2 r1 r2 q2

theorem pe_op {op : Operator} {r : R2} (ho : OpR X (binaryOp op) r) (ha : PE X a ta) (hb : PE X b tb) : PE X (.BinOp a op b pos) (tOp r ta tb) := by
  intro pins s σ H Q I h
  exact wpAny_BinOp (binT ha hb I h fun v u s2 x y H2 I2 rx ry q => ho pins s2 σ H2 x y v u Q I2 rx ry q)
theorem pe_un {op : UnaryOp} {r : V → Hp → VK → Prop} (ho : UnR X (unaryOp op) r) (ha : PE X a ta) : PE X (.UnaryOp op a pos) (tUn r ta) := by
  intro pins s σ H Q I h
  exact UnaryOp_ (thn (ha pins s σ H _ I h) fun v s1 ⟨x, H1, I1, r1, q1⟩ => ho pins s1 σ H1 x v Q I1 r1 q1)
/-! ### ints -/
theorem opI {f : Value → Value → Sem Value} {C : Int → Int → Prop} {g : Int → Int → Int}
    (rule : ∀ (i j : Int) (t u : Tok) (s : Shared) (Q : Value → Shared → Prop) (E : Value → Shared → Prop), C i j → Q (.int (g i j) s.toks) { s with toks := s.toks + 1 } → wpAny (model X.prog X.w) X.A (f (.int i t) (.int j u)) Q E s) :
    OpR X f (rI C fun i j => .int (g i j)) := by
  intro pins s σ H x y v u Q I rx ry h
  obtain ⟨i, j, rfl, rfl, hc, q⟩ := h
  obtain ⟨t, rfl⟩ := rx
  obtain ⟨t', rfl⟩ := ry
  exact rule i j t t' s _ _ hc ⟨.int (g i j), H, I.tok _, ⟨_, rfl⟩, q⟩
theorem opI0 {f : Value → Value → Sem Value} {g : Int → Int → Int}
    (rule : ∀ (i j : Int) (t u : Tok) (s : Shared) (Q : Value → Shared → Prop) (E : Value → Shared → Prop), Q (.int (g i j) s.toks) { s with toks := s.toks + 1 } → wpAny (model X.prog X.w) X.A (f (.int i t) (.int j u)) Q E s) :
    OpR X f (rI0 fun i j => .int (g i j)) := by
  intro pins s σ H x y v u Q I rx ry h
  obtain ⟨i, j, rfl, rfl, q⟩ := h
  obtain ⟨t, rfl⟩ := rx
  obtain ⟨t', rfl⟩ := ry
  exact rule i j t t' s _ _ ⟨.int (g i j), H, I.tok _, ⟨_, rfl⟩, q⟩
theorem opB0 {f : Value → Value → Sem Value} {g : Int → Int → Bool}
    (rule : ∀ (i j : Int) (t u : Tok) (s : Shared) (Q : Value → Shared → Prop) (E : Value → Shared → Prop), Q (.bool (g i j)) s → wpAny (model X.prog X.w) X.A (f (.int i t) (.int j u)) Q E s) :
    OpR X f (rI0 fun i j => .bl (g i j)) := by
  intro pins s σ H x y v u Q I rx ry h
  obtain ⟨i, j, rfl, rfl, q⟩ := h
  obtain ⟨t, rfl⟩ := rx
  obtain ⟨t', rfl⟩ := ry
  exact rule i j t t' s _ _ ⟨.bl (g i j), H, I, rfl, q⟩

def CDiv (i j : Int) : Prop := 0 < j ∧ j < 1073741824
def CMul (i j : Int) : Prop := (-(2 ^ 64) < i ∧ i < 2 ^ 64) ∨ (-(2 ^ 64) < j ∧ j < 2 ^ 64)
theorem CMul.ok {i j : Int} (h : CMul i j) : IntMulOk i j := by
  rcases h with ⟨h1, h2⟩ | ⟨h1, h2⟩
  · exact .of_left (intBits_le_64 h1 h2)
  · exact .of_right (intBits_le_64 h1 h2)
theorem op_add : OpR X (binaryOp .Add) (rI0 fun i j => .int (i + j)) := opI0 fun _ _ _ _ _ _ _ q => add_int q
theorem op_sub : OpR X (binaryOp .Sub) (rI0 fun i j => .int (i - j)) := opI0 fun _ _ _ _ _ _ _ q => sub_int q
theorem op_mul : OpR X (binaryOp .Mult) (rI CMul fun i j => .int (i * j)) := opI fun _ _ _ _ _ _ _ hc q => mul_int q hc.ok
/-- // by a positive divisor -/
theorem op_fdiv : OpR X (binaryOp .FloorDiv) (rI CDiv fun i j => .int (i / j)) := opI fun i j _ _ _ _ _ hc q => by
  have h1 : (0 : Int) < j := hc.1
  have h2 : j < 1073741824 := hc.2
  exact floordiv_int (by omega) (by rw [Int.fdiv_eq_ediv_of_nonneg i (by omega)]; exact q) (.inl (PyProof.noPylong_small (by omega)))
/-- % by a positive divisor of any size -/
theorem op_mod : OpR X (binaryOp .Mod) (rI (fun _ j => 0 < j) fun i j => .int (i % j)) := opI fun i j _ _ _ _ _ hc q => by
  have h1 : (0 : Int) < j := hc
  exact mod_int' (by omega) (by rw [Int.fmod_eq_emod_of_nonneg i (by omega)]; exact q)
theorem unI {f : Value → Sem Value} {g : Int → Int}
    (rule : ∀ (i : Int) (t : Tok) (s : Shared) (Q : Value → Shared → Prop) (E : Value → Shared → Prop), Q (.int (g i) s.toks) { s with toks := s.toks + 1 } → wpAny (model X.prog X.w) X.A (f (.int i t)) Q E s) :
    UnR X f (rU fun i => .int (g i)) := by
  intro pins s σ H x v Q I rx h
  obtain ⟨i, rfl, q⟩ := h
  obtain ⟨t, rfl⟩ := rx
  exact rule i t s _ _ ⟨.int (g i), H, I.tok _, ⟨_, rfl⟩, q⟩
theorem un_neg : UnR X (unaryOp .USub) (rU fun i => .int (-i)) := unI fun _ _ _ _ _ q => neg_int q
/-! ### bools among ints: n += (a < b) -/
end

/-! ### comparisons -/
/-- the scalars that == tells apart as data does -/
def scal : V → V → Bool
  | .non, .non => true | .non, .int _ => true | .int _, .non => true | .non, .bl _ => true | .bl _, .non => true | .non, .str _ => true | .str _, .non => true
  | .int _, .int _ => true | .bl _, .bl _ => true | .str _, .str _ => true | .byt _, .byt _ => true
  | .int _, .str _ => true | .str _, .int _ => true | .bl _, .str _ => true | .str _, .bl _ => true
  | _, _ => false
def rEq : R2 := fun x y H Q => scal x y = true ∧ Q (.bl (decide (x = y))) H
def rNe : R2 := fun x y H Q => scal x y = true ∧ Q (.bl (!decide (x = y))) H

theorem dec_int {i j : Int} : decide (V.int i = V.int j) = (i == j) := by
  rw [Bool.eq_iff_iff]
  simp
theorem dec_bl {i j : Bool} : decide (V.bl i = V.bl j) = (i == j) := by
  rw [Bool.eq_iff_iff]
  simp
theorem dec_str {i j : Str} : decide (V.str i = V.str j) = (i == j) := by
  rw [Bool.eq_iff_iff]
  simp
theorem dec_byt {i j : Array UInt8} : decide (V.byt i = V.byt j) = (i.toList == j.toList) := by
  rw [Bool.eq_iff_iff]
  cases i
  cases j
  simp

section
variable {X : Cx} {a b c : Expr} {ta tb tc : TE} {pos : Pos}
theorem fin_bl {pins : List (Addr × Obj)} {σ : St} {H : Hp} {s : Shared} {Q : VK} {k k' : Bool} (I : Inv X pins σ H s) (q : Q (.bl k) H) (e : k = k') : EP X pins σ Q (.bool k') s := by
  subst e
  exact ⟨.bl k, H, I, rfl, q⟩
theorem op_eq : OpR X (compareOp .Eq) rEq := by
  intro pins s σ H x y v u Q I rx ry h
  obtain ⟨hs, q⟩ := h
  cases x with
  | non =>
    cases rx
    cases y with
    | non => cases ry; exact PySem.EqNone.eq_none_none (fin_bl I q (by simp))
    | bl j => cases ry; exact PySem.EqNone.eq_none_bool (fin_bl I q (by simp))
    | int j => obtain ⟨t', rfl⟩ := ry; exact PySem.EqNone.eq_none_int (fin_bl I q (by simp))
    | str j => obtain ⟨t', rfl⟩ := ry; exact PySem.EqNone.eq_none_str (fin_bl I q (by simp))
    | _ => exact absurd (show false = true from hs) Bool.false_ne_true
  | bl i =>
    cases rx
    cases y with
    | non => cases ry; exact PySem.EqNone.eq_bool_none (fin_bl I q (by simp))
    | bl j => cases ry; exact eq_bool (fin_bl I q dec_bl)
    | str j => obtain ⟨t', rfl⟩ := ry; exact PySem.EqMixed.eq_bool_str (fin_bl I q (by simp))
    | _ => exact absurd (show false = true from hs) Bool.false_ne_true
  | int i =>
    obtain ⟨t, rfl⟩ := rx
    cases y with
    | non => cases ry; exact PySem.EqNone.eq_int_none (fin_bl I q (by simp))
    | int j => obtain ⟨t', rfl⟩ := ry; exact eq_int (fin_bl I q dec_int)
    | str j => obtain ⟨t', rfl⟩ := ry; exact PySem.EqMixed.eq_int_str (fin_bl I q (by simp))
    | _ => exact absurd (show false = true from hs) Bool.false_ne_true
  | str i =>
    obtain ⟨t, rfl⟩ := rx
    cases y with
    | non => cases ry; exact PySem.EqNone.eq_str_none (fin_bl I q (by simp))
    | bl j => cases ry; exact PySem.EqMixed.eq_str_bool (fin_bl I q (by simp))
    | int j => obtain ⟨t', rfl⟩ := ry; exact PySem.EqMixed.eq_str_int (fin_bl I q (by simp))
    | str j => obtain ⟨t', rfl⟩ := ry; exact eq_str (fin_bl I q dec_str)
    | _ => exact absurd (show false = true from hs) Bool.false_ne_true
  | byt i =>
    obtain ⟨t, rfl⟩ := rx
    cases y with
    | byt j => obtain ⟨t', rfl⟩ := ry; exact PySem.W.eq_bytes (fin_bl I q dec_byt)
    | _ => exact absurd (show false = true from hs) Bool.false_ne_true
  | _ => cases y <;> exact absurd (show false = true from hs) Bool.false_ne_true
theorem op_ne : OpR X (compareOp .NotEq) rNe := by
  intro pins s σ H x y v u Q I rx ry h
  obtain ⟨hs, q⟩ := h
  cases x with
  | non =>
    cases rx
    cases y with
    | non => cases ry; exact PySem.EqNone.ne_none_none (fin_bl I q (by simp))
    | bl j => cases ry; exact PySem.EqNone.ne_none_bool (fin_bl I q (by simp))
    | int j => obtain ⟨t', rfl⟩ := ry; exact PySem.EqNone.ne_none_int (fin_bl I q (by simp))
    | str j => obtain ⟨t', rfl⟩ := ry; exact PySem.EqNone.ne_none_str (fin_bl I q (by simp))
    | _ => exact absurd (show false = true from hs) Bool.false_ne_true
  | bl i =>
    cases rx
    cases y with
    | non => cases ry; exact PySem.EqNone.ne_bool_none (fin_bl I q (by simp))
    | bl j => cases ry; exact ne_bool (fin_bl I q (congrArg not dec_bl))
    | str j => obtain ⟨t', rfl⟩ := ry; exact PySem.EqMixed.ne_bool_str (fin_bl I q (by simp))
    | _ => exact absurd (show false = true from hs) Bool.false_ne_true
  | int i =>
    obtain ⟨t, rfl⟩ := rx
    cases y with
    | non => cases ry; exact PySem.EqNone.ne_int_none (fin_bl I q (by simp))
    | int j => obtain ⟨t', rfl⟩ := ry; exact ne_int (fin_bl I q (congrArg not dec_int))
    | str j => obtain ⟨t', rfl⟩ := ry; exact PySem.EqMixed.ne_int_str (fin_bl I q (by simp))
    | _ => exact absurd (show false = true from hs) Bool.false_ne_true
  | str i =>
    obtain ⟨t, rfl⟩ := rx
    cases y with
    | non => cases ry; exact PySem.EqNone.ne_str_none (fin_bl I q (by simp))
    | bl j => cases ry; exact PySem.EqMixed.ne_str_bool (fin_bl I q (by simp))
    | int j => obtain ⟨t', rfl⟩ := ry; exact PySem.EqMixed.ne_str_int (fin_bl I q (by simp))
    | str j => obtain ⟨t', rfl⟩ := ry; exact ne_str (fin_bl I q (congrArg not dec_str))
    | _ => exact absurd (show false = true from hs) Bool.false_ne_true
  | byt i =>
    obtain ⟨t, rfl⟩ := rx
    cases y with
    | byt j => obtain ⟨t', rfl⟩ := ry; exact PySem.W.ne_bytes (fin_bl I q (congrArg not dec_byt))
    | _ => exact absurd (show false = true from hs) Bool.false_ne_true
  | _ => cases y <;> exact absurd (show false = true from hs) Bool.false_ne_true

theorem op_lt : OpR X (compareOp .Lt) (rI0 fun i j => .bl (decide (i < j))) := opB0 fun _ _ _ _ _ _ _ q => lt_int q
theorem op_le : OpR X (compareOp .LtE) (rI0 fun i j => .bl (decide (i ≤ j))) := opB0 fun _ _ _ _ _ _ _ q => le_int q
theorem op_gt : OpR X (compareOp .Gt) (rI0 fun i j => .bl (decide (j < i))) := opB0 fun _ _ _ _ _ _ _ q => gt_int q
theorem op_ge : OpR X (compareOp .GtE) (rI0 fun i j => .bl (decide (j ≤ i))) := opB0 fun _ _ _ _ _ _ _ q => ge_int q
theorem nomark (b : Expr) {op : CmpOp} (h : op ≠ .In := by decide) (h2 : op ≠ .NotIn := by decide) : behindInMarks op b = false := by
  have e1 : (op == CmpOp.In) = false := by cases op <;> first | rfl | exact absurd rfl h
  have e2 : (op == CmpOp.NotIn) = false := by cases op <;> first | rfl | exact absurd rfl h2
  cases b <;> simp [behindInMarks, e1, e2]
/-- a comparison as a value; hm: nomark b, or (for in, not in) by with_unfolding_all rfl -/
theorem pe_cmpR {op : CmpOp} {r : R2} (ho : OpR X (compareOp op) r) (ha : PE X a ta) (hb : PE X b tb) (hm : behindInMarks op b = false) : PE X (.Compare a [op] [b] pos) (tOp r ta tb) := by
  intro pins s σ H Q I h
  exact wpAny_Compare1 (binT ha hb I h fun v u s2 x y H2 I2 rx ry q => ho pins s2 σ H2 x y v u Q I2 rx ry q) hm
/-- a reading of a value as a test -/
def tTest (t : TE) : TT := fun σ H Q => t σ H fun x H' => ∃ k, x = .bl k ∧ Q k H'
theorem pt_cmpR {op : CmpOp} {r : R2} (ho : OpR X (compareOp op) r) (ha : PE X a ta) (hb : PE X b tb) (hm : behindInMarks op b = false) : PT X (.Compare a [op] [b] pos) (tTest (tOp r ta tb)) := by
  intro pins s σ H Q I h
  refine wpAny_isTrue_Compare1 (thn (ha pins s σ H _ I h) fun v s1 ⟨x, H1, I1, r1, q1⟩ => thn (hb pins s1 σ H1 _ I1 q1) fun u s2 ⟨y, H2, I2, r2, q2⟩ =>
    thn (ho pins s2 σ H2 x y v u _ I2 r1 r2 q2) fun c s3 ⟨z, H3, I3, r3, k, e, q3⟩ => ?_) hm
  subst e
  cases r3
  exact wpAny_truthy_bool ⟨H3, I3, q3⟩
/-- a op1 b op2 c -/
def tChain (r r' : R2) (ta tb tc : TE) : TE := fun σ H Q => ta σ H fun x H1 => tb σ H1 fun y H2 => r x y H2 fun z H3 => ∃ k, z = .bl k ∧
  (if k = true then tc σ H3 fun w' H4 => r' y w' H4 Q else Q (.bl false) H3)
theorem pe_chain {op op' : CmpOp} {r r' : R2} (ho : OpR X (compareOp op) r) (ho' : OpR X (compareOp op') r') (ha : PE X a ta) (hb : PE X b tb) (hc : PE X c tc)
    (hm : lastMarks [op, op'] [b, c] = false := by with_unfolding_all rfl) : PE X (.Compare a [op, op'] [b, c] pos) (tChain r r' ta tb tc) := by
  intro pins s σ H Q I h
  refine Compare_chain (thn (ha pins s σ H _ I h) fun v s1 ⟨x, H1, I1, r1, q1⟩ => chain_link (thn (hb pins s1 σ H1 _ I1 q1) fun u s2 ⟨y, H2, I2, r2, q2⟩ =>
    thn (ho pins s2 σ H2 x y v u _ I2 r1 r2 q2) fun d s3 ⟨z, H3, I3, r3, k, e, q3⟩ => ?_)) hm
  subst e
  cases r3
  refine wpAny_truthy_bool ?_
  cases k with
  | false => exact ite_ff ⟨.bl false, H3, I3, rfl, q3⟩
  | true => exact ite_tt (chain_last (thn (hc pins s3 σ H3 _ I3 q3) fun w' s4 ⟨z', H4, I4, r4, q4⟩ => ho' pins s4 σ H4 y z' u w' Q I4 r2 r4 q4))
/-! ### truth -/
theorem line63 : (sizeLine : Nat) < 2 ^ 63 := by rw [sizeLine_eq]; decide
/-! ### strs and bytes -/
/-! ### scalar builtins, by CallR -/
theorem vals1 {x : V} {us : List Value} (r : Vals [x] us) : ∃ u, us = [u] ∧ RelV x u := by
  cases r with
  | cons r1 r2 => cases r2; exact ⟨_, rfl, r1⟩
theorem vals2 {x y : V} {us : List Value} (r : Vals [x, y] us) : ∃ u w', us = [u, w'] ∧ RelV x u ∧ RelV y w' := by
  cases r with
  | cons r1 r2 =>
    cases r2 with
    | cons r3 r4 => cases r4; exact ⟨_, _, rfl, r1, r3⟩
theorem call_min2 (hc : X.calm = true) : CallR X (.builtin "min") (fun xs H Q => ∃ i j, xs = [.int i, .int j] ∧ Q (.int (if j < i then j else i)) H) := by
  intro pins s σ H xs us Q I r h
  obtain ⟨i, j, rfl, q⟩ := h
  obtain ⟨u, w', rfl, ⟨t, rfl⟩, ⟨t', rfl⟩⟩ := vals2 r
  refine min_two_ints (I.ok.hd hc) fun h' tk k => ⟨_, H, I.kept k, ?_, q⟩
  by_cases hj : j < i
  · rw [if_pos hj, if_pos hj]; exact ⟨_, rfl⟩
  · rw [if_neg hj, if_neg hj]; exact ⟨_, rfl⟩
theorem call_int1 : CallR X (.type "int") (fun xs H Q => (∃ i, xs = [.int i] ∧ Q (.int i) H) ∨ ∃ k, xs = [.bl k] ∧ Q (.int (if k then 1 else 0)) H) := by
  intro pins s σ H xs us Q I r h
  rcases h with ⟨i, rfl, q⟩ | ⟨k, rfl, q⟩
  · obtain ⟨u, rfl, t, rfl⟩ := vals1 r
    exact call_int_int ⟨.int i, H, I, ⟨_, rfl⟩, q⟩
  · obtain ⟨u, rfl, r1⟩ := vals1 r
    cases r1
    exact call_int_bool ⟨.int (if k then 1 else 0), H, I.tok _, ⟨_, rfl⟩, q⟩
end
end L2

namespace L2
open PySem PySem.Spec PyProof.Rows

/-! ### an instance, its attributes a map -/
structure ObjM (h : Heap) (x dx C : Addr) (mA : Str → Option Value) : Prop where
  obj : h.get? x = some (PySem.W.instObj C dx)
  ns : h.Ns1 dx mA
  ne : dx ≠ x

theorem lookIn_ns {h : Heap} {dx : Addr} {mA : Str → Option Value} (n : h.Ns1 dx mA) : ∃ od, h.get? dx = some od ∧ ∀ name, PySem.W.lookIn name od = some (mA name) := by
  obtain ⟨o, es, ep, ho, hd, hk, _, hm⟩ := n
  refine ⟨o, ho, fun name => ?_⟩
  have e := hm name
  unfold nsFind findBy at e
  rw [← Array.find?_toList] at e
  unfold PySem.W.lookIn
  rw [hd]
  dsimp only
  split
  · rename_i y q
    rw [q] at e
    exact congrArg some e
  · rename_i q
    rw [q] at e
    have a : es.toList.any (·.refKey) = false := by
      rw [List.any_eq_false]
      intro y hy
      obtain ⟨z, t, hkey⟩ := hk y (Array.mem_toList_iff.mp hy)
      simp [DictEntry.refKey, hkey]
    have a' : ¬ es.toList.any (·.refKey) = true := by rw [a]; exact Bool.false_ne_true
    rw [if_neg a']
    exact congrArg some e

theorem ObjM.look {h : Heap} {x dx C : Addr} {mA : Str → Option Value} (I : ObjM h x dx C mA) : ∃ od, PySem.W.InstAt h x (PySem.W.instObj C dx) C (some od) ∧ ∀ name, PySem.W.lookIn name od = some (mA name) :=
  let ⟨od, ho, hl⟩ := lookIn_ns I.ns
  ⟨od, ⟨I.obj, rfl, rfl, ho⟩, hl⟩

section
variable {prog : Program} {w : World} {A : Around} {E : Value → Shared → Prop} {s : Shared} {K : PySem.W.Frag} {x dx C f : Addr} {mA : Str → Option Value} {name : Str} {v : Value}

end

/-! ### the attributes as a list of pairs -/
section
variable {P : Program} {w : World} {H H' : Hp} {h h' : Heap} {a C dx : Addr} {fs fs' : List (Str × V)}
theorem ins_get (hok : HOk P w H h) (e : H a = some (.ins C dx fs)) : ∃ mA, ObjM h a dx C mA ∧ (∀ f, RelO (fs.lookup f) (mA f)) ∧ PySem.Within mA (fs.map (·.1)) ∧ fs.length ≤ 1000 ∧ H dx = some (.own a) := by
  obtain ⟨d, z, ne, ob, mA, n, r, q⟩ := (show ObjOk P w H h a (.ins C dx fs) from hok a _ e)
  exact ⟨mA, ⟨ob, n, ne⟩, r, q, z, d⟩
end

/-! ### what of the text a class must have -/
structure Cls (K : PySem.W.Frag) (C : Addr) : Prop where
  pg : PySem.W.plainGet K C Str.empty = true
  hd : PySem.W.hasDictIn K C = true
  po : PySem.W.plainOver K C = true
  sa : PySem.W.findIn K (.ref C) "__setattr__" = some (some (.builtin "object.__setattr__"))
theorem Cls.get {K : PySem.W.Frag} {C : Addr} (c : Cls K C) (f : Str) : PySem.W.plainGet K C f = true := c.pg
section
variable {X : Cx} {pins : List (Addr × Obj)} {σ : St} {H : Hp} {s : Shared} {a C dx : Addr} {fs : List (Str × V)} {f : Str} {v : V} {A : Around} {E : Value → Shared → Prop}

end

/-! ### readings and rules -/
section
variable {X : Cx} {o e value : Expr} {f : Str} {pos pos' tpos : Pos} {ta tv : TE}
end

/-! ### isinstance -/
section
variable {X : Cx} {pins : List (Addr × Obj)} {σ : St} {H : Hp} {s : Shared} {A : Around} {E : Value → Shared → Prop} {Q : Value → Shared → Prop} {c : Value} {b : Bool}
/-- the type of a value, as the fragment's deciders take it; for an instance its class -/
inductive TyOf (K : PySem.W.Frag) (H : Hp) : V → Value → Prop where
  | non : TyOf K H .non (.type "NoneType")
  | bl (x : Bool) : TyOf K H (.bl x) (.type "bool")
  | int (i : Int) : TyOf K H (.int i) (.type "int")
  | str (x : Str) : TyOf K H (.str x) (.type "str")
  | flt (x : UInt64) : TyOf K H (.flt x) (.type "float")
  | lst {a : Addr} {xs : List V} (e : H a = some (.lst xs)) : TyOf K H (.ref a) (.type "list")
  | frz {a : Addr} {o : Obj} {xs : List V} (e : H a = some (.frz o (.lst xs))) : TyOf K H (.ref a) (.type "list")
  | tup {a : Addr} {xs : List V} (e : H a = some (.tup xs)) : TyOf K H (.ref a) (.type "tuple")
  | dK {a : Addr} {kvs : List (Key × V)} (e : H a = some (.dK kvs)) : TyOf K H (.ref a) (.type "dict")
  | dT {a : Addr} {kvs : List (List Key × V)} (e : H a = some (.dT kvs)) : TyOf K H (.ref a) (.type "dict")
  | ins {a C dx : Addr} {fs : List (Str × V)} (e : H a = some (.ins C dx fs)) (cl : Cls K C) (ha : PySem.W.findIn K (.ref C) "__class__" = some (some (.builtin "object.__class__")))
      (hn : PySem.W.specialIn K (.builtin "object.__class__") "__get__" = some (some (.builtin "getset_descriptor.__get__"))) (htk : PySem.W.takesIn K (.builtin "object.__class__") = some true)
      (hm : PySem.W.mroIn K C (.type "object") = some true) : TyOf K H (.ref a) (.ref C)
/-- isinstance(x, c) for one class c, a built-in or an own one: kitOne's answer -/
theorem isinst_ok {x : V} {u t : Value} (I : Inv X pins σ H s) (rx : RelV x u) (ty : TyOf X.K H x t) (e : PySem.W.kitOne X.K t c = some b) (h : ∀ tk, Q (.bool b) { s with toks := tk }) :
    wpAny (model X.prog X.w) A (call (.builtin "isinstance") [u, c]) Q E s := by
  cases ty with
  | non => cases (show u = Value.none from rx); exact PySem.W.kia_one PySem.W.kitx_none I.kIn True.intro e (fun z => nomatch z) h
  | bl y => cases (show u = Value.bool y from rx); exact PySem.W.kia_one PySem.W.kitx_bool I.kIn True.intro e (fun z => nomatch z) h
  | int i => obtain ⟨t, q⟩ := (show ∃ t, u = Value.int i t from rx); cases q; exact PySem.W.kia_one PySem.W.kitx_int I.kIn True.intro e (fun z => nomatch z) h
  | str y => obtain ⟨t, q⟩ := (show ∃ t, u = Value.str y t from rx); cases q; exact PySem.W.kia_one PySem.W.kitx_str I.kIn True.intro e (fun z => nomatch z) h
  | flt y => obtain ⟨t, q⟩ := (show ∃ t, u = Value.float y t from rx); cases q; exact PySem.W.kia_one PySem.W.kitx_float I.kIn True.intro e (fun z => nomatch z) h
  | @lst a xs ea =>
    cases (show u = Value.ref a from rx)
    obtain ⟨_, _, n, _, h1⟩ := (show ObjOk X.prog X.w H s.heap a (.lst xs) from I.hok a _ ea)
    exact PySem.W.kia_one PySem.W.kitx_list I.kIn ⟨_, h1, rfl⟩ e (fun z => nomatch z) h
  | @frz a ob xs ea =>
    cases (show u = Value.ref a from rx)
    obtain ⟨_, _, _, n, _, h1⟩ := (show ObjOk X.prog X.w H s.heap a (.frz ob (.lst xs)) from I.hok a _ ea)
    exact PySem.W.kia_one PySem.W.kitx_list I.kIn ⟨_, h1, rfl⟩ e (fun z => nomatch z) h
  | @tup a xs ea =>
    cases (show u = Value.ref a from rx)
    obtain ⟨_, _, _, p⟩ := (show ObjOk X.prog X.w H s.heap a (.tup xs) from I.hok a _ ea)
    obtain ⟨o, h1, h2, _⟩ := p
    exact PySem.W.kia_one PySem.W.kitx_tuple I.kIn ⟨o, h1, h2⟩ e (fun z => nomatch z) h
  | @dK a kvs ea =>
    cases (show u = Value.ref a from rx)
    obtain ⟨_, _, vs, _, p⟩ := (show ObjOk X.prog X.w H s.heap a (.dK kvs) from I.hok a _ ea)
    obtain ⟨o, es, ep, h1, h2, _⟩ := p
    exact PySem.W.kia_one PySem.W.kitx_dict I.kIn ⟨o, h1, h2.1⟩ e (fun z => nomatch z) h
  | @dT a kvs ea =>
    cases (show u = Value.ref a from rx)
    obtain ⟨_, _, xs, _, o, es, ep, h1, h2, _⟩ := (show ObjOk X.prog X.w H s.heap a (.dT kvs) from I.hok a _ ea)
    exact PySem.W.kia_one PySem.W.kitx_dict I.kIn ⟨o, h1, h2.1⟩ e (fun z => nomatch z) h
  | @ins a C dx fs ea cl ha hn htk hm =>
    cases (show u = Value.ref a from rx)
    obtain ⟨mA, O, _⟩ := ins_get I.hok ea
    obtain ⟨od, J, _⟩ := O.look
    exact PySem.W.kia_one (PySem.W.kitx_own (cl.get _) cl.hd ha hn htk hm) I.kIn J e (fun z => nomatch z) h
end
end L2

namespace L2
open PySem PySem.Spec PyProof.Rows

/-! ### room -/
structure Room (k : Nat) (A : Around) : Prop where
  hd : A.handled = none
  dp : A.depth + 3 * k + 5 < recursionLimit
  un : A.units + 16 * k + 200 < cLine
theorem Room.mono {j k : Nat} {A : Around} (r : Room k A) (h : j ≤ k) : Room j A := ⟨r.hd, by have := r.dp; omega, by have := r.un; omega⟩
theorem Room.deeper {k : Nat} {A : Around} (r : Room (k + 1) A) (env : Env) : Room k (A.deeper env) :=
  ⟨r.hd, by have := r.dp; show A.depth + 1 + 3 * k + 5 < _; omega, by have := r.un; show A.units + 3 + 16 * k + 200 < _; omega⟩
theorem Room.depth {k : Nat} {A : Around} (r : Room k A) : A.depth < recursionLimit := by have := r.dp; omega
theorem Room.units {k : Nat} {A : Around} (r : Room k A) : A.units + 64 < cLine := by have := r.un; omega
/-! ### argument lists and displays -/
def tNil : TA := fun _ H Q => Q [] H
def tCons (ta : TE) (tr : TA) : TA := fun σ H Q => ta σ H fun x H1 => tr σ H1 fun xs H2 => Q (x :: xs) H2
section
variable {X : Cx} {e : Expr} {es : List Expr} {te : TE} {t : TA} {pos : Pos}
theorem pa_nil : PA X [] tNil := fun _ _ _ _ H Q I h => Calls.spliced_nil ⟨[], H, I, .nil, h⟩
theorem pa_cons (ha : PE X e te) (hr : PA X es t) (hs : starEach (e :: es) X.env = (false, eval e X.env) :: starEach es X.env := by rfl) : PA X (e :: es) (tCons te t) := by
  intro pos pins s σ H Q I h
  rw [hs]
  show wpAny _ _ (spliced ((false, eval e X.env) :: backTo pos (starEach es X.env))) _ _ s
  refine Calls.spliced_cons (thn (ha pins s σ H _ I h) fun u s1 ⟨x, H1, I1, r1, q1⟩ => ?_)
  exact thn (hr pos pins s1 σ H1 _ I1 q1) fun us s2 ⟨xs, H2, I2, r2, q2⟩ => ⟨x :: xs, H2, I2, .cons r1 r2, q2⟩

/-- a tuple, a list of written items -/
def tTup (t : TA) : TE := fun σ H Q => t σ H fun xs H1 => xs.length ≤ sizeLine ∧ ∀ p, H1 p = none → Q (.ref p) (upd H1 p (.tup xs))
def tLst (t : TA) : TE := fun σ H Q => t σ H fun xs H1 => xs.length ≤ sizeLine ∧ ∀ p, H1 p = none → Q (.ref p) (upd H1 p (.lst xs))
theorem pe_lst (h : PA X es t) : PE X (.List es pos) (tLst t) := by
  intro pins s σ H Q I hq
  refine wpAny_List_spliced (thn (h pos pins s σ H _ I hq) fun us s1 ⟨xs, H1, I1, r, z, q⟩ => ⟨by rw [← r.length]; exact z, ?_⟩)
  have hf : H1 s1.heap.objs.size = none := I1.hok.fresh (Nat.le_refl _)
  refine ⟨.ref s1.heap.objs.size, upd H1 s1.heap.objs.size (.lst xs), I1.laid (t' := s1.toks) (fun b u e => Heap.get?_push_of_some _ e) (Nat.le_refl _) ?_, rfl, q _ hf⟩
  exact ⟨z, us, 0, r, Heap.get?_push_size _ rfl⟩
end

/-! ### what a def promises -/
/-- a def's promise: the bound arguments in the parameters' order, the heap, the wanted end, the wanted exception -/
abbrev Sp := List V → Hp → VK → XK → Prop
/-- how an exception lies behind a call (file 08 gives it): the callers' frames, abstract heap and state ahead of the call, the wish, the exception, the state -/
abbrev CXT := List Env → Hp → Shared → XK → Value → Shared → Prop

/-- the state at a call -/
structure Env0 (P : Program) (w : World) (K : PySem.W.Frag) (mg : Str → Option Value) (base : Heap) (A : Around) (outer : List Env) (s : Shared) (H : Hp) : Prop where
  frames : A.frames = some outer
  mod : Mod K mg base
  bs : ∀ b o, base.get? b = some o → s.heap.get? b = some o ∧ H b = none
  bsz : base.objs.size ≤ s.heap.objs.size
  funs : s.heap.FunFrames base outer
  frf : ∀ b ∈ frs outer, H b = none
  hok : HOk P w H s.heap
  bare : AllBare s.gens
/-- a call's end -/
def CE (outer : List Env) (P : Program) (w : World) (H : Hp) (s : Shared) (Q : VK) (u : Value) (s' : Shared) : Prop :=
  ∃ v H', s'.os = s.os ∧ AllBare s'.gens ∧ Un (frs outer) [] H H' s.heap s'.heap ∧ HOk P w H' s'.heap ∧ RelV v u ∧ Q v H'
def CR (CX : CXT) (outer : List Env) (P : Program) (w : World) (H : Hp) (s : Shared) (Q : VK) (E : XK) (r : Result) (s' : Shared) : Prop :=
  match r with
  | .ok (.ret u) => CE outer P w H s Q u s'
  | .ok _ => False
  | .error e => CX outer H s E e s'
structure FnOk (P : Program) (w : World) (K : PySem.W.Frag) (mg : Str → Option Value) (base : Heap) (CX : CXT) (k : Nat) (f : Addr) (fd : FuncData) (ps : List Str) (sp : Sp) : Prop where
  len : ∀ vs H Q E, sp vs H Q E → vs.length = ps.length
  run : ∀ (A : Around) (outer : List Env) (s : Shared) (H : Hp) (args : Args) (us : List Value) (vs : List V) (Q : VK) (E : XK), Room k A → Env0 P w K mg base A outer s H → BindsTo s fd args (ps.zip us) → Vals vs us → sp vs H Q E →
    codeAny (model P w) A (.call (.ref f) args) (CR CX outer P w H s Q E) s
/-- a weaker promise -/
theorem FnOk.imp {P : Program} {w : World} {K : PySem.W.Frag} {mg : Str → Option Value} {base : Heap} {CX : CXT} {k : Nat} {f : Addr} {fd : FuncData} {ps : List Str} {sp sp' : Sp} (F : FnOk P w K mg base CX k f fd ps sp)
    (h : ∀ vs H Q E, sp' vs H Q E → sp vs H Q E) : FnOk P w K mg base CX k f fd ps sp' :=
  ⟨fun vs H Q E q => F.len vs H Q E (h _ _ _ _ q), fun A outer s H args us vs Q E hr he hb hv hs => F.run A outer s H args us vs Q E hr he hb hv (h _ _ _ _ hs)⟩

section
variable {X : Cx} {pins : List (Addr × Obj)} {σ : St} {H : Hp} {s s' : Shared}
/-- from a body: what a callee wants -/
theorem Inv.env0 (I : Inv X pins σ H s) : Env0 X.prog X.w X.K X.mg X.base X.A X.stack s H :=
  ⟨I.ok.frames, I.ok.mod, I.bs, Nat.le_trans I.ok.bsz I.sz, I.stack, I.stkFree, I.hok, I.bare⟩
/-- behind a call -/
theorem Inv.after {Q : VK} {u : Value} (I : Inv X pins σ H s) (h : CE X.stack X.prog X.w H s Q u s') : EP X pins σ Q u s' := by
  obtain ⟨v, H', os, bare, un, hok, r, q⟩ := h
  obtain ⟨hh, g, d, t, os'⟩ := s'
  obtain rfl : os' = s.os := os
  exact ⟨v, H', I.call (h' := hh) (g' := g) (d' := d) (t' := t) (ch := []) un hok bare (fun b z => absurd z (by simp)), r, q⟩
end

/-! ### calls -/
/-- f(..): the written arguments, then the defaults dvs; E: what is wanted of an exception -/
def tCall (sp : Sp) (dvs : List V) (E : XK) (t : TA) : TE := fun σ H Q => t σ H fun vs H1 => sp (vs ++ dvs) H1 Q E
/-- how the parameters are bound: us the positional arguments, kw the keywords' values by name, ds the defaults that fill up -/
def Binds (K : PySem.W.Frag) (fd : FuncData) (ps : List Str) (ds : List Value) : Prop :=
  ∀ (s : Shared) (us : List Value), K.In s.heap → (us ++ ds).length = ps.length → BindsTo s fd ⟨us, []⟩ (ps.zip (us ++ ds))
/-- every parameter is given -/
theorem Binds.all {K : PySem.W.Frag} {fd : FuncData} {ps : List Str} (h : ∀ us : List Value, us.length = ps.length → bindArgs fd ⟨us, []⟩ = pure (ps.zip us)) : Binds K fd ps [] := fun s us _ hl => by
  rw [List.append_nil] at hl ⊢
  exact .of_eq (h us hl)

/-- an exception of a callee reaches what this body wants of exceptions -/
def Passes (CX : CXT) (X : Cx) (E : XK) : Prop := ∀ (pins : List (Addr × Obj)) (σ : St) (H : Hp) (s : Shared) (e : Value) (s' : Shared), Inv X pins σ H s → CX X.stack H s E e s' → X.xe e s'

section
variable {X : Cx} {CX : CXT} {k : Nat} {f C : Addr} {fd : FuncData} {ps : List Str} {sp : Sp} {dvs : List V} {ds : List Value} {E : XK} {x m : Str} {p pos apos : Pos} {e o : Expr} {es : List Expr} {ta : TE} {t : TA}

/-- the callee runs -/
theorem run_fn {pins : List (Addr × Obj)} {σ : St} {H : Hp} {s : Shared} {Q : VK} {us : List Value} {vs : List V} (F : FnOk X.prog X.w X.K X.mg X.base CX k f fd ps sp) (hr : Room k X.A) (hb : Binds X.K fd ps ds) (hd : Vals dvs ds) (hx : Passes CX X E)
    (I : Inv X pins σ H s) (r : Vals vs us) (h : sp (vs ++ dvs) H Q E) : wpAny (model X.prog X.w) X.A (call (.ref f) us) (EP X pins σ Q) X.xe s := by
  have r2 : Vals (vs ++ dvs) (us ++ ds) := r.append hd
  have hl : (us ++ ds).length = ps.length := by rw [← r2.length]; exact F.len _ _ _ _ h
  refine wpAny_call (codeAny_mono (F.run X.A X.stack s H ⟨us, []⟩ (us ++ ds) (vs ++ dvs) Q E hr I.env0 (hb s us I.kIn hl) r2 h) fun r s' hq => ?_)
  cases r with
  | error e => exact hx pins σ H s e s' I hq
  | ok fl =>
    cases fl with
    | ret u => exact I.after hq
    | next => exact False.elim hq
    | brk => exact False.elim hq
    | cont => exact False.elim hq

theorem pe_call (F : FnOk X.prog X.w X.K X.mg X.base CX k f fd ps sp) (hr : Room k X.A) (hg : Gl X x) (hm : X.mg x = some (.ref f)) (hk : PySem.W.keepIn X.K (.ref f) = true) (hb : Binds X.K fd ps ds) (hd : Vals dvs ds) (hx : Passes CX X E)
    (ha : PA X (e :: es) t) (hdb : (x == ("__debug__" : Str)) = false := by decide) (he : starEach (e :: es) X.env = (false, eval e X.env) :: starEach es X.env := by rfl) (hpl : (backTo pos (starEach es X.env)).any (·.1) = false := by rfl) :
    PE X (.Call (.Name x p) (e :: es) [] pos) (tCall sp dvs E t) := by
  intro pins s σ H Q I h
  refine wpAny_Call_Name_kw (ld_glob I hg hm ?_ hdb)
  refine PySem.W.callWith_K (h₀ := X.base) I.ok.mod.kin hk (thn (ha pos pins s σ H _ I h) fun us s1 ⟨vs, H1, I1, r, q⟩ => ⟨I1.kIn, ?_⟩) he hpl
  exact run_fn F hr hb hd hx I1 r q
end

/-! ### keywords -/
section
variable {X : Cx} {CX : CXT} {k : Nat} {f C : Addr} {fd : FuncData} {ps ks : List Str} {sp : Sp} {E : XK} {x m : Str} {p pos apos kpos : Pos} {e o : Expr} {es : List Expr} {kws : List Keyword} {te ta : TE} {t tk : TA} {nm : Option Str}
/-- how a call with keywords binds: g puts the positional values us and the keywords' values ws (names ks) in the parameters' order, defaults among them -/
structure KBinds (K : PySem.W.Frag) (fd : FuncData) (ps ks : List Str) (g : List Value → List Value → List Value) (gV : List V → List V → List V) : Prop where
  to : ∀ (s : Shared) (us ws : List Value), K.In s.heap → (g us ws).length = ps.length → BindsTo s fd ⟨us, ks.zip ws⟩ (ps.zip (g us ws))
  rel : ∀ {vs : List V} {us : List Value} {zs : List V} {ws : List Value}, Vals vs us → Vals zs ws → Vals (gV vs zs) (g us ws)
variable {g : List Value → List Value → List Value} {gV : List V → List V → List V}
end

/-! ### a def's body keeps its promise -/
/-- names: the parameters first -/
structure FnScope (N P : List Str) (sc : Scope) : Prop where
  kind : sc.kind = .function
  co : sc.isCoroutine = false
  gen : sc.isGenerator = false
  nd : N.Nodup
  pre : N.take P.length = P
  par : ∀ x ∈ P, sc.names.lookup x = some .local ∨ sc.names.lookup x = some .cell
  nofree : ∀ y ∈ sc.names, y.2 ≠ .free

theorem bindL_out {kindOf : Str → Option NameKind} {x : Str} : ∀ {binds : List (Str × Value)} {m : Str → Option Value}, (∀ v, (x, v) ∉ binds) → bindL kindOf binds m x = m x
  | [], _, _ => rfl
  | (n, v) :: r, m, h => by
    unfold bindL
    rw [bindL_out fun w hw => h w (List.mem_cons_of_mem _ hw)]
    split
    · have : x ≠ n := by rintro rfl; exact h v List.mem_cons_self
      simp [this]
    · rfl
theorem bindC_out {kindOf : Str → Option NameKind} {x : Str} : ∀ {binds : List (Str × Value)} {m : Str → Option Value}, (∀ v, (x, v) ∉ binds) → bindC kindOf binds m x = m x
  | [], _, _ => rfl
  | (n, v) :: r, m, h => by
    unfold bindC
    rw [bindC_out fun w hw => h w (List.mem_cons_of_mem _ hw)]
    split
    · rfl
    · have : x ≠ n := by rintro rfl; exact h v List.mem_cons_self
      simp [this]
theorem bindL_get {kindOf : Str → Option NameKind} {x : Str} {v : Value} : ∀ {P : List Str} {vs : List Value} {i : Nat} {m : Str → Option Value}, P.Nodup → P[i]? = some x → vs[i]? = some v → kindOf x = some .local →
    bindL kindOf (P.zip vs) m x = some v
  | [], _, _, _, _, h, _, _ => by simp at h
  | _ :: _, [], _, _, _, _, h, _ => by simp at h
  | p :: P, w :: vs, 0, m, nd, h1, h2, hk => by
    simp at h1 h2; subst h1; subst h2
    show bindL kindOf ((p, w) :: P.zip vs) m p = _
    unfold bindL
    rw [bindL_out fun v hv => (List.nodup_cons.mp nd).1 (List.of_mem_zip hv).1, if_pos hk]
    simp
  | p :: P, w :: vs, i + 1, m, nd, h1, h2, hk => by
    show bindL kindOf ((p, w) :: P.zip vs) m x = _
    unfold bindL
    exact bindL_get (i := i) (List.nodup_cons.mp nd).2 (by simpa using h1) (by simpa using h2) hk
theorem bindC_get {kindOf : Str → Option NameKind} {x : Str} {v : Value} : ∀ {P : List Str} {vs : List Value} {i : Nat} {m : Str → Option Value}, P.Nodup → P[i]? = some x → vs[i]? = some v → kindOf x ≠ some .local →
    bindC kindOf (P.zip vs) m x = some v
  | [], _, _, _, _, h, _, _ => by simp at h
  | _ :: _, [], _, _, _, _, h, _ => by simp at h
  | p :: P, w :: vs, 0, m, nd, h1, h2, hk => by
    simp at h1 h2; subst h1; subst h2
    show bindC kindOf ((p, w) :: P.zip vs) m p = _
    unfold bindC
    rw [bindC_out fun v hv => (List.nodup_cons.mp nd).1 (List.of_mem_zip hv).1, if_neg hk]
    simp
  | p :: P, w :: vs, i + 1, m, nd, h1, h2, hk => by
    show bindC kindOf ((p, w) :: P.zip vs) m x = _
    unfold bindC
    exact bindC_get (i := i) (List.nodup_cons.mp nd).2 (by simpa using h1) (by simpa using h2) hk

/-- the names' values at the entry -/
def start (N : List Str) (vs : List V) : St := vs.map some ++ List.replicate (N.length - vs.length) none

/-- the context of a def's body, at its entry; an exception leaves the frame, then lies as CX says -/
def cxOf (CX : CXT) (P : Program) (w : World) (K : PySem.W.Frag) (mg : Str → Option Value) (base : Heap) (N : List Str) (qual : Str) (scope : Scope) (f : Addr) (cd : Value) (A : Around) (outer : List Env) (s : Shared) (H : Hp) (E : XK) : Cx where
  prog := P
  w := w
  K := K
  mg := mg
  base := base
  A := A.deeper (envOfC qual scope s.heap.objs.size f cd)
  N := N
  s₀ := s
  H₀ := H
  env := envOfC qual scope s.heap.objs.size f cd
  outer := outer
  stack := envOfC qual scope s.heap.objs.size f cd :: outer
  ex := []
  calm := true
  fn := fun _ => true
  pn := []
  xe := fun e s' => wpAny (model P w) (A.deeper (envOfC qual scope s.heap.objs.size f cd)) (leaving (envOfC qual scope s.heap.objs.size f cd) e) (fun _ s'' => CX outer H s E e s'') (fun e' s'' => CX outer H s E e' s'') s'

theorem cell_has {sc : Scope} {n : Nat} {x : Str} (h : sc.names.lookup x = some .cell) : ∃ c, (cellsFrom n sc.names []).lookup x = some c := by
  have q := PySem.W.cellsFrom_some sc.names n [] (.inl h)
  exact Option.isSome_iff_exists.mp q

theorem inv_start {CX : CXT} {P : Program} {w : World} {K : PySem.W.Frag} {mg : Str → Option Value} {base : Heap} {N ps : List Str} {qual : Str} {scope : Scope} {f : Addr} {cd : Value} {A : Around} {outer : List Env} {s s1 : Shared} {H : Hp} {E : XK} {us : List Value} {vs : List V}
    (S : FnScope N ps scope) (hd : A.handled = none) (e0 : Env0 P w K mg base A outer s H) (hl : vs.length = ps.length) (r : Vals vs us)
    (x : InCallC s s.heap.objs.size (bindL (envOfC qual scope s.heap.objs.size f cd).kindOf (ps.zip us) fun _ => none) (cellsFrom (s.heap.objs.size + 1) scope.names []) (bindC (envOfC qual scope s.heap.objs.size f cd).kindOf (ps.zip us) fun _ => none) s1) :
    Inv (cxOf CX P w K mg base N qual scope f cd A outer s H E) [] (start N vs) H s1 := by
  have hpl : ps.length ≤ N.length := by have := congrArg List.length S.pre; rw [List.length_take] at this; omega
  obtain ⟨h1, tk, rfl, hk⟩ := x.done
  have noA : ∀ b : Addr, b ∉ (cxOf CX P w K mg base N qual scope f cd A outer s H E).ex := fun b z => absurd (show b ∈ ([] : List Addr) from z) (by simp)
  refine ⟨⟨e0.mod, S.kind, rfl, rfl, Nat.le_refl _, fun y z c h1 h2 => ?_, fun y hy => ?_, fun y c _ h => ?_, fun _ => hd, Around.frames_deeper e0.frames, .inr ⟨rfl, rfl⟩, fun b z => absurd z (noA b), e0.bs, e0.bsz, fun b _ _ => noA b, fun b z => absurd z (noA b), e0.funs, e0.frf⟩,
    rfl, e0.bare, Un.kept hk, ⟨_, x.toInCall.ns, fun i y v h1 h2 h3 => ?_⟩, fun y c h => ⟨_, x.cell y c h⟩, e0.hok.fresh (Nat.le_refl _), fun y c h => ?_, fun p hp => absurd (show p ∈ ([] : List (Addr × Obj)) from hp) (by simp), e0.hok.kept hk, ?_⟩
  · exact name_of_addr x.apart (PySem.mem_of_lookup h1) (PySem.mem_of_lookup h2)
  · have hy : scope.names.lookup y = some .cell ∨ scope.names.lookup y = some .free := hy
    rcases hy with hy | hy
    · exact cell_has hy
    · exact absurd rfl (S.nofree _ (PySem.mem_of_lookup hy))
  · exact Nat.le_of_lt (x.above y c (PySem.mem_of_lookup h))
  · have hi : i < vs.length := by
      unfold start at h2
      by_cases hi : i < vs.length
      · exact hi
      · rw [List.getElem?_append_right (by simpa using hi)] at h2
        rw [List.getElem?_replicate] at h2
        split at h2 <;> cases h2
    have ha : vs[i]? = some v := by
      unfold start at h2
      rw [List.getElem?_append_left (by simpa using hi), List.getElem?_map] at h2
      cases e : vs[i]? with
      | none => rw [e] at h2; cases h2
      | some a => rw [e] at h2; cases h2; rfl
    obtain ⟨u, hu, rv⟩ := r.get ha
    have hp : ps[i]? = some y := by
      rw [← S.pre, List.getElem?_take_of_lt (by omega)]; exact h1
    have ndP : ps.Nodup := by rw [← S.pre]; exact S.nd.sublist (List.take_sublist _ _)
    refine ⟨u, rv, ?_⟩
    rcases S.par y (List.mem_of_getElem? hp) with k | k
    · exact .inl ⟨k, bindL_get ndP hp hu k⟩
    · obtain ⟨c, e⟩ := cell_has (n := s.heap.objs.size + 1) k
      refine .inr ⟨.inl k, c, e, ?_⟩
      have q := x.cell y c e
      rw [bindC_get ndP hp hu (by show scope.names.lookup y ≠ _; rw [k]; decide)] at q
      exact q
  · exact e0.hok.fresh (Nat.le_of_lt (x.above y c (PySem.mem_of_lookup h)))
  · unfold start
    show _ = N.length
    rw [List.length_append, List.length_map, List.length_replicate]
    omega

/-- THE RULE: a def (or a method) of the text, by its body. The body's reading t is chosen for each entry; it is run at the parameters' values -/
theorem fn_of {CX : CXT} {P : Program} {w : World} {K : PySem.W.Frag} {mg : Str → Option Value} {base : Heap} {k : Nat} {f : Addr} {name qual : Str} {params : Arguments} {body : List Stmt} {scope : Scope} {dV kV doc pm cdv ct oc : Value} {an od : Option Addr}
    {osl : Array (Option Value)} {N ps : List Str} {sp : Sp} (lk : K.lookup f = some ⟨oc, od, .func (PySem.W.fnOf name qual params body scope dV kV doc pm an cdv ct), osl⟩) (hcd : PySem.W.codeIn K cdv qual = true) (S : FnScope N ps scope)
    (len : ∀ vs H Q E, sp vs H Q E → vs.length = ps.length)
    (hbody : ∀ (A : Around) (outer : List Env) (s : Shared) (H : Hp) (vs : List V) (Q : VK) (E : XK), Room k (A.deeper (envOfC qual scope s.heap.objs.size f cdv)) → sp vs H Q E →
      ∃ t, PSs (cxOf CX P w K mg base N qual scope f cdv A outer s H E) body t ∧ t { nx := fun _ H' => Q .non H', rt := Q } (start N vs) H) :
    FnOk P w K mg base CX (k + 1) f (PySem.W.fnOf name qual params body scope dV kV doc pm an cdv ct) ps sp := by
  refine ⟨len, fun A outer s H args us vs Q E hr e0 hb r hsp => ?_⟩
  have hl := len _ _ _ _ hsp
  have KX : K.In s.heap := e0.mod.kin.keeps fun b o e => (e0.bs b o e).1
  have lim : s.heap.NoLimit := e0.mod.nolimit.keeps fun b o e => (e0.bs b o e).1
  have hkind : ∀ y ∈ ps.zip us, scope.names.lookup y.1 = some .local ∨ (scope.names.lookup y.1 = some .cell ∧ ((cellsFrom (s.heap.objs.size + 1) scope.names []).lookup y.1).isSome = true) := fun ⟨n, v⟩ hy => by
    rcases S.par n (List.of_mem_zip hy).1 with q | q
    · exact .inl q
    · exact .inr ⟨q, PySem.W.cellsFrom_some _ _ _ (.inl q)⟩
  refine codeAny_call_function hr.depth (KX _ _ lk) rfl S.co S.gen rfl (PySem.W.codeRec_of KX hcd) (hb _ _ _ _ ?_)
  refine wpAny_newFunctionEnv_cells S.kind hkind fun env he s1 x => ?_
  subst he
  refine ⟨lim.keeps x.toInCall.keep, codeAny_func ?_⟩
  obtain ⟨t, ht, hq⟩ := hbody A outer s H vs Q E (hr.deeper _) hsp
  have I : Inv (cxOf CX P w K mg base N qual scope f cdv A outer s H E) [] (start N vs) H s1 := inv_start S hr.hd e0 hl r x
  refine wpAny_mono (ht [] s1 (start N vs) H _ I hq) (fun fl s' hs => ?_) fun e s' hs => hs
  have fin : ∀ {σ' : St} {H' : Hp} {v : V} {u : Value}, Inv (cxOf CX P w K mg base N qual scope f cdv A outer s H E) [] σ' H' s' → RelV v u → Q v H' → CE outer P w H s Q u s' :=
    fun {σ' H' v u} J rv q => ⟨v, H', J.os, J.bare, J.base, J.hok, rv, q⟩
  cases fl with
  | ret u =>
    obtain ⟨v, σ', H', J, rv, q⟩ := hs
    exact fin J rv q
  | next =>
    obtain ⟨σ', H', J, q⟩ := hs
    exact fin (v := V.non) (u := Value.none) J rfl q
  | brk =>
    obtain ⟨_, _, _, q⟩ := hs
    exact False.elim q
  | cont =>
    obtain ⟨_, _, _, q⟩ := hs
    exact False.elim q
end L2

namespace L2
open PySem PySem.Spec PyProof.Rows
section
variable {X : Cx} {x : Str} {p pos : Pos} {e : Expr} {es : List Expr} {t : TA} {id T : String} {r : List V → Hp → VK → Prop}

def tCB (r : List V → Hp → VK → Prop) (t : TA) : TE := fun σ H Q => t σ H fun vs H1 => r vs H1 Q
/-- f(e, ..), f a built-in function -/
theorem pe_callB (hc : CallR X (.builtin id) r) (hg : Gl X x) (hm : X.mg x = none) (hv : bootBuiltins x = some (.builtin id)) (ha : PA X (e :: es) t) (hn : x ≠ "__name__" := by decide) (hdb : (x == ("__debug__" : Str)) = false := by decide)
    (he : starEach (e :: es) X.env = (false, eval e X.env) :: starEach es X.env := by rfl) (hpl : (backTo pos (starEach es X.env)).any (·.1) = false := by rfl) : PE X (.Call (.Name x p) (e :: es) [] pos) (tCB r t) := by
  intro pins s σ H Q I h
  refine wpAny_Call_Name_kw (ld_blt I hg hm hv ?_ hn hdb)
  exact PyProof.Rows.callWith_builtin1 (thn (ha pos pins s σ H _ I h) fun us s1 ⟨vs, H1, I1, r1, q1⟩ => hc pins s1 σ H1 vs us Q I1 r1 q1) he hpl
/-- T(e, ..), T a built-in type -/
theorem pe_callTy (hc : CallR X (.type T) r) (hg : Gl X x) (hm : X.mg x = none) (hv : bootBuiltins x = some (.type T)) (ha : PA X (e :: es) t) (hn : x ≠ "__name__" := by decide) (hdb : (x == ("__debug__" : Str)) = false := by decide)
    (he : starEach (e :: es) X.env = (false, eval e X.env) :: starEach es X.env := by rfl) (hpl : (backTo pos (starEach es X.env)).any (·.1) = false := by rfl) : PE X (.Call (.Name x p) (e :: es) [] pos) (tCB r t) := by
  intro pins s σ H Q I h
  refine wpAny_Call_Name_kw (ld_blt I hg hm hv ?_ hn hdb)
  exact PyProof.Rows.callWith_type1 (thn (ha pos pins s σ H _ I h) fun us s1 ⟨vs, H1, I1, r1, q1⟩ => hc pins s1 σ H1 vs us Q I1 r1 q1) he hpl
end
end L2

namespace HT
open PySem PyProof.Rows

/-- t < u of tuples of ints -/
def lexLt : List Int → List Int → Bool
  | [], [] => false
  | [], _ :: _ => true
  | _ :: _, [] => false
  | x :: xs, y :: ys => if x = y then lexLt xs ys else decide (x < y)
section
open PySem.SeqAt
open PySem.AutoSeq1 (wpAny_loadPart')
open PySem.MeetsSeq PySem.MeetsSeq2 PySem.MeetsSeq3

end

section
variable {prog : Program} {w : World} {A : Around} {E : Value → Shared → Prop} {s : Shared}

/-! ### t[a:b], not the whole -/
/-- a slice's bound as a place among n (d where it is left out) -/
def sIx (n d : Nat) : Option Int → Nat
  | none => d
  | some v => if v < 0 then (v + (n : Int)).toNat else min v.toNat n
theorem sIx_none (n d : Nat) : sIx n d none = d := rfl
theorem sIx_nat (n d k : Nat) : sIx n d (some (k : Int)) = min k n := by
  show (if (k : Int) < 0 then ((k : Int) + (n : Int)).toNat else min (k : Int).toNat n) = min k n
  rw [if_neg (by omega), Int.toNat_natCast]
end
end HT

namespace L2
open PySem PySem.Spec PyProof.Rows

/-! ### the parts of a slice -/
abbrev TO := St → Hp → (Option Int → Hp → Prop) → Prop
/-- a slice's part (left out, or an int) -/
def PO (X : Cx) (e : Option Expr) (t : TO) : Prop :=
  ∀ (pins : List (Addr × Obj)) (s : Shared) (σ : St) (H : Hp) (Q : Option Int → Hp → Prop), Inv X pins σ H s → t σ H Q →
    wpAny (model X.prog X.w) X.A (evalPart e X.env) (fun u s' => ∃ o H', Inv X pins σ H' s' ∧ IsPart u o ∧ Q o H') X.xe s
def tNoPart : TO := fun _ H Q => Q none H
def tPart (t : TE) : TO := fun σ H Q => t σ H fun x H1 => ∃ i, x = .int i ∧ Q (some i) H1

theorem intsAre_of {ns : List Int} : ∀ {us : List Value}, Vals (ns.map V.int) us → IntsAre us ns := by
  induction ns with
  | nil => intro us r; rw [List.map_nil] at r; cases r; exact .nil
  | cons n ns ih =>
    intro us r
    rw [List.map_cons] at r
    cases r with
    | cons r1 r2 =>
      obtain ⟨t, e⟩ := r1
      subst e
      exact .cons n t (ih r2)

section
variable {X : Cx} {e : Expr} {te : TE} {lo hi : Option Expr} {tl th : TO} {pos p2 : Pos}

theorem po_none : PO X none tNoPart := by
  intro pins s σ H Q I h
  rw [evalPart_none]
  exact wpAny_pure ⟨none, H, I, .none, h⟩
theorem po_some (h : PE X e te) : PO X (some e) (tPart te) := by
  intro pins s σ H Q I hw
  rw [evalPart_some]
  refine thn (h pins s σ H _ I hw) fun u s1 ⟨x, H1, I1, r1, q1⟩ => ?_
  obtain ⟨i, rfl, q⟩ := q1
  obtain ⟨t, rfl⟩ := r1
  exact ⟨some i, H1, I1, .int i t, q⟩

/-- what a slice of a value is, by values: the slice object stands at sl -/
def SlR (X : Cx) (r : V → Option Int → Option Int → Hp → VK → Prop) : Prop :=
  ∀ (pins : List (Addr × Obj)) (s : Shared) (σ : St) (H : Hp) (x : V) (v vl vu : Value) (lo hi : Option Int) (sl : Addr) (Q : VK), Inv X pins σ H s → RelV x v → s.heap.IsSliceOf sl vl vu .none → IsPart vl lo → IsPart vu hi → r x lo hi H Q →
    ∃ T id, typeLookup (.type T) "__getitem__" = pure (some (.builtin id)) ∧ s.TypeIs v T ∧ wpAny (model X.prog X.w) X.A (getItem v (.ref sl)) (EP X pins σ Q) X.xe s
def tSl (r : V → Option Int → Option Int → Hp → VK → Prop) (te : TE) (tl th : TO) : TE := fun σ H Q => te σ H fun x H1 => tl σ H1 fun l H2 => th σ H2 fun u H3 => r x l u H3 Q
/-- a[lo:hi], any a -/
theorem pe_slice {r : V → Option Int → Option Int → Hp → VK → Prop} (hr : SlR X r) (he : PE X e te) (hl : PO X lo tl) (hu : PO X hi th) : PE X (.Subscript e (.Slice lo hi none p2) pos) (tSl r te tl th) := by
  intro pins s σ H Q I h
  refine Subscript_ (thn (he pins s σ H _ I h) fun v s1 ⟨x, H1, I1, r1, q1⟩ => ?_)
  refine wpAny_Slice (thn (hl pins s1 σ H1 _ I1 q1) fun vl s2 ⟨l, H2, I2, pl, q2⟩ => thn (hu pins s2 σ H2 _ I2 q2) fun vu s3 ⟨u, H3, I3, pu, q3⟩ => ?_)
  rw [evalPart_none]
  refine wpAny_pure ?_
  have I4 : Inv X pins σ H3 { s3 with heap := s3.heap.push { cls := .type "slice", data := .fields #[vl, vu, .none] } } := I3.kept (t' := s3.toks) fun b ob q => Heap.get?_push_of_some _ q
  obtain ⟨T, id, hT, ht, hg⟩ := hr pins { s3 with heap := s3.heap.push { cls := .type "slice", data := .fields #[vl, vu, .none] } } σ H3 x v vl vu l u s3.heap.objs.size Q I4 r1 (Heap.IsSliceOf.new ..) pl pu q3
  show wpAny (model X.prog X.w) X.A (subscriptTail e (.Slice lo hi none p2) v (.ref s3.heap.objs.size)) (EP X pins σ Q) X.xe { s3 with heap := s3.heap.push { cls := .type "slice", data := .fields #[vl, vu, .none] } }
  exact tail_any (ops := [.ref s3.heap.objs.size, v]) ht hT hg (by with_unfolding_all rfl)

/-- the items of xs[lo:hi] -/
def cutV (xs : List V) (lo hi : Option Int) : List V := (xs.drop (HT.sIx xs.length 0 lo)).take (HT.sIx xs.length xs.length hi - HT.sIx xs.length 0 lo)
theorem cutV_length (xs : List V) (lo hi : Option Int) : (cutV xs lo hi).length ≤ xs.length := by
  unfold cutV
  rw [List.length_take, List.length_drop]
  omega
/-! ### t < u, t + u -/
end
end L2

namespace L2
open PySem PySem.Spec PyProof.Rows

/-! ### places -/
/-- the place that an index of any sign means -/
def ixN (n : Nat) (i : Int) : Option Nat := if 0 ≤ i then (if i < n then some i.toNat else none) else if -(n : Int) ≤ i then some (i + n).toNat else none
def atI {α : Type} (xs : List α) (i : Int) : Option α := (ixN xs.length i).bind fun j => xs[j]?
theorem ixN_seq {n : Nat} {i : Int} {j : Nat} (h : ixN n i = some j) : seqIndex? i n = some j ∧ j < n ∧ -(n : Int) ≤ i ∧ i < n := by
  unfold ixN at h
  by_cases h0 : 0 ≤ i
  · rw [if_pos h0] at h
    by_cases h1 : i < n
    · rw [if_pos h1] at h
      have e : i.toNat = j := Option.some.inj h
      exact ⟨by rw [seqIndex_of h0 h1, e], by omega, by omega, h1⟩
    · rw [if_neg h1] at h; cases h
  · rw [if_neg h0] at h
    by_cases h1 : -(n : Int) ≤ i
    · rw [if_pos h1] at h
      have e : (i + n).toNat = j := Option.some.inj h
      exact ⟨by rw [seqIndex_neg (by omega) h1, e], by omega, h1, by omega⟩
    · rw [if_neg h1] at h; cases h
theorem atI_get {α : Type} {xs : List α} {i : Int} {v : α} (h : atI xs i = some v) : ∃ j, seqIndex? i xs.length = some j ∧ xs[j]? = some v ∧ j < xs.length ∧ -(xs.length : Int) ≤ i ∧ i < xs.length := by
  unfold atI at h
  cases e : ixN xs.length i with
  | none => rw [e] at h; cases h
  | some j =>
    rw [e] at h
    obtain ⟨h1, h2, h3, h4⟩ := ixN_seq e
    exact ⟨j, h1, h, h2, h3, h4⟩
theorem atI_nat {α : Type} {xs : List α} {j : Nat} {v : α} (h : xs[j]? = some v) : atI xs (j : Int) = some v := by
  have hj : j < xs.length := (List.getElem?_eq_some_iff.mp h).1
  have e : ixN xs.length (j : Int) = some j := by
    unfold ixN
    rw [if_pos (by omega), if_pos (by omega)]; simp
  unfold atI; rw [e]; exact h
theorem atI_last {α : Type} (xs : List α) (v : α) : atI (xs ++ [v]) (-1) = some v := by
  have hl : (xs ++ [v]).length = xs.length + 1 := by simp
  have e : ixN (xs ++ [v]).length (-1) = some xs.length := by
    unfold ixN
    rw [hl, if_neg (by decide), if_pos (by omega)]
    congr 1
    omega
  unfold atI
  rw [e]
  show (xs ++ [v])[xs.length]? = some v
  simp

/-! ### what may be subscripted -/
/-- what stands as an index of a plain subscript -/
def PlainIx (b : Expr) : Prop := ∀ o i, subscripted b false o i = operate [o, i] (getItem o i)
/-- a subscript by values -/
def IxR (X : Cx) (r : R2) : Prop :=
  ∀ (value slice : Expr) (pins : List (Addr × Obj)) (s : Shared) (σ : St) (H : Hp) (x y : V) (v u : Value) (Q : VK), Inv X pins σ H s → RelV x v → RelV y u → r x y H Q →
    subscripted slice false v u = operate [v, u] (getItem v u) → wpAny (model X.prog X.w) X.A (subscriptTail value slice v u) (EP X pins σ Q) X.xe s
/-- a call of a builtin's method by values: the receiver, the arguments -/
def MtR (X : Cx) (id : String) (r : V → List V → Hp → VK → Prop) : Prop :=
  ∀ (pins : List (Addr × Obj)) (s : Shared) (σ : St) (H : Hp) (x : V) (xs : List V) (v : Value) (us : List Value) (Q : VK), Inv X pins σ H s → RelV x v → Vals xs us → r x xs H Q →
    wpAny (model X.prog X.w) X.A (call (.builtin id) (v :: us)) (EP X pins σ Q) X.xe s
section
variable {X : Cx} {a b : Expr} {ta tb : TE} {pos : Pos}
/-- a[b] -/
theorem pe_ix {r : R2} (hr : IxR X r) (ha : PE X a ta) (hb : PE X b tb) (hs : PlainIx b) : PE X (.Subscript a b pos) (tOp r ta tb) := by
  intro pins s σ H Q I h
  exact Subscript_ (binT ha hb I h fun v u s2 x y H2 I2 rx ry q => hr a b pins s2 σ H2 x y v u Q I2 rx ry q (hs _ _))

def rIxL (K : PySem.W.Frag) : R2 := fun x y H Q => ∃ p xs i v, x = .ref p ∧ y = .int i ∧ SqL K H p xs ∧ atI xs i = some v ∧ Q v H
theorem ix_list : IxR X (rIxL X.K) := by
  intro value slice pins s σ H x y v u Q I rx ry h hs
  obtain ⟨p, xs, i, z, rfl, rfl, hq, he, q⟩ := h
  cases rx
  obtain ⟨t, rfl⟩ := ry
  obtain ⟨its, r, pl, hz⟩ := I.list hq
  obtain ⟨j, h1, h2, h3, h4, h5⟩ := atI_get he
  obtain ⟨w, ew, rw'⟩ := r.get h2
  have hl := r.length
  have hn := line63
  have fin : EP X pins σ Q w s := ⟨z, H, I, rw', q⟩
  by_cases h0 : 0 ≤ i
  · have hj : i.toNat = j := by
      rw [seqIndex_of h0 h5] at h1
      exact Option.some.inj h1
    exact item_listR pl.isList h0 (by omega) (by rw [hj]; simpa using ew) fin hs
  · have hj : (i + (its.toArray.size : Int)).toNat = j := by
      rw [seqIndex_neg (by omega) h4] at h1
      rw [List.size_toArray, ← hl]
      exact Option.some.inj h1
    exact subscriptTail_builtinR (x := w) pl.isList.typeIs slot_list_getitem.lookup
      (wpAny_getItem_list_neg (Q := fun r s' => r = w ∧ EP X pins σ Q r s') pl.isList (by omega) (by rw [List.size_toArray] <;> omega) (by omega) (by rw [hj]; simpa using ew) ⟨rfl, fin⟩) hs
/-! ### xs[i] = v, any sign -/
/-! ### slices -/
theorem slice_bounds (lo hi : Option Int) (n : Nat) : (sliceBounds lo hi none n).1 = ((HT.sIx n 0 lo : Nat) : Int) ∧ (sliceBounds lo hi none n).2.1 = ((HT.sIx n n hi : Nat) : Int) ∧ (sliceBounds lo hi none n).2.2 = 1 := by
  refine ⟨?_, ?_, rfl⟩
  · cases lo with
    | none => simp [sliceBounds, HT.sIx]
    | some i =>
      simp only [sliceBounds, HT.sIx, Option.getD_none, show (1 : Int) > 0 by decide, if_true]
      by_cases h : i < 0
      · simp only [h, if_true] <;> omega
      · simp only [h, if_false] <;> omega
  · cases hi with
    | none => simp [sliceBounds, HT.sIx]
    | some i =>
      simp only [sliceBounds, HT.sIx, Option.getD_none, show (1 : Int) > 0 by decide, if_true]
      by_cases h : i < 0
      · simp only [h, if_true] <;> omega
      · simp only [h, if_false] <;> omega
theorem slicePick_cut (its : List Value) (lo hi : Option Int) : slicePick its.toArray lo hi none = ((its.drop (HT.sIx its.length 0 lo)).take (HT.sIx its.length its.length hi - HT.sIx its.length 0 lo)).toArray := by
  obtain ⟨h1, h2, h3⟩ := slice_bounds lo hi its.toArray.size
  unfold slicePick
  rw [h1, h2, h3]
  simp only [sliceRange_one, pick_run, List.size_toArray] <;> rfl
/-- xs[lo:hi] of a list: a new list -/
def rSlL (K : PySem.W.Frag) : V → Option Int → Option Int → Hp → VK → Prop := fun x lo hi H Q => ∃ a xs, x = .ref a ∧ SqL K H a xs ∧ ∀ p, H p = none → Q (.ref p) (upd H p (.lst (cutV xs lo hi)))
theorem sl_list : SlR X (rSlL X.K) := by
  intro pins s σ H x v vl vu lo hi sl Q I rx hs pl pu h
  obtain ⟨a, xs, rfl, hx, q⟩ := h
  cases rx
  obtain ⟨its, r, ht, hz⟩ := I.list hx
  have hlen := r.length
  refine ⟨"list", _, slot_list_getitem.lookup, ht.isList.typeIs, ?_⟩
  refine wpAny_getItem_list_slice ht.isList hs pl pu .none (by simp) ?_ (by rw [List.size_toArray] <;> omega)
  rw [slicePick_cut, ← hlen]
  refine ⟨.ref s.heap.objs.size, _, I.laid (t' := s.toks) (o := .lst (cutV xs lo hi)) (fun b ob q => Heap.get?_push_of_some _ q) (Nat.le_refl _) ?_, rfl, q _ (I.hok.fresh (Nat.le_refl _))⟩
  exact ⟨Nat.le_trans (cutV_length xs lo hi) hz, _, 0, (r.drop (HT.sIx xs.length 0 lo)).take (HT.sIx xs.length xs.length hi - HT.sIx xs.length 0 lo), Heap.get?_push_size _ rfl⟩

/-! ### in, not in: flat items -/
def flatV : V → Bool
  | .non => true
  | .bl _ => true
  | .int _ => true
  | .str _ => true
  | _ => false
/-- == of flat values -/
def eqV : V → V → Bool
  | .non, .non => true
  | .bl a, .bl b => a == b
  | .bl a, .int b => (if a then 1 else 0) == b
  | .int a, .bl b => a == (if b then 1 else 0)
  | .int a, .int b => a == b
  | .str a, .str b => a == b
  | _, _ => false
def inV (x : V) (xs : List V) : Bool := xs.any fun y => eqV y x
/-- x in a list or tuple of flat items -/
def rIn (K : PySem.W.Frag) (neg : Bool) : R2 := fun x y H Q => ∃ p xs, y = .ref p ∧ (SqL K H p xs ∨ SqT K H p xs) ∧ flatV x = true ∧ xs.all flatV = true ∧ Q (.bl (if neg then !inV x xs else inV x xs)) H
/-! ### len, list(x), tuple(x) of any list or tuple that is read -/
theorem call_len_seq : CallR X (.builtin "len") (fun xs H Q => ∃ p ys, xs = [.ref p] ∧ (SqL X.K H p ys ∨ SqT X.K H p ys) ∧ Q (.int ys.length) H) := by
  intro pins s σ H xs us Q I r h
  obtain ⟨p, ys, rfl, hq, q⟩ := h
  obtain ⟨u, rfl, rx⟩ := vals1 r
  cases rx
  have hn := line63
  rcases hq with hq | hq
  · obtain ⟨its, r', pl, hz⟩ := I.list hq
    have hlen := r'.length
    exact Calls.call_len_list pl.isList (by simp only [List.size_toArray] <;> omega) ⟨.int ys.length, H, I.tok _, ⟨s.toks + 1, by rw [List.size_toArray, hlen]⟩, q⟩
  · obtain ⟨its, r', pl, hz⟩ := I.tuple hq
    have hlen := r'.length
    exact len_tuple pl (by simp only [List.size_toArray] <;> omega) ⟨.int ys.length, H, I.tok _, ⟨s.toks + 1, by rw [List.size_toArray, hlen]⟩, q⟩
theorem call_list_of : CallR X (.type "list") (fun xs H Q => ∃ p ys, xs = [.ref p] ∧ (SqL X.K H p ys ∨ SqT X.K H p ys) ∧ ∀ l, H l = none → Q (.ref l) (upd H l (.lst ys))) := by
  intro pins s σ H xs us Q I r h
  obtain ⟨p, ys, rfl, hq, q⟩ := h
  obtain ⟨u, rfl, rx⟩ := vals1 r
  cases rx
  have fin : ∀ (its : List Value), Vals ys its → ys.length ≤ sizeLine → ∀ (h' : Heap) (c' : Nat), (∀ b o', s.heap.get? b = some o' → h'.get? b = some o') →
      h'.get? s.heap.objs.size = some { cls := .type "list", dict := none, data := .seq its.toArray c', slots := #[] } → EP X pins σ Q (.ref s.heap.objs.size) { s with heap := h' } := fun its r' hz h' c' kp e =>
    ⟨.ref s.heap.objs.size, _, I.laid (t' := s.toks) kp (Nat.le_refl _) (show ObjOk X.prog X.w _ h' _ (.lst ys) from ⟨hz, its, c', r', e⟩), rfl, q _ (I.hok.fresh (Nat.le_refl _))⟩
  rcases hq with hq | hq
  · obtain ⟨its, r', pl, hz⟩ := I.list hq
    have hlen := r'.length
    obtain ⟨o, ho, hc, n, hd⟩ := pl.isList
    exact call_list_seq p (.inl rfl) ho hc hd (fun h' c' kp e => fin its r' hz h' c' kp e) (by simp only [List.size_toArray] <;> omega)
  · obtain ⟨its, r', pl, hz⟩ := I.tuple hq
    have hlen := r'.length
    obtain ⟨o, ho, hc, n, hd⟩ := pl
    exact call_list_seq p (.inr rfl) ho hc hd (fun h' c' kp e => fin its r' hz h' c' kp e) (by simp only [List.size_toArray] <;> omega)
/-! ### the call of a builtin's method: o.m(..) -/
/-- the value is of that builtin type -/
def tyV (K : PySem.W.Frag) (T : String) (x : V) (H : Hp) : Prop := match x with
  | .str _ => T = "str"
  | .int _ => T = "int"
  | .ref p => (T = "list" ∧ ∃ xs, SqL K H p xs) ∨ (T = "tuple" ∧ ∃ o, K.lookup p = some o ∧ o.cls = .type "tuple" ∧ o.dict = none) ∨
      (T = "dict" ∧ ((∃ kvs, H p = some (.dK kvs)) ∨ ∃ kvs, H p = some (.dT kvs))) ∨ (T = "set" ∧ ∃ S n, H p = some (.set S n))
  | _ => False
theorem tyV_is {pins : List (Addr × Obj)} {σ : St} {H : Hp} {s : Shared} {T : String} {x : V} {v : Value} (I : Inv X pins σ H s) (r : RelV x v) (ty : tyV X.K T x H) :
    s.TypeIs v T ∧ ∀ a, v = .ref a → ∃ ob, s.heap.get? a = some ob ∧ ob.dict = none := by
  cases x with
  | str z =>
    obtain ⟨t, rfl⟩ := r
    cases (show T = "str" from ty)
    exact ⟨typeIs_str s z t, fun _ e => nomatch e⟩
  | int i =>
    obtain ⟨t, rfl⟩ := r
    cases (show T = "int" from ty)
    exact ⟨typeIs_int s i t, fun _ e => nomatch e⟩
  | ref p =>
    cases r
    rcases ty with ⟨rfl, xs, hq⟩ | ⟨rfl, o, hk, hc, hd⟩ | ⟨rfl, hk⟩ | ⟨rfl, S, n, hk⟩
    · obtain ⟨its, _, pl, _⟩ := I.list hq
      refine ⟨pl.isList.typeIs, fun a e => ?_⟩
      cases e
      obtain ⟨o, n, e, c, hd, _⟩ := pl
      exact ⟨o, e, hd⟩
    · refine ⟨⟨o, I.kIn p o hk, hc⟩, fun a e => ?_⟩
      cases e
      exact ⟨o, I.kIn _ o hk, hd⟩
    · have z : ∃ o, s.heap.get? p = some o ∧ o.ExactDict := by
        rcases hk with ⟨kvs, hk⟩ | ⟨kvs, hk⟩
        · obtain ⟨_, _, _, _, o, _, _, e, ex, _⟩ := I.hok p _ hk
          exact ⟨o, e, ex⟩
        · obtain ⟨_, _, _, _, o, _, _, e, ex, _⟩ := I.hok p _ hk
          exact ⟨o, e, ex⟩
      obtain ⟨o, e, ex⟩ := z
      refine ⟨⟨o, e, ex.1⟩, fun a e2 => ?_⟩
      cases e2
      exact ⟨o, e, ex.2.1⟩
    · obtain ⟨o, _, _, _, e, ex, _⟩ := I.hok p _ hk
      refine ⟨⟨o, e, ex.1⟩, fun a e2 => ?_⟩
      cases e2
      exact ⟨o, e, ex.2.1⟩
  | _ => exact False.elim ty
def tBM0 (K : PySem.W.Frag) (T : String) (r : V → List V → Hp → VK → Prop) (to : TE) : TE := fun σ H Q => to σ H fun x H1 => tyV K T x H1 ∧ r x [] H1 Q
def tBM (K : PySem.W.Frag) (T : String) (r : V → List V → Hp → VK → Prop) (to : TE) (t : TA) : TE := fun σ H Q => to σ H fun x H1 => tyV K T x H1 ∧ t σ H1 fun xs H2 => r x xs H2 Q
variable {o e : Expr} {es : List Expr} {to : TE} {t : TA} {name : Str} {apos cpos : Pos} {T id : String} {r : V → List V → Hp → VK → Prop}
theorem pe_bm (pa : PlainAttrs T) (slot : Slot T name id) (hty : typeOf (.builtin id) = pure (.type "method_descriptor")) (hm : MtR X id r) (ho : PE X o to) (ha : PA X (e :: es) t)
    (hbase : attributeBase o name X.env (eval o X.env) = eval o X.env := by rfl)
    (hfew : ((backTo cpos (starEach (e :: es) X.env)).all (fun x => !x.1) && (backToKw cpos (keywordEach [] X.env)).all (fun x => x.1.isSome)
      && decide ((e :: es).length + ([] : List Keyword).length + (if ([] : List Keyword).isEmpty then 0 else 1) < 30)) = true := by rfl)
    (hline : (apos.endLine == cpos.line) = true := by rfl) (hs : starEach (e :: es) X.env = (false, eval e X.env) :: starEach es X.env := by rfl) (hplain : (backTo cpos (starEach es X.env)).any (·.1) = false := by rfl) :
    PE X (.Call (.Attribute o name apos) (e :: es) [] cpos) (tBM X.K T r to t) := by
  intro pins s σ H Q I h
  refine wpAny_Call_method_late hbase hfew hline rfl (thn (ho pins s σ H _ I h) fun v s1 ⟨x, H1, I1, r1, ty, q1⟩ => ?_)
  obtain ⟨h1, h2⟩ := tyV_is I1 r1 ty
  refine ⟨T, id, pa, slot, hty, h1, h2, ?_⟩
  have hA := ha cpos pins s1 σ H1 _ I1 q1
  rw [hs] at hA ⊢
  refine Calls.callWith_builtin (by show (false || (backTo cpos (starEach es X.env)).any (·.1)) = false; rw [hplain] <;> rfl) (Calls.evalArgs_plain ?_)
  exact thn hA fun us s2 ⟨vs, H2, I2, r2, q2⟩ => hm pins s2 σ H2 x vs v us Q I2 r1 r2 q2
/- xs.append(e), list.index on a module's tuple .. are MtR facts of 06m -/
end
end L2

namespace L2
open PySem PySem.Spec PyProof.Rows

def MtM (X : Cx) (id : String) (r : V → List V → Hp → VK → Prop) : Prop :=
  ∀ (pins : List (Addr × Obj)) (s : Shared) (σ : St) (H : Hp) (x : V) (xs : List V) (v : Value) (us : List Value) (Q : VK), Inv X pins σ H s → RelV x v → Vals xs us → r x xs H Q →
    wpAny (model X.prog X.w) X.A (call (.builtin id) (v :: us)) (EP X pins σ Q) X.xe s

/-! ### lists of values -/
theorem Vals.one : ∀ {x : V} {us : List Value}, Vals [x] us → ∃ u, us = [u] ∧ RelV x u
  | _, _, .cons r .nil => ⟨_, rfl, r⟩
theorem Vals.two : ∀ {x y : V} {us : List Value}, Vals [x, y] us → ∃ u v, us = [u, v] ∧ RelV x u ∧ RelV y v
  | _, _, _, .cons r (.cons q .nil) => ⟨_, _, rfl, r, q⟩
theorem Vals.eraseIdx : ∀ {xs : List V} {us : List Value} (i : Nat), Vals xs us → Vals (xs.eraseIdx i) (us.eraseIdx i)
  | _, _, _, .nil => .nil
  | _, _, 0, .cons _ t => t
  | _, _, i + 1, .cons r t => .cons r (Vals.eraseIdx i t)
theorem Vals.reverse {xs : List V} {us : List Value} (h : Vals xs us) : Vals xs.reverse us.reverse := by
  induction h with
  | nil => exact .nil
  | cons r t ih => rw [List.reverse_cons, List.reverse_cons]; exact Vals.append ih (.cons r .nil)
theorem Vals.rep {xs : List V} {us : List Value} (h : Vals xs us) : ∀ k : Nat, Vals (List.replicate k xs).flatten (List.replicate k us).flatten
  | 0 => .nil
  | k + 1 => by
    rw [List.replicate_succ, List.replicate_succ, List.flatten_cons, List.flatten_cons]
    exact Vals.append h (Vals.rep h k)
theorem len_erase {α : Type} : ∀ (l : List α) (i : Nat), (l.eraseIdx i).length ≤ l.length
  | [], _ => Nat.le_refl _
  | _ :: _, 0 => Nat.le_succ _
  | _ :: r, i + 1 => Nat.succ_le_succ (len_erase r i)
theorem foldl_rep (its : List Value) : ∀ (k : Nat) (acc : List Value),
    List.foldl (fun x1 x2 => x1 ++ x2) acc.toArray (List.replicate k its.toArray) = (acc ++ (List.replicate k its).flatten).toArray
  | 0, acc => by simp
  | k + 1, acc => by
    have e : acc.toArray ++ its.toArray = (acc ++ its).toArray := by simp
    have e2 : (acc ++ its) ++ (List.replicate k its).flatten = acc ++ (List.replicate (k + 1) its).flatten := by
      rw [List.replicate_succ, List.flatten_cons, List.append_assoc]
    rw [← e2, ← foldl_rep its k (acc ++ its), ← e, List.replicate_succ, List.foldl_cons]

section
variable {X : Cx} {pins : List (Addr × Obj)} {σ : St} {H : Hp} {s : Shared} {l b : Addr} {xs ys zs : List V}

/-! ### the two steps: a tracked list is rewritten, a new list is laid -/
theorem Inv.lset {its its' : List Value} {n : Nat} {f : Array Value → Array Value} {t' : Nat} (I : Inv X pins σ H s) (hH : H l = some (.lst xs))
    (e : s.heap.get? l = some { cls := .type "list", data := .seq its.toArray n }) (hf : f its.toArray = its'.toArray) (hv : Vals ys its') (hz : ys.length ≤ sizeLine) :
    Inv X pins σ (upd H l (.lst ys)) { s with heap := s.heap.update l (Obj.mapSeq f), toks := t' } := by
  have q := PySem.IsL.update e f
  rw [hf] at q
  refine I.write (x := l) (e := l) (by rw [hH]; exact trivial) (.inl rfl) (fun b' u hb hu => (Heap.get?_update_other s.heap (Obj.mapSeq f) (Ne.symm hb)).trans hu) ⟨_, q⟩ ?_
  exact ⟨hz, its', _, hv, q⟩
theorem Inv.lnew {its : List Value} {t' : Nat} (I : Inv X pins σ H s) (hv : Vals ys its) (hz : ys.length ≤ sizeLine) :
    Inv X pins σ (upd H s.heap.objs.size (.lst ys)) { s with heap := s.heap.push { cls := .type "list", data := .seq its.toArray }, toks := t' } :=
  I.laid (fun _ _ q => Heap.get?_push_of_some _ q) (Nat.le_refl _) ⟨hz, its, 0, hv, Heap.get?_push_size _ rfl⟩
theorem Inv.fresh (I : Inv X pins σ H s) : H s.heap.objs.size = none := I.hok.fresh (Nat.le_refl _)
theorem Inv.lstM (I : Inv X pins σ H s) (hH : H l = some (.lst xs)) : xs.length ≤ sizeLine ∧ ∃ (its : List Value) (n : Nat), Vals xs its ∧ xs.length = its.length ∧ s.heap.get? l = some { cls := .type "list", data := .seq its.toArray n } := by
  obtain ⟨z, its, n, r, e⟩ := I.hok l _ hH
  exact ⟨z, its, n, r, r.length, e⟩

theorem notLongL {n : Nat} (h : n ≤ sizeLine) : Builtin.List.listTooLong n = false := by
  unfold Builtin.List.listTooLong
  exact decide_eq_false (by omega)
end

section
variable {X : Cx}

/-! ### methods -/
def rAppend : V → List V → Hp → VK → Prop := fun x vs H Q => ∃ l xs y, x = .ref l ∧ vs = [y] ∧ H l = some (.lst xs) ∧ xs.length < sizeLine ∧ Q .non (upd H l (.lst (xs ++ [y])))
theorem mt_append : MtM X "list.append" rAppend := by
  intro pins s σ H x vs v us Q I rx rv h
  obtain ⟨l, xs, y, rfl, rfl, hH, hz, q⟩ := h
  cases rx
  obtain ⟨u, rfl, ru⟩ := rv.one
  obtain ⟨z, its, n, r, hl, e⟩ := I.lstM hH
  refine call_meets F.slot_list_append ⟨_, e, rfl⟩ F.entry_list_append (F.args_list_append_2 _ _) (PySem.list_append l its.toArray n u (by rw [List.size_toArray]; omega)) ⟨e, ?_⟩
  refine ⟨.non, _, I.lset (its' := its ++ [u]) hH e (by simp) (r.append (.cons ru .nil)) ?_, rfl, q⟩
  rw [List.length_append, List.length_singleton]
  omega

def rExtend : V → List V → Hp → VK → Prop := fun x vs H Q => ∃ l b xs zs, x = .ref l ∧ vs = [.ref b] ∧ H l = some (.lst xs) ∧ H b = some (.lst zs) ∧ xs.length + zs.length ≤ sizeLine ∧ Q .non (upd H l (.lst (xs ++ zs)))
theorem mt_extend : MtM X "list.extend" rExtend := by
  intro pins s σ H x vs v us Q I rx rv h
  obtain ⟨l, b, xs, zs, rfl, rfl, hH, hB, hz, q⟩ := h
  cases rx
  obtain ⟨u, rfl, ru⟩ := rv.one
  cases ru
  obtain ⟨z, its, n, r, hl, e⟩ := I.lstM hH
  obtain ⟨z2, its2, n2, r2, hl2, e2⟩ := I.lstM hB
  have hsz : its.toArray.size + its2.toArray.size ≤ sizeLine := by rw [List.size_toArray, List.size_toArray]; omega
  have hlong : ¬ (!its.toArray.isEmpty && Builtin.List.listTooLong (its.toArray.size + its2.toArray.size)) = true := by
    rw [notLongL hsz, Bool.and_false]
    exact Bool.false_ne_true
  refine call_meets F.slot_list_extend ⟨_, e, rfl⟩ F.entry_list_extend (F.args_list_extend_2 _ _)
    (AutoSeq1.list_extend_list_list_0 l its.toArray n b its2.toArray n2 hlong (by rw [List.size_toArray]; omega) (by omega)) ⟨e, e2, ?_⟩
  refine ⟨.non, _, I.lset (its' := its ++ its2) hH e (by simp) (r.append r2) ?_, rfl, q⟩
  rw [List.length_append]
  omega

def rPop : V → List V → Hp → VK → Prop := fun x vs H Q => ∃ l xs y, x = .ref l ∧ vs = [] ∧ H l = some (.lst xs) ∧ xs[xs.length - 1]? = some y ∧ Q y (upd H l (.lst xs.dropLast))
def rReverse : V → List V → Hp → VK → Prop := fun x vs H Q => ∃ l xs, x = .ref l ∧ vs = [] ∧ H l = some (.lst xs) ∧ Q .non (upd H l (.lst xs.reverse))
def rClear : V → List V → Hp → VK → Prop := fun x vs H Q => ∃ l xs, x = .ref l ∧ vs = [] ∧ H l = some (.lst xs) ∧ Q .non (upd H l (.lst []))
/-! ### list + list, list += list, list * int -/
def rCat : R2 := fun x y H Q => ∃ l b xs zs, x = .ref l ∧ y = .ref b ∧ H l = some (.lst xs) ∧ H b = some (.lst zs) ∧ xs.length + zs.length ≤ sizeLine ∧ ∀ p, H p = none → Q (.ref p) (upd H p (.lst (xs ++ zs)))
theorem op_cat : OpR X (binaryOp .Add) rCat := by
  intro pins s σ H x y v u Q I rx ry h
  obtain ⟨l, b, xs, zs, rfl, rfl, hH, hB, hz, q⟩ := h
  cases rx
  cases ry
  obtain ⟨z, its, n, r, hl, e⟩ := I.lstM hH
  obtain ⟨z2, its2, n2, r2, hl2, e2⟩ := I.lstM hB
  refine PySem.P.add_list e e2 ?_ (by rw [List.size_toArray, List.size_toArray]; omega)
  have ea : its.toArray ++ its2.toArray = (its ++ its2).toArray := by simp
  rw [ea]
  exact ⟨.ref _, _, I.lnew (t' := s.toks) (r.append r2) (by rw [List.length_append]; omega), rfl, q _ I.fresh⟩
/-- a list times an int (a negative one is nothing) -/
def rRep : R2 := fun x y H Q => ∃ l k xs, x = .ref l ∧ y = .int k ∧ H l = some (.lst xs) ∧ -(2 ^ 63) ≤ k ∧ k < 2 ^ 63 ∧ xs.length * k.toNat ≤ sizeLine ∧
  ∀ p, H p = none → Q (.ref p) (upd H p (.lst (List.replicate k.toNat xs).flatten))
theorem len_rep {α : Type} (xs : List α) (k : Nat) : (List.replicate k xs).flatten.length = k * xs.length := by
  induction k with
  | zero => simp
  | succ k ih => rw [List.replicate_succ, List.flatten_cons, List.length_append, ih, Nat.succ_mul, Nat.add_comm]
theorem op_rep : OpR X (binaryOp .Mult) rRep := by
  intro pins s σ H x y v u Q I rx ry h
  obtain ⟨l, k, xs, rfl, rfl, hH, h1, h2, hz, q⟩ := h
  cases rx
  obtain ⟨t, rfl⟩ := ry
  obtain ⟨z, its, n, r, hl, e⟩ := I.lstM hH
  have hlen : its.toArray.size * k.toNat ≤ sizeLine := by rw [List.size_toArray, ← hl]; exact hz
  have hcap : ¬ its.toArray.size * k.toNat > (2 ^ 63 - 1) / 8 := by
    have : (sizeLine : Nat) ≤ (2 ^ 63 - 1) / 8 := by decide
    omega
  have hfit : ¬ (!Builtin.List.listFitsIndex k) = true := by
    rw [fitsIndex_both h1 h2]
    exact Bool.false_ne_true
  have hlong : ¬ Builtin.List.listTooLong (its.toArray.size * k.toNat) = true := by
    rw [notLongL hlen]
    exact Bool.false_ne_true
  have hnew : List.foldl (fun x1 x2 => x1 ++ x2) #[] (List.replicate (if its.toArray.isEmpty = true then 0 else k.toNat) its.toArray) = (List.replicate k.toNat its).flatten.toArray := by
    have f0 : ∀ m : Nat, List.foldl (fun x1 x2 => x1 ++ x2) #[] (List.replicate m its.toArray) = (List.replicate m its).flatten.toArray := fun m => by
      have := foldl_rep its m []
      rw [List.nil_append] at this
      exact this
    rw [f0]
    cases its with
    | nil => simp
    | cons a r' => rw [if_neg (by simp)]
  refine wpAny_binaryOp_repeat_ref (T := "list") (U := "int") (by decide) ⟨_, e, rfl⟩ (fun s' => typeIs_int s' k t) noFill_list_mul F.fills_int_mul F.slot_int_rmul repeat_list F.slot_int_index.lookup
    (call_meets F.slot_int_rmul (typeIs_int s k t) F.entry_int_rmul (F.args_int_rmul_2 _ _) (int___rmul___int_list k t l its.toArray n)
      ⟨e, rfl, ⟨_, e, rfl⟩, call_meets F.slot_list_mul ⟨_, e, rfl⟩ F.entry_list_mul (F.args_list_mul_2 _ _) (AutoListH.list___mul___list_int_3 l its.toArray n k t hfit hcap hlong) ⟨e, ?_⟩⟩)
  rw [hnew]
  exact ⟨.ref _, _, I.lnew (t' := s.toks) (r.rep k.toNat) (by rw [len_rep, Nat.mul_comm]; exact hz), rfl, q _ I.fresh⟩

/-! ### del xs[i] -/
end

/-! ### xs[a:b] = ys -/
section
variable {prog : Program} {w : World} {A : Around} {E : Value → Shared → Prop} {s : Shared}
end

section
variable {X : Cx}
end
end L2

namespace Att
open PySem PySem.W PySem.Calls PyProof.Rows

/-! ### the script -/
theorem ints_of_wellAll {P : Params} {h : Heap} : ∀ (ns : List Int) (vs : List Value), WellAll P h vs (ns.map WData.int) → IntsAre vs ns := by
  intro ns
  induction ns with
  | nil =>
    intro vs w
    rw [List.map_nil] at w
    cases w
    exact .nil
  | cons n ns ih =>
    intro vs w
    rw [List.map_cons] at w
    cases w with
    | cons a b =>
      cases a
      exact .cons _ _ (ih _ b)

theorem script_of {l : OpenLaw} {n : Nat} (hn : l.most = some n) {P : Params} {h : Heap} {args : List WData} {vals : List Value}
    (hpre : l.row.toRowW.claim.pre args = true) (hwl : WellAll P h vals args) :
    ∃ a vs ns, vals = [Value.ref a] ∧ args = [WData.list (ns.map WData.int)] ∧ h.get? a = some { cls := .type "list", data := .seq vs.toArray } ∧ IntsAre vs ns ∧ ns.length ≤ n := by
  have hsh : WShape.hasAll [] args [.list .int] = true := (pre_splitW hpre).1
  have hc : l.pre.holds [] { args := args } = true := (pre_splitW hpre).2
  obtain ⟨d, r, rfl, h1, h2⟩ := hasAllW_cons hsh
  obtain rfl := hasAllW_nil h2
  obtain ⟨xs, rfl, h3⟩ := hasW_list h1
  obtain ⟨ns, rfl⟩ := items_int h3
  have hlen : ns.length ≤ n := by
    unfold OpenLaw.pre at hc
    have h4 : (WTm.not (.lt (.lit (.int (n : Int))) (.len (.arg 0)))).holds [] { args := [.list (ns.map .int)] } = true := by
      have h4 := (holds_andW hc).1
      rw [hn] at h4
      exact h4
    have h5 := condW_of h4 (w_not (w_lt w_lit (w_len_list (w_arg rfl))))
    rw [List.length_map] at h5
    refine Nat.le_of_not_lt fun q => ?_
    have q' : (n : Int) < ((ns.length : Nat) : Int) := by omega
    first
      | (rw [decide_eq_true q'] at h5; exact absurd h5 (by decide))
      | (simp at h5; omega)
  cases hwl with
  | cons w1 w2 =>
    cases w2
    cases w1 with
    | list ho hall => exact ⟨_, _, ns, rfl, rfl, ho, ints_of_wellAll ns _ hall, hlen⟩

theorem post_true (l : OpenLaw) (args : List WData) : l.row.toRowW.claim.post args (.bool true) args = true :=
  postW_of (r := l.row.toRowW) (X := (true == true))
    (show WShape.has [] (.bool true) .bool = true by first | rfl | decide | simp [WShape.has, WShape.arms, WShape.armsAll])
    (show (WTm.eq .res (.lit (.bool true))).value [] { args := args, res := some (.bool true), after := args } = some (.bool (true == true)) from w_eq_bool (w_res rfl) w_lit) rfl

/-! ### the attachment: holds_open's last premise (the goal 'hc' behind k_head) from a wpAny of the law's body -/
/-- the same from a codeAny of the CALL (for a layer whose function contracts speak of calls) -/
theorem attach_call {l : OpenLaw} {n : Nat} {q : Program} {loose : List Str} {XP : (Str → Option Value) → Heap → Prop} {YP : World → Heap → Prop} {d : DefRec}
    (hn : l.most = some n) (hdf : d.params.defaults = [])
    (call : ∀ (w : World) (s₀ s₁ : Shared) (mg mb : Str → Option Value) (fa : Addr) (o : Obj) (pm cd doc : Value) (a : Addr) (vs : List Value) (ns : List Int),
      Ground q loose [] XP w s₀ mg mb s₁.heap → YP w s₁.heap →
      s₁.heap.get? fa = some o → o.data = .func (docDef d.name d.params d.body d.scope pm cd doc) → s₁.heap.CodeRec cd d.name → mg d.name = some (.ref fa) →
      s₁.heap.get? a = some { cls := .type "list", data := .seq vs.toArray } → IntsAre vs ns → ns.length ≤ n → s₁.gens = #[] →
      codeAny (model l.prog w) callerA (.call (.ref fa) ⟨[.ref a], []⟩) (fun r s' => r = .ok (.ret (.bool true)) ∧ OldK s₁.heap s'.heap ∧ s'.os = s₁.os ∧ AllBare s'.gens) s₁) :
    WalkO q loose XP YP l.row.toRowW d [] (fun f vs => PySem.call f vs) := by
  intro w s₀ s₁ mg mb G Y fa o pm cd doc dV kV ho hd hcd hD hmg hg args vals as hpre hlay hrd hwl hlo
  obtain rfl : dV = .none := Dflts.none hD hdf
  obtain rfl : kV = .none := Dflts.noKw hD
  obtain ⟨a, vs, ns, rfl, rfl, hobj, hints, hlen⟩ := script_of hn hpre hwl
  refine enter_call (codeAny_mono (call w s₀ s₁ mg mb fa o pm cd doc a vs ns G Y ho (fd_plain hd) hcd hmg hobj hints hlen hg) fun r s' hq => ?_)
  obtain ⟨rfl, h2, h3, h4⟩ := hq
  exact ⟨.inl ⟨.bool true, .bool true, [], rfl, fun _ => rfl, .bool true, post_true l _, fun _ => ⟨List.Pairwise.nil, fun _ hm => (nomatch hm)⟩⟩, h2, h3, h4⟩

/-! ### rules over ANY heap (no ledger) from facts about the written part K: the library's own take a ledger (News) for what they write -/
section
variable {prog : Program} {w : World} {A : Around} {E : Value → Shared → Prop} {s : Shared} {K : Frag}

/-! the whole heap as the ledger: makes every rule that writes through a ledger a rule over any heap -/
end
end Att

namespace L2
open PySem PySem.Spec PyProof.Rows

theorem vals_ints : ∀ {vs : List Value} {ns : List Int}, IntsAre vs ns → Vals (ns.map V.int) vs
  | _, _, .nil => .nil
  | _, _, .cons n t h => .cons ⟨t, rfl⟩ (vals_ints h)

/-- nothing is tracked but the script, known to the object (or it is an object of the module) -/
def Only (H : Hp) : Prop := ∀ b, H b = none ∨ ∃ o xs, H b = some (.frz o (.lst xs))

/-- THE HEAD: the law's promise, at the heap behind the top. F, the promise of the law's def, may use that base is part of the heap (so K.In base, base.Ns mainGlobals mg stand in Mod) -/
theorem law_call {P : Program} {w : World} {K : PySem.W.Frag} {mg mb : Str → Option Value} {CX : CXT} {k : Nat} {fa a : Addr} {fd : FuncData} {x : Str} {sp : Sp} {s₁ : Shared} {vs : List Value} {ns : List Int}
    (KX : K.In s₁.heap) (hns : s₁.heap.Ns mainGlobals mg) (hb : s₁.heap.Ns builtinsNs mb) (hbb : ∀ x : Str, x ≠ "__name__" → mb x = bootBuiltins x) (hlim : s₁.heap.NoLimit) (hg : s₁.gens = #[])
    (ha : s₁.heap.get? a = some { cls := .type "list", data := .seq vs.toArray }) (hi : IntsAre vs ns) (hl : ns.length ≤ sizeLine) (hr : Room k callerA)
    (F : ∀ base : Heap, K.In base → base.Ns mainGlobals mg → FnOk P w K mg base CX k fa fd [x] sp) (hbind : ∀ (s : Shared) (u : Value), BindsTo s fd ⟨[u], []⟩ [(x, u)])
    (hsp : ∀ H : Hp, Only H → SqL K H a (ns.map V.int) → sp [.ref a] H (fun v _ => v = .bl true) fun _ _ _ => False)
    (hCX : ∀ H e s', CX [] H s₁ (fun _ _ _ => False) e s' → False) :
    codeAny (model P w) callerA (.call (.ref fa) ⟨[.ref a], []⟩) (fun r s' => r = .ok (.ret (.bool true)) ∧ OldK s₁.heap s'.heap ∧ s'.os = s₁.os ∧ AllBare s'.gens) s₁ := by
  have rv := vals_ints hi
  have lenV := hi.length
  -- from an abstract heap in which nothing but the script may be tracked
  have core : ∀ H : Hp, Only H → SqL K H a (ns.map V.int) → HOk P w H s₁.heap → (∀ b, H b ≠ none → b = a) → (H a ≠ none → K.lookup a = none) →
      codeAny (model P w) callerA (.call (.ref fa) ⟨[.ref a], []⟩) (fun r s' => r = .ok (.ret (.bool true)) ∧ OldK s₁.heap s'.heap ∧ s'.os = s₁.os ∧ AllBare s'.gens) s₁ := by
    intro H hO hS hok hA hK
    have base_of : ∀ {b : Addr} {o : Obj}, s₁.heap.get? b = some o → H b = none → (hidT s₁.heap H).get? b = some o := fun e n => hidT_get e n
    have noA : ∀ {b : Addr} {o : Obj} {es : Array DictEntry} {ep : Nat}, s₁.heap.get? b = some o → o.data = .dict es ep → H b = none := fun {b o es ep} e d => by
      cases q : H b with
      | none => rfl
      | some u =>
        have e' : b = a := hA b (by rw [q]; simp)
        subst e'
        rw [ha] at e; cases e
        have d' : Data.seq vs.toArray _ = Data.dict es ep := d
        cases d'
    have nsK : ∀ {b : Addr} {m : Str → Option Value}, s₁.heap.Ns b m → (hidT s₁.heap H).Ns b m := fun {b m} ⟨o, es, ep, e, d, r⟩ => ⟨o, es, ep, base_of e (noA e d), d, r⟩
    have hKb : K.In (hidT s₁.heap H) := fun b o e => base_of (KX b o e) (by
      cases q : H b with
      | none => rfl
      | some u =>
        have e' : b = a := hA b (by rw [q]; simp)
        subst e'
        rw [hK (by rw [q]; simp)] at e; cases e)
    have hM : Mod K mg (hidT s₁.heap H) := ⟨hKb, nsK hns, ⟨mb, nsK hb, hbb⟩, let ⟨mc, h1, h2⟩ := hlim; ⟨mc, nsK h1, h2⟩⟩
    have e0 : Env0 P w K mg (hidT s₁.heap H) callerA [] s₁ H := ⟨rfl, hM, fun b o e => of_hidT e, Nat.le_of_eq (hidT_size _ _), trivial, fun b hb => absurd (show b ∈ ([] : List Addr) from hb) (by simp), hok, .of_eq hg⟩
    refine codeAny_mono ((F _ hKb (nsK hns)).run callerA [] s₁ H ⟨[.ref a], []⟩ [.ref a] [.ref a] _ _ hr e0 (hbind s₁ (.ref a)) (.cons rfl .nil) (hsp H hO hS)) fun r s' h => ?_
    cases r with
    | error e => exact (hCX H e s' h).elim
    | ok fl =>
      cases fl with
      | next => exact False.elim h
      | brk => exact False.elim h
      | cont => exact False.elim h
      | ret u =>
        obtain ⟨v, H', os, bare, un, hok', r', q⟩ := h
        have q' : v = .bl true := q
        subst q'
        obtain rfl : u = Value.bool true := r'
        refine ⟨rfl, OldK.of_keep fun b o e => ?_, os, bare⟩
        cases q : H b with
        | none => exact un.keep b o e q (by intro z; exact absurd (show b ∈ ([] : List Addr) from z) (by simp)) (by simp)
        | some u =>
          rcases hO b with z | ⟨ob, xs, z⟩
          · rw [q] at z; cases z
          · have z2 := un.frzs b ob _ z
            obtain ⟨e1, _⟩ := hok b _ z
            obtain ⟨e2, _⟩ := hok' b _ z2
            rw [e] at e1; cases e1
            exact e2
  cases hk : K.lookup a with
  | some o =>
    -- the script is one of the module's own objects
    have e := KX a o hk
    rw [ha] at e
    cases e
    refine core (fun _ => none) (fun _ => .inl rfl) (.inr ⟨_, vs.toArray, _, hk, rfl, rfl, rfl, by rw [List.size_toArray, lenV]; exact hl, by simpa using rv⟩) (fun b u z => by have z' : (none : Option HO) = some u := z; cases z') (fun b z => absurd rfl z) fun z => absurd rfl z
  | none =>
    refine core (fun b => if b = a then some (.frz { cls := .type "list", data := .seq vs.toArray } (.lst (ns.map V.int))) else none) (fun b => ?_) (.inl (.inr ⟨{ cls := .type "list", data := .seq vs.toArray }, if_pos rfl⟩)) (fun b u z => ?_) (fun b z => ?_) fun _ => hk
    · by_cases hb : b = a
      · exact .inr ⟨_, _, if_pos hb⟩
      · exact .inl (if_neg hb)
    · by_cases hb : b = a
      · have z' := (if_pos hb).symm.trans z
        cases z'
        subst hb
        exact ⟨ha, by rw [List.length_map]; exact hl, vs, _, rv, ha⟩
      · have z' := (if_neg hb).symm.trans z
        cases z'
    · by_cases hb : b = a
      · exact hb
      · exact absurd (if_neg hb) z
end L2

namespace L2
open PySem PySem.Spec PyProof.Rows

/-- the goal that k_head leaves (case hc), from the law's promise. F gives the function object fd (K's own) once, then the promise over every base -/
theorem walk_of {l : PySem.W.OpenLaw} {n k : Nat} {q : Program} {loose : List Str} {XP : (Str → Option Value) → Heap → Prop} {YP : World → Heap → Prop} {d : DefRec} {K : Params → PySem.W.Frag} {CX : World → CXT} {sp : World → Sp} {x : Str}
    (hn : l.most = some n) (hn2 : n ≤ sizeLine) (hdf : d.params.defaults = []) (hr : Room k callerA)
    (hY : ∀ (w : World) (h : Heap), YP w h → (K w.params).In h)
    (F : ∀ (w : World) (mg : Str → Option Value) (fa : Addr) (h : Heap), (K w.params).In h → h.Ns mainGlobals mg → mg d.name = some (.ref fa) →
      ∃ fd : FuncData, (∀ (s : Shared) (u : Value), BindsTo s fd ⟨[u], []⟩ [(x, u)]) ∧
        ∀ base : Heap, (K w.params).In base → base.Ns mainGlobals mg → FnOk l.prog w (K w.params) mg base (CX w) k fa fd [x] (sp w))
    (hsp : ∀ (w : World) (H : Hp) (a : Addr) (ns : List Int), ns.length ≤ n → Only H → SqL (K w.params) H a (ns.map V.int) → sp w [.ref a] H (fun v _ => v = .bl true) fun _ _ _ => False)
    (hCX : ∀ (w : World) (H : Hp) (s : Shared) (e : Value) (s' : Shared), CX w [] H s (fun _ _ _ => False) e s' → False) :
    PySem.W.WalkO q loose XP YP l.row.toRowW d [] (fun f vs => PySem.call f vs) := by
  refine Att.attach_call hn hdf fun w s₀ s₁ mg mb fa o pm cd doc a vs ns G Y ho hd hcd hmg hobj hints hlen hg => ?_
  have KX := hY w _ Y
  obtain ⟨fd, hb, hF⟩ := F w mg fa _ KX G.T.g hmg
  exact law_call KX G.T.g G.T.b G.T.builtins G.T.nolimit hg hobj hints (Nat.le_trans hlen hn2) hr hF hb (fun H hO hS => hsp w H a ns hlen hO hS) fun H e s' => hCX w H s₁ e s'
end L2

/- THE LAST THEOREM (shape; LID, My.* are yours):
   My.Adr: a structure of the addresses that your layer names (classes, functions); My.Txt K t: a structure (Prop) of the equations over K;
   My.txt_mk : {K} {implicit addresses ..} (e1 : nsIn K mainGlobals "law" = some (some (.ref f))) (e2 : K.lookup f = some ⟨oc, od, .func (fnOf "law" "law" params body scope dV kV doc pm an cdv ct), sl⟩) (e3 : codeIn K cdv "law" = true) .. : ∃ t, My.Txt K t

set_option maxRecDepth 100000 in
set_option maxHeartbeats 0 in
theorem PySem.Challenge.cw_LID_holds : PySem.Challenge.rw_LID.Holds := by
  w_on; o_law; k_head; (case hw => w_witness2)
  k_fill
  refine L2.walk_of (l := PySem.Challenge.rw_LID) (n := 63) (k := 40) (x := "script") (CX := fun w => ..) (sp := fun _ => My.sp_law) rfl (by decide) rfl ⟨rfl, by decide, by decide⟩ (fun w h Y => PySem.W.kIn_of Y) ?F ?S ?C
  case F =>
    intro w mg fa h KX G hmg
    have T : ∃ t, My.Txt (L2.KOf KX) t := by
      dsimp only [L2.KOf]                          -- K must stand as «<heap const> w.params» for k_is
      refine' My.txt_mk ?e1 ?e2 ?e3 ..
      (case e1 => PySem.W.k_is)                    -- in the order: a name -> its address -> its object -> its parts
      (case e2 => PySem.W.k_is)
      ..
    obtain ⟨t, T⟩ := T
    have e0 := hmg.symm.trans (PySem.W.mg_of KX G T.law)
    cases e0                                       -- fa is the law's own address
    exact ⟨_, fun s u => .of_eq rfl, fun base kb nb => My.law_fn T kb nb⟩     -- if «.of_eq rfl» comes too early: refine' ⟨_, ?b, fun base kb nb => My.law_fn T kb nb⟩; exact fun s u => .of_eq rfl
  case S => exact fun w H a ns hl hO hS => ..
  case C => exact ..
(the tactic k_is has no namespace: write k_is) -/

/-! SHORT WORDS over the layer: a def of the text, its body, what a loop and a test want. -/
namespace L2
open PySem PySem.Spec PyProof.Rows

/-! ### the text by places -/
def defArgs (s : Stmt) : Arguments := match s with
  | .FunctionDef _ a _ _ _ _ _ _ _ _ => a
  | _ => { posonlyargs := [], args := [], vararg := none, kwonlyargs := [], kw_defaults := [], kwarg := none, defaults := [] }
def defBody (s : Stmt) : List Stmt := match s with
  | .FunctionDef _ _ b _ _ _ _ _ _ _ => b
  | _ => []
def defScope (s : Stmt) : Scope := match s with
  | .FunctionDef _ _ _ _ _ _ sc _ _ _ => sc
  | _ => { kind := .function, names := [], isGenerator := false, isCoroutine := false }

/-! ### no exception leaves a def -/
abbrev CX0 : CXT := fun _ _ _ _ _ _ => False
abbrev E0 : XK := fun _ _ _ => False
theorem pass0 {X : Cx} : Passes CX0 X E0 := fun _ _ _ _ _ _ _ h => h.elim

/-! ### a def (or method) of the text as it stands behind the top -/
structure Fun (K : PySem.W.Frag) (x qual : Str) (st : Stmt) (f : Addr) (fd : FuncData) : Prop where
  ex : ∃ (oc : Value) (od : Option Addr) (kV doc pm : Value) (an : Option Addr) (cdv ct : Value) (osl : Array (Option Value)),
    fd = PySem.W.fnOf x qual (defArgs st) (defBody st) (defScope st) .none kV doc pm an cdv ct ∧ K.lookup f = some ⟨oc, od, .func fd, osl⟩ ∧ PySem.W.codeIn K cdv qual = true
  kp : PySem.W.keepIn K (.ref f) = true
section
variable {P : Program} {w : World} {K : PySem.W.Frag} {mg : Str → Option Value} {base : Heap}
/-- THE RULE for a def: its body as a term of rules, and the reading of that term -/
theorem Fun.ok {x qual : Str} {st : Stmt} {f : Addr} {fd : FuncData} {N ps : List Str} {k : Nat} {sp : Sp} (F : Fun K x qual st f fd) (S : FnScope N ps (defScope st)) (len : ∀ vs H Q E, sp vs H Q E → vs.length = ps.length)
    (hbody : ∀ (cdv : Value) (A : Around) (outer : List Env) (s : Shared) (H : Hp) (vs : List V) (Q : VK) (E : XK), Room k (A.deeper (envOfC qual (defScope st) s.heap.objs.size f cdv)) → sp vs H Q E →
      ∃ t, PSs (cxOf CX0 P w K mg base N qual (defScope st) f cdv A outer s H E).nox (defBody st) t ∧ t { nx := fun _ H' => Q .non H', rt := Q } (start N vs) H) : FnOk P w K mg base CX0 (k + 1) f fd ps sp := by
  obtain ⟨oc, od, kV, doc, pm, an, cdv, ct, osl, rfl, lk, hcd⟩ := F.ex
  refine fn_of lk hcd S len fun A outer s H vs Q E hr hsp => ?_
  obtain ⟨t, h, q⟩ := hbody cdv A outer s H vs Q E hr hsp
  exact ⟨t, h.nox, q⟩
/-- how its arguments bind (no defaults): h is «fun _ _ _ _ _ _ us hl => match us, hl with | [_, _], _ => rfl», one _ a parameter -/
theorem Fun.binds {x qual : Str} {st : Stmt} {f : Addr} {fd : FuncData} {ps : List Str} (F : Fun K x qual st f fd)
    (h : ∀ (kV doc pm : Value) (an : Option Addr) (cdv ct : Value) (us : List Value), us.length = ps.length → bindArgs (PySem.W.fnOf x qual (defArgs st) (defBody st) (defScope st) .none kV doc pm an cdv ct) ⟨us, []⟩ = pure (ps.zip us)) : Binds K fd ps [] := by
  obtain ⟨oc, od, kV, doc, pm, an, cdv, ct, osl, rfl, lk, hcd⟩ := F.ex
  exact .all (h kV doc pm an cdv ct)
theorem fun_mk {x qual : Str} {st : Stmt} {f : Addr} {oc : Value} {od an : Option Addr} {osl : Array (Option Value)} {kV doc pm cdv ct : Value} (l : K.lookup f = some ⟨oc, od, .func (PySem.W.fnOf x qual (defArgs st) (defBody st) (defScope st) .none kV doc pm an cdv ct), osl⟩)
    (c : PySem.W.codeIn K cdv qual = true) (k : PySem.W.keepIn K (.ref f) = true) : Fun K x qual st f (PySem.W.fnOf x qual (defArgs st) (defBody st) (defScope st) .none kV doc pm an cdv ct) := ⟨⟨oc, od, kV, doc, pm, an, cdv, ct, osl, rfl, l, c⟩, k⟩
end
theorem small1000 {n : Nat} (h : n ≤ 1000) : n < sizeLine := Nat.lt_of_le_of_lt h (by decide)

/-! ### expressions in short: the name that stands in the i-th slot -/
section
variable {X : Cx}
theorem pv (i : Nat) {x : Str} {pos : Pos} (hN : X.N[i]? = some x := by rfl) (hv : Vis X.env.scope x := by first | exact Or.inl rfl | exact Or.inr (Or.inl rfl) | exact Or.inr (Or.inr rfl)) (hd : (x == ("__debug__" : Str)) = false := by decide)
    (hcd : (x == ("__classdict__" : Str)) = false := by decide) : PE X (.Name x pos) (tVar i) := pe_var hN hv hd hcd
end

/-! ### tests -/
theorem ite2 {c A B : Prop} [Decidable c] (h1 : c → A) (h2 : ¬ c → B) : if c then A else B := by
  by_cases h : c
  · rw [if_pos h]
    exact h1 h
  · rw [if_neg h]
    exact h2 h
/-! ### heaps -/
/-- all that was tracked is as it was -/
def Same (H H' : Hp) : Prop := ∀ b o, H b = some o → H' b = some o
theorem Same.refl (H : Hp) : Same H H := fun _ _ h => h
theorem Same.trans {H H1 H2 : Hp} (a : Same H H1) (b : Same H1 H2) : Same H H2 := fun c o h => b c o (a c o h)
theorem Same.free {H H' : Hp} (e : Same H H') {l : Addr} (h : H' l = Option.none) : H l = Option.none := by
  cases q : H l with
  | none => rfl
  | some o =>
    rw [e l o q] at h
    cases h
theorem Same.seq {K : PySem.W.Frag} {H H' : Hp} {a : Addr} {xs : List V} (e : Same H H') (h : SqL K H a xs) : SqL K H' a xs := by
  rcases h with (h | ⟨o, h⟩) | h
  · exact .inl (.inl (e _ _ h))
  · exact .inl (.inr ⟨o, e _ _ h⟩)
  · exact .inr h

end L2

section
set_option maxHeartbeats 2000000
set_option maxRecDepth 100000
set_option linter.unusedVariables false
set_option linter.unusedSimpArgs false
namespace Tim
open PySem PyProof.Rows

abbrev Pend := Array (Nat × Nat × Nat)
/-- the state of a sort: a shuffle of a₀, nothing failed, the pending runs p -/
structure TB (a₀ : Array Keyed) (p : Pend) (st : SortSt) : Prop where
  perm : (arrOf st).Perm a₀
  kd : kindOf st = oneType'
  ff : failedOf st = none
  pd : pendingOf st = p

def IntK (x : Keyed) : Prop := ∃ n t, x.1 = .int n t
def kv (x : Keyed) : Int := numOf x.1
def Seg (xs : Array Keyed) (lo hi : Nat) : Prop := ∀ i j, lo ≤ i → i ≤ j → j < hi → K xs i ≤ K xs j
def Dsc (xs : Array Keyed) (lo hi : Nat) : Prop := ∀ i j, lo ≤ i → i ≤ j → j < hi → K xs j ≤ K xs i
def Low (xs ys : Array Keyed) (lo : Nat) : Prop := ∀ i, i < lo → K xs i = K ys i
theorem Low.refl (xs : Array Keyed) (lo : Nat) : Low xs xs lo := fun _ _ => rfl
theorem Low.trans {xs ys zs : Array Keyed} {lo : Nat} (a : Low xs ys lo) (b : Low ys zs lo) : Low xs zs lo := fun i h => (a i h).trans (b i h)

section
variable {prog : Program} {w : World} {A : Around} {E : Value → Shared → Prop} {s : Shared} {a₀ : Array Keyed} {p : Pend} {st : SortSt}

theorem TB.size (h : TB a₀ p st) : (arrOf st).size = a₀.size := h.perm.size_eq
theorem TB.arr (h : TB a₀ p st) {xs : Array Keyed} (hp : xs.Perm (arrOf st)) : TB a₀ p (setArr st xs) := ⟨hp.trans h.perm, h.kd, h.ff, h.pd⟩
theorem TB.get (h : TB a₀ p st) (h0 : IntKeys a₀) {i : Nat} (hi : i < a₀.size) : ∃ x, (arrOf st)[i]? = some x ∧ IntK x ∧ kv x = K (arrOf st) i := by
  have B : SBase a₀ (setPending st #[]) := ⟨h.perm, h.kd, h.ff, rfl⟩
  obtain ⟨t, q, e⟩ := B.at h0 hi
  exact ⟨_, e, ⟨_, _, rfl⟩, rfl⟩

theorem w_lt {x y : Keyed} {Q : Option Bool → SortSt → Prop} (hk : kindOf st = oneType') (hx : IntK x) (hy : IntK y) (h : Q (some (decide (kv x < kv y))) st) :
    wpS (model prog w) A E s (lt' x y) Q st := by
  obtain ⟨x1, x2⟩ := x
  obtain ⟨y1, y2⟩ := y
  obtain ⟨a, t, e1⟩ := hx
  obtain ⟨b, u, e2⟩ := hy
  dsimp only at e1 e2
  subst e1 e2
  rw [lt'_eq]
  refine wpS_bind (wpS_get ?_)
  rw [hk]
  dsimp only
  rw [keyLt'_oneType]
  exact wpS_bind (wpS_lift (wpAny_attempt (oneLt_int ⟨rfl, wpS_pure h⟩)))

theorem w_elem {arr : Array Keyed} {i : Nat} {x : Keyed} {Q : Keyed → SortSt → Prop} (e : arr[i]? = some x) (h : Q x st) : wpS (model prog w) A E s (elem' arr i) Q st := by
  rw [elem'_eq, e]
  exact wpS_pure h

theorem w_at {i j : Nat} {Q : Option Bool → SortSt → Prop} (B : TB a₀ p st) (h0 : IntKeys a₀) (hi : i < a₀.size) (hj : j < a₀.size)
    (h : Q (some (decide (K (arrOf st) i < K (arrOf st) j))) st) : wpS (model prog w) A E s (ltAt' i j) Q st := by
  obtain ⟨x, e1, k1, v1⟩ := B.get h0 hi
  obtain ⟨y, e2, k2, v2⟩ := B.get h0 hj
  rw [ltAt'_eq]
  refine wpS_bind (wpS_get (wpS_bind (w_elem e1 (wpS_bind (w_elem e2 (w_lt B.kd k1 k2 ?_))))))
  rw [v1, v2]
  exact h

theorem w_rev {i j : Nat} {Q : Unit → SortSt → Prop} (h : Q () (setArr st (mirror (arrOf st) i j ((j - i) / 2)))) : wpS (model prog w) A E s (reverseSlice' i j) Q st := by
  rw [reverseSlice'_eq]
  exact wpS_modify h

/-! ### binary insertion, from lo on -/
theorem w_bin {lo n ok : Nat} {Q : Bool → SortSt → Prop} (h0 : IntKeys a₀) (hn : lo + n ≤ a₀.size) (hok : ok ≤ n) (B : TB a₀ p st) (hs : Seg (arrOf st) lo (lo + ok))
    (h : ∀ st', TB a₀ p st' → Seg (arrOf st') lo (lo + n) → Low (arrOf st') (arrOf st) lo → Q true st') : wpS (model prog w) A E s (binarySort' lo n ok) Q st := by
  rw [binarySort'_eq]
  refine wpS_bind (wpS_mono (wpS_forRange (I := fun k c st' => c = (none, ()) ∧ TB a₀ p st' ∧ Seg (arrOf st') lo (lo + min k n) ∧ Low (arrOf st') (arrOf st) lo)
    (Q := fun c st' => c = (none, ()) ∧ TB a₀ p st' ∧ Seg (arrOf st') lo (lo + n) ∧ Low (arrOf st') (arrOf st) lo) ?turn ?fin ?beg) ?post)
  case post =>
    rintro c st' ⟨rfl, B', s', l'⟩
    exact wpS_pure (h st' B' s' l')
  case beg =>
    refine ⟨rfl, B, fun i j h1 h2 h3 => ?_, Low.refl _ _⟩
    by_cases z : ok = 0
    · have e : i = j := by omega
      rw [e]
      exact Int.le_refl _
    · exact hs i j h1 h2 (by omega)
  case fin =>
    rintro c st' ⟨hc, B', s', l'⟩
    refine ⟨hc, B', ?_, l'⟩
    rwa [show min (max (max ok 1) n) n = n from by omega] at s'
  case turn =>
    rintro k c st' hk1 hk2 ⟨rfl, B', s', l'⟩
    rw [show min k n = k from by omega] at s'
    have hk : lo + k < a₀.size := by omega
    refine wpS_bind (wpS_mono (wpS_forRange (I := fun x c st'' => st'' = st' ∧ ∃ l r, c = (none, l, r) ∧ l ≤ r ∧ r ≤ k ∧ r - l ≤ k - x ∧
        (∀ i, i < l → K (arrOf st') (lo + i) ≤ K (arrOf st') (lo + k)) ∧ (∀ i, r ≤ i → i < k → K (arrOf st') (lo + k) < K (arrOf st') (lo + i)))
      (Q := fun c st'' => st'' = st' ∧ ∃ l r, c = (none, l, r) ∧ l ≤ k ∧
        (∀ i, i < l → K (arrOf st') (lo + i) ≤ K (arrOf st') (lo + k)) ∧ (∀ i, l ≤ i → i < k → K (arrOf st') (lo + k) < K (arrOf st') (lo + i))) ?t2 ?f2 ?b2) ?p2)
    case b2 => exact ⟨rfl, 0, k, rfl, by omega, by omega, by omega, fun i z => by omega, fun i y z => by omega⟩
    case f2 =>
      rintro c st'' ⟨rfl, l, r, rfl, x1, x2, x3, x4, x5⟩
      have e : l = r := by omega
      subst e
      exact ⟨rfl, l, l, rfl, x2, x4, x5⟩
    case t2 =>
      rintro x c st'' _ hx ⟨rfl, l, r, rfl, x1, x2, x3, x4, x5⟩
      dsimp only
      by_cases hge : l ≥ r
      · rw [if_pos hge]
        have e : l = r := by omega
        subst e
        exact wpS_pure ⟨rfl, l, l, rfl, x2, x4, x5⟩
      · rw [if_neg hge]
        refine wpS_bind (w_at B' h0 hk (by omega) ?_)
        by_cases hl : K (arrOf st'') (lo + k) < K (arrOf st'') (lo + (l + r) / 2)
        · simp only [hl, decide_true, if_true]
          refine wpS_pure ⟨rfl, l, (l + r) / 2, rfl, by omega, by omega, by omega, x4, fun i y z => ?_⟩
          exact Int.lt_of_lt_of_le hl (s' _ _ (by omega) (by omega) (by omega))
        · simp only [hl, decide_false, Bool.false_eq_true, if_false]
          refine wpS_pure ⟨rfl, (l + r) / 2 + 1, r, rfl, by omega, by omega, by omega, fun i y => ?_, x5⟩
          exact Int.le_trans (s' (lo + i) (lo + (l + r) / 2) (by omega) (by omega) (by omega)) (Int.not_lt.mp hl)
    case p2 =>
      rintro c st'' ⟨rfl, l, r, rfl, x2, x4, x5⟩
      show wpS _ _ _ _ (do moveDown' (lo + k) (lo + l); pure (ForInStep.yield (none, ()))) _ _
      rw [moveDown'_eq]
      have hks : lo + k < (arrOf st'').size := by rw [B'.size]; exact hk
      have kb : ∀ z, K (bubble (arrOf st'') (lo + k) (lo + k - (lo + l))) z = if z = lo + l then K (arrOf st'') (lo + k) else if lo + l < z ∧ z ≤ lo + k then K (arrOf st'') (z - 1) else K (arrOf st'') z := fun z => by
        rw [K_bubble hks (by omega), show lo + k - (lo + k - (lo + l)) = lo + l from by omega]
      refine wpS_bind (wpS_modify (wpS_pure ⟨rfl, B'.arr (bubble_perm _ _ _), ?_, ?_⟩))
      · rw [show min (k + 1) n = k + 1 from by omega]
        intro i j y1 y2 y3
        show K (bubble (arrOf st'') (lo + k) (lo + k - (lo + l))) i ≤ K (bubble (arrOf st'') (lo + k) (lo + k - (lo + l))) j
        have x4' : ∀ i, lo ≤ i → i < lo + l → K (arrOf st'') i ≤ K (arrOf st'') (lo + k) := fun i u v => by
          have z := x4 (i - lo) (by omega)
          rwa [show lo + (i - lo) = i from by omega] at z
        have x5' : ∀ i, lo + l ≤ i → i < lo + k → K (arrOf st'') (lo + k) < K (arrOf st'') i := fun i u v => by
          have z := x5 (i - lo) (by omega) (by omega)
          rwa [show lo + (i - lo) = i from by omega] at z
        rw [kb, kb]
        repeat' split
        all_goals first
          | (exfalso; omega)
          | exact Int.le_refl _
          | exact x4' _ (by omega) (by omega)
          | exact Int.le_of_lt (x5' _ (by omega) (by omega))
          | exact s' _ _ (by omega) (by omega) (by omega)
      · refine Low.trans (fun i hi => ?_) l'
        show K (bubble (arrOf st'') (lo + k) (lo + k - (lo + l))) i = _
        rw [kb, if_neg (by omega), if_neg (by omega)]
end
end Tim

end

section
set_option maxHeartbeats 2000000
set_option maxRecDepth 100000
set_option linter.unusedVariables false
set_option linter.unusedSimpArgs false
namespace Tim
open PySem PyProof.Rows

/-! ### a run, from lo on -/
theorem K_mir {xs : Array Keyed} {i j : Nat} (hj : j ≤ xs.size) (k : Nat) : K (mirror xs i j ((j - i) / 2)) k = if i ≤ k ∧ k < j then K xs (i + j - 1 - k) else K xs k := K_mirror hj k
theorem K_mir_eq {xs : Array Keyed} {i j : Nat} (hj : j ≤ xs.size) (he : ∀ k, i ≤ k → k < j → K xs k = K xs (j - 1)) (k : Nat) : K (mirror xs i j ((j - i) / 2)) k = K xs k := K_mirror_equal hj he k

def up (lo a nrem : Nat) : StateT SortSt Sem (Option (Option Nat) × Nat) :=
  forIn [a:nrem] ((none, a) : Option (Option Nat) × Nat) fun _ c => do
    let x ← ltAt' (lo + c.2) (lo + c.2 - 1)
    match x with
    | some b => if b = true then pure (.done (none, c.2)) else pure (.yield (none, c.2 + 1))
    | _ => pure (.done (some none, c.2))
def fin3 (lo n nrem : Nat) : StateT SortSt Sem (Option Nat) := do
  reverseSlice' lo (lo + n)
  let c ← up lo n nrem
  match c.1 with
  | some r => pure r
  | none => pure (some c.2)
def down (lo n nrem : Nat) : StateT SortSt Sem (Option (Option Nat) × Nat × Nat) :=
  forIn [n:nrem] ((none, n, 0) : Option (Option Nat) × Nat × Nat) fun _ c => do
    let x ← ltAt' (lo + c.2.1) (lo + c.2.1 - 1)
    match x with
    | some b =>
      if b = true then
        if c.2.2 > 0 then do
          reverseSlice' (lo + c.2.1 - (c.2.2 + 1)) (lo + c.2.1)
          pure (.yield (none, c.2.1 + 1, 0))
        else pure (.yield (none, c.2.1 + 1, 0))
      else do
        let y ← ltAt' (lo + c.2.1 - 1) (lo + c.2.1)
        match y with
        | some d => if d = true then pure (.done (none, c.2.1, c.2.2)) else pure (.yield (none, c.2.1 + 1, c.2.2 + 1))
        | _ => pure (.done (some none, c.2.1, c.2.2))
    | _ => pure (.done (some none, c.2.1, c.2.2))
def dpart (lo n nrem : Nat) : StateT SortSt Sem (Option Nat) := do
  liftM (rule "list.sort.descending-run")
  let c ← down lo (n + 1) nrem
  match c.1 with
  | some r => pure r
  | none => if c.2.2 > 0 then do reverseSlice' (lo + c.2.1 - (c.2.2 + 1)) (lo + c.2.1); fin3 lo c.2.1 nrem else fin3 lo c.2.1 nrem

theorem run_eq (lo nrem : Nat) : countRun' lo nrem = (do
    let c ← up lo 1 nrem
    match c.1 with
    | some r => pure r
    | none =>
      if (c.2 == nrem) = true then pure (some c.2)
      else if c.2 > 1 then do
        let x ← ltAt' lo (lo + c.2 - 1)
        match x with
        | some b => if b = true then pure (some c.2) else do reverseSlice' lo (lo + c.2); dpart lo c.2 nrem
        | _ => pure none
      else dpart lo c.2 nrem) := by
  have tl : ∀ n, (fin3 lo n nrem) = (do
      reverseSlice' lo (lo + n)
      let mut n := n
      for _ in [n:nrem] do
        let some smaller ← ltAt' (lo + n) (lo + n - 1) | return none
        if smaller then break
        n := n + 1
      return some n) := fun n => by
    unfold fin3 up
    congr 1; funext _; congr 1; funext c; obtain ⟨r, m⟩ := c; cases r <;> rfl
  have dp : ∀ n, dpart lo n nrem = (do
      rule "list.sort.descending-run"
      let mut n := n + 1
      let mut neq := 0
      for _ in [n:nrem] do
        let some smaller ← ltAt' (lo + n) (lo + n - 1) | return none
        if smaller then
          if neq > 0 then reverseSlice' (lo + n - (neq + 1)) (lo + n)
          neq := 0
        else
          let some larger ← ltAt' (lo + n - 1) (lo + n) | return none
          if larger then break
          neq := neq + 1
        n := n + 1
      if neq > 0 then reverseSlice' (lo + n - (neq + 1)) (lo + n)
      fin3 lo n nrem) := fun n => by
    unfold dpart down
    congr 1; funext _; congr 1; funext c; obtain ⟨r, m, q⟩ := c; cases r <;> rfl
  simp only [dp, tl]
  rw [countRun'_eq]
  unfold up
  dsimp only
  congr 1; funext c; obtain ⟨r, n⟩ := c
  cases r with
  | some r => rfl
  | none =>
    dsimp only
    split
    · rfl
    · split
      · congr 1
      · rfl

section
variable {prog : Program} {w : World} {A : Around} {E : Value → Shared → Prop} {s : Shared} {a₀ : Array Keyed} {p : Pend} {st : SortSt}

theorem w_up {lo a nrem : Nat} {Q : Option (Option Nat) × Nat → SortSt → Prop} (h0 : IntKeys a₀) (hn : lo + nrem ≤ a₀.size) (ha : 1 ≤ a) (han : a ≤ nrem) (B : TB a₀ p st) (hs : Seg (arrOf st) lo (lo + a))
    (h : ∀ n, a ≤ n → n ≤ nrem → Seg (arrOf st) lo (lo + n) → (n = nrem ∨ K (arrOf st) (lo + n) < K (arrOf st) (lo + n - 1)) → Q (none, n) st) : wpS (model prog w) A E s (up lo a nrem) Q st := by
  unfold up
  refine wpS_forRange (I := fun x c st' => st' = st ∧ c = (none, x) ∧ Seg (arrOf st) lo (lo + x)) ?turn ?fin ⟨rfl, rfl, hs⟩
  case fin =>
    rintro c st' ⟨rfl, rfl, s'⟩
    rw [show max a nrem = nrem from by omega] at s' ⊢
    exact h nrem han (Nat.le_refl _) s' (.inl rfl)
  case turn =>
    rintro x c st' h1 h2 ⟨rfl, rfl, s'⟩
    dsimp only
    refine wpS_bind (w_at B h0 (by omega) (by omega) ?_)
    by_cases hl : K (arrOf st') (lo + x) < K (arrOf st') (lo + x - 1)
    · simp only [hl, decide_true, if_true]
      exact wpS_pure (h x h1 (by omega) s' (.inr hl))
    · simp only [hl, decide_false, Bool.false_eq_true, if_false]
      refine wpS_pure ⟨rfl, rfl, fun i j y1 y2 y3 => ?_⟩
      by_cases z : j < lo + x
      · exact s' i j y1 y2 z
      · have e : j = lo + x := by omega
        subst e
        by_cases e : i = lo + x
        · rw [e]; exact Int.le_refl _
        · exact Int.le_trans (s' i (lo + x - 1) y1 (by omega) (by omega)) (Int.not_lt.mp hl)

theorem w_fin3 {lo n nrem : Nat} {Q : Option Nat → SortSt → Prop} (h0 : IntKeys a₀) (hn : lo + nrem ≤ a₀.size) (h1 : 1 ≤ n) (hnn : n ≤ nrem) (B : TB a₀ p st) (hs : Dsc (arrOf st) lo (lo + n))
    (h : ∀ m st', TB a₀ p st' → 1 ≤ m → m ≤ nrem → Seg (arrOf st') lo (lo + m) → Low (arrOf st') (arrOf st) lo → Q (some m) st') : wpS (model prog w) A E s (fin3 lo n nrem) Q st := by
  unfold fin3
  have hz : lo + n ≤ (arrOf st).size := by rw [B.size]; omega
  have km := K_mir (i := lo) hz
  refine wpS_bind (w_rev ?_)
  have B' : TB a₀ p (setArr st (mirror (arrOf st) lo (lo + n) ((lo + n - lo) / 2))) := B.arr (mirror_perm _ _ _ _)
  refine wpS_bind (w_up h0 hn h1 hnn B' (fun i j y1 y2 y3 => ?_) fun m z1 z2 z3 _ => wpS_pure (h m _ B' (by omega) z2 z3 fun i hi => ?_))
  · show K (mirror (arrOf st) lo (lo + n) ((lo + n - lo) / 2)) i ≤ K (mirror (arrOf st) lo (lo + n) ((lo + n - lo) / 2)) j
    rw [km, km, if_pos (by omega), if_pos (by omega)]
    exact hs _ _ (by omega) (by omega) (by omega)
  · show K (mirror (arrOf st) lo (lo + n) ((lo + n - lo) / 2)) i = _
    rw [km, if_neg (by omega)]

theorem w_down {lo n nrem : Nat} {Q : Option (Option Nat) × Nat × Nat → SortSt → Prop} (h0 : IntKeys a₀) (hn : lo + nrem ≤ a₀.size) (h1 : 1 ≤ n) (hnn : n ≤ nrem) (B : TB a₀ p st) (hs : Dsc (arrOf st) lo (lo + n))
    (h : ∀ m q st', TB a₀ p st' → n ≤ m → m ≤ nrem → Dsc (arrOf st') lo (lo + m) → q + 1 ≤ m → (∀ i, lo + m - (q + 1) ≤ i → i < lo + m → K (arrOf st') i = K (arrOf st') (lo + m - 1)) → Low (arrOf st') (arrOf st) lo → Q (none, m, q) st') :
    wpS (model prog w) A E s (down lo n nrem) Q st := by
  unfold down
  refine wpS_forRange (I := fun x c st' => ∃ q, c = (none, x, q) ∧ TB a₀ p st' ∧ Dsc (arrOf st') lo (lo + x) ∧ q + 1 ≤ x ∧
      (∀ i, lo + x - (q + 1) ≤ i → i < lo + x → K (arrOf st') i = K (arrOf st') (lo + x - 1)) ∧ Low (arrOf st') (arrOf st) lo) ?turn ?fin ⟨0, rfl, B, hs, by omega, fun i y z => by congr 1; omega, Low.refl _ _⟩
  case fin =>
    rintro c st' ⟨q, rfl, B', s', x1, x2, x3⟩
    rw [show max n nrem = nrem from by omega] at s' x1 x2 ⊢
    exact h nrem q st' B' hnn (Nat.le_refl _) s' x1 x2 x3
  case turn =>
    rintro x c st' y1 y2 ⟨q, rfl, B', s', x1, x2, x3⟩
    dsimp only
    have hz : lo + x ≤ (arrOf st').size := by rw [B'.size]; omega
    refine wpS_bind (w_at B' h0 (by omega) (by omega) ?_)
    by_cases hl : K (arrOf st') (lo + x) < K (arrOf st') (lo + x - 1)
    · simp only [hl, decide_true, if_true]
      have more : ∀ xs : Array Keyed, (∀ k, K xs k = K (arrOf st') k) → Dsc xs lo (lo + (x + 1)) := fun xs hk i j u1 u2 u3 => by
        rw [hk, hk]
        by_cases z : j < lo + x
        · exact s' i j u1 u2 z
        · have e : j = lo + x := by omega
          subst e
          by_cases e : i = lo + x
          · rw [e]; exact Int.le_refl _
          · exact Int.le_trans (Int.le_of_lt hl) (s' i (lo + x - 1) u1 (by omega) (by omega))
      by_cases hq : q > 0
      · rw [if_pos hq]
        have km := K_mir_eq hz x2
        refine wpS_bind (w_rev (wpS_pure ⟨0, rfl, B'.arr (mirror_perm _ _ _ _), more _ km, by omega, fun i u v => by congr 1; omega, fun i hi => ?_⟩))
        exact (km i).trans (x3 i hi)
      · rw [if_neg hq]
        exact wpS_pure ⟨0, rfl, B', more _ (fun _ => rfl), by omega, fun i u v => by congr 1; omega, x3⟩
    · simp only [hl, decide_false, Bool.false_eq_true, if_false]
      refine wpS_bind (w_at B' h0 (by omega) (by omega) ?_)
      by_cases hg : K (arrOf st') (lo + x - 1) < K (arrOf st') (lo + x)
      · simp only [hg, decide_true, if_true]
        exact wpS_pure (h x q st' B' y1 (by omega) s' x1 x2 x3)
      · simp only [hg, decide_false, Bool.false_eq_true, if_false]
        have ex : K (arrOf st') (lo + x) = K (arrOf st') (lo + x - 1) := by omega
        refine wpS_pure ⟨q + 1, rfl, B', fun i j u1 u2 u3 => ?_, by omega, fun i u v => ?_, x3⟩
        · by_cases z : j < lo + x
          · exact s' i j u1 u2 z
          · have e : j = lo + x := by omega
            subst e
            by_cases e : i = lo + x
            · rw [e]; exact Int.le_refl _
            · rw [ex]; exact s' i (lo + x - 1) u1 (by omega) (by omega)
        · rw [show lo + (x + 1) - 1 = lo + x from by omega]
          by_cases e : i = lo + x
          · rw [e]
          · rw [ex]; exact x2 i (by omega) (by omega)

theorem w_dpart {lo n nrem : Nat} {Q : Option Nat → SortSt → Prop} (h0 : IntKeys a₀) (hn : lo + nrem ≤ a₀.size) (hnn : n + 1 ≤ nrem) (B : TB a₀ p st) (hs : Dsc (arrOf st) lo (lo + (n + 1)))
    (h : ∀ m st', TB a₀ p st' → 1 ≤ m → m ≤ nrem → Seg (arrOf st') lo (lo + m) → Low (arrOf st') (arrOf st) lo → Q (some m) st') : wpS (model prog w) A E s (dpart lo n nrem) Q st := by
  unfold dpart
  refine wpS_bind (wpS_lift (wpAny_rule ⟨rfl, ?_⟩))
  refine wpS_bind (w_down h0 hn (by omega) hnn B hs fun m q st' B' z1 z2 s' x1 x2 x3 => ?_)
  dsimp only
  have hz : lo + m ≤ (arrOf st').size := by rw [B'.size]; omega
  by_cases hq : q > 0
  · rw [if_pos hq]
    have km := K_mir_eq hz x2
    refine wpS_bind (w_rev (w_fin3 h0 hn (by omega) z2 (B'.arr (mirror_perm _ _ _ _)) (fun i j u1 u2 u3 => ?_) fun k st2 a b c d e => h k st2 a b c d (e.trans (Low.trans (fun i hi => km i) x3))))
    show K (mirror (arrOf st') _ _ _) j ≤ K (mirror (arrOf st') _ _ _) i
    rw [km, km]
    exact s' i j u1 u2 u3
  · rw [if_neg hq]
    exact w_fin3 h0 hn (by omega) z2 B' s' fun k st2 a b c d e => h k st2 a b c d (e.trans x3)

theorem w_run {lo nrem : Nat} {Q : Option Nat → SortSt → Prop} (h0 : IntKeys a₀) (hn : lo + nrem ≤ a₀.size) (h1 : 1 ≤ nrem) (B : TB a₀ p st)
    (h : ∀ m st', TB a₀ p st' → 1 ≤ m → m ≤ nrem → Seg (arrOf st') lo (lo + m) → Low (arrOf st') (arrOf st) lo → Q (some m) st') : wpS (model prog w) A E s (countRun' lo nrem) Q st := by
  rw [run_eq]
  refine wpS_bind (w_up h0 hn (Nat.le_refl 1) h1 B (fun i j u1 u2 u3 => by rw [show i = j from by omega]; exact Int.le_refl _) fun n z1 z2 z3 z4 => ?_)
  dsimp only
  by_cases e : n = nrem
  · rw [if_pos (by simpa using e)]
    exact wpS_pure (h n st B z1 z2 z3 (Low.refl _ _))
  · rw [if_neg (by simpa using e)]
    have hl := z4.resolve_left e
    by_cases g : n > 1
    · rw [if_pos g]
      refine wpS_bind (w_at B h0 (by omega) (by omega) ?_)
      by_cases hr : K (arrOf st) lo < K (arrOf st) (lo + n - 1)
      · simp only [hr, decide_true, if_true]
        exact wpS_pure (h n st B z1 z2 z3 (Low.refl _ _))
      · simp only [hr, decide_false, Bool.false_eq_true, if_false]
        have hz : lo + n ≤ (arrOf st).size := by rw [B.size]; omega
        have al : ∀ k, lo ≤ k → k < lo + n → K (arrOf st) k = K (arrOf st) (lo + n - 1) := fun k u v => by
          have a1 := z3 lo k (by omega) u v
          have a2 := z3 k (lo + n - 1) u (by omega) (by omega)
          omega
        have km := K_mir_eq hz al
        refine wpS_bind (w_rev (w_dpart h0 hn (by omega) (B.arr (mirror_perm _ _ _ _)) (fun i j u1 u2 u3 => ?_) fun k st2 a b c d e => h k st2 a b c d (e.trans fun i hi => km i)))
        show K (mirror (arrOf st) _ _ _) j ≤ K (mirror (arrOf st) _ _ _) i
        rw [km, km]
        by_cases z : j < lo + n
        · rw [al i (by omega) (by omega), al j (by omega) z]; exact Int.le_refl _
        · rw [show j = lo + n from by omega]
          by_cases e : i = lo + n
          · rw [e]; exact Int.le_refl _
          · rw [al i (by omega) (by omega)]; exact Int.le_of_lt hl
    · rw [if_neg g]
      have e1 : n = 1 := by omega
      subst e1
      refine w_dpart h0 hn (by omega) B (fun i j u1 u2 u3 => ?_) h
      by_cases e : i = j
      · rw [e]; exact Int.le_refl _
      · rw [show i = lo + 1 - 1 from by omega, show j = lo + 1 from by omega]
        exact Int.le_of_lt hl
end
end Tim

end

section
set_option maxHeartbeats 2000000
set_option maxRecDepth 100000
set_option linter.unusedVariables false
set_option linter.unusedSimpArgs false
namespace Tim
open PySem PyProof.Rows

/-! ### galloping -/
def gal : Bool → Keyed → Array Keyed → Nat → Nat → Nat → StateT SortSt Sem (Option Nat) := sortPriv% PySem.Builtin.gallop
def beyond (left : Bool) (key : Keyed) (arr : Array Keyed) (base i : Nat) : StateT SortSt Sem (Option Bool) := do
  let x ← elem' arr (base + i)
  if left then lt' x key else return (← lt' key x).map (!·)
theorem gal_eq (left : Bool) (key : Keyed) (arr : Array Keyed) (base n hint : Nat) : gal left key arr base n hint = (do
    let mut lastofs := 0
    let mut ofs := 1
    let mut lo := 0
    let mut hi := 0
    let some right ← beyond left key arr base hint | return none
    if right then
      let maxofs := n - hint
      for _ in [0:n] do
        if ofs ≥ maxofs then break
        let some more ← beyond left key arr base (hint + ofs) | return none
        if !more then break
        lastofs := ofs
        ofs := 2 * ofs + 1
      lo := hint + lastofs + 1
      hi := hint + min ofs maxofs
    else
      let maxofs := hint + 1
      for _ in [0:n] do
        if ofs ≥ maxofs then break
        let some found ← beyond left key arr base (hint - ofs) | return none
        if found then break
        lastofs := ofs
        ofs := 2 * ofs + 1
      lo := hint + 1 - min ofs maxofs
      hi := hint - lastofs
    for _ in [0:n] do
      if lo ≥ hi then break
      let m := lo + (hi - lo) / 2
      let some more ← beyond left key arr base m | return none
      if more then lo := m + 1 else hi := m
    return some hi) := rfl

/-- is the i-th ahead of the key's place -/
def Bey (left : Bool) (key : Keyed) (arr : Array Keyed) (base i : Nat) : Prop := if left then K arr (base + i) < kv key else K arr (base + i) ≤ kv key
instance (left : Bool) (key : Keyed) (arr : Array Keyed) (base i : Nat) : Decidable (Bey left key arr base i) := by unfold Bey; infer_instance
def Ints (arr : Array Keyed) : Prop := ∀ (i : Nat) (x : Keyed), arr[i]? = some x → IntK x

section
variable {prog : Program} {w : World} {A : Around} {E : Value → Shared → Prop} {s : Shared} {st : SortSt}

theorem get_some {arr : Array Keyed} {i : Nat} (h : i < arr.size) : ∃ x, arr[i]? = some x ∧ kv x = K arr i := ⟨arr[i], getElem?_pos arr i h, by unfold K; rw [getElem?_pos arr i h]; rfl⟩

theorem w_beyond {left : Bool} {key : Keyed} {arr : Array Keyed} {base i : Nat} {Q : Option Bool → SortSt → Prop} (hk : kindOf st = oneType') (hkey : IntK key) (ha : Ints arr) (hi : base + i < arr.size)
    (h : Q (some (decide (Bey left key arr base i))) st) : wpS (model prog w) A E s (beyond left key arr base i) Q st := by
  obtain ⟨x, e, v⟩ := get_some hi
  unfold beyond
  refine wpS_bind (w_elem e ?_)
  unfold Bey at h
  cases left with
  | true =>
    simp only [if_true] at h ⊢
    refine w_lt hk (ha _ _ e) hkey ?_
    rw [v]; exact h
  | false =>
    simp only [Bool.false_eq_true, if_false] at h ⊢
    refine wpS_bind (w_lt hk hkey (ha _ _ e) (wpS_pure ?_))
    rw [v]
    have z : (Option.map (fun x => !x) (some (decide (kv key < K arr (base + i))))) = some (decide (K arr (base + i) ≤ kv key)) := by
      simp only [Option.map_some, Option.some.injEq]
      by_cases q : kv key < K arr (base + i)
      · simp [q]
      · simp [q]; omega
    rw [z]; exact h

theorem w_gal {left : Bool} {key : Keyed} {arr : Array Keyed} {base n hint : Nat} {Q : Option Nat → SortSt → Prop} (hk : kindOf st = oneType') (hkey : IntK key) (ha : Ints arr) (hz : base + n ≤ arr.size)
    (hh : hint < n) (hs : Seg arr base (base + n))
    (h : ∀ k, k ≤ n → (∀ i, i < k → Bey left key arr base i) → (∀ i, k ≤ i → i < n → ¬ Bey left key arr base i) → Q (some k) st) : wpS (model prog w) A E s (gal left key arr base n hint) Q st := by
  have mono : ∀ i j, i ≤ j → j < n → Bey left key arr base j → Bey left key arr base i := fun i j h1 h2 b => by
    have z := hs (base + i) (base + j) (by omega) (by omega) (by omega)
    unfold Bey at b ⊢
    cases left
    · simp only [Bool.false_eq_true, if_false] at b ⊢; omega
    · simp only [if_true] at b ⊢; omega
  have bin : ∀ lo hi : Nat, lo ≤ hi → hi ≤ n → (∀ i, i < lo → Bey left key arr base i) → (∀ i, hi ≤ i → i < n → ¬ Bey left key arr base i) →
      wpS (model prog w) A E s (do
        let mut lo := lo
        let mut hi := hi
        for _ in [0:n] do
          if lo ≥ hi then break
          let m := lo + (hi - lo) / 2
          let some more ← beyond left key arr base m | return none
          if more then lo := m + 1 else hi := m
        return some hi) Q st := fun lo hi h1 h2 h3 h4 => by
    refine wpS_bind (wpS_mono (wpS_forRange (I := fun x c st' => st' = st ∧ ∃ l r, c = (none, l, r) ∧ l ≤ r ∧ r ≤ n ∧ r - l ≤ n - x ∧ (∀ i, i < l → Bey left key arr base i) ∧ (∀ i, r ≤ i → i < n → ¬ Bey left key arr base i))
      (Q := fun c st' => st' = st ∧ ∃ l r, c = (none, l, r) ∧ r ≤ n ∧ (∀ i, i < r → Bey left key arr base i) ∧ (∀ i, r ≤ i → i < n → ¬ Bey left key arr base i)) ?turn ?fin ⟨rfl, lo, hi, rfl, h1, h2, by omega, h3, h4⟩) ?post)
    case post =>
      rintro c st' ⟨rfl, l, r, rfl, x1, x2, x3⟩
      exact wpS_pure (h r x1 x2 x3)
    case fin =>
      rintro c st' ⟨rfl, l, r, rfl, x1, x2, x3, x4, x5⟩
      have e : l = r := by omega
      subst e
      exact ⟨rfl, l, l, rfl, x2, x4, x5⟩
    case turn =>
      rintro x c st' _ y2 ⟨rfl, l, r, rfl, x1, x2, x3, x4, x5⟩
      dsimp only
      by_cases g : l ≥ r
      · rw [if_pos g]
        have e : l = r := by omega
        subst e
        exact wpS_pure ⟨rfl, l, l, rfl, x2, x4, x5⟩
      · rw [if_neg g]
        refine wpS_bind (w_beyond hk hkey ha (by omega) ?_)
        by_cases b : Bey left key arr base (l + (r - l) / 2)
        · simp only [b, decide_true, if_true]
          exact wpS_pure ⟨rfl, l + (r - l) / 2 + 1, r, rfl, by omega, by omega, by omega, fun i z => mono _ _ (Nat.le_of_lt_succ z) (by omega) b, x5⟩
        · simp only [b, decide_false, Bool.false_eq_true, if_false]
          exact wpS_pure ⟨rfl, l, l + (r - l) / 2, rfl, by omega, by omega, by omega, x4, fun i z1 z2 z3 => b (mono _ _ z1 z2 z3)⟩
  rw [gal_eq]
  dsimp only
  refine wpS_bind (w_beyond hk hkey ha (by omega) ?_)
  by_cases b : Bey left key arr base hint
  · simp only [b, decide_true, if_true]
    refine wpS_bind (wpS_mono (wpS_forRange (I := fun x c st' => st' = st ∧ ∃ l o, c = (none, l, o) ∧ l < o ∧ hint + l < n ∧ x + 1 ≤ o ∧ Bey left key arr base (hint + l))
      (Q := fun c st' => st' = st ∧ ∃ l o, c = (none, l, o) ∧ l < o ∧ hint + l < n ∧ Bey left key arr base (hint + l) ∧ (o ≥ n - hint ∨ ¬ Bey left key arr base (hint + o))) ?turn ?fin ⟨rfl, 0, 1, rfl, by omega, by omega, by omega, b⟩) ?post)
    case post =>
      rintro c st' ⟨rfl, l, o, rfl, x1, x2, x3, x4⟩
      refine bin (hint + l + 1) (hint + min o (n - hint)) (by omega) (by omega) (fun i z => mono _ _ (Nat.le_of_lt_succ z) x2 x3) fun i z1 z2 z3 => ?_
      rcases x4 with x4 | x4
      · omega
      · exact x4 (mono _ _ (by omega) z2 z3)
    case fin =>
      rintro c st' ⟨rfl, l, o, rfl, x1, x2, x3, x4⟩
      exact ⟨rfl, l, o, rfl, x1, x2, x4, .inl (by omega)⟩
    case turn =>
      rintro x c st' _ y2 ⟨rfl, l, o, rfl, x1, x2, x3, x4⟩
      dsimp only
      by_cases g : o ≥ n - hint
      · rw [if_pos g]
        exact wpS_pure ⟨rfl, l, o, rfl, x1, x2, x4, .inl g⟩
      · rw [if_neg g]
        refine wpS_bind (w_beyond hk hkey ha (by omega) ?_)
        by_cases b2 : Bey left key arr base (hint + o)
        · simp only [b2, decide_true, Bool.not_true, Bool.false_eq_true, if_false]
          exact wpS_pure ⟨rfl, o, 2 * o + 1, rfl, by omega, by omega, by omega, b2⟩
        · simp only [b2, decide_false, Bool.not_false, if_true]
          exact wpS_pure ⟨rfl, l, o, rfl, x1, x2, x4, .inr b2⟩
  · simp only [b, decide_false, Bool.false_eq_true, if_false]
    refine wpS_bind (wpS_mono (wpS_forRange (I := fun x c st' => st' = st ∧ ∃ l o, c = (none, l, o) ∧ l < o ∧ l ≤ hint ∧ x + 1 ≤ o ∧ ¬ Bey left key arr base (hint - l))
      (Q := fun c st' => st' = st ∧ ∃ l o, c = (none, l, o) ∧ l < o ∧ l ≤ hint ∧ ¬ Bey left key arr base (hint - l) ∧ (o ≥ hint + 1 ∨ (o ≤ hint ∧ Bey left key arr base (hint - o)))) ?turn2 ?fin2 ⟨rfl, 0, 1, rfl, by omega, by omega, by omega, b⟩) ?post2)
    case post2 =>
      rintro c st' ⟨rfl, l, o, rfl, x1, x2, x3, x4⟩
      refine bin (hint + 1 - min o (hint + 1)) (hint - l) (by omega) (by omega) (fun i z => ?_) fun i z1 z2 z3 => x3 (mono _ _ z1 z2 z3)
      rcases x4 with x4 | ⟨x4, x5⟩
      · omega
      · exact mono _ _ (by omega) (by omega) x5
    case fin2 =>
      rintro c st' ⟨rfl, l, o, rfl, x1, x2, x3, x4⟩
      exact ⟨rfl, l, o, rfl, x1, x2, x4, .inl (by omega)⟩
    case turn2 =>
      rintro x c st' _ y2 ⟨rfl, l, o, rfl, x1, x2, x3, x4⟩
      dsimp only
      by_cases g : o ≥ hint + 1
      · rw [if_pos g]
        exact wpS_pure ⟨rfl, l, o, rfl, x1, x2, x4, .inl g⟩
      · rw [if_neg g]
        refine wpS_bind (w_beyond hk hkey ha (by omega) ?_)
        by_cases b2 : Bey left key arr base (hint - o)
        · simp only [b2, decide_true, if_true]
          exact wpS_pure ⟨rfl, l, o, rfl, x1, x2, x4, .inr ⟨by omega, b2⟩⟩
        · simp only [b2, decide_false, Bool.false_eq_true, if_false]
          exact wpS_pure ⟨rfl, o, 2 * o + 1, rfl, by omega, by omega, by omega, b2⟩
end
end Tim

end

section
set_option maxHeartbeats 2000000
set_option maxRecDepth 100000
set_option linter.unusedVariables false
set_option linter.unusedSimpArgs false
namespace Tim
open PySem PyProof.Rows
def setG : Nat → StateT SortSt Sem Unit := sortPriv% PySem.Builtin.setMinGallop
def mLo : Array Keyed → Array Keyed → StateT SortSt Sem (Array Keyed) := sortPriv% PySem.Builtin.mergeLo
abbrev C5 := Option (Array Keyed) × Array Keyed × Nat × Nat × Nat
abbrev C6 := Option (Array Keyed) × Array Keyed × Nat × Nat × Nat × Nat
abbrev C7 := Option (Array Keyed) × Array Keyed × Nat × Nat × Nat × Nat × Nat
section
variable (a b : Array Keyed)
abbrev dn (out : Array Keyed) (ia ib : Nat) : Array Keyed := out ++ a.extract ia a.size ++ b.extract ib b.size
abbrev la (out : Array Keyed) (ia ib : Nat) : Array Keyed := out ++ b.extract ib b.size ++ a.extract ia a.size
def q1 (mg : Nat) (out : Array Keyed) (ia ib ac bc : Nat) : StateT SortSt Sem (ForInStep C6) := do
  let y ← elem' b ib
  let x ← elem' a ia
  let r ← lt' y x
  match r with
  | some bw =>
    if bw = true then do
      let z ← elem' b ib
      if (ib + 1 == b.size) = true then pure (.done (some (dn a b (out.push z) ia (ib + 1)), out.push z, ia, ib + 1, 0, bc + 1))
      else if bc + 1 ≥ mg then pure (.done (none, out.push z, ia, ib + 1, 0, bc + 1))
      else pure (.yield (none, out.push z, ia, ib + 1, 0, bc + 1))
    else do
      let z ← elem' a ia
      if (ia + 1 + 1 == a.size) = true then pure (.done (some (la a b (out.push z) (ia + 1) ib), out.push z, ia + 1, ib, ac + 1, 0))
      else if ac + 1 ≥ mg then pure (.done (none, out.push z, ia + 1, ib, ac + 1, 0))
      else pure (.yield (none, out.push z, ia + 1, ib, ac + 1, 0))
  | _ => pure (.done (some (dn a b out ia ib), out, ia, ib, ac, bc))
def p3 (out : Array Keyed) (ia ib mg ac bc : Nat) : StateT SortSt Sem (ForInStep C7) := do
  let z ← elem' a ia
  if (ia + 1 + 1 == a.size) = true then pure (.done (some (la a b (out.push z) (ia + 1) ib), out.push z, ia + 1, ib, mg, ac, bc))
  else if (decide (ac < 7) && decide (bc < 7)) = true then pure (.done (none, out.push z, ia + 1, ib, mg, ac, bc))
  else pure (.yield (none, out.push z, ia + 1, ib, mg, ac, bc))
def p2 (out : Array Keyed) (ia ib mg ac bc : Nat) : StateT SortSt Sem (ForInStep C7) := do
  let z ← elem' b ib
  if (ib + 1 == b.size) = true then pure (.done (some (dn a b (out.push z) ia (ib + 1)), out.push z, ia, ib + 1, mg, ac, bc))
  else do
    let x ← elem' a ia
    let r ← gal true x b (ib + 1) (b.size - (ib + 1)) 0
    match r with
    | some k =>
      if k > 0 then
        if (ib + 1 + k == b.size) = true then pure (.done (some (dn a b (out.push z ++ b.extract (ib + 1) (ib + 1 + k)) ia (ib + 1 + k)), out.push z ++ b.extract (ib + 1) (ib + 1 + k), ia, ib + 1 + k, mg, ac, k))
        else p3 a b (out.push z ++ b.extract (ib + 1) (ib + 1 + k)) ia (ib + 1 + k) mg ac k
      else p3 a b (out.push z) ia (ib + 1) mg ac k
    | _ => pure (.done (some (dn a b (out.push z) ia (ib + 1)), out.push z, ia, ib + 1, mg, ac, bc))
def p1 (out : Array Keyed) (ia ib mg ac bc : Nat) : StateT SortSt Sem (ForInStep C7) := do
  setG mg
  let y ← elem' b ib
  let r ← gal false y a ia (a.size - ia) 0
  match r with
  | some k =>
    if k > 0 then
      if (ia + k + 1 == a.size) = true then pure (.done (some (la a b (out ++ a.extract ia (ia + k)) (ia + k) ib), out ++ a.extract ia (ia + k), ia + k, ib, mg, k, bc))
      else if (ia + k == a.size) = true then pure (.done (some (dn a b (out ++ a.extract ia (ia + k)) (ia + k) ib), out ++ a.extract ia (ia + k), ia + k, ib, mg, k, bc))
      else p2 a b (out ++ a.extract ia (ia + k)) (ia + k) ib mg k bc
    else p2 a b out ia ib mg k bc
  | _ => pure (.done (some (dn a b out ia ib), out, ia, ib, mg, ac, bc))
def q2 (c : C7) : StateT SortSt Sem (ForInStep C7) :=
  if c.2.2.2.2.1 > 1 then p1 a b c.2.1 c.2.2.1 c.2.2.2.1 (c.2.2.2.2.1 - 1) c.2.2.2.2.2.1 c.2.2.2.2.2.2 else p1 a b c.2.1 c.2.2.1 c.2.2.2.1 c.2.2.2.2.1 c.2.2.2.2.2.1 c.2.2.2.2.2.2
def q3 (c : C5) : StateT SortSt Sem (ForInStep C5) := do
  let d ← forIn [:a.size + b.size] ((none, c.2.1, c.2.2.1, c.2.2.2.1, 0, 0) : C6) fun _ d => q1 a b c.2.2.2.2 d.2.1 d.2.2.1 d.2.2.2.1 d.2.2.2.2.1 d.2.2.2.2.2
  match d.1 with
  | some r => pure (.done (some r, d.2.1, d.2.2.1, d.2.2.2.1, c.2.2.2.2))
  | none => do
    liftM (rule "list.sort.gallop")
    let e ← forIn [:a.size + b.size] ((none, d.2.1, d.2.2.1, d.2.2.2.1, c.2.2.2.2 + 1, d.2.2.2.2.1, d.2.2.2.2.2) : C7) fun _ e => q2 a b e
    match e.1 with
    | some r => pure (.done (some r, e.2.1, e.2.2.1, e.2.2.2.1, e.2.2.2.2.1))
    | none => do
      setG (e.2.2.2.2.1 + 1)
      pure (.yield (none, e.2.1, e.2.2.1, e.2.2.2.1, e.2.2.2.2.1 + 1))
theorem mLo_eq : mLo a b = (do
    liftM (rule "list.sort.merge-lo")
    let z ← elem' b 0
    if (1 == b.size) = true then pure (dn a b #[z] 0 1)
    else if (0 + 1 == a.size) = true then pure (la a b #[z] 0 1)
    else do
      let g ← get
      let c ← forIn [:a.size + b.size] ((none, #[z], 0, 1, gallopOf g) : C5) fun _ c => q3 a b c
      match c.1 with
      | some r => pure r
      | none => unsupported "internal:list.sort.merge-bound") := by kernel_rfl
end
end Tim

end

section
set_option maxHeartbeats 2000000
set_option maxRecDepth 100000
set_option linter.unusedVariables false
set_option linter.unusedSimpArgs false
namespace Tim
open PySem PyProof.Rows

/-! ### lists in order -/
def SL (l : List Keyed) : Prop := l.Pairwise fun x y => kv x ≤ kv y
theorem SL.app {l r : List Keyed} : SL (l ++ r) ↔ SL l ∧ SL r ∧ ∀ x ∈ l, ∀ y ∈ r, kv x ≤ kv y := List.pairwise_append
/-- c goes from its own list behind out, all of it no greater than the other list's rest -/
theorem SL.move {o c r q : List Keyed} (h1 : SL (o ++ (c ++ r))) (h2 : SL (o ++ q)) (h : ∀ x ∈ c, ∀ y ∈ q, kv x ≤ kv y) : SL ((o ++ c) ++ r) ∧ SL ((o ++ c) ++ q) := by
  rw [← List.append_assoc] at h1
  refine ⟨h1, ?_⟩
  obtain ⟨a1, _, _⟩ := SL.app.mp h1
  obtain ⟨_, b2, b3⟩ := SL.app.mp h2
  refine SL.app.mpr ⟨a1, b2, fun x hx y hy => ?_⟩
  rcases List.mem_append.mp hx with z | z
  · exact b3 x z y hy
  · exact h x z y hy
/-- .. from the tails to the front of out -/
theorem SL.moveR {o c r q : List Keyed} (h1 : SL ((r ++ c) ++ o)) (h2 : SL (q ++ o)) (h : ∀ x ∈ q, ∀ y ∈ c, kv x ≤ kv y) : SL (r ++ (c ++ o)) ∧ SL (q ++ (c ++ o)) := by
  rw [List.append_assoc] at h1
  refine ⟨h1, ?_⟩
  obtain ⟨_, a1, _⟩ := SL.app.mp h1
  obtain ⟨b1, _, b3⟩ := SL.app.mp h2
  refine SL.app.mpr ⟨b1, a1, fun x hx y hy => ?_⟩
  rcases List.mem_append.mp hy with z | z
  · exact h x hx y z
  · exact b3 x hx y z

theorem K_list {a : Array Keyed} {i : Nat} {x : Keyed} (h : a.toList[i]? = some x) : K a i = kv x := by
  have e : a[i]? = some x := by rw [← Array.getElem?_toList]; exact h
  unfold K; rw [e]; rfl
theorem seg_of {a : Array Keyed} {k : Nat} (h : SL (a.toList.drop k)) : Seg a k a.size := fun i j h1 h2 h3 => by
  by_cases e : i = j
  · rw [e]; exact Int.le_refl _
  have e1 : a.toList[i]? = some a[i] := by rw [Array.getElem?_toList]; exact getElem?_pos a i (by omega)
  have e2 : a.toList[j]? = some a[j] := by rw [Array.getElem?_toList]; exact getElem?_pos a j (by omega)
  rw [K_list e1, K_list e2]
  have d1 : (a.toList.drop k)[i - k]? = some a[i] := by rw [List.getElem?_drop, show k + (i - k) = i from by omega]; exact e1
  have d2 : (a.toList.drop k)[j - k]? = some a[j] := by rw [List.getElem?_drop, show k + (j - k) = j from by omega]; exact e2
  obtain ⟨l1, f1⟩ := List.getElem?_eq_some_iff.mp d1
  obtain ⟨l2, f2⟩ := List.getElem?_eq_some_iff.mp d2
  have z := (List.pairwise_iff_getElem.mp h) (i - k) (j - k) l1 l2 (by omega)
  rw [f1, f2] at z
  exact z
theorem mem_drop {l : List Keyed} {k : Nat} {x : Keyed} (h : x ∈ l.drop k) : ∃ i, k ≤ i ∧ l[i]? = some x := by
  obtain ⟨i, hi⟩ := List.mem_iff_getElem?.mp h
  rw [List.getElem?_drop] at hi
  exact ⟨k + i, by omega, hi⟩
theorem mem_ext {a : Array Keyed} {i j : Nat} {x : Keyed} (h : x ∈ (a.toList.drop i).take (j - i)) : ∃ k, i ≤ k ∧ k < j ∧ a.toList[k]? = some x := by
  obtain ⟨k, hk⟩ := List.mem_iff_getElem?.mp h
  rw [List.getElem?_take] at hk
  split at hk
  · rw [List.getElem?_drop] at hk
    exact ⟨i + k, by omega, by omega, hk⟩
  · cases hk
theorem drop_cons {l : List Keyed} {i : Nat} {x : Keyed} (h : l[i]? = some x) : l.drop i = x :: l.drop (i + 1) := by
  obtain ⟨hi, e⟩ := List.getElem?_eq_some_iff.mp h
  rw [List.drop_eq_getElem_cons hi, e]
theorem drop_split {l : List Keyed} {i j : Nat} (h : i ≤ j) : l.drop i = (l.drop i).take (j - i) ++ l.drop j := by
  have e : l.drop j = (l.drop i).drop (j - i) := by rw [List.drop_drop, show i + (j - i) = j from by omega]
  rw [e, List.take_append_drop]

/-- what a merge keeps between its steps -/
structure MW (a b out : Array Keyed) (ia ib : Nat) : Prop where
  pm : (out.toList ++ (a.toList.drop ia ++ b.toList.drop ib)).Perm (a.toList ++ b.toList)
  sa : SL (out.toList ++ a.toList.drop ia)
  sb : SL (out.toList ++ b.toList.drop ib)
  n : out.size = ia + ib
structure Good (a b r : Array Keyed) : Prop where
  pm : r.toList.Perm (a.toList ++ b.toList)
  so : SL r.toList
theorem ext_list (a : Array Keyed) (i : Nat) : (a.extract i a.size).toList = a.toList.drop i := by
  rw [Array.toList_extract, List.extract_eq_take_drop, List.take_of_length_le]
  rw [List.length_drop, Array.length_toList]
  exact Nat.le_refl _
theorem ext_list2 (a : Array Keyed) (i j : Nat) : (a.extract i j).toList = (a.toList.drop i).take (j - i) := by
  rw [Array.toList_extract, List.extract_eq_take_drop]
section
variable {a b out : Array Keyed} {ia ib : Nat}
theorem MW.dn (m : MW a b out ia ib) (h : ib = b.size ∨ ia = a.size) : Good a b (dn a b out ia ib) := by
  have e : (Tim.dn a b out ia ib).toList = out.toList ++ (a.toList.drop ia ++ b.toList.drop ib) := by
    show (out ++ a.extract ia a.size ++ b.extract ib b.size).toList = _
    rw [Array.toList_append, Array.toList_append, ext_list, ext_list, List.append_assoc]
  refine ⟨by rw [e]; exact m.pm, ?_⟩
  rw [e]
  rcases h with h | h
  · have z : b.toList.drop ib = [] := List.drop_of_length_le (by rw [Array.length_toList, h]; exact Nat.le_refl _)
    rw [z, List.append_nil]; exact m.sa
  · have z : a.toList.drop ia = [] := List.drop_of_length_le (by rw [Array.length_toList, h]; exact Nat.le_refl _)
    rw [z, List.nil_append]; exact m.sb
theorem MW.la (m : MW a b out ia ib) (h : ia + 1 = a.size) (hl : ∀ (i j : Nat) (x y : Keyed), a.toList[i]? = some x → i + 1 = a.size → b.toList[j]? = some y → kv y ≤ kv x) : Good a b (la a b out ia ib) := by
  have e : (Tim.la a b out ia ib).toList = out.toList ++ (b.toList.drop ib ++ a.toList.drop ia) := by
    show (out ++ b.extract ib b.size ++ a.extract ia a.size).toList = _
    rw [Array.toList_append, Array.toList_append, ext_list, ext_list, List.append_assoc]
  refine ⟨?_, ?_⟩
  · rw [e]; exact ((List.perm_append_comm).append_left _).trans m.pm
  · rw [e, ← List.append_assoc]
    obtain ⟨_, c2, c3⟩ := SL.app.mp m.sa
    refine SL.app.mpr ⟨m.sb, c2, fun x hx y hy => ?_⟩
    rcases List.mem_append.mp hx with z | z
    · exact c3 x z y hy
    · obtain ⟨i, hi, ei⟩ := mem_drop hy
      obtain ⟨j, _, ej⟩ := mem_drop z
      have := (List.getElem?_eq_some_iff.mp ei).1
      rw [Array.length_toList] at this
      exact hl i j y x ei (by omega) ej
/-- k of a go behind out -/
theorem MW.stepA (m : MW a b out ia ib) {k : Nat} (hk : ia + k ≤ a.size) (h : ∀ (i j : Nat) (x y : Keyed), ia ≤ i → i < ia + k → ib ≤ j → a.toList[i]? = some x → b.toList[j]? = some y → kv x ≤ kv y) : MW a b (out ++ a.extract ia (ia + k)) (ia + k) ib := by
  have sp := drop_split (l := a.toList) (i := ia) (j := ia + k) (by omega)
  have pm := m.pm
  have sa := m.sa
  rw [sp] at pm sa
  have mv := SL.move sa m.sb fun x hx y hy => by
    obtain ⟨i, h1, h2, e1⟩ := mem_ext hx
    obtain ⟨j, h3, e2⟩ := mem_drop hy
    exact h i j x y h1 h2 h3 e1 e2
  refine ⟨?_, ?_, ?_, ?_⟩
  · rw [Array.toList_append, ext_list2, List.append_assoc, ← List.append_assoc _ _ (b.toList.drop ib)]; exact pm
  · rw [Array.toList_append, ext_list2]; exact mv.1
  · rw [Array.toList_append, ext_list2]; exact mv.2
  · rw [Array.size_append, Array.size_extract, m.n]; omega
theorem MW.stepB (m : MW a b out ia ib) {k : Nat} (hk : ib + k ≤ b.size) (h : ∀ (i j : Nat) (x y : Keyed), ia ≤ i → ib ≤ j → j < ib + k → a.toList[i]? = some x → b.toList[j]? = some y → kv y ≤ kv x) : MW a b (out ++ b.extract ib (ib + k)) ia (ib + k) := by
  have sp := drop_split (l := b.toList) (i := ib) (j := ib + k) (by omega)
  have pm := m.pm
  have sb := m.sb
  rw [sp] at pm sb
  have mv := SL.move sb m.sa fun x hx y hy => by
    obtain ⟨i, h1, h2, e1⟩ := mem_ext hx
    obtain ⟨j, h3, e2⟩ := mem_drop hy
    exact h j i y x h3 h1 h2 e2 e1
  refine ⟨?_, ?_, ?_, ?_⟩
  · rw [Array.toList_append, ext_list2, List.append_assoc]
    refine List.Perm.trans (List.Perm.append_left _ ?_) pm
    rw [← List.append_assoc, ← List.append_assoc]
    exact List.Perm.append_right _ List.perm_append_comm
  · rw [Array.toList_append, ext_list2]; exact mv.2
  · rw [Array.toList_append, ext_list2]; exact mv.1
  · rw [Array.size_append, Array.size_extract, m.n]; omega
theorem ext_one {a : Array Keyed} {i : Nat} {x : Keyed} (h : a[i]? = some x) (out : Array Keyed) : out.push x = out ++ a.extract i (i + 1) := by
  apply Array.ext'
  rw [Array.toList_push, Array.toList_append, ext_list2, show i + 1 - i = 1 from by omega, drop_cons (by rw [Array.getElem?_toList]; exact h)]
  rfl
end
end Tim

end

section
set_option maxHeartbeats 2000000
set_option maxRecDepth 100000
set_option linter.unusedVariables false
set_option linter.unusedSimpArgs false
namespace Tim
open PySem PyProof.Rows

/-- the two runs of a merge: ints in order, the first of b ahead of all of a, the last of a behind all of b -/
structure Two (a b : Array Keyed) : Prop where
  ia : Ints a
  ib : Ints b
  la : ∀ (i j : Nat) (x y : Keyed), a.toList[i]? = some x → i + 1 = a.size → b.toList[j]? = some y → kv y ≤ kv x
  fb : ∀ (i : Nat) (x y : Keyed), a.toList[i]? = some x → b.toList[0]? = some y → kv y ≤ kv x
  sa : SL a.toList
  sb : SL b.toList
structure MI (a b out : Array Keyed) (ia ib : Nat) : Prop extends MW a b out ia ib where
  ha : ia + 1 < a.size
  hb : ib < b.size
structure SameG (st st' : SortSt) : Prop where
  ar : arrOf st' = arrOf st
  kd : kindOf st' = kindOf st
  pd : pendingOf st' = pendingOf st
  ff : failedOf st' = failedOf st
theorem SameG.refl (st : SortSt) : SameG st st := ⟨rfl, rfl, rfl, rfl⟩
theorem SameG.trans {x y z : SortSt} (a : SameG x y) (b : SameG y z) : SameG x z := ⟨b.ar.trans a.ar, b.kd.trans a.kd, b.pd.trans a.pd, b.ff.trans a.ff⟩
abbrev withG (st : SortSt) (g : Nat) : SortSt := SortSt.mk' (kindOf st) (arrOf st) (pendingOf st) g (failedOf st)
theorem setG_eq (g : Nat) : setG g = modify fun st => withG st g := rfl

theorem li {a : Array Keyed} {i : Nat} {x : Keyed} (h : a[i]? = some x) : a.toList[i]? = some x := by rw [Array.getElem?_toList]; exact h
theorem il {a : Array Keyed} {i : Nat} {x : Keyed} (h : a.toList[i]? = some x) : a[i]? = some x := by rw [← Array.getElem?_toList]; exact h
/-- the order of a's rest, by places -/
theorem SL.at {l : List Keyed} (h : SL l) {i j : Nat} {x y : Keyed} (hij : i ≤ j) (ei : l[i]? = some x) (ej : l[j]? = some y) : kv x ≤ kv y := by
  by_cases e : i = j
  · subst e; rw [ei] at ej; cases ej; exact Int.le_refl _
  · obtain ⟨l1, f1⟩ := List.getElem?_eq_some_iff.mp ei
    obtain ⟨l2, f2⟩ := List.getElem?_eq_some_iff.mp ej
    have z := (List.pairwise_iff_getElem.mp h) i j l1 l2 (by omega)
    rw [f1, f2] at z
    exact z

section
variable {prog : Program} {w : World} {A : Around} {E : Value → Shared → Prop} {s : Shared} {st : SortSt} {a b : Array Keyed}

def O6 (a b : Array Keyed) (o : Nat) (c : C6) : Prop := (∃ g, c.1 = some g ∧ Good a b g) ∨ (c.1 = none ∧ MI a b c.2.1 c.2.2.1 c.2.2.2.1 ∧ o < c.2.1.size)
def O7 (a b : Array Keyed) (o : Nat) (c : C7) : Prop := (∃ g, c.1 = some g ∧ Good a b g) ∨ (c.1 = none ∧ MI a b c.2.1 c.2.2.1 c.2.2.2.1 ∧ o < c.2.1.size)

theorem w_q1 {mg : Nat} {out : Array Keyed} {ia ib ac bc : Nat} {Q : ForInStep C6 → SortSt → Prop} (T : Two a b) (hk : kindOf st = oneType') (m : MI a b out ia ib)
    (hd : ∀ c, O6 a b out.size c → Q (.done c) st) (hy : ∀ c, c.1 = none → MI a b c.2.1 c.2.2.1 c.2.2.2.1 → out.size < c.2.1.size → Q (.yield c) st) : wpS (model prog w) A E s (q1 a b mg out ia ib ac bc) Q st := by
  obtain ⟨y, ey, vy⟩ := get_some m.hb
  obtain ⟨x, ex, vx⟩ := get_some (show ia < a.size by have := m.ha; omega)
  have ha := m.ha
  have hb := m.hb
  unfold q1
  refine wpS_bind (w_elem ey (wpS_bind (w_elem ex (wpS_bind (w_lt hk (T.ib _ _ ey) (T.ia _ _ ex) ?_)))))
  by_cases l : kv y < kv x
  · simp only [l, decide_true, if_true]
    refine wpS_bind (w_elem ey ?_)
    have m2 : MW a b (out.push y) ia (ib + 1) := by
      rw [ext_one ey]
      exact m.toMW.stepB (k := 1) (by omega) fun i j x' y' h1 h2 h3 e1 e2 => by
        have e : j = ib := by omega
        subst e
        rw [li ey] at e2; cases e2
        exact Int.le_trans (Int.le_of_lt l) (T.sa.at h1 (li ex) e1)
    have sz : (out.push y).size = out.size + 1 := Array.size_push ..
    by_cases e : ib + 1 = b.size
    · rw [if_pos (by simpa using e)]
      exact wpS_pure (hd _ (.inl ⟨_, rfl, m2.dn (.inl e)⟩))
    · rw [if_neg (by simpa using e)]
      have m3 : MI a b (out.push y) ia (ib + 1) := ⟨m2, ha, by omega⟩
      split
      · exact wpS_pure (hd _ (.inr ⟨rfl, m3, by show out.size < (out.push y).size; omega⟩))
      · exact wpS_pure (hy _ rfl m3 (by show out.size < (out.push y).size; omega))
  · simp only [l, decide_false, Bool.false_eq_true, if_false]
    refine wpS_bind (w_elem ex ?_)
    have m2 : MW a b (out.push x) (ia + 1) ib := by
      rw [ext_one ex]
      exact m.toMW.stepA (k := 1) (by omega) fun i j x' y' h1 h2 h3 e1 e2 => by
        have e : i = ia := by omega
        subst e
        rw [li ex] at e1; cases e1
        exact Int.le_trans (Int.not_lt.mp l) (T.sb.at h3 (li ey) e2)
    have sz : (out.push x).size = out.size + 1 := Array.size_push ..
    by_cases e : ia + 1 + 1 = a.size
    · rw [if_pos (by simpa using e)]
      exact wpS_pure (hd _ (.inl ⟨_, rfl, m2.la e T.la⟩))
    · rw [if_neg (by simpa using e)]
      have m3 : MI a b (out.push x) (ia + 1) ib := ⟨m2, by omega, hb⟩
      split
      · exact wpS_pure (hd _ (.inr ⟨rfl, m3, by show out.size < (out.push x).size; omega⟩))
      · exact wpS_pure (hy _ rfl m3 (by show out.size < (out.push x).size; omega))

/-- what the steps of a gallop want of the end -/
structure Fin7 (a b : Array Keyed) (o : Nat) (st : SortSt) (Q : ForInStep C7 → SortSt → Prop) : Prop where
  dn : ∀ c, O7 a b o c → Q (.done c) st
  yl : ∀ c, c.1 = none → MI a b c.2.1 c.2.2.1 c.2.2.2.1 → o < c.2.1.size → Q (.yield c) st
theorem w_p3 {out : Array Keyed} {ia ib mg ac bc o : Nat} {Q : ForInStep C7 → SortSt → Prop} (T : Two a b) (m : MI a b out ia ib) (ho : o ≤ out.size) (F : Fin7 a b o st Q)
    (hx : ∀ (x y : Keyed) (j : Nat), a.toList[ia]? = some x → ib ≤ j → b.toList[j]? = some y → kv x ≤ kv y) : wpS (model prog w) A E s (p3 a b out ia ib mg ac bc) Q st := by
  have ha := m.ha
  have hb := m.hb
  obtain ⟨x, ex, vx⟩ := get_some (show ia < a.size by omega)
  unfold p3
  refine wpS_bind (w_elem ex ?_)
  have m2 : MW a b (out.push x) (ia + 1) ib := by
    rw [ext_one ex]
    exact m.toMW.stepA (k := 1) (by omega) fun i j x' y' h1 h2 h3 e1 e2 => by
      have e : i = ia := by omega
      subst e
      exact hx x' y' j e1 h3 e2
  have sz : (out.push x).size = out.size + 1 := Array.size_push ..
  by_cases e : ia + 1 + 1 = a.size
  · rw [if_pos (by simpa using e)]
    exact wpS_pure (F.dn _ (.inl ⟨_, rfl, m2.la e T.la⟩))
  · rw [if_neg (by simpa using e)]
    have m3 : MI a b (out.push x) (ia + 1) ib := ⟨m2, by omega, hb⟩
    split
    · exact wpS_pure (F.dn _ (.inr ⟨rfl, m3, by show o < (out.push x).size; omega⟩))
    · exact wpS_pure (F.yl _ rfl m3 (by show o < (out.push x).size; omega))
theorem w_p2 {out : Array Keyed} {ia ib mg ac bc o : Nat} {Q : ForInStep C7 → SortSt → Prop} (T : Two a b) (hk : kindOf st = oneType') (m : MI a b out ia ib) (ho : o ≤ out.size) (F : Fin7 a b o st Q)
    (hx : ∀ (x y : Keyed) (i : Nat), ia ≤ i → a.toList[i]? = some x → b.toList[ib]? = some y → kv y ≤ kv x) : wpS (model prog w) A E s (p2 a b out ia ib mg ac bc) Q st := by
  have ha := m.ha
  have hb := m.hb
  obtain ⟨y, ey, vy⟩ := get_some hb
  obtain ⟨x, ex, vx⟩ := get_some (show ia < a.size by omega)
  unfold p2
  refine wpS_bind (w_elem ey ?_)
  have m2 : MW a b (out.push y) ia (ib + 1) := by
    rw [ext_one ey]
    exact m.toMW.stepB (k := 1) (by omega) fun i j x' y' h1 h2 h3 e1 e2 => by
      have e : j = ib := by omega
      subst e
      exact hx x' y' i h1 e1 e2
  have sz : (out.push y).size = out.size + 1 := Array.size_push ..
  by_cases e : ib + 1 = b.size
  · rw [if_pos (by simpa using e)]
    exact wpS_pure (F.dn _ (.inl ⟨_, rfl, m2.dn (.inl e)⟩))
  · rw [if_neg (by simpa using e)]
    refine wpS_bind (w_elem ex (wpS_bind (w_gal hk (T.ia _ _ ex) T.ib (by omega) (by omega) ?_ fun k k1 k2 k3 => ?_)))
    · rw [show ib + 1 + (b.size - (ib + 1)) = b.size from by omega]
      exact seg_of (T.sb.sublist (List.drop_sublist _ _))
    · dsimp only
      have low : ∀ j y', ib + 1 ≤ j → j < ib + 1 + k → b.toList[j]? = some y' → kv y' < kv x := fun j y' h1 h2 e2 => by
        have z := k2 (j - (ib + 1)) (by omega)
        unfold Bey at z
        rw [if_pos rfl, show ib + 1 + (j - (ib + 1)) = j from by omega, K_list e2] at z
        exact z
      have high : ∀ j y', ib + 1 + k ≤ j → b.toList[j]? = some y' → kv x ≤ kv y' := fun j y' h1 e2 => by
        have hj := (List.getElem?_eq_some_iff.mp e2).1
        rw [Array.length_toList] at hj
        have z := k3 (j - (ib + 1)) (by omega) (by omega)
        unfold Bey at z
        rw [if_pos rfl, show ib + 1 + (j - (ib + 1)) = j from by omega, K_list e2] at z
        omega
      by_cases hk0 : k > 0
      · rw [if_pos hk0]
        have m3 : MW a b (out.push y ++ b.extract (ib + 1) (ib + 1 + k)) ia (ib + 1 + k) := m2.stepB (by omega) fun i j x' y' h1 h2 h3 e1 e2 =>
          Int.le_trans (Int.le_of_lt (low j y' h2 h3 e2)) (T.sa.at h1 (li ex) e1)
        by_cases e2 : ib + 1 + k = b.size
        · rw [if_pos (by simpa using e2)]
          exact wpS_pure (F.dn _ (.inl ⟨_, rfl, m3.dn (.inl e2)⟩))
        · rw [if_neg (by simpa using e2)]
          exact w_p3 T ⟨m3, ha, by omega⟩ (by rw [Array.size_append]; omega) F fun x' y' j e1 h e2 => by
            rw [li ex] at e1; cases e1
            exact high j y' h e2
      · rw [if_neg hk0]
        have k0 : k = 0 := by omega
        subst k0
        exact w_p3 T ⟨m2, ha, by omega⟩ (by omega) F fun x' y' j e1 h e2 => by
          rw [li ex] at e1; cases e1
          exact high j y' h e2
theorem w_p1 {out : Array Keyed} {ia ib mg ac bc o : Nat} {Q : ForInStep C7 → SortSt → Prop} (T : Two a b) (hk : kindOf st = oneType') (m : MI a b out ia ib) (ho : o ≤ out.size) (F : Fin7 a b o (withG st mg) Q) :
    wpS (model prog w) A E s (p1 a b out ia ib mg ac bc) Q st := by
  have ha := m.ha
  have hb := m.hb
  obtain ⟨y, ey, vy⟩ := get_some hb
  unfold p1
  rw [setG_eq]
  refine wpS_bind (wpS_modify (wpS_bind (w_elem ey (wpS_bind (w_gal (show kindOf (withG st mg) = oneType' from hk) (T.ib _ _ ey) T.ia (by omega) (by omega) ?_ fun k k1 k2 k3 => ?_)))))
  · rw [show ia + (a.size - ia) = a.size from by omega]
    exact seg_of (T.sa.sublist (List.drop_sublist _ _))
  · dsimp only
    have low : ∀ i x', ia ≤ i → i < ia + k → a.toList[i]? = some x' → kv x' ≤ kv y := fun i x' h1 h2 e2 => by
      have z := k2 (i - ia) (by omega)
      unfold Bey at z
      rw [if_neg Bool.false_ne_true, show ia + (i - ia) = i from by omega, K_list e2] at z
      exact z
    have high : ∀ i x', ia + k ≤ i → a.toList[i]? = some x' → kv y ≤ kv x' := fun i x' h1 e2 => by
      have hj := (List.getElem?_eq_some_iff.mp e2).1
      rw [Array.length_toList] at hj
      have z := k3 (i - ia) (by omega) (by omega)
      unfold Bey at z
      rw [if_neg Bool.false_ne_true, show ia + (i - ia) = i from by omega, K_list e2] at z
      omega
    by_cases hk0 : k > 0
    · rw [if_pos hk0]
      have m3 : MW a b (out ++ a.extract ia (ia + k)) (ia + k) ib := m.toMW.stepA (by omega) fun i j x' y' h1 h2 h3 e1 e2 =>
        Int.le_trans (low i x' h1 h2 e1) (T.sb.at h3 (li ey) e2)
      by_cases e1 : ia + k + 1 = a.size
      · rw [if_pos (by simpa using e1)]
        exact wpS_pure (F.dn _ (.inl ⟨_, rfl, m3.la e1 T.la⟩))
      · rw [if_neg (by simpa using e1)]
        by_cases e2 : ia + k = a.size
        · rw [if_pos (by simpa using e2)]
          exact wpS_pure (F.dn _ (.inl ⟨_, rfl, m3.dn (.inr e2)⟩))
        · rw [if_neg (by simpa using e2)]
          exact w_p2 T hk ⟨m3, by omega, hb⟩ (by rw [Array.size_append]; omega) F fun x' y' i h e1 e2 => by
            rw [li ey] at e2; cases e2
            exact high i x' h e1
    · rw [if_neg hk0]
      have k0 : k = 0 := by omega
      subst k0
      exact w_p2 T hk m ho F fun x' y' i h e1 e2 => by
        rw [li ey] at e2; cases e2
        exact high i x' h e1
theorem w_q2 {c : C7} {o : Nat} {Q : ForInStep C7 → SortSt → Prop} (T : Two a b) (hk : kindOf st = oneType') (m : MI a b c.2.1 c.2.2.1 c.2.2.2.1) (ho : o ≤ c.2.1.size) (F : ∀ g, Fin7 a b o (withG st g) Q) :
    wpS (model prog w) A E s (q2 a b c) Q st := by
  unfold q2
  split
  · exact w_p1 T hk m ho (F _)
  · exact w_p1 T hk m ho (F _)

theorem w_q3 {c : C5} {Q : ForInStep C5 → SortSt → Prop} (T : Two a b) (hk : kindOf st = oneType') (m : MI a b c.2.1 c.2.2.1 c.2.2.2.1)
    (hd : ∀ st' d g, SameG st st' → d.1 = some g → Good a b g → Q (.done d) st') (hy : ∀ st' d, SameG st st' → d.1 = none → MI a b d.2.1 d.2.2.1 d.2.2.2.1 → c.2.1.size < d.2.1.size → Q (.yield d) st') :
    wpS (model prog w) A E s (q3 a b c) Q st := by
  have ha := m.ha
  unfold q3
  refine wpS_bind (wpS_mono (wpS_forRange (I := fun x d st' => st' = st ∧ d.1 = none ∧ MI a b d.2.1 d.2.2.1 d.2.2.2.1 ∧ c.2.1.size ≤ d.2.1.size ∧ (0 < x → c.2.1.size < d.2.1.size)) (Q := fun d st' => st' = st ∧ O6 a b c.2.1.size d) ?t ?f ⟨rfl, rfl, m, Nat.le_refl _, fun z => absurd z (by omega)⟩) ?p)
  case t =>
    rintro x d st' _ hx ⟨rfl, e, m', h1, h2⟩
    refine w_q1 T hk m' (fun c' o6 => ⟨rfl, ?_⟩) fun c' e' m2 l => ⟨rfl, e', m2, by omega, fun _ => by omega⟩
    rcases o6 with z | ⟨z1, z2, z3⟩
    · exact .inl z
    · exact .inr ⟨z1, z2, by omega⟩
  case f =>
    rintro d st' ⟨rfl, e, m', h1, h2⟩
    exact ⟨rfl, .inr ⟨e, m', h2 (by omega)⟩⟩
  case p =>
    rintro d st' ⟨rfl, o6⟩
    rcases o6 with ⟨g, e, gd⟩ | ⟨e, m', h1⟩
    · rw [e]
      exact wpS_pure (hd _ _ g (SameG.refl _) rfl gd)
    · rw [e]
      refine wpS_bind (wpS_lift (wpAny_rule ⟨rfl, ?_⟩))
      refine wpS_bind (wpS_mono (wpS_forRange (I := fun x f st2 => SameG st' st2 ∧ f.1 = none ∧ MI a b f.2.1 f.2.2.1 f.2.2.2.1 ∧ d.2.1.size ≤ f.2.1.size) (Q := fun f st2 => SameG st' st2 ∧ ((∃ g, f.1 = some g ∧ Good a b g) ∨ (f.1 = none ∧ MI a b f.2.1 f.2.2.1 f.2.2.2.1 ∧ d.2.1.size ≤ f.2.1.size))) ?t2 ?f2 ⟨SameG.refl _, rfl, m', Nat.le_refl _⟩) ?p2)
      case t2 =>
        rintro x f st2 _ _ ⟨sg, e2, m2, h2⟩
        have sg2 : ∀ g, SameG st' (withG st2 g) := fun g => sg.trans ⟨rfl, rfl, rfl, rfl⟩
        refine w_q2 T (sg.kd.trans hk) m2 h2 fun g => ⟨fun c' o7 => ⟨sg2 g, ?_⟩, fun c' e' m3 l => ⟨sg2 g, e', m3, by omega⟩⟩
        rcases o7 with z | ⟨z1, z2, z3⟩
        · exact .inl z
        · exact .inr ⟨z1, z2, by omega⟩
      case f2 =>
        rintro f st2 ⟨sg, e2, m2, h2⟩
        exact ⟨sg, .inr ⟨e2, m2, h2⟩⟩
      case p2 =>
        rintro f st2 ⟨sg, o7⟩
        rcases o7 with ⟨g, e2, gd⟩ | ⟨e2, m2, h2⟩
        · rw [e2]
          exact wpS_pure (hd _ _ g sg rfl gd)
        · rw [e2]
          dsimp only
          rw [setG_eq]
          exact wpS_bind (wpS_modify (wpS_pure (hy _ _ (sg.trans ⟨rfl, rfl, rfl, rfl⟩) rfl m2 (by show c.2.1.size < f.2.1.size; omega))))

theorem w_mLo {Q : Array Keyed → SortSt → Prop} (T : Two a b) (hk : kindOf st = oneType') (ha : 0 < a.size) (hb : 0 < b.size) (h : ∀ st' r, SameG st st' → Good a b r → Q r st') : wpS (model prog w) A E s (mLo a b) Q st := by
  obtain ⟨y, ey, vy⟩ := get_some hb
  rw [mLo_eq]
  refine wpS_bind (wpS_lift (wpAny_rule ⟨rfl, ?_⟩))
  refine wpS_bind (w_elem ey ?_)
  have m0 : MW a b #[] 0 0 := ⟨by simp, by simpa using T.sa, by simpa using T.sb, rfl⟩
  have m1 : MW a b #[y] 0 1 := by
    have z := m0.stepB (k := 1) (by omega) fun i j x' y' h1 h2 h3 e1 e2 => by
      have e : j = 0 := by omega
      subst e
      exact T.fb i x' y' e1 e2
    rw [show 0 + 1 = 1 from rfl, ← ext_one ey] at z
    exact z
  by_cases e : 1 = b.size
  · rw [if_pos (by simpa using e)]
    exact wpS_pure (h _ _ (SameG.refl _) (m1.dn (.inl e)))
  · rw [if_neg (by simpa using e)]
    by_cases e2 : 0 + 1 = a.size
    · rw [if_pos (by simpa using e2)]
      exact wpS_pure (h _ _ (SameG.refl _) (m1.la e2 T.la))
    · rw [if_neg (by simpa using e2)]
      refine wpS_bind (wpS_get ?_)
      refine wpS_bind (wpS_mono (wpS_forRange (I := fun x c st' => SameG st st' ∧ c.1 = none ∧ MI a b c.2.1 c.2.2.1 c.2.2.2.1 ∧ x < c.2.1.size) (Q := fun c st' => SameG st st' ∧ ∃ g, c.1 = some g ∧ Good a b g) ?turn ?fin ⟨SameG.refl _, rfl, ⟨m1, (by show 0 + 1 < a.size; omega), (by show 1 < b.size; omega)⟩, (by show 0 < 1; omega)⟩) ?post)
      case turn =>
        rintro x c st' _ _ ⟨sg, e3, m, hx⟩
        exact w_q3 T (sg.kd.trans hk) m (fun st2 d g sg2 ed gd => ⟨sg.trans sg2, g, ed, gd⟩) fun st2 d sg2 ed md l => ⟨sg.trans sg2, ed, md, by omega⟩
      case fin =>
        rintro c st' ⟨sg, e3, m, hx⟩
        have h1 := m.ha
        have h2 := m.hb
        have h3 := m.n
        omega
      case post =>
        rintro c st' ⟨sg, g, e3, gd⟩
        rw [e3]
        exact wpS_pure (h _ _ sg gd)
end
end Tim

end

section
set_option maxHeartbeats 2000000
set_option maxRecDepth 100000
set_option linter.unusedVariables false
set_option linter.unusedSimpArgs false
namespace Tim
open PySem PyProof.Rows

def mHi : Array Keyed → Array Keyed → StateT SortSt Sem (Array Keyed) := sortPriv% PySem.Builtin.mergeHi
abbrev D5 := Option (Array Keyed) × Nat × Nat × Array Keyed × Nat
abbrev D6 := Option (Array Keyed) × Nat × Nat × Array Keyed × Nat × Nat
abbrev D7 := Option (Array Keyed) × Nat × Nat × Array Keyed × Nat × Nat × Nat
section
variable (a b : Array Keyed)
abbrev dh (out : Array Keyed) (na nb : Nat) : Array Keyed := a.extract 0 na ++ b.extract 0 nb ++ out.reverse
abbrev fh (out : Array Keyed) (na nb : Nat) : Array Keyed := b.extract 0 nb ++ a.extract 0 na ++ out.reverse
def r1 (mg : Nat) (na nb : Nat) (out : Array Keyed) (ac bc : Nat) : StateT SortSt Sem (ForInStep D6) := do
  let y ← elem' b (nb - 1)
  let x ← elem' a (na - 1)
  let r ← lt' y x
  match r with
  | some aw =>
    if aw = true then do
      let z ← elem' a (na - 1)
      if (na - 1 == 0) = true then pure (.done (some (dh a b (out.push z) (na - 1) nb), na - 1, nb, out.push z, ac + 1, 0))
      else if ac + 1 ≥ mg then pure (.done (none, na - 1, nb, out.push z, ac + 1, 0))
      else pure (.yield (none, na - 1, nb, out.push z, ac + 1, 0))
    else do
      let z ← elem' b (nb - 1)
      if (nb - 1 == 1) = true then pure (.done (some (fh a b (out.push z) na (nb - 1)), na, nb - 1, out.push z, 0, bc + 1))
      else if bc + 1 ≥ mg then pure (.done (none, na, nb - 1, out.push z, 0, bc + 1))
      else pure (.yield (none, na, nb - 1, out.push z, 0, bc + 1))
  | _ => pure (.done (some (dh a b out na nb), na, nb, out, ac, bc))
def s3 (na nb : Nat) (out : Array Keyed) (mg ac bc : Nat) : StateT SortSt Sem (ForInStep D7) := do
  let z ← elem' a (na - 1)
  if (na - 1 == 0) = true then pure (.done (some (dh a b (out.push z) (na - 1) nb), na - 1, nb, out.push z, mg, ac, bc))
  else if (decide (ac < 7) && decide (bc < 7)) = true then pure (.done (none, na - 1, nb, out.push z, mg, ac, bc))
  else pure (.yield (none, na - 1, nb, out.push z, mg, ac, bc))
def s2 (na nb : Nat) (out : Array Keyed) (mg ac bc : Nat) : StateT SortSt Sem (ForInStep D7) := do
  let z ← elem' b (nb - 1)
  if (nb - 1 == 1) = true then pure (.done (some (fh a b (out.push z) na (nb - 1)), na, nb - 1, out.push z, mg, ac, bc))
  else do
    let x ← elem' a (na - 1)
    let r ← gal true x b 0 (nb - 1) (nb - 1 - 1)
    match r with
    | some t =>
      if nb - 1 - t > 0 then
        if (t == 1) = true then pure (.done (some (fh a b (out.push z ++ (b.extract t (nb - 1)).reverse) na t), na, t, out.push z ++ (b.extract t (nb - 1)).reverse, mg, ac, nb - 1 - t))
        else if (t == 0) = true then pure (.done (some (dh a b (out.push z ++ (b.extract t (nb - 1)).reverse) na t), na, t, out.push z ++ (b.extract t (nb - 1)).reverse, mg, ac, nb - 1 - t))
        else s3 a b na t (out.push z ++ (b.extract t (nb - 1)).reverse) mg ac (nb - 1 - t)
      else s3 a b na (nb - 1) (out.push z) mg ac (nb - 1 - t)
    | _ => pure (.done (some (dh a b (out.push z) na (nb - 1)), na, nb - 1, out.push z, mg, ac, bc))
def s1 (na nb : Nat) (out : Array Keyed) (mg ac bc : Nat) : StateT SortSt Sem (ForInStep D7) := do
  setG mg
  let y ← elem' b (nb - 1)
  let r ← gal false y a 0 na (na - 1)
  match r with
  | some t =>
    if na - t > 0 then
      if (t == 0) = true then pure (.done (some (dh a b (out ++ (a.extract t na).reverse) t nb), t, nb, out ++ (a.extract t na).reverse, mg, na - t, bc))
      else s2 a b t nb (out ++ (a.extract t na).reverse) mg (na - t) bc
    else s2 a b na nb out mg (na - t) bc
  | _ => pure (.done (some (dh a b out na nb), na, nb, out, mg, ac, bc))
def r2 (c : D7) : StateT SortSt Sem (ForInStep D7) :=
  if c.2.2.2.2.1 > 1 then s1 a b c.2.1 c.2.2.1 c.2.2.2.1 (c.2.2.2.2.1 - 1) c.2.2.2.2.2.1 c.2.2.2.2.2.2 else s1 a b c.2.1 c.2.2.1 c.2.2.2.1 c.2.2.2.2.1 c.2.2.2.2.2.1 c.2.2.2.2.2.2
def r3 (c : D5) : StateT SortSt Sem (ForInStep D5) := do
  let d ← forIn [:a.size + b.size] ((none, c.2.1, c.2.2.1, c.2.2.2.1, 0, 0) : D6) fun _ d => r1 a b c.2.2.2.2 d.2.1 d.2.2.1 d.2.2.2.1 d.2.2.2.2.1 d.2.2.2.2.2
  match d.1 with
  | some r => pure (.done (some r, d.2.1, d.2.2.1, d.2.2.2.1, c.2.2.2.2))
  | none => do
    liftM (rule "list.sort.gallop")
    let e ← forIn [:a.size + b.size] ((none, d.2.1, d.2.2.1, d.2.2.2.1, c.2.2.2.2 + 1, d.2.2.2.2.1, d.2.2.2.2.2) : D7) fun _ e => r2 a b e
    match e.1 with
    | some r => pure (.done (some r, e.2.1, e.2.2.1, e.2.2.2.1, e.2.2.2.2.1))
    | none => do
      setG (e.2.2.2.2.1 + 1)
      pure (.yield (none, e.2.1, e.2.2.1, e.2.2.2.1, e.2.2.2.2.1 + 1))
theorem mHi_eq : mHi a b = (do
    liftM (rule "list.sort.merge-hi")
    let z ← elem' a (a.size - 1)
    if (a.size - 1 == 0) = true then pure (dh a b #[z] (a.size - 1) b.size)
    else if (b.size == 1) = true then pure (fh a b #[z] (a.size - 1) b.size)
    else do
      let g ← get
      let c ← forIn [:a.size + b.size] ((none, a.size - 1, b.size, #[z], gallopOf g) : D5) fun _ c => r3 a b c
      match c.1 with
      | some r => pure r
      | none => unsupported "internal:list.sort.merge-bound") := by kernel_rfl
end

theorem take_split {l : List Keyed} {i j : Nat} (h : i ≤ j) : l.take j = l.take i ++ (l.drop i).take (j - i) := by
  rw [← List.take_add, show i + (j - i) = j from by omega]
theorem mem_take {l : List Keyed} {k : Nat} {x : Keyed} (h : x ∈ l.take k) : ∃ i, i < k ∧ l[i]? = some x := by
  obtain ⟨i, hi⟩ := List.mem_iff_getElem?.mp h
  rw [List.getElem?_take] at hi
  split at hi
  · exact ⟨i, by omega, hi⟩
  · cases hi
structure HW (a b out : Array Keyed) (na nb : Nat) : Prop where
  pm : ((a.toList.take na ++ b.toList.take nb) ++ out.toList.reverse).Perm (a.toList ++ b.toList)
  sa : SL (a.toList.take na ++ out.toList.reverse)
  sb : SL (b.toList.take nb ++ out.toList.reverse)
  n : na + nb + out.size = a.size + b.size
  xa : na ≤ a.size
  xb : nb ≤ b.size
structure HI (a b out : Array Keyed) (na nb : Nat) : Prop extends HW a b out na nb where
  ha : 0 < na
  hb : 1 < nb
theorem ext0 (a : Array Keyed) (i : Nat) : (a.extract 0 i).toList = a.toList.take i := by
  rw [ext_list2, List.drop_zero, Nat.sub_zero]
section
variable {a b out : Array Keyed} {na nb : Nat}
theorem HW.dn (m : HW a b out na nb) (h : na = 0 ∨ nb = 0) : Good a b (dh a b out na nb) := by
  have e : (dh a b out na nb).toList = (a.toList.take na ++ b.toList.take nb) ++ out.toList.reverse := by
    show (a.extract 0 na ++ b.extract 0 nb ++ out.reverse).toList = _
    rw [Array.toList_append, Array.toList_append, ext0, ext0, Array.toList_reverse]
  refine ⟨by rw [e]; exact m.pm, ?_⟩
  rw [e]
  rcases h with h | h
  · rw [h, List.take_zero, List.nil_append]; exact m.sb
  · rw [h, List.take_zero, List.append_nil]; exact m.sa
theorem HW.fh (m : HW a b out na nb) (h : nb = 1) (hf : ∀ (i : Nat) (x y : Keyed), a.toList[i]? = some x → b.toList[0]? = some y → kv y ≤ kv x) : Good a b (fh a b out na nb) := by
  have e : (Tim.fh a b out na nb).toList = b.toList.take nb ++ (a.toList.take na ++ out.toList.reverse) := by
    show (b.extract 0 nb ++ a.extract 0 na ++ out.reverse).toList = _
    rw [Array.toList_append, Array.toList_append, ext0, ext0, Array.toList_reverse, List.append_assoc]
  refine ⟨?_, ?_⟩
  · rw [e, ← List.append_assoc]; exact (List.perm_append_comm.append_right _).trans m.pm
  · rw [e]
    obtain ⟨c1, _, c3⟩ := SL.app.mp m.sb
    refine SL.app.mpr ⟨c1, m.sa, fun x hx y hy => ?_⟩
    rcases List.mem_append.mp hy with z | z
    · obtain ⟨i, hi, ei⟩ := mem_take hx
      obtain ⟨j, _, ej⟩ := mem_take z
      have i0 : i = 0 := by omega
      subst i0
      exact hf j y x ej ei
    · exact c3 x hx y z
theorem HW.stepA (m : HW a b out na nb) {t : Nat} (ht : t ≤ na) (h : ∀ (i j : Nat) (x y : Keyed), t ≤ i → i < na → j < nb → a.toList[i]? = some x → b.toList[j]? = some y → kv y ≤ kv x) : HW a b (out ++ (a.extract t na).reverse) t nb := by
  have sp := take_split (l := a.toList) ht
  have pm := m.pm
  have sa := m.sa
  rw [sp] at pm sa
  have er : (out ++ (a.extract t na).reverse).toList.reverse = (a.toList.drop t).take (na - t) ++ out.toList.reverse := by
    rw [Array.toList_append, Array.toList_reverse, List.reverse_append, List.reverse_reverse, ext_list2]
  have mv := SL.moveR sa m.sb fun x hx y hy => by
    obtain ⟨i, h1, h2, e1⟩ := mem_ext hy
    obtain ⟨j, h3, e2⟩ := mem_take hx
    exact h i j y x h1 h2 h3 e1 e2
  refine ⟨?_, ?_, ?_, ?_, Nat.le_trans ht m.xa, m.xb⟩
  · rw [er, ← List.append_assoc]
    refine List.Perm.trans (List.Perm.append_right _ ?_) pm
    rw [List.append_assoc, List.append_assoc]
    exact List.Perm.append_left _ List.perm_append_comm
  · rw [er]; exact mv.1
  · rw [er]; exact mv.2
  · have := m.n; have := m.xa; rw [Array.size_append, Array.size_reverse, Array.size_extract]; omega
theorem HW.stepB (m : HW a b out na nb) {t : Nat} (ht : t ≤ nb) (h : ∀ (i j : Nat) (x y : Keyed), i < na → t ≤ j → j < nb → a.toList[i]? = some x → b.toList[j]? = some y → kv x ≤ kv y) : HW a b (out ++ (b.extract t nb).reverse) na t := by
  have sp := take_split (l := b.toList) ht
  have pm := m.pm
  have sb := m.sb
  rw [sp] at pm sb
  have er : (out ++ (b.extract t nb).reverse).toList.reverse = (b.toList.drop t).take (nb - t) ++ out.toList.reverse := by
    rw [Array.toList_append, Array.toList_reverse, List.reverse_append, List.reverse_reverse, ext_list2]
  have mv := SL.moveR sb m.sa fun x hx y hy => by
    obtain ⟨i, h1, h2, e1⟩ := mem_ext hy
    obtain ⟨j, h3, e2⟩ := mem_take hx
    exact h j i x y h3 h1 h2 e2 e1
  refine ⟨?_, ?_, ?_, ?_, m.xa, Nat.le_trans ht m.xb⟩
  · rw [er, ← List.append_assoc, List.append_assoc (a.toList.take na)]; exact pm
  · rw [er]; exact mv.2
  · rw [er]; exact mv.1
  · have := m.n; have := m.xb; rw [Array.size_append, Array.size_reverse, Array.size_extract]; omega
theorem ext_oneR {a : Array Keyed} {i : Nat} {x : Keyed} (hi : 0 < i) (h : a[i - 1]? = some x) (out : Array Keyed) : out.push x = out ++ (a.extract (i - 1) i).reverse := by
  apply Array.ext'
  rw [Array.toList_push, Array.toList_append, Array.toList_reverse, ext_list2, show i - (i - 1) = 1 from by omega, drop_cons (by rw [Array.getElem?_toList]; exact h)]
  rfl
theorem seg_take {a : Array Keyed} {n : Nat} (h : SL a.toList) (hn : n ≤ a.size) : Seg a 0 (0 + n) := fun i j h1 h2 h3 => by
  have e1 : a.toList[i]? = some a[i] := by rw [Array.getElem?_toList]; exact getElem?_pos a i (by omega)
  have e2 : a.toList[j]? = some a[j] := by rw [Array.getElem?_toList]; exact getElem?_pos a j (by omega)
  rw [K_list e1, K_list e2]
  exact h.at h2 e1 e2
end

section
variable {prog : Program} {w : World} {A : Around} {E : Value → Shared → Prop} {s : Shared} {st : SortSt} {a b : Array Keyed}
def U6 (a b : Array Keyed) (o : Nat) (c : D6) : Prop := (∃ g, c.1 = some g ∧ Good a b g) ∨ (c.1 = none ∧ HI a b c.2.2.2.1 c.2.1 c.2.2.1 ∧ o < c.2.2.2.1.size)
def U7 (a b : Array Keyed) (o : Nat) (c : D7) : Prop := (∃ g, c.1 = some g ∧ Good a b g) ∨ (c.1 = none ∧ HI a b c.2.2.2.1 c.2.1 c.2.2.1 ∧ o < c.2.2.2.1.size)

theorem HW.one (m : HW a b out na nb) (T : Two a b) {x : Keyed} (h0 : 0 < na) (ex : a[na - 1]? = some x) (hx : ∀ (j : Nat) (y : Keyed), j < nb → b.toList[j]? = some y → kv y ≤ kv x) : HW a b (out.push x) (na - 1) nb := by
  rw [ext_oneR h0 ex]
  exact m.stepA (by omega) fun i j x' y' h1 h2 h3 e1 e2 => by
    have e : i = na - 1 := by omega
    subst e
    rw [li ex] at e1; cases e1
    exact hx j y' h3 e2
theorem HW.oneB (m : HW a b out na nb) (T : Two a b) {y : Keyed} (h0 : 0 < nb) (ey : b[nb - 1]? = some y) (hx : ∀ (i : Nat) (x : Keyed), i < na → a.toList[i]? = some x → kv x ≤ kv y) : HW a b (out.push y) na (nb - 1) := by
  rw [ext_oneR h0 ey]
  exact m.stepB (by omega) fun i j x' y' h1 h2 h3 e1 e2 => by
    have e : j = nb - 1 := by omega
    subst e
    rw [li ey] at e2; cases e2
    exact hx i x' h1 e1

theorem w_r1 {mg na nb : Nat} {out : Array Keyed} {ac bc : Nat} {Q : ForInStep D6 → SortSt → Prop} (T : Two a b) (hk : kindOf st = oneType') (m : HI a b out na nb)
    (hd : ∀ c, U6 a b out.size c → Q (.done c) st) (hy : ∀ c, c.1 = none → HI a b c.2.2.2.1 c.2.1 c.2.2.1 → out.size < c.2.2.2.1.size → Q (.yield c) st) : wpS (model prog w) A E s (r1 a b mg na nb out ac bc) Q st := by
  have ha := m.ha
  have hb := m.hb
  have xa := m.xa
  have xb := m.xb
  obtain ⟨y, ey, vy⟩ := get_some (show nb - 1 < b.size by omega)
  obtain ⟨x, ex, vx⟩ := get_some (show na - 1 < a.size by omega)
  unfold r1
  refine wpS_bind (w_elem ey (wpS_bind (w_elem ex (wpS_bind (w_lt hk (T.ib _ _ ey) (T.ia _ _ ex) ?_)))))
  by_cases l : kv y < kv x
  · simp only [l, decide_true, if_true]
    refine wpS_bind (w_elem ex ?_)
    have m2 : HW a b (out.push x) (na - 1) nb := m.toHW.one T ha ex fun j y' h e => Int.le_trans (T.sb.at (by omega) e (li ey)) (Int.le_of_lt l)
    have sz : (out.push x).size = out.size + 1 := Array.size_push ..
    by_cases e : na - 1 = 0
    · rw [if_pos (by simpa using e)]
      exact wpS_pure (hd _ (.inl ⟨_, rfl, m2.dn (.inl e)⟩))
    · rw [if_neg (by simpa using e)]
      have m3 : HI a b (out.push x) (na - 1) nb := ⟨m2, by omega, hb⟩
      split
      · exact wpS_pure (hd _ (.inr ⟨rfl, m3, by show out.size < (out.push x).size; omega⟩))
      · exact wpS_pure (hy _ rfl m3 (by show out.size < (out.push x).size; omega))
  · simp only [l, decide_false, Bool.false_eq_true, if_false]
    refine wpS_bind (w_elem ey ?_)
    have m2 : HW a b (out.push y) na (nb - 1) := m.toHW.oneB T (by omega) ey fun i x' h e => Int.le_trans (T.sa.at (by omega) e (li ex)) (Int.not_lt.mp l)
    have sz : (out.push y).size = out.size + 1 := Array.size_push ..
    by_cases e : nb - 1 = 1
    · rw [if_pos (by simpa using e)]
      exact wpS_pure (hd _ (.inl ⟨_, rfl, m2.fh e T.fb⟩))
    · rw [if_neg (by simpa using e)]
      have m3 : HI a b (out.push y) na (nb - 1) := ⟨m2, ha, by omega⟩
      split
      · exact wpS_pure (hd _ (.inr ⟨rfl, m3, by show out.size < (out.push y).size; omega⟩))
      · exact wpS_pure (hy _ rfl m3 (by show out.size < (out.push y).size; omega))

structure Fin7H (a b : Array Keyed) (o : Nat) (st : SortSt) (Q : ForInStep D7 → SortSt → Prop) : Prop where
  dn : ∀ c, U7 a b o c → Q (.done c) st
  yl : ∀ c, c.1 = none → HI a b c.2.2.2.1 c.2.1 c.2.2.1 → o < c.2.2.2.1.size → Q (.yield c) st
theorem w_s3 {na nb : Nat} {out : Array Keyed} {mg ac bc o : Nat} {Q : ForInStep D7 → SortSt → Prop} (T : Two a b) (m : HI a b out na nb) (ho : o ≤ out.size) (F : Fin7H a b o st Q)
    (hx : ∀ (x y : Keyed) (j : Nat), a.toList[na - 1]? = some x → j < nb → b.toList[j]? = some y → kv y ≤ kv x) : wpS (model prog w) A E s (s3 a b na nb out mg ac bc) Q st := by
  have ha := m.ha
  have hb := m.hb
  have xa := m.xa
  obtain ⟨x, ex, vx⟩ := get_some (show na - 1 < a.size by omega)
  unfold s3
  refine wpS_bind (w_elem ex ?_)
  have m2 : HW a b (out.push x) (na - 1) nb := m.toHW.one T ha ex fun j y' h e => hx x y' j (li ex) h e
  have sz : (out.push x).size = out.size + 1 := Array.size_push ..
  by_cases e : na - 1 = 0
  · rw [if_pos (by simpa using e)]
    exact wpS_pure (F.dn _ (.inl ⟨_, rfl, m2.dn (.inl e)⟩))
  · rw [if_neg (by simpa using e)]
    have m3 : HI a b (out.push x) (na - 1) nb := ⟨m2, by omega, hb⟩
    split
    · exact wpS_pure (F.dn _ (.inr ⟨rfl, m3, by show o < (out.push x).size; omega⟩))
    · exact wpS_pure (F.yl _ rfl m3 (by show o < (out.push x).size; omega))
theorem w_s2 {na nb : Nat} {out : Array Keyed} {mg ac bc o : Nat} {Q : ForInStep D7 → SortSt → Prop} (T : Two a b) (hk : kindOf st = oneType') (m : HI a b out na nb) (ho : o ≤ out.size) (F : Fin7H a b o st Q)
    (hx : ∀ (x y : Keyed) (i : Nat), i < na → a.toList[i]? = some x → b.toList[nb - 1]? = some y → kv x ≤ kv y) : wpS (model prog w) A E s (s2 a b na nb out mg ac bc) Q st := by
  have ha := m.ha
  have hb := m.hb
  have xa := m.xa
  have xb := m.xb
  obtain ⟨y, ey, vy⟩ := get_some (show nb - 1 < b.size by omega)
  obtain ⟨x, ex, vx⟩ := get_some (show na - 1 < a.size by omega)
  unfold s2
  refine wpS_bind (w_elem ey ?_)
  have m2 : HW a b (out.push y) na (nb - 1) := m.toHW.oneB T (by omega) ey fun i x' h e => hx x' y i h e (li ey)
  have sz : (out.push y).size = out.size + 1 := Array.size_push ..
  by_cases e : nb - 1 = 1
  · rw [if_pos (by simpa using e)]
    exact wpS_pure (F.dn _ (.inl ⟨_, rfl, m2.fh e T.fb⟩))
  · rw [if_neg (by simpa using e)]
    refine wpS_bind (w_elem ex (wpS_bind (w_gal hk (T.ia _ _ ex) T.ib (by omega) (by omega) (seg_take T.sb (by omega)) fun k k1 k2 k3 => ?_)))
    dsimp only
    have low : ∀ j y', j < k → b.toList[j]? = some y' → kv y' ≤ kv x := fun j y' h2 e2 => by
      have z := k2 j h2
      unfold Bey at z
      rw [if_pos rfl, Nat.zero_add, K_list e2] at z
      exact Int.le_of_lt z
    have high : ∀ j y', k ≤ j → j < nb - 1 → b.toList[j]? = some y' → kv x ≤ kv y' := fun j y' h1 h2 e2 => by
      have z := k3 j h1 h2
      unfold Bey at z
      rw [if_pos rfl, Nat.zero_add, K_list e2] at z
      omega
    by_cases hk0 : nb - 1 - k > 0
    · rw [if_pos hk0]
      have m3 : HW a b (out.push y ++ (b.extract k (nb - 1)).reverse) na k := m2.stepB (by omega) fun i j x' y' h1 h2 h3 e1 e2 =>
        Int.le_trans (T.sa.at (by omega) e1 (li ex)) (high j y' h2 h3 e2)
      by_cases e1 : k = 1
      · rw [if_pos (by simpa using e1)]
        exact wpS_pure (F.dn _ (.inl ⟨_, rfl, m3.fh e1 T.fb⟩))
      · rw [if_neg (by simpa using e1)]
        by_cases e2 : k = 0
        · rw [if_pos (by simpa using e2)]
          exact wpS_pure (F.dn _ (.inl ⟨_, rfl, m3.dn (.inr e2)⟩))
        · rw [if_neg (by simpa using e2)]
          exact w_s3 T ⟨m3, ha, by omega⟩ (by rw [Array.size_append]; omega) F fun x' y' j e1 h e2 => by
            rw [li ex] at e1; cases e1
            exact low j y' h e2
    · rw [if_neg hk0]
      have k0 : k = nb - 1 := by omega
      subst k0
      exact w_s3 T ⟨m2, ha, by omega⟩ (by omega) F fun x' y' j e1 h e2 => by
        rw [li ex] at e1; cases e1
        exact low j y' h e2
theorem w_s1 {na nb : Nat} {out : Array Keyed} {mg ac bc o : Nat} {Q : ForInStep D7 → SortSt → Prop} (T : Two a b) (hk : kindOf st = oneType') (m : HI a b out na nb) (ho : o ≤ out.size) (F : Fin7H a b o (withG st mg) Q) :
    wpS (model prog w) A E s (s1 a b na nb out mg ac bc) Q st := by
  have ha := m.ha
  have hb := m.hb
  have xa := m.xa
  have xb := m.xb
  obtain ⟨y, ey, vy⟩ := get_some (show nb - 1 < b.size by omega)
  unfold s1
  rw [setG_eq]
  refine wpS_bind (wpS_modify (wpS_bind (w_elem ey (wpS_bind (w_gal (show kindOf (withG st mg) = oneType' from hk) (T.ib _ _ ey) T.ia (by omega) (by omega) (seg_take T.sa xa) fun k k1 k2 k3 => ?_)))))
  dsimp only
  have low : ∀ i x', i < k → a.toList[i]? = some x' → kv x' ≤ kv y := fun i x' h2 e2 => by
    have z := k2 i h2
    unfold Bey at z
    rw [if_neg Bool.false_ne_true, Nat.zero_add, K_list e2] at z
    exact z
  have high : ∀ i x', k ≤ i → i < na → a.toList[i]? = some x' → kv y ≤ kv x' := fun i x' h1 h2 e2 => by
    have z := k3 i h1 h2
    unfold Bey at z
    rw [if_neg Bool.false_ne_true, Nat.zero_add, K_list e2] at z
    omega
  by_cases hk0 : na - k > 0
  · rw [if_pos hk0]
    have m3 : HW a b (out ++ (a.extract k na).reverse) k nb := m.toHW.stepA (by omega) fun i j x' y' h1 h2 h3 e1 e2 =>
      Int.le_trans (T.sb.at (by omega) e2 (li ey)) (high i x' h1 h2 e1)
    by_cases e1 : k = 0
    · rw [if_pos (by simpa using e1)]
      exact wpS_pure (F.dn _ (.inl ⟨_, rfl, m3.dn (.inl e1)⟩))
    · rw [if_neg (by simpa using e1)]
      exact w_s2 T hk ⟨m3, by omega, hb⟩ (by rw [Array.size_append]; omega) F fun x' y' i h e1 e2 => by
        rw [li ey] at e2; cases e2
        exact low i x' h e1
  · rw [if_neg hk0]
    have k0 : k = na := by omega
    subst k0
    exact w_s2 T hk m ho F fun x' y' i h e1 e2 => by
      rw [li ey] at e2; cases e2
      exact low i x' h e1
theorem w_r2 {c : D7} {o : Nat} {Q : ForInStep D7 → SortSt → Prop} (T : Two a b) (hk : kindOf st = oneType') (m : HI a b c.2.2.2.1 c.2.1 c.2.2.1) (ho : o ≤ c.2.2.2.1.size) (F : ∀ g, Fin7H a b o (withG st g) Q) :
    wpS (model prog w) A E s (r2 a b c) Q st := by
  unfold r2
  split
  · exact w_s1 T hk m ho (F _)
  · exact w_s1 T hk m ho (F _)

theorem w_r3 {c : D5} {Q : ForInStep D5 → SortSt → Prop} (T : Two a b) (hk : kindOf st = oneType') (m : HI a b c.2.2.2.1 c.2.1 c.2.2.1)
    (hd : ∀ st' d g, SameG st st' → d.1 = some g → Good a b g → Q (.done d) st') (hy : ∀ st' d, SameG st st' → d.1 = none → HI a b d.2.2.2.1 d.2.1 d.2.2.1 → c.2.2.2.1.size < d.2.2.2.1.size → Q (.yield d) st') :
    wpS (model prog w) A E s (r3 a b c) Q st := by
  have ha := m.ha
  have xa := m.xa
  unfold r3
  refine wpS_bind (wpS_mono (wpS_forRange (I := fun x d st' => st' = st ∧ d.1 = none ∧ HI a b d.2.2.2.1 d.2.1 d.2.2.1 ∧ c.2.2.2.1.size ≤ d.2.2.2.1.size ∧ (0 < x → c.2.2.2.1.size < d.2.2.2.1.size)) (Q := fun d st' => st' = st ∧ U6 a b c.2.2.2.1.size d) ?turn ?fin ⟨rfl, rfl, m, Nat.le_refl _, fun z => absurd z (by omega)⟩) ?post)
  case turn =>
    rintro x d st' _ hx ⟨rfl, e, m', h1, h2⟩
    refine w_r1 T hk m' (fun c' o6 => ⟨rfl, ?_⟩) fun c' e' m2 l => ⟨rfl, e', m2, by omega, fun _ => by omega⟩
    rcases o6 with z | ⟨z1, z2, z3⟩
    · exact .inl z
    · exact .inr ⟨z1, z2, by omega⟩
  case fin =>
    rintro d st' ⟨rfl, e, m', h1, h2⟩
    exact ⟨rfl, .inr ⟨e, m', h2 (by omega)⟩⟩
  case post =>
    rintro d st' ⟨rfl, o6⟩
    rcases o6 with ⟨g, e, gd⟩ | ⟨e, m', h1⟩
    · rw [e]
      exact wpS_pure (hd _ _ g (SameG.refl _) rfl gd)
    · rw [e]
      refine wpS_bind (wpS_lift (wpAny_rule ⟨rfl, ?_⟩))
      refine wpS_bind (wpS_mono (wpS_forRange (I := fun x f st2 => SameG st' st2 ∧ f.1 = none ∧ HI a b f.2.2.2.1 f.2.1 f.2.2.1 ∧ d.2.2.2.1.size ≤ f.2.2.2.1.size) (Q := fun f st2 => SameG st' st2 ∧ ((∃ g, f.1 = some g ∧ Good a b g) ∨ (f.1 = none ∧ HI a b f.2.2.2.1 f.2.1 f.2.2.1 ∧ d.2.2.2.1.size ≤ f.2.2.2.1.size))) ?turn2 ?fin2 ⟨SameG.refl _, rfl, m', Nat.le_refl _⟩) ?post2)
      case turn2 =>
        rintro x f st2 _ _ ⟨sg, e2, m2, h2⟩
        have sg2 : ∀ g, SameG st' (withG st2 g) := fun g => sg.trans ⟨rfl, rfl, rfl, rfl⟩
        refine w_r2 T (sg.kd.trans hk) m2 h2 fun g => ⟨fun c' o7 => ⟨sg2 g, ?_⟩, fun c' e' m3 l => ⟨sg2 g, e', m3, by omega⟩⟩
        rcases o7 with z | ⟨z1, z2, z3⟩
        · exact .inl z
        · exact .inr ⟨z1, z2, by omega⟩
      case fin2 =>
        rintro f st2 ⟨sg, e2, m2, h2⟩
        exact ⟨sg, .inr ⟨e2, m2, h2⟩⟩
      case post2 =>
        rintro f st2 ⟨sg, o7⟩
        rcases o7 with ⟨g, e2, gd⟩ | ⟨e2, m2, h2⟩
        · rw [e2]
          exact wpS_pure (hd _ _ g sg rfl gd)
        · rw [e2]
          dsimp only
          rw [setG_eq]
          exact wpS_bind (wpS_modify (wpS_pure (hy _ _ (sg.trans ⟨rfl, rfl, rfl, rfl⟩) rfl m2 (by show c.2.2.2.1.size < f.2.2.2.1.size; omega))))

theorem w_mHi {Q : Array Keyed → SortSt → Prop} (T : Two a b) (hk : kindOf st = oneType') (ha : 0 < a.size) (hb : 0 < b.size) (h : ∀ st' r, SameG st st' → Good a b r → Q r st') : wpS (model prog w) A E s (mHi a b) Q st := by
  obtain ⟨x, ex, vx⟩ := get_some (show a.size - 1 < a.size by omega)
  rw [mHi_eq]
  refine wpS_bind (wpS_lift (wpAny_rule ⟨rfl, ?_⟩))
  refine wpS_bind (w_elem ex ?_)
  have ta : a.toList.take a.size = a.toList := List.take_of_length_le (by rw [Array.length_toList]; exact Nat.le_refl _)
  have tb : b.toList.take b.size = b.toList := List.take_of_length_le (by rw [Array.length_toList]; exact Nat.le_refl _)
  have m0 : HW a b #[] a.size b.size := ⟨by rw [ta, tb]; simp, by rw [ta]; simpa using T.sa, by rw [tb]; simpa using T.sb, rfl, Nat.le_refl _, Nat.le_refl _⟩
  have m1 : HW a b #[x] (a.size - 1) b.size := m0.one T ha ex fun j y' h e => T.la _ j x y' (li ex) (by omega) e
  by_cases e : a.size - 1 = 0
  · rw [if_pos (by simpa using e)]
    exact wpS_pure (h _ _ (SameG.refl _) (m1.dn (.inl e)))
  · rw [if_neg (by simpa using e)]
    by_cases e2 : b.size = 1
    · rw [if_pos (by simpa using e2)]
      exact wpS_pure (h _ _ (SameG.refl _) (m1.fh e2 T.fb))
    · rw [if_neg (by simpa using e2)]
      refine wpS_bind (wpS_get ?_)
      refine wpS_bind (wpS_mono (wpS_forRange (I := fun x c st' => SameG st st' ∧ c.1 = none ∧ HI a b c.2.2.2.1 c.2.1 c.2.2.1 ∧ x < c.2.2.2.1.size) (Q := fun c st' => SameG st st' ∧ ∃ g, c.1 = some g ∧ Good a b g) ?turn ?fin ⟨SameG.refl _, rfl, ⟨m1, (by show 0 < a.size - 1; omega), (by show 1 < b.size; omega)⟩, (by show 0 < 1; omega)⟩) ?post)
      case turn =>
        rintro x c st' _ _ ⟨sg, e3, m, hx⟩
        exact w_r3 T (sg.kd.trans hk) m (fun st2 d g sg2 ed gd => ⟨sg.trans sg2, g, ed, gd⟩) fun st2 d sg2 ed md l => ⟨sg.trans sg2, ed, md, by omega⟩
      case fin =>
        rintro c st' ⟨sg, e3, m, hx⟩
        have h1 := m.ha
        have h2 := m.hb
        have h3 := m.n
        omega
      case post =>
        rintro c st' ⟨sg, g, e3, gd⟩
        rw [e3]
        exact wpS_pure (h _ _ sg gd)
end
end Tim

end

section
set_option maxHeartbeats 2000000
set_option maxRecDepth 100000
set_option linter.unusedVariables false
set_option linter.unusedSimpArgs false
namespace Tim
open PySem PyProof.Rows

/-! ### writing a run back -/
def wb (sa : Nat) (l : List Keyed) (n : Nat) (arr : Array Keyed) : Array Keyed := (l.zipIdx n).foldl (fun a (q : Keyed × Nat) => a.setIfInBounds (sa + q.2) q.1) arr
theorem wb_list (sa : Nat) : ∀ (l : List Keyed) (n : Nat) (arr : Array Keyed), sa + n + l.length ≤ arr.size → (wb sa l n arr).toList = arr.toList.take (sa + n) ++ l ++ arr.toList.drop (sa + n + l.length)
  | [], n, arr, _ => by simp [wb]
  | x :: l, n, arr, h => by
    have h' : sa + n + (l.length + 1) ≤ arr.size := h
    have e : wb sa (x :: l) n arr = wb sa l (n + 1) (arr.setIfInBounds (sa + n) x) := rfl
    rw [e, wb_list sa l (n + 1) _ (by rw [Array.size_setIfInBounds]; omega), Array.toList_setIfInBounds]
    have hl : sa + n < arr.toList.length := by rw [Array.length_toList]; omega
    have e1 : (arr.toList.set (sa + n) x).take (sa + (n + 1)) = arr.toList.take (sa + n) ++ [x] := by
      rw [show sa + (n + 1) = sa + n + 1 from by omega, List.take_add_one, List.take_set_of_le (Nat.le_refl _), List.getElem?_set_self hl]
      rfl
    have e2 : (arr.toList.set (sa + n) x).drop (sa + (n + 1) + l.length) = arr.toList.drop (sa + n + (l.length + 1)) := by
      rw [show sa + (n + 1) + l.length = sa + n + (l.length + 1) from by omega, List.drop_set_of_lt (by omega)]
    rw [e1, e2]
    simp

theorem mAt_eq (i : Nat) : mergeAt' i = (do
    let s ← get
    match (pendingOf s)[i]?, (pendingOf s)[i + 1]? with
    | some (sa, na, pw), some (sb, nb, _) => do
      set (setPending s (((pendingOf s).setIfInBounds i (sa, na + nb, pw)).eraseIdxIfInBounds (i + 1)))
      let key ← elem' (arrOf s) sb
      let r ← gal false key (arrOf s) sa na 0
      match r with
      | some k =>
        if (na - k == 0) = true then pure true
        else do
          let key2 ← elem' (arrOf s) (sa + k + (na - k) - 1)
          let r2 ← gal true key2 (arrOf s) sb nb (nb - 1)
          match r2 with
          | some m =>
            if (m == 0) = true then pure true
            else do
              let g ← if na - k ≤ m then mLo ((arrOf s).extract (sa + k) sb) ((arrOf s).extract sb (sb + m)) else mHi ((arrOf s).extract (sa + k) sb) ((arrOf s).extract sb (sb + m))
              modify fun s => setArr s (wb (sa + k) g.toList 0 (arrOf s))
              return (failedOf (← get)).isNone
          | _ => pure false
      | _ => pure false
    | _, _ => unsupported "internal:list.sort.pending") := by kernel_rfl

theorem seg_sub {arr : Array Keyed} {lo hi lo' hi' : Nat} (h : Seg arr lo hi) (h1 : lo ≤ lo') (h2 : hi' ≤ hi) : Seg arr lo' hi' := fun i j a b c => h i j (by omega) b (by omega)
theorem seg_app {arr : Array Keyed} {n m : Nat} (h1 : Seg arr 0 n) (h2 : Seg arr n m) (h : ∀ i j, i < n → n ≤ j → j < m → K arr i ≤ K arr j) : Seg arr 0 m := fun i j _ b c => by
  by_cases z : j < n
  · exact h1 i j (by omega) b z
  · by_cases y : i < n
    · exact h i j y (by omega) c
    · exact h2 i j (by omega) b c
theorem ext_get {arr : Array Keyed} {i j k : Nat} {x : Keyed} (h : (arr.extract i j).toList[k]? = some x) : i + k < j ∧ arr.toList[i + k]? = some x := by
  rw [ext_list2, List.getElem?_take] at h
  split at h
  · rw [List.getElem?_drop] at h
    exact ⟨by omega, h⟩
  · cases h
theorem SL_ext {arr : Array Keyed} {i j : Nat} (hj : j ≤ arr.size) (h : Seg arr i j) : SL (arr.extract i j).toList := by
  refine List.pairwise_iff_getElem.mpr fun k l hk hl hkl => ?_
  obtain ⟨a1, e1⟩ := ext_get (List.getElem?_eq_getElem hk)
  obtain ⟨a2, e2⟩ := ext_get (List.getElem?_eq_getElem hl)
  rw [← K_list e1, ← K_list e2]
  exact h _ _ (by omega) (by omega) a2
theorem Ints_ext {arr : Array Keyed} {i j : Nat} (h : Ints arr) : Ints (arr.extract i j) := fun k x e => by
  obtain ⟨_, e1⟩ := ext_get (li e)
  exact h _ _ (il e1)
theorem ints_of {a₀ arr : Array Keyed} (h0 : IntKeys a₀) (hp : arr.Perm a₀) : Ints arr := fun i x e =>
  h0 x ((Array.perm_iff_toList_perm.mp hp).mem_iff.mp (List.mem_of_getElem? (li e)))
theorem seg_all {arr : Array Keyed} (h : SL arr.toList) : Seg arr 0 arr.size := seg_of (k := 0) (by rw [List.drop_zero]; exact h)

section
variable {prog : Program} {w : World} {A : Around} {E : Value → Shared → Prop} {s : Shared} {a₀ : Array Keyed} {st : SortSt}

theorem w_set {st' : SortSt} {Q : PUnit → SortSt → Prop} (h : Q ⟨⟩ st') : wpS (model prog w) A E s (set st' : StateT SortSt Sem PUnit) Q st := by
  unfold wpS; rw [StateT.run_set]; exact wpAny_pure ⟨rfl, h⟩

theorem w_mAt {n1 pw z : Nat} {Q : Bool → SortSt → Prop} (h0 : IntKeys a₀) (hn : 0 < n1) (hn2 : n1 < a₀.size) (B : TB a₀ #[(0, n1, pw), (n1, a₀.size - n1, z)] st) (s1 : Seg (arrOf st) 0 n1) (s2 : Seg (arrOf st) n1 a₀.size)
    (h : ∀ st', TB a₀ #[(0, a₀.size, pw)] st' → Seg (arrOf st') 0 a₀.size → Q true st') : wpS (model prog w) A E s (mergeAt' 0) Q st := by
  have sz := B.size
  have I := ints_of h0 B.perm
  rw [mAt_eq]
  refine wpS_bind (wpS_get ?_)
  have e0 : (pendingOf st)[0]? = some (0, n1, pw) := by rw [B.pd]; rfl
  have e1 : (pendingOf st)[0 + 1]? = some (n1, a₀.size - n1, z) := by rw [B.pd]; rfl
  rw [e0, e1]
  dsimp only
  have ep : (((pendingOf st).setIfInBounds 0 (0, n1 + (a₀.size - n1), pw)).eraseIdxIfInBounds (0 + 1)) = #[(0, a₀.size, pw)] := by
    rw [B.pd, show n1 + (a₀.size - n1) = a₀.size from by omega]
    simp [Array.setIfInBounds, Array.eraseIdxIfInBounds]
  rw [ep]
  refine wpS_bind (w_set ?_)
  have B' : TB a₀ #[(0, a₀.size, pw)] (setPending st #[(0, a₀.size, pw)]) := ⟨B.perm, B.kd, B.ff, rfl⟩
  obtain ⟨y, ey, vy⟩ := get_some (show n1 < (arrOf st).size by omega)
  refine wpS_bind (w_elem ey (wpS_bind (w_gal B'.kd (I _ _ ey) I (by omega) hn (by rw [Nat.zero_add]; exact s1) fun k k1 k2 k3 => ?_)))
  dsimp only
  have F1 : ∀ i, i < k → K (arrOf st) i ≤ K (arrOf st) n1 := fun i hi => by
    have q := k2 i hi
    unfold Bey at q
    rw [if_neg Bool.false_ne_true, Nat.zero_add, vy] at q
    exact q
  have F2 : ∀ i, k ≤ i → i < n1 → K (arrOf st) n1 < K (arrOf st) i := fun i h1 h2 => by
    have q := k3 i h1 h2
    unfold Bey at q
    rw [if_neg Bool.false_ne_true, Nat.zero_add, vy] at q
    omega
  by_cases ek : n1 - k = 0
  · rw [if_pos (by simpa using ek)]
    refine wpS_pure (h _ B' (seg_app s1 s2 fun i j h1 h2 h3 => Int.le_trans (F1 i (by omega)) (s2 n1 j (Nat.le_refl _) h2 h3)))
  · rw [if_neg (by simpa using ek), show 0 + k + (n1 - k) - 1 = n1 - 1 from by omega]
    obtain ⟨x, ex, vx⟩ := get_some (show n1 - 1 < (arrOf st).size by omega)
    refine wpS_bind (w_elem ex (wpS_bind (w_gal B'.kd (I _ _ ex) I (by omega) (by omega) (by rw [show n1 + (a₀.size - n1) = a₀.size from by omega]; exact s2) fun m m1 m2 m3 => ?_)))
    dsimp only
    have G1 : ∀ j, n1 ≤ j → j < n1 + m → K (arrOf st) j < K (arrOf st) (n1 - 1) := fun j h1 h2 => by
      have q := m2 (j - n1) (by omega)
      unfold Bey at q
      rw [if_pos rfl, show n1 + (j - n1) = j from by omega, vx] at q
      exact q
    have G2 : ∀ j, n1 + m ≤ j → j < a₀.size → K (arrOf st) (n1 - 1) ≤ K (arrOf st) j := fun j h1 h2 => by
      have q := m3 (j - n1) (by omega) (by omega)
      unfold Bey at q
      rw [if_pos rfl, show n1 + (j - n1) = j from by omega, vx] at q
      omega
    by_cases em : m = 0
    · exfalso
      have q1 := F2 (n1 - 1) (by omega) (by omega)
      have q2 := G2 n1 (by omega) hn2
      omega
    · rw [if_neg (by simpa using em), Nat.zero_add]
      have zx : ((arrOf st).extract k n1).size = n1 - k := by rw [Array.size_extract]; omega
      have zy : ((arrOf st).extract n1 (n1 + m)).size = m := by rw [Array.size_extract]; omega
      have T : Two ((arrOf st).extract k n1) ((arrOf st).extract n1 (n1 + m)) := by
        refine ⟨Ints_ext I, Ints_ext I, fun i j x' y' e1 e2 e3 => ?_, fun i x' y' e1 e2 => ?_, SL_ext (by omega) (seg_sub s1 (by omega) (by omega)), SL_ext (by omega) (seg_sub s2 (by omega) (by omega))⟩
        · obtain ⟨_, f1⟩ := ext_get e1
          obtain ⟨a2, f2⟩ := ext_get e3
          have q := G1 (n1 + j) (by omega) a2
          rw [K_list f2, show n1 - 1 = k + i from by omega, K_list f1] at q
          omega
        · obtain ⟨a1, f1⟩ := ext_get e1
          obtain ⟨_, f2⟩ := ext_get e2
          have q := F2 (k + i) (by omega) a1
          rw [K_list f1, show n1 = n1 + 0 from rfl, K_list f2] at q
          omega
      have fin : ∀ st' r, SameG (setPending st #[(0, a₀.size, pw)]) st' → Good ((arrOf st).extract k n1) ((arrOf st).extract n1 (n1 + m)) r →
          wpS (model prog w) A E s (do
            modify fun s => setArr s (wb k r.toList 0 (arrOf s))
            return (failedOf (← get)).isNone) Q st' := fun st' r sg gd => by
        refine wpS_bind (wpS_modify (wpS_bind (wpS_get (wpS_pure ?_))))
        have ff : failedOf st' = none := sg.ff.trans B.ff
        have ar : arrOf st' = arrOf st := sg.ar
        show Q (failedOf st').isNone (setArr st' (wb k r.toList 0 (arrOf st')))
        rw [ff, ar]
        have rl : r.toList.length = n1 - k + m := by
          rw [gd.pm.length_eq, List.length_append, Array.length_toList, Array.length_toList, zx, zy]
        have el := wb_list k r.toList 0 (arrOf st) (by rw [rl]; omega)
        rw [Nat.add_zero, rl, show k + (n1 - k + m) = n1 + m from by omega] at el
        have whole : (arrOf st).toList = (arrOf st).toList.take k ++ (((arrOf st).extract k n1).toList ++ ((arrOf st).extract n1 (n1 + m)).toList) ++ (arrOf st).toList.drop (n1 + m) := by
          rw [ext_list2, ext_list2]
          have a1 : (arrOf st).toList.take n1 = (arrOf st).toList.take k ++ ((arrOf st).toList.drop k).take (n1 - k) := take_split (by omega)
          have a2 : (arrOf st).toList.take (n1 + m) = (arrOf st).toList.take n1 ++ ((arrOf st).toList.drop n1).take (n1 + m - n1) := take_split (by omega)
          rw [← List.append_assoc, ← a1, ← a2, List.take_append_drop]
        have pmw : (wb k r.toList 0 (arrOf st)).Perm (arrOf st) := by
          refine Array.perm_iff_toList_perm.mpr ?_
          rw [el]
          conv => rhs; rw [whole]
          exact (List.Perm.append_left _ gd.pm).append_right _
        refine h _ ⟨pmw.trans B.perm, sg.kd.trans B.kd, ff, sg.pd⟩ ?_
        show Seg (wb k r.toList 0 (arrOf st)) 0 a₀.size
        rw [← pmw.trans B.perm |>.size_eq]
        refine seg_all ?_
        rw [el]
        have inr : ∀ q ∈ r.toList, ∃ i, k ≤ i ∧ i < n1 + m ∧ (arrOf st).toList[i]? = some q := fun q hq => by
          rcases List.mem_append.mp (gd.pm.mem_iff.mp hq) with c | c
          · obtain ⟨i, ei⟩ := List.mem_iff_getElem?.mp c
            obtain ⟨b1, b2⟩ := ext_get ei
            exact ⟨k + i, by omega, by omega, b2⟩
          · obtain ⟨i, ei⟩ := List.mem_iff_getElem?.mp c
            obtain ⟨b1, b2⟩ := ext_get ei
            exact ⟨n1 + i, by omega, b1, b2⟩
        have low : ∀ i j, i < k → k ≤ j → j < a₀.size → K (arrOf st) i ≤ K (arrOf st) j := fun i j h1 h2 h3 => by
          by_cases c : j < n1
          · exact s1 i j (by omega) (by omega) c
          · exact Int.le_trans (F1 i h1) (s2 n1 j (Nat.le_refl _) (by omega) h3)
        have high : ∀ i j, i < n1 + m → n1 + m ≤ j → j < a₀.size → K (arrOf st) i ≤ K (arrOf st) j := fun i j h1 h2 h3 => by
          by_cases c : i < n1
          · exact Int.le_trans (s1 i (n1 - 1) (by omega) (by omega) (by omega)) (G2 j h2 h3)
          · exact s2 i j (by omega) (by omega) h3
        have lenL : (arrOf st).toList.length = a₀.size := by rw [Array.length_toList]; exact sz
        refine SL.app.mpr ⟨SL.app.mpr ⟨?_, gd.so, fun u hu v hv => ?_⟩, ?_, fun u hu v hv => ?_⟩
        · have q := SL_ext (arr := arrOf st) (i := 0) (j := k) (by omega) (seg_sub s1 (by omega) (by omega))
          rw [ext0] at q; exact q
        · obtain ⟨i, hi, ei⟩ := mem_take hu
          obtain ⟨j, j1, j2, ej⟩ := inr v hv
          rw [← K_list ei, ← K_list ej]
          exact low i j hi j1 (by omega)
        · have q := SL_ext (arr := arrOf st) (i := n1 + m) (j := (arrOf st).size) (Nat.le_refl _) (seg_sub s2 (by omega) (by omega))
          rw [ext_list] at q; exact q
        · obtain ⟨j, hj, ej⟩ := mem_drop hv
          have j2 := (List.getElem?_eq_some_iff.mp ej).1
          rw [lenL] at j2
          rw [← K_list ej]
          rcases List.mem_append.mp hu with c | c
          · obtain ⟨i, hi, ei⟩ := mem_take c
            rw [← K_list ei]
            exact low i j hi (by omega) j2
          · obtain ⟨i, i1, i2, ei⟩ := inr u c
            rw [← K_list ei]
            exact high i j i2 hj j2
      split
      · exact wpS_bind (w_mLo T B'.kd (by omega) (by omega) fin)
      · exact wpS_bind (w_mHi T B'.kd (by omega) (by omega) fin)
end
end Tim

end

section
set_option maxHeartbeats 2000000
set_option maxRecDepth 100000
set_option linter.unusedVariables false
set_option linter.unusedSimpArgs false
namespace Tim
open PySem PyProof.Rows
section
variable {prog : Program} {w : World} {A : Around} {E : Value → Shared → Prop} {s : Shared} {a₀ : Array Keyed} {st : SortSt}

theorem minrun_eq {n : Nat} (h1 : 64 ≤ n) (h2 : n < 128) : minRun' n n 0 = n / 2 + n % 2 := by
  obtain ⟨f, hf⟩ : ∃ f, n = f + 2 := ⟨n - 2, by omega⟩
  have e : minRun' (f + 1 + 1) n 0 = n / 2 + n % 2 := by
    rw [minRun'_succ, if_neg (by omega), minRun'_succ, if_pos (by omega)]
    omega
  rwa [← show n = f + 1 + 1 from by omega] at e

theorem w_runs {Q : Unit → SortSt → Prop} (h0 : IntKeys a₀) (B : TB a₀ #[] st) (h64 : 64 ≤ a₀.size) (h128 : a₀.size < 128)
    (h : ∀ st', (arrOf st').Perm a₀ → failedOf st' = none → SortedTo (arrOf st') a₀.size → Q () st') : wpS (model prog w) A E s sortRuns' Q st := by
  have fin1 : ∀ {p : Pend} {st' : SortSt}, TB a₀ p st' → Seg (arrOf st') 0 a₀.size → Q () st' := fun B' s' => h _ B'.perm B'.ff fun i j h1 h2 => s' i j (Nat.zero_le _) h1 h2
  rw [sortRuns'_eq]
  refine wpS_bind (wpS_get ?_)
  dsimp only
  simp only [B.size, minrun_eq h64 h128]
  refine wpS_bind (wpS_mono (wpS_forRange
    (I := fun x c st' => (x = 0 ∧ c = (none, 0) ∧ TB a₀ #[] st') ∨ (x = 1 ∧ ∃ n1, c = (none, n1) ∧ a₀.size / 2 + a₀.size % 2 ≤ n1 ∧ n1 ≤ a₀.size ∧ TB a₀ #[(0, n1, 0)] st' ∧ Seg (arrOf st') 0 n1) ∨
      (2 ≤ x ∧ ∃ n1 pw, c = (none, a₀.size) ∧ 0 < n1 ∧ n1 < a₀.size ∧ TB a₀ #[(0, n1, pw), (n1, a₀.size - n1, 0)] st' ∧ Seg (arrOf st') 0 n1 ∧ Seg (arrOf st') n1 a₀.size))
    (Q := fun c st' => c = (none, a₀.size) ∧ ((TB a₀ #[(0, a₀.size, 0)] st' ∧ Seg (arrOf st') 0 a₀.size) ∨
      ∃ n1 pw, 0 < n1 ∧ n1 < a₀.size ∧ TB a₀ #[(0, n1, pw), (n1, a₀.size - n1, 0)] st' ∧ Seg (arrOf st') 0 n1 ∧ Seg (arrOf st') n1 a₀.size)) ?turn ?fin (.inl ⟨rfl, rfl, B⟩)) ?post)
  case fin =>
    rintro c st' (⟨hx, _⟩ | ⟨hx, _⟩ | ⟨_, n1, pw, e, r⟩)
    · omega
    · omega
    · exact ⟨e, .inr ⟨n1, pw, r⟩⟩
  case turn =>
    rintro x c st' _ hx (⟨rfl, rfl, B1⟩ | ⟨rfl, n1, rfl, x1, x2, B1, s1⟩ | ⟨hx2, n1, pw, rfl, x1, x2, B1, s1, s2⟩)
    · dsimp only
      rw [if_neg (by omega)]
      simp only [Nat.sub_zero, Nat.zero_add]
      refine wpS_bind (w_run h0 (by omega) (by omega) B1 fun m st2 B2 m1 m2 s2 l2 => ?_)
      dsimp only
      rw [Nat.zero_add] at s2
      by_cases hlt : m < a₀.size / 2 + a₀.size % 2
      · rw [if_pos hlt]
        refine wpS_bind (wpS_lift (wpAny_rule ⟨rfl, ?_⟩))
        refine wpS_bind (w_bin (lo := 0) h0 (by omega) (by omega) B2 (by rw [Nat.zero_add]; exact s2) fun st3 B3 s3 l3 => ?_)
        rw [Nat.zero_add, show min a₀.size (a₀.size / 2 + a₀.size % 2) = a₀.size / 2 + a₀.size % 2 from by omega] at s3
        simp only [Bool.not_true, Bool.false_eq_true, if_false]
        refine wpS_bind (wpS_get ?_)
        rw [show (pendingOf st3).back? = none from by rw [B3.pd]; rfl]
        dsimp only
        refine wpS_bind (wpS_modify (wpS_pure (.inr (.inl ⟨trivial, _, rfl, by omega, by omega, ⟨B3.perm, B3.kd, B3.ff, ?_⟩, ?_⟩))))
        · show (pendingOf st3).push _ = _
          rw [B3.pd]; rfl
        · rw [show min a₀.size (a₀.size / 2 + a₀.size % 2) = a₀.size / 2 + a₀.size % 2 from by omega]; exact s3
      · rw [if_neg hlt]
        refine wpS_bind (wpS_get ?_)
        rw [show (pendingOf st2).back? = none from by rw [B2.pd]; rfl]
        dsimp only
        refine wpS_bind (wpS_modify (wpS_pure (.inr (.inl ⟨trivial, m, rfl, by omega, m2, ⟨B2.perm, B2.kd, B2.ff, ?_⟩, s2⟩))))
        show (pendingOf st2).push _ = _
        rw [B2.pd]; rfl
    · dsimp only
      by_cases hge : n1 ≥ a₀.size
      · rw [if_pos hge]
        have e : n1 = a₀.size := by omega
        subst e
        exact wpS_pure ⟨rfl, .inl ⟨B1, s1⟩⟩
      · rw [if_neg hge]
        refine wpS_bind (w_run h0 (by omega) (by omega) B1 fun m st2 B2 m1 m2 s2 l2 => ?_)
        dsimp only
        by_cases hlt : m < a₀.size / 2 + a₀.size % 2
        · rw [if_pos hlt]
          refine wpS_bind (wpS_lift (wpAny_rule ⟨rfl, ?_⟩))
          rw [show min (a₀.size - n1) (a₀.size / 2 + a₀.size % 2) = a₀.size - n1 from by omega]
          refine wpS_bind (w_bin h0 (by omega) (by omega) B2 s2 fun st3 B3 s3 l3 => ?_)
          rw [show n1 + (a₀.size - n1) = a₀.size from by omega] at s3
          simp only [Bool.not_true, Bool.false_eq_true, if_false]
          refine wpS_bind (wpS_get ?_)
          rw [show (pendingOf st3).back? = some (0, n1, 0) from by rw [B3.pd]; rfl]
          dsimp only
          refine wpS_bind (wpS_mono (wpS_forRange (I := fun _ c st4 => st4 = st3 ∧ c = (none, ())) (Q := fun c st4 => st4 = st3 ∧ c = (none, ())) ?_ (fun _ _ q => q) ⟨rfl, rfl⟩) ?_)
          · rintro x c st4 _ _ ⟨rfl, rfl⟩
            refine wpS_bind (wpS_get ?_)
            rw [if_neg (by rw [B3.pd]; simp)]
            exact wpS_pure ⟨rfl, rfl⟩
          · rintro c st4 ⟨rfl, rfl⟩
            dsimp only
            refine wpS_bind (wpS_modify (wpS_bind (wpS_modify (wpS_pure (.inr (.inr ⟨Nat.le_refl _, n1, power' a₀.size (2 * 0 + n1) (2 * 0 + n1 + n1 + (a₀.size - n1)) a₀.size, ?_, by omega, by omega, ⟨B3.perm, B3.kd, B3.ff, ?_⟩, ?_, ?_⟩))))))
            · rw [show n1 + (a₀.size - n1) = a₀.size from by omega]
            · show ((pendingOf st4).modify ((pendingOf st4).size - 1) _).push _ = _
              rw [B3.pd]; rfl
            · exact fun i j a b c => by
                show K (arrOf st4) i ≤ K (arrOf st4) j
                rw [(l3.trans l2) i (by omega), (l3.trans l2) j (by omega)]
                exact s1 i j a b c
            · exact s3
        · rw [if_neg hlt]
          have em : m = a₀.size - n1 := by omega
          subst em
          rw [show n1 + (a₀.size - n1) = a₀.size from by omega] at s2
          refine wpS_bind (wpS_get ?_)
          rw [show (pendingOf st2).back? = some (0, n1, 0) from by rw [B2.pd]; rfl]
          dsimp only
          refine wpS_bind (wpS_mono (wpS_forRange (I := fun _ c st4 => st4 = st2 ∧ c = (none, ())) (Q := fun c st4 => st4 = st2 ∧ c = (none, ())) ?_ (fun _ _ q => q) ⟨rfl, rfl⟩) ?_)
          · rintro x c st4 _ _ ⟨rfl, rfl⟩
            refine wpS_bind (wpS_get ?_)
            rw [if_neg (by rw [B2.pd]; simp)]
            exact wpS_pure ⟨rfl, rfl⟩
          · rintro c st4 ⟨rfl, rfl⟩
            dsimp only
            refine wpS_bind (wpS_modify (wpS_bind (wpS_modify (wpS_pure (.inr (.inr ⟨Nat.le_refl _, n1, power' a₀.size (2 * 0 + n1) (2 * 0 + n1 + n1 + (a₀.size - n1)) a₀.size, ?_, by omega, by omega, ⟨B2.perm, B2.kd, B2.ff, ?_⟩, ?_, ?_⟩))))))
            · rw [show n1 + (a₀.size - n1) = a₀.size from by omega]
            · show ((pendingOf st4).modify ((pendingOf st4).size - 1) _).push _ = _
              rw [B2.pd]; rfl
            · exact fun i j a b c => by
                show K (arrOf st4) i ≤ K (arrOf st4) j
                rw [l2 i (by omega), l2 j (by omega)]
                exact s1 i j a b c
            · exact s2
    · dsimp only
      rw [if_pos (Nat.le_refl _)]
      exact wpS_pure ⟨rfl, .inr ⟨n1, pw, x1, x2, B1, s1, s2⟩⟩
  case post =>
    rintro c st' ⟨rfl, hc⟩
    dsimp only
    rcases hc with ⟨B1, s1⟩ | ⟨n1, pw, x1, x2, B1, s1, s2⟩
    · refine wpS_bind (wpS_mono (wpS_forRange (I := fun _ c st4 => st4 = st' ∧ c = (none, ())) (Q := fun c st4 => st4 = st' ∧ c = (none, ())) ?_ (fun _ _ q => q) ⟨rfl, rfl⟩) ?_)
      · rintro x c st4 _ _ ⟨rfl, rfl⟩
        refine wpS_bind (wpS_get ?_)
        rw [if_pos (by rw [B1.pd]; simp)]
        exact wpS_pure ⟨rfl, rfl⟩
      · rintro c st4 ⟨rfl, rfl⟩
        exact wpS_pure (fin1 B1 s1)
    · refine wpS_bind (wpS_mono (wpS_forRange (I := fun x c st4 => c = (none, ()) ∧ ((x = 0 ∧ st4 = st') ∨ (0 < x ∧ TB a₀ #[(0, a₀.size, pw)] st4 ∧ Seg (arrOf st4) 0 a₀.size)))
        (Q := fun c st4 => c = (none, ()) ∧ TB a₀ #[(0, a₀.size, pw)] st4 ∧ Seg (arrOf st4) 0 a₀.size) ?_ ?_ ⟨rfl, .inl ⟨rfl, rfl⟩⟩) ?_)
      · rintro x c st4 _ _ ⟨rfl, ⟨rfl, rfl⟩ | ⟨hx, B4, s4⟩⟩
        · refine wpS_bind (wpS_get ?_)
          rw [if_neg (by rw [B1.pd]; simp)]
          have e2 : (pendingOf st4).size - 2 = 0 := by rw [B1.pd]; rfl
          have e3 : ∀ (c : Prop) [Decidable c], (if c then 0 - 1 else (0 : Nat)) = 0 := fun c _ => by split <;> rfl
          simp only [e2]
          rw [e3]
          refine wpS_bind (w_mAt h0 x1 x2 B1 s1 s2 fun st5 B5 s5 => ?_)
          simp only [Bool.not_true, Bool.false_eq_true, if_false]
          exact wpS_pure ⟨rfl, .inr ⟨by omega, B5, s5⟩⟩
        · refine wpS_bind (wpS_get ?_)
          rw [if_pos (by rw [B4.pd]; simp)]
          exact wpS_pure ⟨rfl, B4, s4⟩
      · rintro c st4 ⟨e, ⟨hx, _⟩ | ⟨_, r⟩⟩
        · omega
        · exact ⟨e, r⟩
      · rintro c st4 ⟨rfl, B4, s4⟩
        exact wpS_pure (fin1 B4 s4)
end
end Tim

end

section
set_option maxHeartbeats 2000000
set_option maxRecDepth 100000
set_option linter.unusedVariables false
set_option linter.unusedSimpArgs false
namespace Tim
open PySem PyProof.Rows
section
variable {prog : Program} {w : World} {A : Around} {E : Value → Shared → Prop} {s : Shared}

theorem run_pairs {vs : List Value} {ns : List Int} {arr : Array Keyed} {Q : Unit × SortSt → Shared → Prop} (hI : IntsAre vs ns) (h64 : 64 ≤ vs.length) (h128 : vs.length < 128) (hp : arr.Perm (pairsOf vs))
    (h : ∀ st', (arrOf st').Perm (pairsOf vs) → failedOf st' = none → SortedTo (arrOf st') (pairsOf vs).size → Q ((), st') s) :
    wpAny (model prog w) A (sortRuns'.run (SortSt.mk' oneType' arr #[] 7 none)) Q E s := by
  have B : TB (pairsOf vs) #[] (SortSt.mk' oneType' arr #[] 7 none) := ⟨hp, rfl, rfl, rfl⟩
  have z := w_runs (prog := prog) (w := w) (A := A) (E := E) (s := s) (Q := fun _ st' => (arrOf st').Perm (pairsOf vs) ∧ failedOf st' = none ∧ SortedTo (arrOf st') (pairsOf vs).size)
    hI.intKeys B (by rw [pairsOf_size]; exact h64) (by rw [pairsOf_size]; exact h128) fun st' a b c => ⟨a, b, c⟩
  refine wpAny_mono z (fun r s' hr => ?_) fun _ _ e => e
  obtain ⟨⟨⟩, st'⟩ := r
  obtain ⟨rfl, a, b, c⟩ := hr
  exact h st' a b c

theorem two_of {vs : List Value} (h : 64 ≤ vs.length) : ∃ x y r, vs = x :: y :: r := by
  match vs, h with
  | [], h => simp at h
  | [_], h => simp at h
  | x :: y :: r, _ => exact ⟨x, y, r, rfl⟩
theorem fits {vs : List Value} {st' : SortSt} (h128 : vs.length < 128) (hp : (arrOf st').Perm (pairsOf vs)) : ((arrOf st').map (·.2)).size ≤ sizeLine + 1 := by
  rw [Array.size_map, hp.size_eq, pairsOf_size, sizeLine_eq]; omega

/-- the heap in the midst of a sort -/
theorem mid_at {h : Heap} {a : Addr} {vs : List Value} {e : Nat} (ha : a < h.objs.size) (ho1 : (h.update a (Obj.mapSeq fun _ => #[])).get? a = some (seqObj "list" #[] e)) :
    (((h.update a (Obj.mapSeq fun _ => #[])).push (seqObj "tuple" vs.toArray 0)).push (seqObj "list" #[] 0)).get? a = some (seqObj "list" #[] e) := by
  have l1 : a < (h.update a (Obj.mapSeq fun _ => #[])).objs.size := by rw [Heap.size_update]; exact ha
  exact Heap.get?_push_of_some _ (Heap.get?_push_of_some _ ho1)

theorem w_sort {a : Addr} {vs : List Value} {ns : List Int} {n : Nat} {P : Fin → Shared → Prop} (ho : s.heap.get? a = some (seqObj "list" vs.toArray n)) (hI : IntsAre vs ns) (h64 : 64 ≤ vs.length) (h128 : vs.length < 128)
    (h : ∀ (out : Array Value) (ns' : List Int), IntsAre out.toList ns' → ns'.Perm ns → ns'.Pairwise (· ≤ ·) → P (.done (.ret .none)) { s with heap := sortedHeap s.heap a vs out }) :
    wpAny (model prog w) A (Builtin.«list.sort» ⟨[.ref a], []⟩) P E s := by
  obtain ⟨e1, ho1⟩ : ∃ e, (s.heap.update a (Obj.mapSeq fun _ => #[])).get? a = some (seqObj "list" #[] e) := ⟨_, get?_update_seq ho (fun _ => #[])⟩
  have ho6 := mid_at (vs := vs) (Heap.lt_size ho) ho1
  rw [list_sort_plain]
  refine wpAny_bind (listItems_at ho rfl (wpAny_bind (listUpdate_at ho rfl (wpAny_bind (seqEpoch_at ho1 rfl (wpAny_bind (wpAny_newTuple (wpAny_bind (wpAny_newList (wpAny_holding ?_)))))))))) 
  have n2 : ¬ vs.toArray.size < 2 := by simp; omega
  rw [if_neg n2, if_neg n2]
  have kk : keyKind' vs.toArray = pure oneType' := by
    obtain ⟨x, y, r, rfl⟩ := two_of h64
    exact keyKind_ints hI
  rw [kk]
  refine wpAny_bind (wpAny_pure (wpAny_bind (run_pairs hI h64 h128 (Array.Perm.refl _) fun st' hp hf hs => ?_)))
  dsimp only
  refine wpAny_bind (seqEpoch_at ho6 rfl (wpAny_bind (listUpdate_at ho6 rfl ?_ (hsz2 := fits h128 hp))))
  rw [hf]
  simp only [bne_self_eq_false, Bool.false_eq_true, if_false]
  obtain ⟨ns', x1, x2, x3⟩ := sorted_out hI hp hs
  exact wpAny_pure (h _ ns' x1 x2 x3)

theorem w_sortR {a : Addr} {vs : List Value} {ns : List Int} {n : Nat} {P : Fin → Shared → Prop} (ho : s.heap.get? a = some (seqObj "list" vs.toArray n)) (hI : IntsAre vs ns) (h64 : 64 ≤ vs.length) (h128 : vs.length < 128)
    (h : ∀ (out : Array Value) (ns' : List Int), IntsAre out.toList ns' → ns'.Perm ns → Ordered true ns' → P (.done (.ret .none)) { s with heap := sortedHeap s.heap a vs out }) :
    wpAny (model prog w) A (Builtin.«list.sort» ⟨[.ref a], [(Str.ofString "reverse", .bool true)]⟩) P E s := by
  obtain ⟨e1, ho1⟩ : ∃ e, (s.heap.update a (Obj.mapSeq fun _ => #[])).get? a = some (seqObj "list" #[] e) := ⟨_, get?_update_seq ho (fun _ => #[])⟩
  have ho6 := mid_at (vs := vs) (Heap.lt_size ho) ho1
  rw [list_sort_rev]
  refine wpAny_bind (listItems_at ho rfl (wpAny_bind (listUpdate_at ho rfl (wpAny_bind (seqEpoch_at ho1 rfl (wpAny_bind (wpAny_newTuple (wpAny_bind (wpAny_newList (wpAny_holding ?_))))))))))
  simp only [if_true]
  refine wpAny_bind (wpAny_rule ?_)
  have n2 : ¬ vs.toArray.size < 2 := by simp; omega
  rw [if_neg n2, if_neg n2]
  have kk : keyKind' vs.toArray = pure oneType' := by
    obtain ⟨x, y, r, rfl⟩ := two_of h64
    exact keyKind_ints hI
  rw [kk]
  have pr : (vs.toArray.zip vs.toArray).reverse.Perm (pairsOf vs) := Array.perm_iff_toList_perm.mpr (by rw [Array.toList_reverse]; exact List.reverse_perm _)
  refine wpAny_bind (wpAny_pure (wpAny_bind (run_pairs hI h64 h128 pr fun st' hp hf hs => ?_)))
  dsimp only
  refine wpAny_bind (seqEpoch_at ho6 rfl (wpAny_bind (listUpdate_at ho6 rfl ?_ (hsz2 := by rw [Array.size_reverse]; exact fits h128 hp))))
  rw [hf]
  simp only [bne_self_eq_false, Bool.false_eq_true, if_false]
  obtain ⟨ns', x1, x2, x3⟩ := sorted_out_rev hI hp hs true
  rw [if_pos rfl] at x1
  exact wpAny_pure (h _ ns' x1 x2 x3)

/-- the list that sorted makes, ahead of its sort -/
theorem mk_at (h : Heap) (vs : List Value) : ((h.push (seqObj "list" #[] 0)).update h.objs.size (Obj.mapSeq (· ++ vs.toArray))).objs.size = h.objs.size + 1 ∧
    (((h.push (seqObj "list" #[] 0)).update h.objs.size (Obj.mapSeq (· ++ vs.toArray))).push (seqObj "list" vs.toArray 0)).get? (h.objs.size + 1) = some (seqObj "list" vs.toArray 0) := by
  have z : ((h.push (seqObj "list" #[] 0)).update h.objs.size (Obj.mapSeq (· ++ vs.toArray))).objs.size = h.objs.size + 1 := by rw [Heap.size_update, size_push']
  exact ⟨z, by rw [← z]; exact Heap.get?_push_size _ rfl⟩

theorem sortedI {l : Addr} {vs : List Value} {ns : List Int} {Q : Value → Shared → Prop} (hl : s.heap.IsList l vs.toArray) (hI : IntsAre vs ns) (h128 : vs.length < 128)
    (h : ∀ (out : Array Value) (ns' : List Int), IntsAre out.toList ns' → ns'.Perm ns → ns'.Pairwise (· ≤ ·) → Q (.ref (s.heap.objs.size + 1)) { s with heap := sortedAll s.heap vs out }) :
    wpAny (model prog w) A (call (.builtin "sorted") [.ref l]) Q E s := by
  by_cases h64 : vs.length < 64
  · exact sorted_ints hl hI h64 h
  · obtain ⟨z1, z2⟩ := mk_at s.heap vs
    refine Calls.call_function_entry kind_sorted plain_sorted entry_sorted (args_sorted1 _) ?_
    unfold Builtin.«sorted»
    refine wpAny_bind (m := checkCount "sorted" 1 1 _) (wpAny_pure (wpAny_bind (collect_list hl (wpAny_bind (wpAny_newList ?_)) (by rw [sizeLine_eq]; omega))))
    rw [z1]
    refine wpAny_bind (wpAny_holding (wpAny_call_entry slot_list_sort ⟨_, z2, rfl⟩ entry_list_sort (w_sort z2 hI (by omega) h128 fun out ns' a1 a2 a3 => ⟨_, rfl, wpAny_pure ⟨_, rfl, h out ns' a1 a2 a3⟩⟩) (args_list_sort _)))

theorem sortedR {l : Addr} {vs : List Value} {ns : List Int} {Q : Value → Shared → Prop} (hl : s.heap.IsList l vs.toArray) (hI : IntsAre vs ns) (h128 : vs.length < 128)
    (h : ∀ (out : Array Value) (ns' : List Int), IntsAre out.toList ns' → ns'.Perm ns → ns'.Pairwise (· ≥ ·) → Q (.ref (s.heap.objs.size + 1)) { s with heap := sortedAll s.heap vs out }) :
    wpAny (model prog w) A (call (.builtin "sorted") [.ref l] [(Str.ofString "reverse", .bool true)]) Q E s := by
  by_cases h64 : vs.length < 64
  · exact sorted_ints_rev hl hI h64 h
  · obtain ⟨z1, z2⟩ := mk_at s.heap vs
    refine call_function_entry_kw kind_sorted plain_sorted entry_sorted (args_sorted_rev _ _) ?_
    unfold Builtin.«sorted»
    refine wpAny_bind (m := checkCount "sorted" 1 1 _) (wpAny_pure (wpAny_bind (collect_list hl (wpAny_bind (wpAny_newList ?_)) (by rw [sizeLine_eq]; omega))))
    rw [z1]
    refine wpAny_bind (wpAny_holding (wpAny_call_entry_kw slot_list_sort ⟨_, z2, rfl⟩ entry_list_sort (w_sortR z2 hI (by omega) h128 fun out ns' a1 a2 a3 => ⟨_, rfl, wpAny_pure ⟨_, rfl, h out ns' a1 a2 a3⟩⟩) (args_list_sort_rev _ _)))
end
end Tim

end

section
set_option maxHeartbeats 2000000
set_option maxRecDepth 100000
set_option linter.unusedVariables false
set_option linter.unusedSimpArgs false
namespace Tim
open PySem PyProof.Rows
theorem ext_listV {α : Type} (a : Array α) (i : Nat) : (a.extract i a.size).toList = a.toList.drop i := by
  rw [Array.toList_extract, List.extract_eq_take_drop, List.take_of_length_le]
  rw [List.length_drop, Array.length_toList]
  exact Nat.le_refl _
theorem ext_listV0 {α : Type} (a : Array α) (i : Nat) : (a.extract 0 i).toList = a.toList.take i := by
  rw [Array.toList_extract, List.extract_eq_take_drop, List.drop_zero, Nat.sub_zero]
end Tim

end

section
set_option maxHeartbeats 2000000
set_option maxRecDepth 100000
set_option linter.unusedVariables false
set_option linter.unusedSimpArgs false
namespace L2
open PySem PySem.Spec PyProof.Rows

/-! ### the cells that a comprehension takes over -/
def clFrom (env : Env) : List (Str × NameKind) → List (Str × Addr) → List (Str × Addr)
  | [], acc => acc
  | (n, k) :: r, acc => if k == .free then clFrom env r ((n, (env.cells.lookup n).getD 0) :: acc) else clFrom env r acc
def clOf (scope : Scope) (env : Env) : List (Str × Addr) := clFrom env scope.names []
theorem closure_go {env : Env} : ∀ (l : List (Str × NameKind)) (acc : List (Str × Addr)), (∀ y ∈ l, y.2 = .free → (env.cells.lookup y.1).isSome = true) →
    (forIn l acc fun x cs => if x.2 == NameKind.free then (do let c ← cellOf env x.1; pure (ForInStep.yield ((x.1, c) :: cs))) else pure (ForInStep.yield cs) : Sem (List (Str × Addr))) = pure (clFrom env l acc)
  | [], acc, _ => rfl
  | (n, k) :: r, acc, h => by
    have hr : ∀ y ∈ r, y.2 = .free → (env.cells.lookup y.1).isSome = true := fun y hy => h y (List.mem_cons_of_mem _ hy)
    rw [List.forIn_cons]
    cases hk : k == NameKind.free with
    | false =>
      simp only [hk, Bool.false_eq_true, if_false]
      show (forIn r acc _ : Sem _) = pure (clFrom env ((n, k) :: r) acc)
      rw [closure_go r acc hr]
      have e2 : clFrom env ((n, k) :: r) acc = clFrom env r acc := by
        show (if (k == .free) = true then _ else _) = _
        rw [hk]; rfl
      rw [e2]
    | true =>
      have hf : k = .free := by simpa using hk
      obtain ⟨c, hc⟩ := Option.isSome_iff_exists.mp (h (n, k) List.mem_cons_self hf)
      have ec : cellOf env n = pure c := by unfold cellOf; rw [hc]
      simp only [hk, if_true, ec]
      show (forIn r ((n, c) :: acc) _ : Sem _) = pure (clFrom env ((n, k) :: r) acc)
      rw [closure_go r _ hr]
      have e2 : clFrom env ((n, k) :: r) acc = clFrom env r ((n, (env.cells.lookup n).getD 0) :: acc) := by
        show (if (k == .free) = true then _ else _) = _
        rw [hk]; rfl
      rw [e2, hc]; rfl
theorem closure_eq {scope : Scope} {env : Env} (h : ∀ y ∈ scope.names, y.2 = .free → (env.cells.lookup y.1).isSome = true) : closureFor scope env = pure (clOf scope env) := by
  have z := closure_go scope.names [] h
  unfold closureFor
  show (forIn scope.names [] _ >>= fun cs => pure cs : Sem (List (Str × Addr))) = _
  rw [show (forIn scope.names [] _ : Sem (List (Str × Addr))) = pure (clOf scope env) from z]
  rfl
theorem mem_clFrom {env : Env} {x : Str} {c : Addr} : ∀ {l : List (Str × NameKind)} {acc : List (Str × Addr)}, (x, c) ∈ clFrom env l acc → (x, c) ∈ acc ∨ ((x, NameKind.free) ∈ l ∧ c = (env.cells.lookup x).getD 0)
  | [], acc, h => .inl h
  | (n, k) :: r, acc, h => by
    unfold clFrom at h
    split at h
    · rename_i hk
      have hf : k = .free := by simpa using hk
      rcases mem_clFrom h with z | ⟨z1, z2⟩
      · rcases List.mem_cons.mp z with e | e
        · cases e
          exact .inr ⟨by rw [hf]; exact List.mem_cons_self, rfl⟩
        · exact .inl e
      · exact .inr ⟨List.mem_cons_of_mem _ z1, z2⟩
    · rcases mem_clFrom h with z | ⟨z1, z2⟩
      · exact .inl z
      · exact .inr ⟨List.mem_cons_of_mem _ z1, z2⟩
theorem keys_clFrom {env : Env} {x : Str} : ∀ {l : List (Str × NameKind)} {acc : List (Str × Addr)}, ((x, NameKind.free) ∈ l ∨ ∃ c, (x, c) ∈ acc) → ∃ c, (x, c) ∈ clFrom env l acc
  | [], acc, h => by
    rcases h with h | h
    · simp at h
    · exact h
  | (n, k) :: r, acc, h => by
    unfold clFrom
    split
    · rename_i hk
      refine keys_clFrom ?_
      rcases h with h | ⟨c, h⟩
      · rcases List.mem_cons.mp h with e | e
        · cases e
          exact .inr ⟨_, List.mem_cons_self⟩
        · exact .inl e
      · exact .inr ⟨c, List.mem_cons_of_mem _ h⟩
    · rename_i hk
      refine keys_clFrom ?_
      rcases h with h | h
      · rcases List.mem_cons.mp h with e | e
        · cases e
          exact absurd rfl hk
        · exact .inl e
      · exact .inr h
theorem lookup_of_key {x : Str} : ∀ {l : List (Str × Addr)} {c : Addr}, (x, c) ∈ l → ∃ d, l.lookup x = some d
  | [], _, h => by simp at h
  | (n, b) :: r, c, h => by
    cases hx : x == n with
    | true => exact ⟨b, by simp [List.lookup_cons, hx]⟩
    | false =>
      rcases List.mem_cons.mp h with e | e
      · cases e
        simp at hx
      · obtain ⟨d, hd⟩ := lookup_of_key e
        exact ⟨d, by simp [List.lookup_cons, hx, hd]⟩

/-! ### the comprehension's block -/
/-- what is looked at once, by the text: the comprehension's scope -/
structure CSc (X : Cx) (own fr : List Str) (ixs : List Nat) (scope : Scope) : Prop where
  kind : scope.kind = .function
  nocell : scope.names.all (fun y => y.2 != .cell) = true
  free : scope.names.all (fun y => y.2 != .free || X.env.kindOf y.1 == some .cell || X.env.kindOf y.1 == some .free) = true
  locs : scope.names.all (fun y => y.2 != .local || scope.names.lookup y.1 == some .local) = true
  frs : ixs.map (fun i => X.N[i]?) = fr.map some
  vis : fr.all (fun x => X.env.kindOf x == some .cell || X.env.kindOf x == some .free) = true
  nofr : fr.all (fun x => scope.names.lookup x != some .local) = true
def cxC (X : Cx) (own fr : List Str) (scope : Scope) (fp : List Addr) (pins : List (Addr × Obj)) (s3 : Shared) (H3 : Hp) : Cx :=
  { X with N := own ++ fr, s₀ := s3, H₀ := H3, env := compEnvC scope (clOf scope X.env) s3.heap.objs.size X.env, outer := X.stack, stack := X.stack, ex := fp, fn := fun _ => false, pn := X.pn ++ pins, xe := fun _ _ => False }
def stC (own : List Str) (ixs : List Nat) (σ : St) : St := List.replicate own.length none ++ ixs.map fun i => (σ[i]?).join

section
variable {X : Cx} {own fr : List Str} {ixs : List Nat} {scope : Scope} {fp : List Addr} {pins : List (Addr × Obj)} {σ : St} {H : Hp} {s : Shared}

theorem relabel_mem {env : Env} {x : Str} {k : NameKind} (h : (relabel scope env).names.lookup x = some k) : (x, k) ∈ scope.names ∨ ((x, NameKind.free) ∈ scope.names ∧ k = .cell) := by
  have m := PySem.mem_of_lookup h
  obtain ⟨⟨n, k'⟩, hm, e⟩ := List.mem_map.mp (show (x, k) ∈ scope.names.map _ from m)
  dsimp only at e
  split at e
  · rename_i hc
    cases e
    have hf : k' = .free := by
      simp only [Bool.and_eq_true, beq_iff_eq] at hc
      exact hc.1.1
    subst hf
    exact .inr ⟨hm, rfl⟩
  · cases e
    exact .inl hm
theorem CSc.cellIn (S : CSc X own fr ixs scope) (ok : X.Ok) {x : Str} (h : (x, NameKind.free) ∈ scope.names) : ∃ c, X.env.cells.lookup x = some c := by
  have z := (List.all_eq_true.mp S.free) _ h
  simp only [bne_self_eq_false, Bool.false_or, Bool.or_eq_true, beq_iff_eq] at z
  exact ok.has x z
theorem CSc.hcl (S : CSc X own fr ixs scope) (ok : X.Ok) : ∀ y ∈ scope.names, y.2 = .free → (X.env.cells.lookup y.1).isSome = true := fun ⟨x, k⟩ hy hk => by
  have hk : k = .free := hk
  subst hk
  obtain ⟨c, e⟩ := S.cellIn ok hy
  rw [e]; rfl
theorem CSc.cl_lookup (S : CSc X own fr ixs scope) (ok : X.Ok) {x : Str} {c : Addr} (h : (clOf scope X.env).lookup x = some c) : X.env.cells.lookup x = some c ∧ (x, NameKind.free) ∈ scope.names := by
  rcases mem_clFrom (PySem.mem_of_lookup h) with z | ⟨z1, z2⟩
  · simp at z
  · obtain ⟨d, e⟩ := S.cellIn ok z1
    rw [e] at z2
    rw [e, z2]
    exact ⟨rfl, z1⟩
theorem CSc.cl_of (S : CSc X own fr ixs scope) {x : Str} (h : (x, NameKind.free) ∈ scope.names) : ∃ c, (clOf scope X.env).lookup x = some c := by
  obtain ⟨c, e⟩ := keys_clFrom (env := X.env) (acc := []) (.inl h)
  exact lookup_of_key e

/-- the block's state at its entry -/
theorem inv_comp {s4 : Shared} {m4 : Str → Option Value} (S : CSc X own fr ixs scope) (I : Inv X pins σ H s) (hf : ∀ b ∈ fp, FpOk X pins H b) (hlt : ∀ b ∈ fp, b < s.heap.objs.size)
    (os : s4.os = s.os) (bare : AllBare s4.gens) (kept : ∀ b o, s.heap.get? b = some o → s4.heap.get? b = some o) (ns : s4.heap.Ns s.heap.objs.size m4) :
    Inv (cxC X own fr scope fp pins s H) [] (stC own ixs σ) H s4 := by
  have C0 : H s.heap.objs.size = none := I.hok.fresh (Nat.le_refl _)
  have cne : ∀ x c, (clOf scope X.env).lookup x = some c → c ≠ s.heap.objs.size := fun x c e z => by
    obtain ⟨e1, _⟩ := S.cl_lookup I.ok e
    obtain ⟨v, q⟩ := I.cell x c e1
    exact absurd q.lt (by rw [z]; exact Nat.lt_irrefl _)
  refine ⟨⟨I.ok.mod, S.kind, I.ok.glob, I.ok.blt, Nat.le_refl _, fun x y c h1 h2 => ?_, fun x hx => ?_, fun x c h => absurd h Bool.false_ne_true, I.ok.hd, I.ok.frames, .inl rfl, fun b hb => ⟨Nat.ne_of_lt (hlt b hb), fun x c e z => ?_⟩, I.bs, Nat.le_trans I.ok.bsz I.sz, fun b o e hb => ?_, fun b hb hbs => ?_, I.stack, I.stkFree⟩,
    os, bare, Un.kept kept, ⟨m4, ns, fun i x v h1 h2 h3 => ?_⟩, fun x c e => ?_, C0, fun x c e => ?_, fun q hq => ?_, I.hok.kept kept, ?_⟩
  · exact I.ok.inj x y c (S.cl_lookup I.ok h1).1 (S.cl_lookup I.ok h2).1
  · have hx : (relabel scope X.env).names.lookup x = some .cell ∨ (relabel scope X.env).names.lookup x = some .free := hx
    have fm : (x, NameKind.free) ∈ scope.names := by
      rcases hx with hx | hx
      · rcases relabel_mem hx with z | ⟨z, _⟩
        · have q := (List.all_eq_true.mp S.nocell) _ z
          simp at q
        · exact z
      · rcases relabel_mem hx with z | ⟨z, _⟩
        · exact z
        · exact z
    exact S.cl_of fm
  · exact (hf b hb).2.2.2.2.1 x c (S.cl_lookup I.ok e).1 z
  · have f := (hf b hb).2.2.2.1
    rcases f with f | f
    · exact I.ok.noex b o e f
    · exact absurd (Nat.lt_of_lt_of_le (Heap.lt_size e) (Nat.le_trans I.ok.bsz f)) (Nat.lt_irrefl _)
  · rcases List.mem_cons.mp (I.stkSub b hbs) with z | z
    · exact (hf b hb).2.1 z
    · exact (hf b hb).2.2.1 z
  · have h1 : (own ++ fr)[i]? = some x := h1
    have h2 : (List.replicate own.length none ++ ixs.map fun i => (σ[i]?).join)[i]? = some (some v) := h2
    by_cases hi : i < own.length
    · rw [List.getElem?_append_left (by simpa using hi), List.getElem?_replicate, if_pos hi] at h2
      cases h2
    · rw [List.getElem?_append_right (by omega)] at h1
      rw [List.getElem?_append_right (by simpa using hi), List.length_replicate, List.getElem?_map] at h2
      have e3 := congrArg (fun l => l[i - own.length]?) S.frs
      simp only [List.getElem?_map, h1, Option.map_some] at e3
      cases e4 : ixs[i - own.length]? with
      | none => rw [e4] at h2; cases h2
      | some j =>
        rw [e4] at h2 e3
        simp only [Option.map_some, Option.some.injEq] at h2 e3
        have e5 : σ[j]? = some (some v) := by
          cases e6 : σ[j]? with
          | none => rw [e6] at h2; cases h2
          | some o => rw [e6] at h2; cases o with
            | none => cases h2
            | some v' => cases h2; rfl
        have vz := (List.all_eq_true.mp S.vis) x (List.mem_of_getElem? h1)
        simp only [Bool.or_eq_true, beq_iff_eq] at vz
        have vis : Vis X.env.scope x := by
          rcases vz with z | z
          · exact .inr (.inl z)
          · exact .inr (.inr z)
        obtain ⟨m, hn, hl⟩ := I.loc
        obtain ⟨u, r, lk⟩ := hl j x v e3 e5 vis
        refine ⟨u, r, ?_⟩
        rcases lk with ⟨k1, _⟩ | ⟨k1, c, e, z⟩
        · rcases vz with z | z
          · rw [z] at k1; cases k1
          · rw [z] at k1; cases k1
        · have nl := (List.all_eq_true.mp S.nofr) x (List.mem_of_getElem? h1)
          have kk : (compEnvC scope (clOf scope X.env) s.heap.objs.size X.env).kindOf x = some .cell ∨ (compEnvC scope (clOf scope X.env) s.heap.objs.size X.env).kindOf x = some .free := by
            rcases h3 with z | z | z
            · exfalso
              have z : (relabel scope X.env).names.lookup x = some .local := z
              rcases relabel_mem z with y | ⟨_, y⟩
              · have q := (List.all_eq_true.mp S.locs) _ y
                simp only [bne_self_eq_false, Bool.false_or, beq_iff_eq] at q
                rw [q] at nl
                simp at nl
              · cases y
            · exact .inl z
            · exact .inr z
          have fm : (x, NameKind.free) ∈ scope.names := by
            rcases kk with hx | hx
            · rcases relabel_mem hx with z | ⟨z, _⟩
              · have q := (List.all_eq_true.mp S.nocell) _ z
                simp at q
              · exact z
            · rcases relabel_mem hx with z | ⟨z, _⟩
              · exact z
              · exact z
          obtain ⟨c', e'⟩ := S.cl_of fm
          have ec := (S.cl_lookup I.ok e').1
          rw [e] at ec
          cases ec
          obtain ⟨oc, ho, hd⟩ := z
          exact .inr ⟨kk, c, e', ⟨oc, kept c oc ho, hd⟩⟩
  · obtain ⟨e1, _⟩ := S.cl_lookup I.ok e
    obtain ⟨v, oc, ho, hd⟩ := I.cell x c e1
    exact ⟨v, oc, kept c oc ho, hd⟩
  · exact I.freeC x c (S.cl_lookup I.ok e).1
  · have hq : q ∈ X.pn ++ pins := by simpa [cxC] using hq
    obtain ⟨a1, a2, a3, a4, a5⟩ := I.pin q hq
    refine ⟨kept _ _ a1, a2, Nat.ne_of_lt (Heap.lt_size a1), fun z => ?_, a5⟩
    rcases List.mem_cons.mp (I.stkSub _ z) with y | y
    · exact a3 y
    · exact a4 y
  · show (List.replicate own.length none ++ ixs.map fun i => (σ[i]?).join).length = (own ++ fr).length
    have e := congrArg List.length S.frs
    simp only [List.length_map] at e
    simp [e]
/-- behind the block -/
theorem Inv.block {H' : Hp} {s5 : Shared} {σ' : St} {pins' : List (Addr × Obj)} (I : Inv X pins σ H s) (hf : ∀ b ∈ fp, FpOk X pins H b) (J : Inv (cxC X own fr scope fp pins s H) pins' σ' H' s5) : Inv X pins σ H' s5 :=
  I.call' (ch := fp) J.os J.base J.hok J.bare fun b hb => ⟨(hf b hb).2.2.2.1, (hf b hb).2.1, (hf b hb).2.2.2.2.1, (hf b hb).2.2.2.2.2⟩
end
end L2

end

section
set_option maxHeartbeats 2000000
set_option maxRecDepth 100000
set_option linter.unusedVariables false
set_option linter.unusedSimpArgs false
namespace L2
open PySem PySem.Spec PyProof.Rows

/-! ### a comprehension's tests, its loop -/
def PTs (Y : Cx) (ifs : List Expr) (tc : TT) : Prop :=
  ∀ (pins : List (Addr × Obj)) (s : Shared) (σ : St) (H : Hp) (Q : Bool → Hp → Prop), Inv Y pins σ H s → tc σ H Q →
    wpAny (model Y.prog Y.w) Y.A (forIn ifs true fun c r => if r = true then do let ok ← isTrue c Y.env (eval c Y.env); pure (ForInStep.yield ok) else pure (ForInStep.yield r)) (TP Y pins σ Q) Y.xe s
def tYes : TT := fun _ H Q => Q true H
theorem pts_nil {Y : Cx} : PTs Y [] tYes := fun _ _ _ H _ I h => wpAny_tests_nil ⟨H, I, h⟩
theorem pts_one {Y : Cx} {c : Expr} {tc : TT} (h : PT Y c tc) : PTs Y [c] tc := fun pins s σ H Q I q => wpAny_tests_one (h pins s σ H Q I q)

/-- a turn of a comprehension: W by the turn, a measure, the block's names, the heap -/
def CTurn (J : It) (g : TG) (tc : TT) (te : TE) (D : Addr) (W : Nat → Nat → St → Hp → Prop) (Q : VK) : Prop :=
  ∀ i m σ' H', W i m σ' H' → (J.stop i H' ∧ Q (.ref D) H') ∨ (J.go i H' ∧ ∀ x H2, J.yld i H' x H2 → g x σ' H2 fun σ3 H3 => tc σ3 H3 fun b H4 =>
    if b = true then te σ3 H4 fun v H5 => ∃ acc, H5 D = some (.lst acc) ∧ acc.length < sizeLine ∧ ∃ m', m' < m ∧ W (i + 1) m' σ3 (upd H5 D (.lst (acc ++ [v]))) else ∃ m', m' < m ∧ W (i + 1) m' σ3 H4)

section
variable {Y : Cx} {tg elt iter : Expr} {ifs : List Expr} {scope : Scope} {pos : Pos} {it D : Addr} {fp : List Addr} {tn : Nat → Heap → Prop} {J : It} {pins : List (Addr × Obj)} {σ : St} {H : Hp} {s : Shared}
  {g : TG} {tc : TT} {te : TE} {W : Nat → Nat → St → Hp → Prop} {Q : VK}
theorem comp_loop (hc : Y.calm = true) (hx : Y.xe = fun _ _ => False) (T : Turn Y.prog Y.w Y.K tg J fp it tn) (hg : PG Y tg g) (ht : PTs Y ifs tc) (he : PE Y elt te) (I : Inv Y pins σ H s) (st : tn 0 s.heap)
    (f : ∀ b ∈ fp, FpOk Y pins H b) {m0 : Nat} (w0 : W 0 m0 σ H) (turn : CTurn J g tc te D W Q) {R : Result → Shared → Prop} (hR : ∀ s5 σ5 H5, Inv Y pins σ5 H5 s5 → Q (.ref D) H5 → R (.ok .next) s5) :
    codeAny (model Y.prog Y.w) Y.A (.compLoop (.ListComp elt [⟨tg, iter, ifs, 0⟩] scope pos) 0 (.ref it) (.ref D) Y.env) R s := by
  have stat : ∀ {H' : Hp}, (∀ b ∈ fp, H' b = none) → ∀ b ∈ fp, FpOk Y pins H' b := fun hn b hb => ⟨hn b hb, (f b hb).2⟩
  have never : ∀ {α : Type} {t : Sem α} {Q' : α → Shared → Prop} {E' : Value → Shared → Prop} {s' : Shared}, wpAny (model Y.prog Y.w) Y.A t Q' Y.xe s' → wpAny (model Y.prog Y.w) Y.A t Q' E' s' := fun h => by
    rw [hx] at h
    exact wpAny_mono h (fun _ _ z => z) fun _ _ z => z.elim
  refine codeAny_loop rfl (fun n s' => ∃ i σ' H', Inv Y pins σ' H' s' ∧ tn i s'.heap ∧ (∀ b ∈ fp, H' b = none) ∧ W i n σ' H') ?_ m0 ⟨0, σ, H, I, st, fun b hb => (f b hb).1, w0⟩
  rintro n s3 ⟨i, σ3, H3, I3, st3, fr3, w3⟩
  show wpAny _ Y.A ((compTurn (.ListComp elt [⟨tg, iter, ifs, 0⟩] scope pos) 0 (.ref it) (.ref D) Y.env).onRaise (fun x => do noteFrame x Y.env; theTreesLotGoes x)) _ _ s3
  refine wpAny_noted ?_
  rw [compTurn_list]
  refine wpAny_bind (wpAny_standAt (wpAny_bind (never ?_)))
  rcases turn i n σ3 H3 w3 with ⟨stop, qn⟩ | ⟨go, step⟩
  · refine thn (T.done Y rfl rfl rfl hc i pins s3 σ3 H3 Y.xe I3 (stat fr3) st3 stop) fun r s4 ⟨hr, I4⟩ => ?_
    subst hr
    exact wpAny_pure (hR s4 σ3 H3 I4 qn)
  · refine thn (T.item Y rfl rfl rfl hc i pins s3 σ3 H3 Y.xe I3 (stat fr3) st3 go) fun r s4 ⟨u, hr, h4⟩ => ?_
    subst hr
    refine wpAny_bind (never (thn h4 fun _ s5 ⟨x, H5, I5, r5, y5, st5, fr5⟩ => ?_))
    have I5' := I5.pinned (stat fr5) (T.obj _ _ st5)
    have back : ∀ {σ7 : St} {H7 : Hp} {s7 : Shared}, Inv Y (pins ++ pinsAt fp s5.heap) σ7 H7 s7 → ∀ {m' : Nat}, m' < n → W (i + 1) m' σ7 H7 → ∃ m, m < n ∧ ∃ i σ' H', Inv Y pins σ' H' s7 ∧ tn i s7.heap ∧ (∀ b ∈ fp, H' b = none) ∧ W i m σ' H' := fun {σ7 H7 s7} I7 {m'} hm w7 => by
      refine ⟨m', hm, i + 1, σ7, H7, I7.unpinned, T.keep _ _ _ st5 fun b hb o e => (I7.pin (b, o) (List.mem_append_right _ (List.mem_append_right _ (mem_pinsAt hb e)))).1, fun b hb => ?_, w7⟩
      obtain ⟨o, e, d⟩ := T.obj _ _ st5 b hb
      exact (I7.pin (b, o) (List.mem_append_right _ (List.mem_append_right _ (mem_pinsAt hb e)))).2.1
    refine wpAny_bind (never (thn (hg _ s5 σ3 H5 x u _ I5' r5 (step x H5 y5)) fun _ s6 ⟨σ6, H6, I6, q6⟩ => ?_))
    refine wpAny_bind (never (thn (ht _ s6 σ6 H6 _ I6 q6) fun ok s7 ⟨H7, I7, q7⟩ => ?_))
    cases ok with
    | false =>
      obtain ⟨m', hm, w7⟩ := q7
      exact wpAny_pure ⟨rfl, back I7 hm w7⟩
    | true =>
      rw [if_pos rfl] at q7
      refine wpAny_bind (wpAny_bind (never (thn (he _ s7 σ6 H7 _ I7 q7) fun v s8 ⟨y, H8, I8, r8, acc, e8, l8, m', hm, w8⟩ => ?_)))
      refine wpAny_bind (never (thn (mt_append _ s8 σ6 H8 (.ref D) [y] (.ref D) [v] (fun _ H9 => H9 = upd H8 D (.lst (acc ++ [y]))) I8 rfl (.cons r8 .nil) ⟨D, acc, y, rfl, rfl, e8, l8, rfl⟩) fun _ s9 ⟨_, H9, I9, _, e9⟩ => ?_))
      subst e9
      exact wpAny_pure (wpAny_pure ⟨rfl, back I9 hm w8⟩)
end

/-! ### the comprehension as an expression -/
/-- what the block's parts promise, wherever it stands -/
structure CBl (X : Cx) (own fr : List Str) (scope : Scope) (tg elt : Expr) (ifs : List Expr) (g : TG) (tc : TT) (te : TE) : Prop where
  tg : ∀ fp pins s3 H3, PG (cxC X own fr scope fp pins s3 H3) tg g
  ts : ∀ fp pins s3 H3, PTs (cxC X own fr scope fp pins s3 H3) ifs tc
  el : ∀ fp pins s3 H3, PE (cxC X own fr scope fp pins s3 H3) elt te
def tComp (own : List Str) (ixs : List Nat) (wi : TI) (g : TG) (tc : TT) (te : TE) : TE := fun σ H Q => wi σ H fun J H1 => ∀ D, H1 D = none →
  ∃ W : Nat → Nat → St → Hp → Prop, (∃ m, W 0 m (stC own ixs σ) (upd H1 D (.lst []))) ∧ CTurn J g tc te D W Q

section
variable {X : Cx} {own fr : List Str} {ixs : List Nat} {scope : Scope} {tg elt iter : Expr} {ifs : List Expr} {pos : Pos} {wi : TI} {g : TG} {tc : TT} {te : TE}

theorem comp_block {it : Addr} {fp : List Addr} {tn : Nat → Heap → Prop} {J : It} {pins : List (Addr × Obj)} {σ : St} {H : Hp} {s : Shared} {Q : VK} {E : Value → Shared → Prop} {RR : Value → Addr → Result → Shared → Prop} (hc : X.calm = true) (S : CSc X own fr ixs scope)
    (B : CBl X own fr scope tg elt ifs g tc te) (I : Inv X pins σ H s) (T : Turn X.prog X.w X.K tg J fp it tn) (st : tn 0 s.heap) (f : ∀ b ∈ fp, FpOk X pins H b)
    (h : ∀ D, H D = none → ∃ W : Nat → Nat → St → Hp → Prop, (∃ m, W 0 m (stC own ixs σ) (upd H D (.lst []))) ∧ CTurn J g tc te D W Q)
    (hRR : ∀ (D C : Addr) (s5 : Shared) (H5 : Hp) (m : Str → Option Value), Inv X pins σ H5 s5 → Q (.ref D) H5 → s5.heap.Ns C m → H5 C = none → C ≠ X.env.locals → X.s₀.heap.objs.size ≤ C → (∀ x c, X.env.cells.lookup x = some c → c ≠ C) → (∀ p ∈ X.pn ++ pins, p.1 ≠ C) → RR (.ref D) C (.ok .next) s5) :
    wpAny (model X.prog X.w) X.A (newList []) (fun acc s₃ => wpAny (model X.prog X.w) X.A (newFunctionEnv scope X.env.globals (clOf scope X.env) [] X.env.qual none .none (some X.env)) (fun cenv s₄ =>
      codeAny (model X.prog X.w) X.A (.compStart (.ListComp elt [⟨tg, iter, ifs, 0⟩] scope pos) 0 (.ref it) acc { cenv with scope := relabel scope X.env }) (RR acc cenv.locals) s₄) E s₃) E s := by
  have hcell : ∀ y ∈ scope.names, y.2 ≠ .cell := fun y hy z => by
    have q := (List.all_eq_true.mp S.nocell) y hy
    rw [z] at q; simp at q
  obtain ⟨W, ⟨m0, w0⟩, turn⟩ := h s.heap.objs.size I.fresh
  have I3 : Inv X pins σ (upd H s.heap.objs.size (.lst [])) { s with heap := s.heap.push { cls := .type "list", data := .seq ([] : List Value).toArray } } := I.lnew (its := []) (ys := []) (t' := s.toks) .nil (Nat.zero_le _)
  have lt0 : ∀ b ∈ fp, b < s.heap.objs.size := fun b hb => by
    obtain ⟨o, e, _⟩ := T.obj _ _ st b hb
    exact Heap.lt_size e
  have f3 : ∀ b ∈ fp, FpOk X pins (upd H s.heap.objs.size (.lst [])) b := fun b hb => ⟨by rw [upd_ne (Nat.ne_of_lt (lt0 b hb))]; exact (f b hb).1, (f b hb).2⟩
  refine wpAny_newObj_type (wpAny_newFunctionEnv hcell (fun y hy => absurd hy (by simp)) (fun h₁ ns₁ sb₁ => ?_) S.kind)
  generalize hs3 : ({ s with heap := s.heap.push { cls := .type "list", data := .seq ([] : List Value).toArray } } : Shared) = s3 at I3 ns₁ sb₁ ⊢
  have z3 : s.heap.objs.size < s3.heap.objs.size := by rw [← hs3]; show _ < (s.heap.push _).objs.size; rw [Heap.size_push]; exact Nat.lt_succ_self _
  have kept : ∀ b o, s3.heap.get? b = some o → h₁.get? b = some o := fun b o e => sb₁.extBut b o (Nat.ne_of_lt (Heap.lt_size e)) (Heap.get?_push_of_some _ e)
  have lt3 : ∀ b ∈ fp, b < s3.heap.objs.size := fun b hb => Nat.lt_trans (lt0 b hb) z3
  have st1 : tn 0 h₁ := T.keep _ _ _ st fun b hb o e => kept b o (by rw [← hs3]; exact Heap.get?_push_of_some _ e)
  have I4 : Inv (cxC X own fr scope fp pins s3 (upd H s.heap.objs.size (.lst []))) [] (stC own ixs σ) (upd H s.heap.objs.size (.lst [])) { s3 with heap := h₁, toks := s3.toks + ([] : List (Str × Value)).length } :=
    inv_comp S I3 f3 lt3 rfl I3.bare kept ns₁
  have fY : ∀ b ∈ fp, FpOk (cxC X own fr scope fp pins s3 (upd H s.heap.objs.size (.lst []))) [] (upd H s.heap.objs.size (.lst [])) b := fun b hb => by
    obtain ⟨a1, a2, a3, a4, a5, a6⟩ := f3 b hb
    refine ⟨a1, Nat.ne_of_lt (lt3 b hb), fun z => ?_, .inl hb, fun x c e => a5 x c (S.cl_lookup I.ok e).1, fun p hp => a6 p (by simpa [cxC] using hp)⟩
    rcases List.mem_cons.mp (I.stkSub b z) with y | y
    · exact a2 y
    · exact a3 y
  have loop : codeAny (model X.prog X.w) X.A (.compLoop (.ListComp elt [⟨tg, iter, ifs, 0⟩] scope pos) 0 (.ref it) (.ref s.heap.objs.size) (compEnvC scope (clOf scope X.env) s3.heap.objs.size X.env)) (RR (.ref s.heap.objs.size) s3.heap.objs.size) { s3 with heap := h₁, toks := s3.toks + ([] : List (Str × Value)).length } := by
    refine comp_loop (Y := cxC X own fr scope fp pins s3 (upd H s.heap.objs.size (.lst []))) hc rfl T (B.tg _ _ _ _) (B.ts _ _ _ _) (B.el _ _ _ _) I4 st1 fY w0 turn fun s5 σ5 H5 J5 q5 => ?_
    obtain ⟨m5, hn5, _⟩ := J5.loc
    refine hRR _ _ s5 H5 m5 (Inv.block I3 f3 J5) q5 hn5 J5.free (Nat.ne_of_gt I3.lt) I3.sz (fun x c e z => ?_) fun p hp z => ?_
    · obtain ⟨v, q⟩ := I3.cell x c e
      exact absurd q.lt (by rw [z]; exact Nat.lt_irrefl _)
    · exact absurd (Heap.lt_size (I3.pin p hp).1) (by rw [z]; exact Nat.lt_irrefl _)
  exact codeAny_compStart_list loop (T.self X.A 0 _ _ _ st1 loop)

theorem pe_comp (hc : X.calm = true) (S : CSc X own fr ixs scope) (B : CBl X own fr scope tg elt ifs g tc te) (hi : PI X tg iter wi) (hs : ∀ x, foldedSetIterable iter X.env x = pure x := by intro _; rfl) :
    PE X (.ListComp elt [⟨tg, iter, ifs, 0⟩] scope pos) (tComp own ixs wi g tc te) := by
  intro pins s σ H Q I h
  have hl : ∀ x ∈ scope.names, x.2 = .local → scope.names.lookup x.1 = some .local := fun y hy z => by
    have q := (List.all_eq_true.mp S.locs) y hy
    rw [z] at q; simpa using q
  rw [eval_ListComp]
  refine wpAny_comprehension_free (use := none) rfl hs (closure_eq (S.hcl I.ok)) S.kind hl (thn (hi pins s σ H _ I h) fun v s1 h1 => thn h1 fun itv s2 h2 => ?_)
  obtain ⟨it, fp, tn, J, H2, e, I2, T, st2, f2, q⟩ := h2
  subst e
  refine comp_block (RR := fun acc C => compPost (model X.prog X.w) X.A X.xe none (EP X pins σ Q) acc C) hc S B I2 T st2 f2 q ?_
  intro D C s5 H5 m J5 q5 hn n1 n2 n3 n4 n5
  exact ⟨m, hn, fun h' hs' => ⟨.ref D, H5, J5.turned (t' := s5.toks) (it := C) (fun b o hb e => hs'.extBut b o hb e) n1 n2 (.inr n3) n4 n5, rfl, q5⟩⟩

/-- name = [..] where the name is stored ahead of the block's own names being dropped -/
theorem ps_setC {i : Nat} {x : Str} {pos' spos : Pos} (hc : X.calm = true) (S : CSc X own fr ixs scope) (B : CBl X own fr scope tg elt ifs g tc te) (hi : PI X tg iter wi) (hN : X.N.Nodup) (hix : X.N[i]? = some x) (hx : X.env.scope.names.lookup x = some .local)
    (hsw : swapsWith (.ListComp elt [⟨tg, iter, ifs, 0⟩] scope pos) (some (.Name x pos')) spos.line X.env = pure true := by rfl) (hs : ∀ x, foldedSetIterable iter X.env x = pure x := by intro _; rfl) :
    PS X (.Assign [.Name x pos'] (.ListComp elt [⟨tg, iter, ifs, 0⟩] scope pos) spos) (tAsg (tComp own ixs wi g tc te) (gName i)) := by
  intro pins s σ H D I h
  have hl : ∀ x ∈ scope.names, x.2 = .local → scope.names.lookup x.1 = some .local := fun y hy z => by
    have q := (List.all_eq_true.mp S.locs) y hy
    rw [z] at q; simpa using q
  rw [exec_Assign_Name_used _ _ _ _ hsw]
  refine wpAny_bind (wpAny_standAt (wpAny_bind ?_))
  show wpAny _ X.A (do let _ ← comprehension (.ListComp elt [⟨tg, iter, ifs, 0⟩] scope pos) scope X.env _ (newList []) false (eval iter X.env) (some (assign (.Name x pos') X.env))) _ _ s
  refine wpAny_bind (thn (wpAny_comprehension_free (use := some (assign (.Name x pos') X.env)) (Q := fun _ s' => SP X pins D .next s') rfl hs (closure_eq (S.hcl I.ok)) S.kind hl (thn (hi pins s σ H _ I h) fun v s1 h1 => thn h1 fun itv s2 h2 => ?_)) fun _ s' q => wpAny_pure (wpAny_pure q))
  obtain ⟨it, fp, tn, J, H2, e, I2, T, st2, f2, q⟩ := h2
  subst e
  refine comp_block (RR := fun acc C => compPost (model X.prog X.w) X.A X.xe (some (assign (.Name x pos') X.env)) (fun _ s' => SP X pins D .next s') acc C) hc S B I2 T st2 f2 q ?_
  intro A5 C s5 H5 m J5 q5 hn n1 n2 n3 n4 n5
  show wpAny _ X.A (assign (.Name x pos') X.env (.ref A5)) _ _ _
  refine wpAny_assign_Name (store_ok2 J5 hN hix (.inl hx) (show RelV (.ref A5) (.ref A5) from rfl) (fun s6 J6 ⟨b, sb, hb⟩ => ?_) (.inr hx))
  have nb : C ≠ b := by
    rcases hb with z | z
    · rw [z]; exact n2
    · exact fun y => n4 x b z y.symm
  exact ⟨m, hn.sameBut sb nb, fun h' hs' => ⟨_, H5, J6.turned (t' := s6.toks) (it := C) (fun b o hb e => hs'.extBut b o hb e) n1 n2 (.inr n3) n4 n5, q5⟩⟩
end
end L2

end

section
set_option maxHeartbeats 2000000
set_option maxRecDepth 100000
set_option linter.unusedVariables false
set_option linter.unusedSimpArgs false
namespace L2
open PySem PySem.Spec PyProof.Rows

theorem vals_of {ns : List Int} : ∀ {us : List Value}, IntsAre us ns → Vals (ns.map V.int) us := by
  intro us h
  induction h with
  | nil => exact .nil
  | cons n t _ ih => exact .cons ⟨t, rfl⟩ ih

section
variable {X : Cx}
/-! ### sorted -/
def rSorted (K : PySem.W.Frag) : List V → Hp → VK → Prop := fun xs H Q => ∃ (p : Addr) (ns : List Int), xs = [.ref p] ∧ SqL K H p (ns.map V.int) ∧ ns.length < 128 ∧
  ∀ q (ms : List Int), H q = none → ms.Perm ns → ms.Pairwise (· ≤ ·) → Q (.ref q) (upd H q (.lst (ms.map V.int)))
def rSortedR (K : PySem.W.Frag) : List V → Hp → VK → Prop := fun xs H Q => ∃ (p : Addr) (ns : List Int), xs = [.ref p] ∧ SqL K H p (ns.map V.int) ∧ ns.length < 128 ∧
  ∀ q (ms : List Int), H q = none → ms.Perm ns → ms.Pairwise (· ≥ ·) → Q (.ref q) (upd H q (.lst (ms.map V.int)))
theorem laid_sorted {pins : List (Addr × Obj)} {σ : St} {H : Hp} {s : Shared} {vs : List Value} {out : Array Value} {ms : List Int} {Q : VK} (I : Inv X pins σ H s) (hm : IntsAre out.toList ms) (hz : ms.length < 128)
    (q : Q (.ref (s.heap.objs.size + 1)) (upd H (s.heap.objs.size + 1) (.lst (ms.map V.int)))) : EP X pins σ Q (.ref (s.heap.objs.size + 1)) { s with heap := sortedAll s.heap vs out } := by
  obtain ⟨e, he⟩ := sortedAll_at s.heap vs out
  refine ⟨.ref (s.heap.objs.size + 1), _, I.laid (t' := s.toks) (a := s.heap.objs.size + 1) (fun b u z => sortedAll_old z) (Nat.le_succ _) ?_, rfl, q⟩
  refine ⟨by rw [List.length_map, sizeLine_eq]; omega, out.toList, e, vals_of hm, ?_⟩
  rw [Array.toArray_toList]
  exact he
theorem call_sorted : CallR X (.builtin "sorted") (rSorted X.K) := by
  intro pins s σ H xs us Q I r h
  obtain ⟨p, ns, rfl, hq, hz, q⟩ := h
  obtain ⟨u, rfl, rx⟩ := vals1 r
  cases rx
  obtain ⟨its, rv, pl, _⟩ := I.list hq
  have hl := rv.length
  rw [List.length_map] at hl
  refine Tim.sortedI pl.isList (intsAre_of rv) (by omega) fun out ms a1 a2 a3 => laid_sorted I a1 (by rw [a2.length_eq]; exact hz) (q _ ms (I.hok.fresh (Nat.le_succ _)) a2 a3)
theorem call_sortedR {pins : List (Addr × Obj)} {σ : St} {H : Hp} {s : Shared} {xs : List V} {us : List Value} {Q : VK} (I : Inv X pins σ H s) (r : Vals xs us) (h : rSortedR X.K xs H Q) :
    wpAny (model X.prog X.w) X.A (call (.builtin "sorted") us [(Str.ofString "reverse", .bool true)]) (EP X pins σ Q) X.xe s := by
  obtain ⟨p, ns, rfl, hq, hz, q⟩ := h
  obtain ⟨u, rfl, rx⟩ := vals1 r
  cases rx
  obtain ⟨its, rv, pl, _⟩ := I.list hq
  have hl := rv.length
  rw [List.length_map] at hl
  refine Tim.sortedR pl.isList (intsAre_of rv) (by omega) fun out ms a1 a2 a3 => laid_sorted I a1 (by rw [a2.length_eq]; exact hz) (q _ ms (I.hok.fresh (Nat.le_succ _)) a2 a3)
/-- sorted(e, reverse=True) -/
theorem pe_sortedR {e : Expr} {t : TA} {p pos kp cp : Pos} {j} (hg : Gl X "sorted") (hm : X.mg "sorted" = none) (ha : PA X [e] t) (he : starEach [e] X.env = [(false, eval e X.env)] := by rfl) :
    PE X (.Call (.Name "sorted" p) [e] [⟨some "reverse", .Constant (.bool true) j cp, kp⟩] pos) (tCB (rSortedR X.K) t) := by
  intro pins s σ H Q I h
  refine wpAny_Call_Name_kw (ld_blt I hg hm boot_sorted ?_)
  refine callWith_kw (thn (ha pos pins s σ H _ I h) fun us s1 ⟨vs, H1, I1, r1, q1⟩ => ?_) (by rw [he]; rfl) (by rw [he]; rfl)
  refine kws_cons (Constant_bool (kws_nil ?_))
  exact call_sortedR I1 r1 q1

/-! ### sum, min -/
theorem call_sumL (hc : X.calm = true) : CallR X (.builtin "sum") (fun xs H Q => ∃ (p : Addr) (ns : List Int), xs = [.ref p] ∧ SqL X.K H p (ns.map V.int) ∧ Q (.int ns.sum) H) := by
  intro pins s σ H xs us Q I r h
  obtain ⟨p, ns, rfl, hq, q⟩ := h
  obtain ⟨u, rfl, rx⟩ := vals1 r
  cases rx
  obtain ⟨its, rv, pl, _⟩ := I.list hq
  have hi := intsAre_of rv
  obtain ⟨xs, hx⟩ := hi.allInts.items
  have hl' : s.heap.IsList p (intItems xs) := hx ▸ pl.isList
  refine sum_intListG (I.ok.hd hc) hl' fun h' tk t' hk => ?_
  have e1 : ns = xs.toList.map (·.1) := by
    rw [← nums_intItems, ← hx]
    exact (show numsOf its.toArray.toList = ns from hi.numsOf).symm
  have e2 : preSum (numAt xs) xs.size = ns.sum := by
    rw [preSum_eq, List.take_of_length_le (by simp), e1]
  rw [e2]
  exact ⟨.int ns.sum, H, I.kept hk, ⟨_, rfl⟩, q⟩
theorem call_minL (hc : X.calm = true) : CallR X (.builtin "min") (fun xs H Q => ∃ (p : Addr) (ns : List Int), xs = [.ref p] ∧ SqL X.K H p (ns.map V.int) ∧ ns ≠ [] ∧ ∀ M, M ∈ ns → (∀ a, a ∈ ns → M ≤ a) → Q (.int M) H) := by
  intro pins s σ H xs us Q I r h
  obtain ⟨p, ns, rfl, hq, hne, q⟩ := h
  obtain ⟨u, rfl, rx⟩ := vals1 r
  cases rx
  obtain ⟨its, rv, pl, _⟩ := I.list hq
  have hi := intsAre_of rv
  obtain ⟨m, F⟩ := I.fr
  have hn : 0 < ns.length := List.length_pos_iff.mpr hne
  obtain ⟨xs, e⟩ := hi.allInts.items
  have hns : ns = xs.toList.map (·.1) := by rw [← hi.numsOf, ← nums_intItems, ← e]
  have hsz : 0 < xs.size := by rw [hns, List.length_map, Array.length_toList] at hn; exact hn
  have hl : s.heap.IsList p (intItems xs) := e ▸ pl.isList
  refine min_intList (I.ok.hd hc) hl hsz fun v h' tk hv hk => ?_
  obtain ⟨t, rfl⟩ := intItems_at hv
  obtain ⟨h1, h2⟩ := argBest_lt (numAt xs) (xs.size - 1)
  refine ⟨.int _, H, I.kept hk, ⟨_, rfl⟩, q _ ?_ fun a ha => ?_⟩
  · rw [hns, numAt_eq]; exact getD_mem (by rw [List.length_map, Array.length_toList]; omega)
  · rw [hns] at ha
    obtain ⟨j, hj, rfl⟩ := mem_getD ha
    rw [List.length_map, Array.length_toList] at hj
    rw [← numAt_eq]; exact h2 j (by omega)

/-! ### insert -/
def rInsert : V → List V → Hp → VK → Prop := fun x vs H Q => ∃ l xs i y, x = .ref l ∧ vs = [.int i, y] ∧ H l = some (.lst xs) ∧ 0 ≤ i ∧ i < 2 ^ 62 ∧ xs.length < sizeLine ∧ Q .non (upd H l (.lst (xs.take i.toNat ++ y :: xs.drop i.toNat)))
theorem mt_insert : MtM X "list.insert" rInsert := by
  intro pins s σ H x vs v us Q I rx rv h
  obtain ⟨l, xs, i, y, rfl, rfl, hH, h1, h2, hz, q⟩ := h
  cases rx
  obtain ⟨u, u2, rfl, ⟨t, rfl⟩, ry⟩ := rv.two
  obtain ⟨z, its, n, r, hl, e⟩ := I.lstM hH
  have fit : ¬ (!Builtin.List.listFitsIndex i) = true := by
    rw [show Builtin.List.listFitsIndex i = true from fitsIndex_both (by omega) (by omega)]
    decide
  refine call_meets F.slot_list_insert ⟨_, e, rfl⟩ F.entry_list_insert (F.args_list_insert_3 _ _ _) (AutoSeq1.list_insert_list_int_val_1 l its.toArray n i t u2 fit (by rw [List.size_toArray]; omega)) ⟨e, ?_⟩
  refine ⟨.non, _, I.lset (its' := its.take i.toNat ++ u2 :: its.drop i.toNat) (ys := xs.take i.toNat ++ y :: xs.drop i.toNat) hH e ?_ ((r.take _).append (.cons ry (r.drop _))) ?_, rfl, q⟩
  · dsimp only
    rw [if_neg (by omega)]
    apply Array.ext'
    have em : its.take (min i.toNat its.length) = its.take i.toNat := by
      by_cases c : i.toNat ≤ its.length
      · rw [Nat.min_eq_left c]
      · rw [Nat.min_eq_right (by omega), List.take_of_length_le (Nat.le_refl _), List.take_of_length_le (by omega)]
    have ed : its.drop (min i.toNat its.length) = its.drop i.toNat := by
      by_cases c : i.toNat ≤ its.length
      · rw [Nat.min_eq_left c]
      · rw [Nat.min_eq_right (by omega), List.drop_of_length_le (Nat.le_refl _), List.drop_of_length_le (by omega)]
    rw [Array.toList_append, Array.toList_push, Tim.ext_listV0, Tim.ext_listV, List.size_toArray]
    show its.take _ ++ [u2] ++ its.drop _ = its.take i.toNat ++ u2 :: its.drop i.toNat
    rw [em, ed, List.append_assoc]
    rfl
  · rw [List.length_append, List.length_cons, List.length_take, List.length_drop]
    omega

/-! ### == of two lists of ints -/
def rEqL (K : PySem.W.Frag) : R2 := fun x y H Q => ∃ (p q : Addr) (ns ms : List Int), x = .ref p ∧ y = .ref q ∧ SqL K H p (ns.map V.int) ∧ SqL K H q (ms.map V.int) ∧ Q (.bl (decide (ns = ms))) H
def rNeL (K : PySem.W.Frag) : R2 := fun x y H Q => ∃ (p q : Addr) (ns ms : List Int), x = .ref p ∧ y = .ref q ∧ SqL K H p (ns.map V.int) ∧ SqL K H q (ms.map V.int) ∧ Q (.bl (!decide (ns = ms))) H
theorem op_eqL (hu : X.A.units + 64 < cLine) : OpR X (compareOp .Eq) (rEqL X.K) := by
  intro pins s σ H x y v u Q I rx ry h
  obtain ⟨p, q, ns, ms, rfl, rfl, h1, h2, k⟩ := h
  cases rx
  cases ry
  obtain ⟨its, rv, pl, _⟩ := I.list h1
  obtain ⟨its2, rv2, pl2, _⟩ := I.list h2
  exact PySem.W.eq_intsK pl.isList (intsAre_of rv) pl2.isList (intsAre_of rv2) hu ⟨.bl (decide (ns = ms)), H, I, rfl, k⟩
theorem op_neL (hu : X.A.units + 64 < cLine) : OpR X (compareOp .NotEq) (rNeL X.K) := by
  intro pins s σ H x y v u Q I rx ry h
  obtain ⟨p, q, ns, ms, rfl, rfl, h1, h2, k⟩ := h
  cases rx
  cases ry
  obtain ⟨its, rv, pl, _⟩ := I.list h1
  obtain ⟨its2, rv2, pl2, _⟩ := I.list h2
  exact PySem.W.ne_intsK pl.isList (intsAre_of rv) pl2.isList (intsAre_of rv2) hu ⟨.bl (!decide (ns = ms)), H, I, rfl, k⟩

/-! ### isinstance -/
def rIsI (K : PySem.W.Frag) : List V → Hp → VK → Prop := fun xs H Q => ∃ x T t b, xs = [x, .ty T] ∧ TyOf K H x t ∧ PySem.W.kitOne K t (.type T) = some b ∧ Q (.bl b) H
theorem call_isI : CallR X (.builtin "isinstance") (rIsI X.K) := by
  intro pins s σ H xs us Q I r h
  obtain ⟨x, T, t, b, rfl, ty, e, q⟩ := h
  obtain ⟨u, u2, rfl, ru, ru2⟩ := vals2 r
  cases ru2
  exact isinst_ok I ru ty e fun tk => ⟨.bl b, H, I.tok tk, rfl, q⟩
end
end L2

end

section
set_option maxHeartbeats 2000000
set_option maxRecDepth 100000
set_option linter.unusedVariables false
set_option linter.unusedSimpArgs false
namespace Rev
open PySem PySem.Spec PyProof.Rows
theorem nolen : typeLookup (.type "list_reverseiterator") "__len__" = pure none := by rw [typeLookup_type, builtinLookup_eq_fast]; kernel_rfl
theorem hint : typeLookup (.type "list_reverseiterator") "__length_hint__" = pure (some (.builtin "list_reverseiterator.__length_hint__")) := by rw [typeLookup_type, builtinLookup_eq_fast]; kernel_rfl
section
variable {prog : Program} {w : World} {A : Around} {E : Value → Shared → Prop} {s : Shared}
theorem len_hint {it l : Addr} {i : Int} {Q : Bool → Shared → Prop} (hit : s.heap.IsRevIter it l i) (h : Q false s) : wpAny (model prog w) A (Builtin.List.listLengthHint (.ref it)) Q E s := by
  unfold Builtin.List.listLengthHint
  refine wpAny_bind (wpAny_specialOf hit.typeIs nolen ?_)
  show wpAny _ A (specialOf (Value.ref it) (Str.ofString "__length_hint__") >>= _) _ _ _
  refine wpAny_bind (wpAny_specialOf hit.typeIs hint ?_)
  (generalize hid : ("list_reverseiterator.__length_hint__" : String) = id0; (fail_if_success (clear hid id0)); wp_delta; rw [show splitId id0 = some ("list_reverseiterator", "__length_hint__") from by subst hid; decide +kernel]; subst hid)
  refine wpAny_bind (wpAny_isInstance (b := true) hit.typeIs (by rw [isSubtype_type]; kernel_rfl) ?_)
  exact wpAny_pure h

/-- list(it), it a reversed list's iterator at its start -/
theorem call_list {it l : Addr} {items : Array Value} {Q : Value → Shared → Prop} (hh : A.handled = none) (hne : l ≠ it) (hit : s.heap.IsRevIter it l ((items.size : Int) - 1)) (hl : s.heap.IsList l items) (hz : items.size ≤ sizeLine)
    (hQ : ∀ h' tk acc c, (∀ b o, b ≠ it → s.heap.get? b = some o → h'.get? b = some o) → h'.get? s.heap.objs.size = some { cls := .type "list", data := .seq acc c } → acc = items.reverse → Q (.ref s.heap.objs.size) { s with heap := h', toks := tk }) :
    wpAny (model prog w) A (call (.type "list") [.ref it]) Q E s := by
  have ltI : it < s.heap.objs.size := let ⟨o, ho, _⟩ := hit; Heap.lt_size ho
  have ltL : l < s.heap.objs.size := let ⟨o, ho, _⟩ := hl; Heap.lt_size ho
  have W := Walks.listRev (prog := prog) (w := w) (A := A.in1.in1) (hh := hh) it l hne items
  have nS : s.heap.objs.size ∉ [it, l] := fun z => by
    rcases List.mem_cons.mp z with z | z
    · exact Nat.lt_irrefl _ (z ▸ ltI)
    · exact Nat.lt_irrefl _ ((List.mem_singleton.mp z) ▸ ltL)
  refine callType_codes (Q₁ := fun obj s₁ => obj = .ref s.heap.objs.size ∧ s₁ = { s with heap := s.heap.push { cls := .type "list", data := .seq #[] } }) F.called_list (F.typeCall_list_1 _) F.entry_list_init (code_list_new _ ⟨rfl, rfl⟩) fun obj s₁ h₁ => ?_
  obtain ⟨rfl, rfl⟩ := h₁
  have hS : (s.heap.push { cls := .type "list", data := .seq #[] }).get? s.heap.objs.size = some { cls := .type "list", data := .seq #[] } := Heap.get?_push_size _ rfl
  refine ⟨⟨_, hS, rfl⟩, F.args_list_init_2 _ _, ?_⟩
  show wpAny _ A.in1.in1 (do let old ← Builtin.List.listItems (.ref s.heap.objs.size); Builtin.List.listUpdate (.ref s.heap.objs.size) (fun _ => #[]); letGo old.toList.reverse; Builtin.List.listExtendWith (.ref s.heap.objs.size) (.ref it) .none) _ _ _
  refine wpAny_bind (listItems_at hS rfl (wpAny_bind (listUpdate_at hS rfl (wpAny_bind (wpAny_letGo ?_)))))
  have hS₂ := Heap.get?_update_self (Obj.mapSeq (fun _ => (#[] : Array Value))) hS rfl
  have oth : ∀ b o, s.heap.get? b = some o → ((s.heap.push { cls := .type "list", data := .seq #[] }).update s.heap.objs.size (Obj.mapSeq fun _ => #[])).get? b = some o := fun b o e =>
    (Heap.get?_update_other _ _ (Nat.ne_of_gt (Heap.lt_size e))).trans (Heap.get?_push_of_some _ e)
  have hit2 := hit.at fun o e => oth it o e
  have hl2 : ((s.heap.push { cls := .type "list", data := .seq #[] }).update s.heap.objs.size (Obj.mapSeq fun _ => #[])).IsList l items := hl.at fun o e => oth l o e
  generalize ((s.heap.push { cls := .type "list", data := .seq #[] }).update s.heap.objs.size (Obj.mapSeq fun _ => (#[] : Array Value))) = h2 at hS₂ oth hit2 hl2 ⊢
  unfold Builtin.List.listExtendWith
  refine wpAny_bind (wpAny_typeOf hit2.typeIs ?_)
  have h1 : Builtin.List.listSameRef (.ref s.heap.objs.size) (.ref it) = false := by simp [Builtin.List.listSameRef, Nat.ne_of_gt ltI]
  rw [if_neg (by rw [h1]; decide)]
  refine wpAny_bind (wpAny_pyIter_revIter hit2 (wpAny_bind (wpAny_holding (len_hint hit2 ?_))))
  rw [if_neg (by decide)]
  refine wpAny_pure ⟨plainId_quiet F.plain_extend_loop _, ?_⟩
  refine codeAny_extend_loopS W.toS hz _ nS _ items.size 0 _ #[] _ rfl (Nat.zero_le _) ⟨Nat.zero_le _, ?_, hl2⟩ hS₂ (ItemsOf.nil _) fun s' acc c hm hS' hacc => ?_
  · rw [show ((items.size : Int) - 1 - ((0 : Nat) : Int)) = (items.size : Int) - 1 from by omega]
    exact hit2
  · refine ⟨rfl, ?_⟩
    have z := hQ s'.heap s'.toks acc c (fun b o hb e => ?_) hS' ?_
    · have em := Moved.eq_with hm
      rw [em]
      exact z
    · refine hm.heap b o (fun zz => ?_) (oth b o e)
      rcases List.mem_cons.mp zz with y | y
      · exact Nat.lt_irrefl _ (y ▸ Heap.lt_size e)
      · exact hb (List.mem_singleton.mp y)
    · apply Array.ext
      · rw [hacc.1, Array.size_reverse]
      · intro j h1 h2
        have a1 : items[items.size - 1 - j]? = some acc[j] := hacc.2 j acc[j] (getElem?_pos acc j h1)
        have hj : j < items.size := by rw [← hacc.1]; exact h1
        rw [getElem?_pos items (items.size - 1 - j) (by omega)] at a1
        rw [Array.getElem_reverse]
        exact (Option.some.inj a1).symm
end
end Rev

namespace L2
open PySem PySem.Spec PyProof.Rows
section
variable {X : Cx}
/-- list(reversed(e)) -/
def rRev (K : PySem.W.Frag) : List V → Hp → VK → Prop := fun xs H Q => ∃ p ys, xs = [.ref p] ∧ SqL K H p ys ∧ ∀ q, H q = none → Q (.ref q) (upd H q (.lst ys.reverse))
theorem pe_listrev {e : Expr} {t : TA} {p1 p2 pos1 pos2 : Pos} (hc : X.calm = true) (hg : Gl X "list") (hm : X.mg "list" = none) (hg2 : Gl X "reversed") (hm2 : X.mg "reversed" = none) (hvl : bootBuiltins "list" = some (.type "list")) (ha : PA X [e] t)
    (he : starEach [e] X.env = [(false, eval e X.env)] := by rfl) (he2 : starEach [.Call (.Name "reversed" p2) [e] [] pos2] X.env = [(false, eval (.Call (.Name "reversed" p2) [e] [] pos2) X.env)] := by rfl) :
    PE X (.Call (.Name "list" p1) [.Call (.Name "reversed" p2) [e] [] pos2] [] pos1) (tCB (rRev X.K) t) := by
  intro pins s σ H Q I h
  refine wpAny_Call_Name_kw (ld_blt I hg hm hvl ?_)
  refine PyProof.Rows.callWith_type1 ?_ he2 (by rfl)
  rw [he2]
  show wpAny _ _ (spliced ((false, eval (.Call (.Name "reversed" p2) [e] [] pos2) X.env) :: [])) _ _ s
  refine Calls.spliced_cons ?_
  refine wpAny_Call_Name_kw (ld_blt I hg2 hm2 boot_reversed ?_)
  refine PyProof.Rows.callWith_type1 (thn (ha pos2 pins s σ H _ I h) fun us s1 ⟨vs, H1, I1, r1, q1⟩ => ?_) he (by rfl)
  obtain ⟨p, ys, rfl, hq, q⟩ := q1
  obtain ⟨u, rfl, rx⟩ := vals1 r1
  cases rx
  obtain ⟨its, rv, pl, hz⟩ := I1.list hq
  refine call_reversed_list pl.isList (Calls.spliced_nil ?_)
  have I2 : Inv X pins σ H1 { s1 with heap := s1.heap.push (revObj p ((its.toArray.size : Int) - 1)) } := I1.kept (t' := s1.toks) fun b u z => Heap.get?_push_of_some _ z
  have ltp : p < s1.heap.objs.size := by
    obtain ⟨o, ho, _⟩ := pl.isList
    exact Heap.lt_size ho
  have sz : (s1.heap.push (revObj p ((its.toArray.size : Int) - 1))).objs.size = s1.heap.objs.size + 1 := size_push' _ _
  refine Rev.call_list (it := s1.heap.objs.size) (l := p) (items := its.toArray) (I.ok.hd hc) (Nat.ne_of_lt ltp) ⟨_, Heap.get?_push_size _ rfl, rfl, rfl⟩ (pl.isList.at fun o z => Heap.get?_push_of_some _ z) (by rw [List.size_toArray, ← rv.length]; exact hz) fun h' tk acc c kp e1 e2 => ?_
  subst e2
  have FP := I1.fpOk (H' := H1) (b := s1.heap.objs.size) (Nat.le_refl _) I1.fresh
  have nI : ∀ b, b = s1.heap.objs.size → H1 b = none := fun b z => by rw [z]; exact I1.fresh
  -- the iterator has turned, then a new list is laid
  have e1' : h'.get? (s1.heap.objs.size + 1) = some { cls := .type "list", data := .seq its.reverse.toArray c } := by
    rw [← sz, show its.reverse.toArray = its.toArray.reverse from by simp]; exact e1
  show EP X pins σ Q (.ref (s1.heap.push (revObj p ((its.toArray.size : Int) - 1))).objs.size) _
  rw [sz]
  have fresh2 : H1 (s1.heap.objs.size + 1) = none := I1.hok.fresh (Nat.le_succ _)
  refine ⟨.ref (s1.heap.objs.size + 1), upd H1 (s1.heap.objs.size + 1) (.lst ys.reverse), I1.laid (t' := tk) (a := s1.heap.objs.size + 1) (fun b u z => ?_) (Nat.le_succ _) ?_, rfl, q _ fresh2⟩
  · exact kp b u (Nat.ne_of_lt (Heap.lt_size z)) (Heap.get?_push_of_some _ z)
  · exact ⟨by rw [List.length_reverse]; exact hz, its.reverse, c, rv.reverse, e1'⟩
end
end L2

end

section
set_option maxHeartbeats 2000000
set_option maxRecDepth 100000
set_option linter.unusedVariables false
set_option linter.unusedSimpArgs false
namespace L2
open PySem PySem.Spec PyProof.Rows

/-! ### a def of the text that keeps a promise; a call of it -/
def Dfn (K : PySem.W.Frag) (mg : Str → Option Value) (x : Str) (st : Stmt) (ps : List Str) : Prop := ∃ (f : Addr) (fd : FuncData), Fun K x x st f fd ∧ mg x = some (.ref f) ∧ Binds K fd ps []
def OkD (P : Program) (w : World) (K : PySem.W.Frag) (mg : Str → Option Value) (base : Heap) (k : Nat) (x : Str) (ps : List Str) (sp : Sp) : Prop :=
  ∃ (f : Addr) (fd : FuncData), mg x = some (.ref f) ∧ PySem.W.keepIn K (.ref f) = true ∧ Binds K fd ps [] ∧ FnOk P w K mg base CX0 k f fd ps sp
theorem OkD.imp {P : Program} {w : World} {K : PySem.W.Frag} {mg : Str → Option Value} {base : Heap} {k : Nat} {x : Str} {ps : List Str} {sp sp' : Sp} (D : OkD P w K mg base k x ps sp) (h : ∀ vs H Q E, sp' vs H Q E → sp vs H Q E) : OkD P w K mg base k x ps sp' := by
  obtain ⟨f, fd, a, b, c, G⟩ := D
  exact ⟨f, fd, a, b, c, G.imp h⟩
section
variable {X : Cx} {x : Str} {p pos : Pos} {e : Expr} {es : List Expr} {t : TA} {k : Nat} {ps : List Str} {sp : Sp}
theorem pe_callD (D : OkD X.prog X.w X.K X.mg X.base k x ps sp) (hr : Room k X.A) (hg : Gl X x) (ha : PA X (e :: es) t) (hdb : (x == ("__debug__" : Str)) = false := by decide)
    (he : starEach (e :: es) X.env = (false, eval e X.env) :: starEach es X.env := by rfl) (hpl : (backTo pos (starEach es X.env)).any (·.1) = false := by rfl) : PE X (.Call (.Name x p) (e :: es) [] pos) (tCall sp [] E0 t) := by
  obtain ⟨f, fd, hm, hk, hb, G⟩ := D
  exact pe_call G hr hg hm hk hb .nil pass0 ha hdb he hpl
end
/-! ### the same rules with the written part named (a comprehension's block) -/
section
variable {X : Cx} {K : PySem.W.Frag}
theorem ix_listK (e : X.K = K) : IxR X (rIxL K) := by subst e; exact ix_list
theorem call_lenK (e : X.K = K) : CallR X (.builtin "len") (fun xs H Q => ∃ p ys, xs = [.ref p] ∧ (SqL K H p ys ∨ SqT K H p ys) ∧ Q (.int ys.length) H) := by subst e; exact call_len_seq
end
/-- an argument that is a list display -/
theorem pa_consL {X : Cx} {l : List Expr} {q : Pos} {es : List Expr} {te : TE} {t : TA} (ha : PE X (.List l q) te) (hr : PA X es t) : PA X (.List l q :: es) (tCons te t) := pa_cons ha hr rfl
/-- the rule for a def -/
theorem Dfn.ok {P : Program} {w : World} {K : PySem.W.Frag} {mg : Str → Option Value} {base : Heap} {x : Str} {st : Stmt} {N ps : List Str} {k : Nat} {sp : Sp} (D : Dfn K mg x st ps) (S : FnScope N ps (defScope st)) (len : ∀ vs H Q E, sp vs H Q E → vs.length = ps.length)
    (hbody : ∀ (f : Addr) (cdv : Value) (A : Around) (outer : List Env) (s : Shared) (H : Hp) (vs : List V) (Q : VK) (E : XK), Room k (A.deeper (envOfC x (defScope st) s.heap.objs.size f cdv)) → sp vs H Q E →
      ∃ t, PSs (cxOf CX0 P w K mg base N x (defScope st) f cdv A outer s H E).nox (defBody st) t ∧ t { nx := fun _ H' => Q .non H', rt := Q } (start N vs) H) : OkD P w K mg base (k + 1) x ps sp := by
  obtain ⟨f, fd, F, hm, hb⟩ := D
  exact ⟨f, fd, hm, F.kp, hb, F.ok S len fun cdv A outer s H vs Q E hr h => hbody f cdv A outer s H vs Q E hr h⟩

/-! ### lists of ints that are read; heaps that only grow -/
abbrev IL (K : PySem.W.Frag) (H : Hp) (a : Addr) (ns : List Int) : Prop := SqL K H a (ns.map V.int)
theorem Same.put {H : Hp} {p : Addr} {o : HO} (h : H p = none) : Same H (upd H p o) := fun b u e => by rw [upd_ne (ne_of_none e h)]; exact e
theorem Same.put' {H H' : Hp} {p : Addr} {o : HO} (e : Same H H') (h : H' p = none) : Same H (upd H' p o) := e.trans (Same.put h)
theorem SqL.put {K : PySem.W.Frag} {H : Hp} {a p : Addr} {xs : List V} {o : HO} (h : SqL K H a xs) (hp : H p = none) : SqL K (upd H p o) a xs := (Same.put hp).seq h

/-! ### a comprehension over a list or a range whose parts change nothing -/
section
variable {K : PySem.W.Frag} {g : TG} {tc : TT} {te : TE} {D : Addr} {H : Hp} {Q : VK} {σ0 : St}
theorem filter_take_succ {α : Type} (p : α → Bool) (l : List α) (i : Nat) (v : α) (h : l[i]? = some v) : (l.take (i + 1)).filter p = (l.take i).filter p ++ (if p v then [v] else []) := by
  rw [List.take_add_one, h, List.filter_append]
  cases hp : p v <;> simp [hp]
/-- any iterator that yields the items xs and changes nothing -/
theorem comp_pure {J : It} (xs : List V) (p : V → Bool) (f : V → V) (fr : St) (hn : xs.length < sizeLine)
    (hgo : ∀ i H', i < xs.length → Same H H' → J.go i H') (hst : ∀ H', Same H H' → J.stop xs.length H') (hy : ∀ i H' x H2, Same H H' → i < xs.length → J.yld i H' x H2 → H2 = H' ∧ xs[i]? = some x)
    (hD : H D = none) (hg : ∀ x o H' Q', Q' (some x :: fr) H' → g x (o :: fr) H' Q')
    (hc : ∀ x ∈ xs, ∀ H' Q', Same H H' → Q' (p x) H' → tc (some x :: fr) H' Q') (he : ∀ x ∈ xs, p x = true → ∀ H' Q', Same H H' → Q' (f x) H' → te (some x :: fr) H' Q')
    (hQ : Q (.ref D) (upd H D (.lst ((xs.filter p).map f)))) :
    ∃ W : Nat → Nat → St → Hp → Prop, (∃ m, W 0 m (none :: fr) (upd H D (.lst []))) ∧ CTurn J g tc te D W Q := by
  refine ⟨fun i m σ' H' => m = xs.length - i ∧ i ≤ xs.length ∧ (∃ o, σ' = o :: fr) ∧ H' = upd H D (.lst (((xs.take i).filter p).map f)), ⟨xs.length, by simp, Nat.zero_le _, ⟨_, rfl⟩, by simp⟩, ?_⟩
  rintro i m σ' H' ⟨rfl, hi, ⟨o, rfl⟩, rfl⟩
  have sm : ∀ l, Same H (upd H D (.lst l)) := fun l => Same.put hD
  by_cases hlt : i < xs.length
  · refine .inr ⟨hgo i _ hlt (sm _), fun x H2 y => ?_⟩
    obtain ⟨e, ex⟩ := hy i _ x H2 (sm _) hlt y
    subst e
    have hx : x ∈ xs := List.mem_of_getElem? ex
    refine hg x o _ _ (hc x hx _ _ (sm _) ?_)
    have ft := filter_take_succ p xs i x ex
    have lf : ((xs.take i).filter p).length ≤ xs.length := Nat.le_trans (List.length_filter_le _ _) (by rw [List.length_take]; omega)
    cases hp : p x with
    | true =>
      rw [if_pos rfl]
      refine he x hx hp _ _ (sm _) ⟨_, upd_same, by rw [List.length_map]; omega, xs.length - (i + 1), by omega, rfl, hlt, ⟨_, rfl⟩, ?_⟩
      rw [upd_upd, ft, hp]
      simp
    | false =>
      rw [if_neg Bool.false_ne_true]
      refine ⟨xs.length - (i + 1), by omega, rfl, hlt, ⟨_, rfl⟩, ?_⟩
      rw [ft, hp]
      simp
  · have e : i = xs.length := by omega
    subst e
    refine .inl ⟨hst _ (sm _), ?_⟩
    rw [List.take_of_length_le (Nat.le_refl _)]
    exact hQ
theorem comp_list {a : Addr} (xs : List V) (p : V → Bool) (f : V → V) (fr : St) (hn : xs.length < sizeLine) (ha : SqL K H a xs) (hD : H D = none)
    (hc : ∀ x ∈ xs, ∀ H' Q', Same H H' → Q' (p x) H' → tc (some x :: fr) H' Q') (he : ∀ x ∈ xs, p x = true → ∀ H' Q', Same H H' → Q' (f x) H' → te (some x :: fr) H' Q')
    (hQ : Q (.ref D) (upd H D (.lst ((xs.filter p).map f)))) : ∃ W : Nat → Nat → St → Hp → Prop, (∃ m, W 0 m (none :: fr) (upd H D (.lst []))) ∧ CTurn (Itl K a) (gName 0) tc te D W Q :=
  comp_pure xs p f fr hn (fun i H' hi s => ⟨xs, xs[i], s.seq ha, by simp [hi]⟩) (fun H' s => ⟨xs, s.seq ha, Nat.le_refl _⟩) (fun i H' x H2 s hi ⟨e, y⟩ => ⟨e, y xs (s.seq ha)⟩) hD (fun _ _ _ _ h => h) hc he hQ
theorem comp_range {lo : Int} (n : Nat) (p : V → Bool) (f : V → V) (fr : St) (hn : n < sizeLine) (hD : H D = none)
    (hc : ∀ i, i < n → ∀ H' Q', Same H H' → Q' (p (.int (lo + (i : Nat)))) H' → tc (some (.int (lo + (i : Nat))) :: fr) H' Q') (he : ∀ i, i < n → p (.int (lo + (i : Nat))) = true → ∀ H' Q', Same H H' → Q' (f (.int (lo + (i : Nat)))) H' → te (some (.int (lo + (i : Nat))) :: fr) H' Q')
    (hQ : Q (.ref D) (upd H D (.lst ((((List.range n).map fun (i : Nat) => V.int (lo + (i : Nat))).filter p).map f)))) : ∃ W : Nat → Nat → St → Hp → Prop, (∃ m, W 0 m (none :: fr) (upd H D (.lst []))) ∧ CTurn (Itr lo n) (gName 0) tc te D W Q := by
  have mem : ∀ x ∈ ((List.range n).map fun (i : Nat) => V.int (lo + (i : Nat))), ∃ i, i < n ∧ x = .int (lo + (i : Nat)) := fun x hx => by
    obtain ⟨i, hi, e⟩ := List.mem_map.mp hx
    exact ⟨i, List.mem_range.mp hi, e.symm⟩
  refine comp_pure ((List.range n).map fun (i : Nat) => V.int (lo + (i : Nat))) p f fr (by simpa using hn) (fun i H' hi s => by simpa [Itr] using hi) (fun H' s => by simp [Itr]) (fun i H' x H2 s hi ⟨e, y⟩ => ⟨e, ?_⟩) hD (fun _ _ _ _ h => h) (fun x hx H' Q' s q => ?_) (fun x hx hp H' Q' s q => ?_) hQ
  · rw [y]
    have hi' : i < n := by simpa using hi
    simp [hi']
  · obtain ⟨i, hi, rfl⟩ := mem x hx
    exact hc i hi H' Q' s q
  · obtain ⟨i, hi, rfl⟩ := mem x hx
    exact he i hi hp H' Q' s q
end
end L2

end

section
set_option maxHeartbeats 2000000
set_option maxRecDepth 100000
set_option linter.unusedVariables false
set_option linter.unusedSimpArgs false
namespace L2
open PySem PySem.Spec PyProof.Rows
/-! ### ints as values -/
def lP (q : Int → Bool) : V → Bool
  | .int i => q i
  | _ => false
def lF (g : Int → Int) : V → V
  | .int i => .int (g i)
  | v => v
theorem lift_list (q : Int → Bool) (g : Int → Int) : ∀ xs : List Int, ((xs.map V.int).filter (lP q)).map (lF g) = ((xs.filter q).map g).map V.int
  | [] => rfl
  | x :: r => by
    have ih := lift_list q g r
    rw [List.map_cons, List.filter_cons, List.filter_cons]
    show (if q x = true then _ else _ : List V).map (lF g) = _
    cases q x with
    | true => simp only [if_true, List.map_cons]; rw [ih]; rfl
    | false => simp only [Bool.false_eq_true, if_false]; exact ih
theorem at_int {ns : List Int} {i : Int} (h0 : 0 ≤ i) (h1 : i < ns.length) : atI (ns.map V.int) i = some (.int (ns.getD i.toNat 0)) := by
  have hl : i.toNat < ns.length := by omega
  have e : (ns.map V.int)[i.toNat]? = some (.int (ns.getD i.toNat 0)) := by
    rw [List.getElem?_map, List.getElem?_eq_getElem hl]
    simp [List.getD, hl]
  have z := atI_nat e
  rwa [Int.toNat_of_nonneg h0] at z
section
variable {K : PySem.W.Frag} {tc : TT} {te : TE} {D : Addr} {H : Hp} {Q : VK}
theorem comp_listI {a : Addr} (xs : List Int) (q : Int → Bool) (g : Int → Int) (fr : St) (hn : xs.length < sizeLine) (ha : IL K H a xs) (hD : H D = none)
    (hc : ∀ x ∈ xs, ∀ H' Q', Same H H' → Q' (q x) H' → tc (some (.int x) :: fr) H' Q') (he : ∀ x ∈ xs, q x = true → ∀ H' Q', Same H H' → Q' (.int (g x)) H' → te (some (.int x) :: fr) H' Q')
    (hQ : Q (.ref D) (upd H D (.lst (((xs.filter q).map g).map V.int)))) : ∃ W : Nat → Nat → St → Hp → Prop, (∃ m, W 0 m (none :: fr) (upd H D (.lst []))) ∧ CTurn (Itl K a) (gName 0) tc te D W Q := by
  refine comp_list (xs.map V.int) (lP q) (lF g) fr (by simpa using hn) ha hD (fun x hx H' Q' s k => ?_) (fun x hx hp H' Q' s k => ?_) (by rw [lift_list]; exact hQ)
  · obtain ⟨i, hi, rfl⟩ := List.mem_map.mp hx
    exact hc i hi H' Q' s k
  · obtain ⟨i, hi, rfl⟩ := List.mem_map.mp hx
    exact he i hi hp H' Q' s k
theorem comp_rangeI {lo : Int} (n : Nat) (q : Int → Bool) (g : Int → Int) (fr : St) (hn : n < sizeLine) (hD : H D = none)
    (hc : ∀ i : Int, lo ≤ i → i < lo + n → ∀ H' Q', Same H H' → Q' (q i) H' → tc (some (.int i) :: fr) H' Q') (he : ∀ i : Int, lo ≤ i → i < lo + n → q i = true → ∀ H' Q', Same H H' → Q' (.int (g i)) H' → te (some (.int i) :: fr) H' Q')
    (hQ : Q (.ref D) (upd H D (.lst (((((List.range n).map fun (i : Nat) => lo + (i : Int)).filter q).map g).map V.int)))) : ∃ W : Nat → Nat → St → Hp → Prop, (∃ m, W 0 m (none :: fr) (upd H D (.lst []))) ∧ CTurn (Itr lo n) (gName 0) tc te D W Q := by
  refine comp_range n (lP q) (lF g) fr hn hD (fun i hi H' Q' s k => hc _ (by omega) (by omega) H' Q' s k) (fun i hi hp H' Q' s k => he _ (by omega) (by omega) hp H' Q' s k) ?_
  have e : ((List.range n).map fun (i : Nat) => V.int (lo + (i : Nat))) = ((List.range n).map fun (i : Nat) => lo + (i : Int)).map V.int := by rw [List.map_map]; rfl
  rw [e, lift_list]
  exact hQ
end
/-! ### sums -/
theorem sum_app (a b : List Int) : (a ++ b).sum = a.sum + b.sum := by rw [List.sum_append]
theorem sum_perm {a b : List Int} (h : a.Perm b) : a.sum = b.sum := by
  induction h with
  | nil => rfl
  | cons x _ ih => rw [List.sum_cons, List.sum_cons, ih]
  | swap x y l => simp only [List.sum_cons]; omega
  | trans _ _ i1 i2 => exact i1.trans i2
theorem sum_ge_len : ∀ {l : List Int}, (∀ x ∈ l, 1 ≤ x) → (l.length : Int) ≤ l.sum
  | [], _ => by simp
  | x :: r, h => by
    have := sum_ge_len (l := r) fun y hy => h y (List.mem_cons_of_mem _ hy)
    have := h x List.mem_cons_self
    rw [List.sum_cons, List.length_cons]; omega
theorem sum_ge_mem : ∀ {l : List Int} {x : Int}, (∀ y ∈ l, 0 ≤ y) → x ∈ l → x ≤ l.sum
  | [], x, _, h => by simp at h
  | y :: r, x, h, hx => by
    have h0 := h y List.mem_cons_self
    have hr : ∀ z ∈ r, 0 ≤ z := fun z hz => h z (List.mem_cons_of_mem _ hz)
    have hs : 0 ≤ r.sum := by
      clear h hx h0
      induction r with
      | nil => simp
      | cons z r ih =>
        have := hr z List.mem_cons_self
        have := ih fun a ha => hr a (List.mem_cons_of_mem _ ha)
        rw [List.sum_cons]; omega
    rw [List.sum_cons]
    rcases List.mem_cons.mp hx with e | e
    · omega
    · have := sum_ge_mem hr e; omega
theorem sum_add1 : ∀ l : List Int, (l.map (· + 1)).sum = l.sum + l.length
  | [] => by simp
  | x :: r => by rw [List.map_cons, List.sum_cons, List.sum_cons, sum_add1 r, List.length_cons]; omega
theorem sum_rep (n : Nat) : (List.replicate n (1 : Int)).sum = n := by
  induction n with
  | zero => rfl
  | succ n ih => rw [List.replicate_succ, List.sum_cons, ih]; omega
/-! ### settings -/
structure Setting (n : Int) (ps : List Int) : Prop where
  ord : ps.Pairwise (· ≥ ·)
  pos : ∀ x ∈ ps, 1 ≤ x
  sum : ps.sum = n
theorem Setting.len {n : Int} {ps : List Int} (h : Setting n ps) : (ps.length : Int) ≤ n := by rw [← h.sum]; exact sum_ge_len h.pos
theorem Setting.ne {n : Int} {ps : List Int} (h : Setting n ps) (hn : 1 ≤ n) : 0 < ps.length := by
  cases ps with
  | nil => have := h.sum; simp at this; omega
  | cons => simp
theorem Setting.le {n : Int} {ps : List Int} (h : Setting n ps) {x : Int} (hx : x ∈ ps) : x ≤ n := by
  rw [← h.sum]; exact sum_ge_mem (fun y hy => by have := h.pos y hy; omega) hx
theorem Setting.of_perm {n : Int} {ps qs : List Int} (h1 : qs.Perm ps) (h2 : qs.Pairwise (· ≥ ·)) (h3 : ∀ x ∈ ps, 1 ≤ x) (h4 : ps.sum = n) : Setting n qs :=
  ⟨h2, fun x hx => h3 x (h1.mem_iff.mp hx), (sum_perm h1).trans h4⟩
theorem getD_mem' {l : List Int} {i : Nat} (h : i < l.length) : l.getD i 0 ∈ l := by
  rw [List.getD_eq_getElem?_getD, List.getElem?_eq_getElem h]; exact List.getElem_mem h
/-- an elder: one pile laid out again -/
theorem Setting.elder {n : Int} {ps : List Int} {at' : Nat} (h : Setting n ps) (ha : at' < ps.length) (hb : (ps.length : Int) - 1 ≤ ps.getD at' 0) :
    Setting n ((ps.take at' ++ ps.drop (at' + 1)).map (· + 1) ++ List.replicate (ps.getD at' 0 - ((ps.take at' ++ ps.drop (at' + 1)).map (· + 1)).length).toNat 1) := by
  have el : ((ps.take at' ++ ps.drop (at' + 1)).map (· + 1)).length = ps.length - 1 := by
    rw [List.length_map, List.length_append, List.length_take, List.length_drop]; omega
  have sub : (ps.take at' ++ ps.drop (at' + 1)).Sublist ps := by
    conv => rhs; rw [← List.take_append_drop at' ps]
    exact List.Sublist.append (List.Sublist.refl _) (List.drop_sublist_drop_left ps (Nat.le_succ at'))
  have two : ∀ x ∈ (ps.take at' ++ ps.drop (at' + 1)).map (· + 1), 2 ≤ x := fun x hx => by
    obtain ⟨y, hy, rfl⟩ := List.mem_map.mp hx
    have := h.pos y (sub.subset hy)
    omega
  refine ⟨?_, fun x hx => ?_, ?_⟩
  · refine List.pairwise_append.mpr ⟨?_, ?_, fun x hx y hy => ?_⟩
    · exact (h.ord.sublist sub).map _ fun a b z => by show a + 1 ≥ b + 1; omega
    · exact List.pairwise_replicate.mpr (.inr (Int.le_refl _))
    · have e : y = 1 := List.eq_of_mem_replicate hy
      have := two x hx
      show x ≥ y
      omega
  · rcases List.mem_append.mp hx with z | z
    · have := two x z; omega
    · rw [List.eq_of_mem_replicate z]; exact Int.le_refl _
  · have es : ps.sum = (ps.take at' ++ ps.drop (at' + 1)).sum + ps.getD at' 0 := by
      have e1 : ps = ps.take at' ++ (ps.getD at' 0 :: ps.drop (at' + 1)) := by
        conv => lhs; rw [← List.take_append_drop at' ps, List.drop_eq_getElem_cons ha]
        rw [List.getD_eq_getElem?_getD, List.getElem?_eq_getElem ha]; rfl
      conv => lhs; rw [e1]
      rw [sum_app, sum_app, List.sum_cons]; omega
    have e2 := sum_add1 (ps.take at' ++ ps.drop (at' + 1))
    have e3 : (ps.take at' ++ ps.drop (at' + 1)).length = ps.length - 1 := by rw [← el, List.length_map]
    rw [sum_app, e2, sum_rep, el, e3]
    have := h.sum
    omega
end L2
namespace L2
open PySem PySem.Spec PyProof.Rows
/-! ### marks -/
def byMarks (ms : List Int) : List Int := ((List.range ms.length).map fun (i : Nat) => (ms.length : Int) - 1 - (i : Int) + ms.getD i 0).filter fun x => decide (0 < x)
theorem range_all (n : Nat) (g : Int → Int) : (((List.range n).map fun (i : Nat) => (0 : Int) + (i : Int)).filter fun _ => true).map g = (List.range n).map fun (i : Nat) => g (i : Int) := by
  rw [List.filter_eq_self.mpr (fun _ _ => rfl), List.map_map]
  exact List.map_congr_left fun i _ => by show g (0 + (i : Int)) = g i; rw [Int.zero_add]
/-- marks of n coins -/
structure Marks (n : Int) (ms : List Int) : Prop where
  ne : 1 ≤ ms.length
  lo : ((ms.length : Int) - 1) * ms.length < 2 * n
  hi : 2 * n ≤ (ms.length : Int) * (ms.length + 1)
  bit : ∀ m ∈ ms, m = 0 ∨ m = 1
  sum : ms.sum = n - (ms.length : Int) * (ms.length - 1) / 2
/-- the piles of marks, ahead of dropping those of no coins -/
def raised (k : Int) : List Int → List Int
  | [] => []
  | m :: r => (k - 1 + m) :: raised (k - 1) r
theorem raised_len : ∀ (k : Int) (ms : List Int), (raised k ms).length = ms.length
  | _, [] => rfl
  | k, m :: r => by rw [raised, List.length_cons, List.length_cons, raised_len]
theorem raised_get : ∀ (k : Int) (ms : List Int) (i : Nat), i < ms.length → (raised k ms)[i]? = some (k - 1 - (i : Int) + ms.getD i 0)
  | _, [], i, h => by simp at h
  | k, m :: r, 0, _ => by simp [raised]
  | k, m :: r, i + 1, h => by
    rw [raised, List.getElem?_cons_succ, raised_get (k - 1) r i (by simpa using h)]
    simp only [List.getD_cons_succ]
    congr 1
    omega
theorem raised_eq (ms : List Int) : ((List.range ms.length).map fun (i : Nat) => (ms.length : Int) - 1 - (i : Int) + ms.getD i 0) = raised ms.length ms := by
  apply List.ext_getElem?
  intro i
  rw [List.getElem?_map]
  by_cases h : i < ms.length
  · rw [raised_get _ _ _ h, List.getElem?_range h]; rfl
  · rw [List.getElem?_eq_none (by simpa using h), List.getElem?_eq_none (by rw [raised_len]; omega)]; rfl
theorem byMarks_eq (ms : List Int) : byMarks ms = (raised ms.length ms).filter fun x => decide (0 < x) := by rw [byMarks, raised_eq]
theorem raised_sum : ∀ (ms : List Int), 2 * (raised ms.length ms).sum = (ms.length : Int) * (ms.length - 1) + 2 * ms.sum := by
  have gen : ∀ (ms : List Int) (k : Int), 2 * (raised k ms).sum = ms.length * (2 * k - ms.length - 1) + 2 * ms.sum := by
    intro ms
    induction ms with
    | nil => intro k; simp [raised]
    | cons m r ih =>
      intro k
      have z := ih (k - 1)
      rw [raised, List.sum_cons, List.sum_cons, List.length_cons]
      have e : ((r.length + 1 : Nat) : Int) * (2 * k - ((r.length + 1 : Nat) : Int) - 1) = (r.length : Int) * (2 * (k - 1) - r.length - 1) + 2 * (k - 1) := by
        rw [Int.natCast_add]
        generalize (r.length : Int) = l
        have e1 : (l + ((1 : Nat) : Int)) * (2 * k - (l + ((1 : Nat) : Int)) - 1) = l * (2 * k - l - 2) + (2 * k - l - 2) := by
          rw [Int.add_mul]; congr 1
          · congr 1; omega
          · omega
        have e2 : l * (2 * (k - 1) - l - 1) = l * (2 * k - l - 2) - l := by
          rw [show 2 * (k - 1) - l - 1 = (2 * k - l - 2) - 1 from by omega, Int.mul_sub, Int.mul_one]
        omega
      omega
  intro ms
  have z := gen ms ms.length
  rw [z, show 2 * (ms.length : Int) - ms.length - 1 = (ms.length : Int) - 1 from by omega]
theorem raised_ord : ∀ (ms : List Int) (k : Int), (∀ m ∈ ms, m = 0 ∨ m = 1) → (raised k ms).Pairwise (· ≥ ·) ∧ ∀ x ∈ raised k ms, x ≤ k
  | [], _, _ => ⟨List.Pairwise.nil, fun x h => by simp [raised] at h⟩
  | m :: r, k, h => by
    obtain ⟨a, b⟩ := raised_ord r (k - 1) fun y hy => h y (List.mem_cons_of_mem _ hy)
    have hm := h m List.mem_cons_self
    rw [raised]
    refine ⟨List.pairwise_cons.mpr ⟨fun y hy => ?_, a⟩, fun x hx => ?_⟩
    · have := b y hy
      show k - 1 + m ≥ y
      omega
    · rcases List.mem_cons.mp hx with e | e
      · omega
      · have := b x e; omega
theorem raised_nonneg : ∀ (ms : List Int) (k : Int), (∀ m ∈ ms, 0 ≤ m) → (ms.length : Int) ≤ k → ∀ x ∈ raised k ms, 0 ≤ x
  | [], _, _, _, x, h => by simp [raised] at h
  | m :: r, k, h, hk, x, hx => by
    rw [List.length_cons] at hk
    rw [raised] at hx
    rcases List.mem_cons.mp hx with e | e
    · have := h m List.mem_cons_self; omega
    · exact raised_nonneg r (k - 1) (fun y hy => h y (List.mem_cons_of_mem _ hy)) (by omega) x e
theorem filter_pos_sum : ∀ {l : List Int}, (∀ x ∈ l, 0 ≤ x) → (l.filter fun x => decide (0 < x)).sum = l.sum
  | [], _ => rfl
  | x :: r, h => by
    have ih := filter_pos_sum (l := r) fun y hy => h y (List.mem_cons_of_mem _ hy)
    have := h x List.mem_cons_self
    rw [List.filter_cons]
    by_cases c : 0 < x
    · rw [if_pos (decide_eq_true c), List.sum_cons, List.sum_cons, ih]
    · rw [if_neg (by simpa using c), ih, List.sum_cons]; omega
theorem Marks.setting {n : Int} {ms : List Int} (h : Marks n ms) : Setting n (byMarks ms) := by
  rw [byMarks_eq]
  have nn : ∀ x ∈ raised ms.length ms, 0 ≤ x := raised_nonneg ms _ (fun m hm => by rcases h.bit m hm with e | e <;> omega) (Int.le_refl _)
  refine ⟨(raised_ord ms _ h.bit).1.sublist (List.filter_sublist), fun x hx => ?_, ?_⟩
  · have := of_decide_eq_true (List.mem_filter.mp hx).2; omega
  · rw [filter_pos_sum nn]
    have z := raised_sum ms
    have s := h.sum
    have even : (ms.length : Int) * (ms.length - 1) / 2 * 2 = (ms.length : Int) * (ms.length - 1) := by
      have p : ∀ k : Nat, ∃ t : Int, (k : Int) * (k - 1) = 2 * t := by
        intro k
        induction k with
        | zero => exact ⟨0, by simp⟩
        | succ k ih =>
          obtain ⟨t, e⟩ := ih
          refine ⟨t + k, ?_⟩
          have e2 : ((k + 1 : Nat) : Int) * (((k + 1 : Nat) : Int) - 1) = (k : Int) * (k - 1) + 2 * k := by
            rw [Int.natCast_add, show ((k : Int) + ((1 : Nat) : Int) - 1) = k from by omega, Int.add_mul, Int.mul_sub]; omega
          omega
      obtain ⟨t, e⟩ := p ms.length
      rw [e]; omega
    omega
end L2
namespace L2
open PySem PySem.Spec PyProof.Rows
theorem cut_to (xs : List V) {i : Int} (h : 0 ≤ i) : cutV xs none (some i) = xs.take i.toNat := by
  have e : HT.sIx xs.length xs.length (some i) = min i.toNat xs.length := by
    have z := HT.sIx_nat xs.length xs.length i.toNat
    rwa [Int.toNat_of_nonneg h] at z
  unfold cutV
  rw [e, HT.sIx_none, Nat.sub_zero, List.drop_zero]
  by_cases c : i.toNat ≤ xs.length
  · rw [Nat.min_eq_left c]
  · rw [Nat.min_eq_right (by omega), List.take_of_length_le (Nat.le_refl _), List.take_of_length_le (by omega)]
theorem cut_from (xs : List V) {i : Int} (h : 0 ≤ i) : cutV xs (some i) none = xs.drop i.toNat := by
  have e : HT.sIx xs.length 0 (some i) = min i.toNat xs.length := by
    have z := HT.sIx_nat xs.length 0 i.toNat
    rwa [Int.toNat_of_nonneg h] at z
  unfold cutV
  rw [e, HT.sIx_none]
  by_cases c : i.toNat ≤ xs.length
  · rw [Nat.min_eq_left c, List.take_of_length_le (by rw [List.length_drop]; exact Nat.le_refl _)]
  · rw [Nat.min_eq_right (by omega), List.drop_of_length_le (Nat.le_refl _), List.drop_of_length_le (by omega)]
    simp
/-- the places of a range that a test takes -/
def cand (n : Nat) (q : Int → Bool) : List Int := (((List.range n).map fun (i : Nat) => (0 : Int) + (i : Int)).filter q).map id
theorem cand_mem {n : Nat} {q : Int → Bool} {i : Int} (h : i ∈ cand n q) : 0 ≤ i ∧ i < n ∧ q i = true := by
  unfold cand at h
  rw [List.map_id] at h
  obtain ⟨h1, h2⟩ := List.mem_filter.mp h
  obtain ⟨j, hj, e⟩ := List.mem_map.mp h1
  have := List.mem_range.mp hj
  refine ⟨by omega, by omega, h2⟩
theorem cand_len {n : Nat} {q : Int → Bool} : (cand n q).length ≤ n := by
  unfold cand
  rw [List.length_map]
  refine Nat.le_trans (List.length_filter_le _ _) ?_
  rw [List.length_map, List.length_range]
  exact Nat.le_refl _
theorem ones_eq (n : Nat) : ((((List.range n).map fun (i : Nat) => (0 : Int) + (i : Int)).filter fun _ => true).map fun _ => (1 : Int)) = List.replicate n 1 := by
  rw [range_all, List.map_const']
  simp
theorem all_list (xs : List Int) (g : Int → Int) : (xs.filter fun _ => true).map g = xs.map g := by
  rw [List.filter_eq_self.mpr (fun _ _ => rfl)]
end L2
namespace L2
open PySem PySem.Spec PyProof.Rows
/-- one statement, then the rest: what stands between -/
theorem cut {t u : TS} {D : Ends} {σ : St} {H : Hp} (J : St → Hp → Prop) (h : ∀ R : St → Hp → Prop, (∀ σ' H', J σ' H' → R σ' H') → t { D with nx := R } σ H) (h2 : ∀ σ' H', J σ' H' → u D σ' H') : tSeq t u D σ H := h (u D) h2
end L2
namespace L2
end L2

end

section
set_option maxHeartbeats 2000000
set_option maxRecDepth 100000
set_option linter.unusedVariables false
set_option linter.unusedSimpArgs false
namespace L2
open PySem PySem.Spec PyProof.Rows
theorem perm_eq : ∀ {l r : List Int}, l.Perm r → l.Pairwise (· ≥ ·) → r.Pairwise (· ≥ ·) → l = r
  | [], r, h, _, _ => (List.Perm.nil_eq h)
  | x :: l, [], h, _, _ => by have := h.length_eq; simp at this
  | x :: l, y :: r, h, h1, h2 => by
    have e : x = y := by
      have a1 : x ≤ y := by
        rcases List.mem_cons.mp (h.mem_iff.mp List.mem_cons_self) with z | z
        · omega
        · exact (List.pairwise_cons.mp h2).1 x z
      have a2 : y ≤ x := by
        rcases List.mem_cons.mp (h.mem_iff.mpr (List.mem_cons_self : y ∈ y :: r)) with z | z
        · omega
        · exact (List.pairwise_cons.mp h1).1 y z
      omega
    subst e
    rw [perm_eq (List.perm_cons x |>.mp h) (List.pairwise_cons.mp h1).2 (List.pairwise_cons.mp h2).2]
def goodB (ps : List Int) : Bool := decide (ps ≠ [] ∧ ps.sum ≤ 100 ∧ (∀ x ∈ ps, 1 ≤ x) ∧ ps.Pairwise (· ≥ ·))
theorem Setting.good {n : Int} {ps : List Int} (h : Setting n ps) (h0 : 1 ≤ n) (h1 : n ≤ 100) : goodB ps = true :=
  decide_eq_true ⟨fun z => by have := h.ne h0; rw [z] at this; simp at this, by rw [h.sum]; exact h1, h.pos, h.ord⟩
/-! ### a turn -/
def insD (x : Int) : List Int → List Int
  | [] => [x]
  | y :: r => if y ≤ x then x :: y :: r else y :: insD x r
theorem insD_perm (x : Int) : ∀ l, (insD x l).Perm (x :: l)
  | [] => List.Perm.refl _
  | y :: r => by
    unfold insD
    split
    · exact List.Perm.refl _
    · exact ((insD_perm x r).cons y).trans (List.Perm.swap x y r)
theorem insD_ord {x : Int} : ∀ {l : List Int}, l.Pairwise (· ≥ ·) → (insD x l).Pairwise (· ≥ ·)
  | [], _ => List.pairwise_singleton _ _
  | y :: r, h => by
    obtain ⟨h1, h2⟩ := List.pairwise_cons.mp h
    unfold insD
    split
    · rename_i c
      refine List.pairwise_cons.mpr ⟨fun z hz => ?_, h⟩
      rcases List.mem_cons.mp hz with e | e
      · rw [e]; exact c
      · have := h1 z e
        show x ≥ z
        omega
    · rename_i c
      refine List.pairwise_cons.mpr ⟨fun z hz => ?_, insD_ord h2⟩
      rcases List.mem_cons.mp ((insD_perm x r).mem_iff.mp hz) with e | e
      · rw [e]; show y ≥ x; omega
      · exact h1 z e
def leftOf (ps : List Int) : List Int := (ps.filter fun x => decide (1 < x)).map fun x => x - 1
def turn (ps : List Int) : List Int := insD ps.length (leftOf ps)
theorem leftOf_ord {ps : List Int} (h : ps.Pairwise (· ≥ ·)) : (leftOf ps).Pairwise (· ≥ ·) := (h.sublist List.filter_sublist).map _ fun a b z => by show a - 1 ≥ b - 1; omega
theorem turn_perm (ps : List Int) : (turn ps).Perm (leftOf ps ++ [(ps.length : Int)]) := (insD_perm _ _).trans (List.perm_append_comm (l₁ := [(ps.length : Int)]))
theorem turn_ord {ps : List Int} (h : ps.Pairwise (· ≥ ·)) : (turn ps).Pairwise (· ≥ ·) := insD_ord (leftOf_ord h)
theorem turn_of {ps qs : List Int} (h : ps.Pairwise (· ≥ ·)) (p : qs.Perm (leftOf ps ++ [(ps.length : Int)])) (o : qs.Pairwise (· ≥ ·)) : qs = turn ps := perm_eq (p.trans (turn_perm ps).symm) o (turn_ord h)
theorem leftOf_sum : ∀ {ps : List Int}, (∀ x ∈ ps, 1 ≤ x) → (leftOf ps).sum + ps.length = ps.sum
  | [], _ => rfl
  | x :: r, h => by
    have ih := leftOf_sum (ps := r) fun y hy => h y (List.mem_cons_of_mem _ hy)
    have hx := h x List.mem_cons_self
    unfold leftOf at ih ⊢
    rw [List.filter_cons]
    by_cases c : 1 < x
    · rw [if_pos (decide_eq_true c), List.map_cons, List.sum_cons, List.sum_cons, List.length_cons]; omega
    · rw [if_neg (by simpa using c), List.sum_cons, List.length_cons]; omega
theorem leftOf_pos {ps : List Int} : ∀ x ∈ leftOf ps, 1 ≤ x := fun x hx => by
  obtain ⟨y, hy, rfl⟩ := List.mem_map.mp hx
  have := of_decide_eq_true (List.mem_filter.mp hy).2
  omega
theorem leftOf_two {ps : List Int} (h : ∀ x ∈ ps, 1 ≤ x) : 2 * ((leftOf ps).length : Int) ≤ ps.sum := by
  have e1 := leftOf_sum h
  have e2 := sum_ge_len (leftOf_pos (ps := ps))
  have e3 : ((leftOf ps).length : Int) ≤ ps.length := by
    unfold leftOf
    rw [List.length_map]
    have := List.length_filter_le (fun x : Int => decide (1 < x)) ps
    omega
  omega
theorem Setting.turn {n : Int} {ps : List Int} (h : Setting n ps) (h0 : 1 ≤ n) : Setting n (turn ps) := by
  refine Setting.of_perm (turn_perm ps) (turn_ord h.ord) (fun x hx => ?_) ?_
  · rcases List.mem_append.mp hx with z | z
    · exact leftOf_pos x z
    · have := h.ne h0; rw [List.mem_singleton.mp z]; omega
  · rw [sum_app, List.sum_cons, List.sum_nil]
    have := leftOf_sum h.pos
    have := h.sum
    omega
end L2

end

section
set_option maxHeartbeats 2000000
set_option maxRecDepth 100000
set_option linter.unusedVariables false
set_option linter.unusedSimpArgs false
namespace L2
open PySem PySem.Spec PyProof.Rows

section
variable {X : Cx} {pins : List (Addr × Obj)} {σ : St} {H : Hp} {s : Shared} {h' : Heap}
/-- the records at fp have turned, a new thing is laid -/
theorem Inv.turnLaid {fp : List Addr} {a : Addr} {o : HO} {t' : Nat} (I : Inv X pins σ H s) (hf : ∀ b ∈ fp, FpOk X pins H b) (k : ∀ b u, b ∉ fp → s.heap.get? b = some u → h'.get? b = some u)
    (hp : s.heap.objs.size ≤ a) (new : ObjOk X.prog X.w (upd H a o) h' a o) : Inv X pins σ (upd H a o) { s with heap := h', toks := t' } := by
  have hn : H a = none := I.hok.fresh hp
  have nf : ∀ b u, H b = some u → b ∉ fp := fun b u e z => by rw [(hf b z).1] at e; cases e
  refine I.step (g' := s.gens) (d' := s.drawn) (ch := fp) (fun b hb => ?_) (fun b o _ _ hc e _ => k b o hc e) (fun b o _ _ hc e _ => ⟨o.slots, k b o hc e⟩) (fun b o _ e n => ?_)
    (fun b o hc e => ⟨o, k b o hc e⟩) (fun b xs q => ?_) (fun b u xs q => ?_) (fun b ps q => ⟨#[], ?_⟩) (fun m hm => ?_) (fun b u e => ?_) I.bare
  · obtain ⟨_, f1, _, f3, f4, f5⟩ := hf b hb
    exact ⟨f3, f1, f4, f5⟩
  · rw [upd_ne (Nat.ne_of_lt (Nat.lt_of_lt_of_le (Heap.lt_size e) hp))]; exact n
  · rw [upd_ne (ne_of_none q hn)]; exact q
  · rw [upd_ne (ne_of_none q hn)]; exact q
  · rw [upd_ne (ne_of_none q hn), q]; simp
  · obtain ⟨o, es, ep, ho, r⟩ := hm
    exact ⟨o, es, ep, k _ o (fun z => (hf _ z).2.1 rfl) ho, r⟩
  · by_cases hb : b = a
    · subst hb; rw [upd_same] at e; cases e; exact new
    · rw [upd_ne hb] at e
      refine (I.hok b u e).stay (fun c v hc q => k c v ?_ q) (fun c q => by rw [upd_ne (ne_of_none q hn)]; exact q) fun c xs q => by rw [upd_ne (ne_of_none q hn)]; exact q
      rcases hc with z | z
      · rw [z]; exact nf b u e
      · exact nf c _ z
/-- the records at fp have turned -/
theorem Inv.turns {fp : List Addr} {t' : Nat} (I : Inv X pins σ H s) (hf : ∀ b ∈ fp, FpOk X pins H b) (k : ∀ b u, b ∉ fp → s.heap.get? b = some u → h'.get? b = some u) : Inv X pins σ H { s with heap := h', toks := t' } := by
  have nf : ∀ b u, H b = some u → b ∉ fp := fun b u e z => by rw [(hf b z).1] at e; cases e
  refine I.step (g' := s.gens) (d' := s.drawn) (ch := fp) (fun b hb => ?_) (fun b o _ _ hc e _ => k b o hc e) (fun b o _ _ hc e _ => ⟨o.slots, k b o hc e⟩) (fun b o _ e n => n)
    (fun b o hc e => ⟨o, k b o hc e⟩) (fun b xs q => q) (fun b u xs q => q) (fun b ps q => ⟨#[], by rw [q]; simp⟩) (fun m hm => ?_) (fun b u e => ?_) I.bare
  · obtain ⟨_, f1, _, f3, f4, f5⟩ := hf b hb
    exact ⟨f3, f1, f4, f5⟩
  · obtain ⟨o, es, ep, ho, r⟩ := hm
    exact ⟨o, es, ep, k _ o (fun z => (hf _ z).2.1 rfl) ho, r⟩
  · refine (I.hok b u e).stay (fun c v hc q => k c v ?_ q) (fun c q => q) fun c xs q => q
    rcases hc with z | z
    · rw [z]; exact nf b u e
    · exact nf c _ z
end

/-! ### enumerate(list) -/
def Ite (K : PySem.W.Frag) (a : Addr) : It :=
  ⟨fun i H => ∃ xs x, SqL K H a xs ∧ xs[i]? = some x, fun i H x H' => ∃ t y, H t = none ∧ H' = upd H t (.tup [.int i, y]) ∧ x = .ref t ∧ ∀ xs, SqL K H a xs → xs[i]? = some y, fun i H => ∃ xs, SqL K H a xs ∧ xs.length ≤ i⟩
section
variable {X : Cx}
def iEnum (K : PySem.W.Frag) (ta : TA) : TI := fun σ H R => ta σ H fun vs H1 => ∃ a, vs = [.ref a] ∧ (∃ xs, SqL K H1 a xs) ∧ R (Ite K a) H1
end
end L2

end

section
set_option maxHeartbeats 2000000
set_option maxRecDepth 100000
set_option linter.unusedVariables false
set_option linter.unusedSimpArgs false
namespace L2
open PySem PySem.Spec PyProof.Rows
/-! ### weights -/
def wI (i : Nat) (n : Int) : Int := n * (n - 1) / 2 + n * (i : Int)
def W (ps : List Int) : Int := (ps.mapIdx wI).sum
theorem even_mul (n : Int) : 2 * (n * (n - 1) / 2) = n * (n - 1) := by
  have h : n * (n - 1) % 2 = 0 := by
    rcases Int.emod_two_eq n with h | h
    · rw [Int.mul_emod, h]; simp
    · have : (n - 1) % 2 = 0 := by omega
      rw [Int.mul_emod, this]; simp
  omega
end L2

end

section
set_option maxHeartbeats 2000000
set_option maxRecDepth 100000
set_option linter.unusedVariables false
set_option linter.unusedSimpArgs false
namespace L2
open PySem PySem.Spec PyProof.Rows
section
variable {X : Cx}
/-! ### all(list of bools) -/
/-! ### count, index -/
def rCount : V → List V → Hp → VK → Prop := fun x vs H Q => ∃ l ys y, x = .ref l ∧ vs = [y] ∧ H l = some (.lst ys) ∧ flatV y = true ∧ ys.all flatV = true ∧ Q (.int (ys.countP fun z => eqV z y : Nat)) H
def rIndex : V → List V → Hp → VK → Prop := fun x vs H Q => ∃ l ys y j, x = .ref l ∧ vs = [y] ∧ H l = some (.lst ys) ∧ flatV y = true ∧ ys.all flatV = true ∧ (ys[j]?.elim false fun z => eqV z y) = true ∧ (∀ m, m < j → (ys[m]?.elim true fun z => eqV z y) = false) ∧ Q (.int (j : Nat)) H
end
/-! ### a comprehension whose parts may lay things -/
end L2

end

section
set_option maxHeartbeats 2000000
set_option maxRecDepth 100000
set_option linter.unusedVariables false
set_option linter.unusedSimpArgs false
namespace L2
open PySem PySem.Spec PyProof.Rows
/-! ### stairs -/
def IsStair (n k : Int) : Prop := 1 ≤ k ∧ (k - 1) * k < 2 * n ∧ 2 * n ≤ k * (k + 1)
theorem IsStair.ex : ∀ n : Nat, ∃ k, IsStair ((n : Int) + 1) k
  | 0 => ⟨1, by decide, by decide, by decide⟩
  | n + 1 => by
    obtain ⟨k, a1, a2, a3⟩ := IsStair.ex n
    by_cases c : 2 * (((n + 1 : Nat) : Int) + 1) ≤ k * (k + 1)
    · exact ⟨k, a1, by omega, c⟩
    · refine ⟨k + 1, by omega, ?_, ?_⟩
      · rw [show k + 1 - 1 = k from by omega]; omega
      · have e : (k + 1) * (k + 1 + 1) = k * (k + 1) + 2 * (k + 1) := by grind
        rw [e]; omega
/-! ### marks of piles -/
end L2

end

section
set_option maxHeartbeats 2000000
set_option maxRecDepth 100000
set_option linter.unusedVariables false
set_option linter.unusedSimpArgs false
namespace L2
open PySem PySem.Spec PyProof.Rows
/-! ### marks that make a setting -/
theorem Marks.len {n : Int} {ms : List Int} (h : Marks n ms) : ms.length ≤ 1000 ∨ 1000 * 1001 ≤ 2 * n := by
  have z := h.lo
  rcases Nat.lt_or_ge 1000 ms.length with y | y
  · have : 1000 * 1001 ≤ ((ms.length : Int) - 1) * ms.length := Int.mul_le_mul (by omega) (by omega) (by omega) (by omega)
    exact .inr (by omega)
  · exact .inl y
end L2

end

section
set_option maxHeartbeats 2000000
set_option maxRecDepth 100000
set_option linter.unusedVariables false
set_option linter.unusedSimpArgs false
namespace L2
open PySem PySem.Spec PyProof.Rows
/-! ### lists of pairs as tables -/
section
variable {κ : Type} [DecidableEq κ]
def valV (kvs : List (κ × V)) (k : κ) : Option V := (kvs.find? fun kv => decide (kv.1 = k)).map (·.2)
/-- in its place, or at the end -/
def putK (kvs : List (κ × V)) (k : κ) (v : V) : List (κ × V) :=
  if (kvs.any fun kv => decide (kv.1 = k)) = true then kvs.map (fun kv => if kv.1 = k then (kv.1, v) else kv) else kvs ++ [(k, v)]
theorem valV_pos {p : κ × V} {r : List (κ × V)} {k : κ} (e : p.1 = k) : valV (p :: r) k = some p.2 := by simp [valV, List.find?_cons, e]
theorem valV_neg {p : κ × V} {r : List (κ × V)} {k : κ} (e : ¬ p.1 = k) : valV (p :: r) k = valV r k := by simp [valV, List.find?_cons, e]
theorem valV_any (k : κ) : ∀ kvs : List (κ × V), (kvs.any fun kv => decide (kv.1 = k)) = (valV kvs k).isSome
  | [] => rfl
  | p :: r => by
    rw [List.any_cons]
    by_cases e : p.1 = k
    · simp only [valV_pos e, decide_eq_true e, Bool.true_or, Option.isSome_some]
    · rw [valV_neg e, decide_eq_false e, Bool.false_or]; exact valV_any k r
theorem RelO.isSome_eq {o : Option V} {u : Option Value} (r : RelO o u) : o.isSome = u.isSome := by
  cases o with
  | none => cases u with
    | none => rfl
    | some _ => exact (show False from r).elim
  | some _ => cases u with
    | none => exact (show False from r).elim
    | some _ => rfl
theorem RelO.getD {o : Option V} {u : Option Value} {d : V} {d' : Value} (r : RelO o u) (rd : RelV d d') : RelV (o.getD d) (u.getD d') := by
  cases o with
  | none => cases u with
    | none => exact rd
    | some _ => exact (show False from r).elim
  | some _ => cases u with
    | none => exact (show False from r).elim
    | some _ => exact r

theorem KV.any {kvs : List (κ × V)} {vs : List (κ × Value)} (r : KV kvs vs) (k : κ) : (kvs.any fun kv => decide (kv.1 = k)) = vs.any fun kv => decide (kv.1 = k) := by
  unfold KV at r
  induction r with
  | nil => rfl
  | cons h t ih => rw [List.any_cons, List.any_cons, ih, h.1]
theorem KV.repl {kvs : List (κ × V)} {vs : List (κ × Value)} (r : KV kvs vs) (k : κ) {y : V} {u : Value} (ry : RelV y u) :
    KV (kvs.map fun kv => if kv.1 = k then (kv.1, y) else kv) (vs.map fun kv => if kv.1 = k then (kv.1, u) else kv) := by
  unfold KV at r ⊢
  induction r with
  | nil => exact .nil
  | @cons p q ps qs h t ih =>
    rw [List.map_cons, List.map_cons]
    refine .cons ?_ ih
    obtain ⟨h1, h2⟩ := h
    by_cases e : p.1 = k
    · rw [if_pos e, if_pos (h1.symm.trans e)]; exact ⟨h1, ry⟩
    · rw [if_neg e, if_neg (fun z => e (h1.trans z))]; exact ⟨h1, h2⟩
theorem KV.put {kvs : List (κ × V)} {vs : List (κ × Value)} (r : KV kvs vs) (k : κ) {y : V} {u : Value} (ry : RelV y u) : KV (putK kvs k y) (stored vs k u) := by
  unfold putK stored
  rw [r.any k]
  by_cases e : (vs.any fun kv => decide (kv.1 = k)) = true
  · rw [if_pos e, if_pos e]; exact r.repl k ry
  · rw [if_neg e, if_neg e]; exact Paired.snoc r ⟨rfl, ry⟩
theorem KV.length {kvs : List (κ × V)} {vs : List (κ × Value)} (r : KV kvs vs) : kvs.length = vs.length := Paired.length r
end


/-! ### a tracked dict, its keys ints and texts or tuples of these -/
/-- raw entries of a dict with tuple keys -/
abbrev KT (H : Hp) : List (List Key × V) → List (List Key × Addr × Value) → Prop := Paired fun p q => p.1 = q.1 ∧ H q.2.1 = some (.tup (p.1.map kV)) ∧ RelV p.2 q.2.2
theorem KT.val {H : Hp} {kvs : List (List Key × V)} {xs : List (List Key × Addr × Value)} (r : KT H kvs xs) (k : List Key) : RelO (valV kvs k) ((atKey xs k).map (·.2)) := by
  induction r with
  | nil => exact True.intro
  | @cons p q ps qs h t ih =>
    obtain ⟨h1, _, h2⟩ := h
    by_cases e : p.1 = k
    · have e' : q.1 = k := h1.symm.trans e
      have b : atKey (q :: qs) k = some q.2 := by simp [atKey, List.find?_cons, e']
      rw [valV_pos e, b]; exact h2
    · have e' : ¬ q.1 = k := fun z => e (h1.trans z)
      have b : atKey (q :: qs) k = atKey qs k := by simp [atKey, List.find?_cons, e']
      rw [valV_neg e, b]; exact ih
theorem KT.repl {H : Hp} {kvs : List (List Key × V)} {xs : List (List Key × Addr × Value)} (r : KT H kvs xs) (k : List Key) {y : V} {u : Value} (ry : RelV y u) :
    KT H (kvs.map fun kv => if kv.1 = k then (kv.1, y) else kv) (xs.map (putAt k u)) := by
  induction r with
  | nil => exact .nil
  | @cons p q ps qs h t ih =>
    rw [List.map_cons, List.map_cons]
    refine .cons ?_ ih
    obtain ⟨h1, h2, h3⟩ := h
    unfold putAt
    by_cases e : p.1 = k
    · rw [if_pos e, if_pos (h1.symm.trans e)]; exact ⟨h1, h2, ry⟩
    · rw [if_neg e, if_neg (fun z => e (h1.trans z))]; exact ⟨h1, h2, h3⟩
theorem KT.put {H : Hp} {kvs : List (List Key × V)} {xs : List (List Key × Addr × Value)} (r : KT H kvs xs) (k : List Key) {b : Addr} {y : V} {u : Value} (hb : H b = some (.tup (k.map kV))) (ry : RelV y u) :
    KT H (putK kvs k y) (storedH xs k b u) := by
  have e : (kvs.any fun kv => decide (kv.1 = k)) = (atKey xs k).isSome := by
    rw [valV_any, (r.val k).isSome_eq, Option.isSome_map]
  unfold putK storedH
  rw [e]
  by_cases q : (atKey xs k).isSome = true
  · rw [if_pos q, if_pos q]; exact r.repl k ry
  · rw [if_neg q, if_neg q]; exact Paired.snoc r ⟨rfl, hb, ry⟩
section
variable {P : Program} {w : World} {H : Hp} {h : Heap} {a : Addr}
end

/-- what the dict at a holds at the key y -/
def DGet (H : Hp) (a : Addr) (y : V) (r : Option V) : Prop :=
  (∃ kvs k, Rd H a (.dK kvs) ∧ y = kV k ∧ r = valV kvs k) ∨ ∃ kvs k b, Rd H a (.dT kvs) ∧ y = .ref b ∧ H b = some (.tup (k.map kV)) ∧ r = valV kvs k
/-- the heap behind a[y] = v -/
def DPut (H : Hp) (a : Addr) (y v : V) (H' : Hp) : Prop :=
  (∃ kvs k, H a = some (.dK kvs) ∧ y = kV k ∧ kvs.length < sizeLine ∧ H' = upd H a (.dK (putK kvs k v))) ∨
  ∃ kvs k b, H a = some (.dT kvs) ∧ y = .ref b ∧ H b = some (.tup (k.map kV)) ∧ kvs.length < sizeLine ∧ H' = upd H a (.dT (putK kvs k v))
theorem DGet.k {H : Hp} {a : Addr} {kvs : List (Key × V)} {k : Key} (e : H a = some (.dK kvs)) : DGet H a (kV k) (valV kvs k) := .inl ⟨kvs, k, .inl e, rfl, rfl⟩
theorem DGet.t {H : Hp} {a b : Addr} {kvs : List (List Key × V)} {k : List Key} (e : H a = some (.dT kvs)) (eb : H b = some (.tup (k.map kV))) : DGet H a (.ref b) (valV kvs k) := .inr ⟨kvs, k, b, .inl e, rfl, eb, rfl⟩
theorem DPut.k {H : Hp} {a : Addr} {kvs : List (Key × V)} {k : Key} {v : V} (e : H a = some (.dK kvs)) (hl : kvs.length < sizeLine) : DPut H a (kV k) v (upd H a (.dK (putK kvs k v))) := .inl ⟨kvs, k, e, rfl, hl, rfl⟩
theorem DPut.t {H : Hp} {a b : Addr} {kvs : List (List Key × V)} {k : List Key} {v : V} (e : H a = some (.dT kvs)) (eb : H b = some (.tup (k.map kV))) (hl : kvs.length < sizeLine) :
    DPut H a (.ref b) v (upd H a (.dT (putK kvs k v))) := .inr ⟨kvs, k, b, e, rfl, eb, hl, rfl⟩


section
variable {X : Cx} {pins : List (Addr × Obj)} {σ : St} {H : Hp} {s : Shared} {a : Addr} {y v : V} {u r : Value} {o : Option V} {A : Around} {E : Value → Shared → Prop}

end
def tDNotIn (ty td : TE) : TE := fun σ H Q => ty σ H fun y H1 => td σ H1 fun x H2 => ∃ a o, x = .ref a ∧ DGet H2 a y o ∧ Q (.bl (!o.isSome)) H2
def sDPut (td ty tv : TE) : TS := fun D σ H => tv σ H fun v H1 => td σ H1 fun x H2 => ty σ H2 fun y H3 => ∃ a H4, x = .ref a ∧ DPut H3 a y v H4 ∧ D.nx σ H4
section
variable {X : Cx} {o i e value : Expr} {pos pos' tpos : Pos} {td ty tv : TE}
end
def tDNewT : TE := fun _ H Q => ∀ p, H p = none → Q (.ref p) (upd H p (.dT []))
section
variable {X : Cx} {pos : Pos}
end
end L2

end

section
set_option maxHeartbeats 2000000
set_option maxRecDepth 100000
set_option linter.unusedVariables false
set_option linter.unusedSimpArgs false
namespace L2
open PySem PySem.Spec PyProof.Rows
/-! ### zip(list, list) -/
def Itz (K : PySem.W.Frag) (a b : Addr) : It :=
  ⟨fun i H => ∃ xs ys x y, SqL K H a xs ∧ SqL K H b ys ∧ xs[i]? = some x ∧ ys[i]? = some y,
   fun i H x H' => ∃ t u v, H t = none ∧ H' = upd H t (.tup [u, v]) ∧ x = .ref t ∧ (∀ xs, SqL K H a xs → xs[i]? = some u) ∧ ∀ ys, SqL K H b ys → ys[i]? = some v,
   fun i H => ∃ xs ys, SqL K H a xs ∧ SqL K H b ys ∧ (xs.length ≤ i ∨ ys.length ≤ i)⟩
theorem turn_zip {P : Program} {w : World} {K : PySem.W.Frag} {els : List Expr} {k1} {pos : Pos} (a b z TI TO i1 i2 : Addr) (D : ZipApart z TI TO i1 i2 a b) :
    Turn P w K (.Tuple els k1 pos) (Itz K a b) [z, TI, TO, i1, i2] z (fun i h => IsZip h z TI TO .none ∧ IsPair h TI (.ref i1) (.ref i2) ∧ (∃ u v, IsPair h TO u v) ∧ h.IsListIter i1 a i ∧ h.IsListIter i2 b i) where
  mem := by simp
  obj := fun i h st c hc => by
    obtain ⟨h1, h2, ⟨u, v, h3⟩, ⟨o4, h4, c4, d4⟩, ⟨o5, h5, c5, d5⟩⟩ := st
    simp only [List.mem_cons, List.not_mem_nil, or_false] at hc
    rcases hc with rfl | rfl | rfl | rfl | rfl
    · exact ⟨_, h1, fun v z => by cases z⟩
    · exact ⟨_, h2, fun v z => by cases z⟩
    · exact ⟨_, h3, fun v z => by cases z⟩
    · exact ⟨o4, h4, fun v z => by rw [d4] at z; cases z⟩
    · exact ⟨o5, h5, fun v z => by rw [d5] at z; cases z⟩
  keep := fun i h h' st k => by
    obtain ⟨h1, h2, ⟨u, v, h3⟩, h4, h5⟩ := st
    exact ⟨k z (by simp) _ h1, k TI (by simp) _ h2, ⟨u, v, k TO (by simp) _ h3⟩, h4.at fun o q => k i1 (by simp) o q, h5.at fun o q => k i2 (by simp) o q⟩
  item := by
    intro X hP hw hK hc i pins s σ H E I hf st hg
    subst hP hw hK
    obtain ⟨h1, h2, ⟨u0, v0, h3⟩, h4, h5⟩ := st
    obtain ⟨xs, ys, x, y, hq, hq2, hx, hy⟩ := hg
    obtain ⟨its, rv, p, hz⟩ := I.list hq
    obtain ⟨its2, rv2, p2, hz2⟩ := I.list hq2
    obtain ⟨u, hu, ru⟩ := rv.get hx
    obtain ⟨v, hv, rv'⟩ := rv2.get hy
    have lz : z < s.heap.objs.size := Heap.lt_size h1
    refine wpAny_pyNext_zip_item D h1 h2 h3 h4 h5 p.isList p2.isList (x := u) (y := v) (by simpa using hu) (by simpa using hv) fun h' a1 a2 a3 a4 a5 a6 a7 => ⟨_, rfl, ?_⟩
    refine wpAny_letOwnedTupleGo_zip a1 fun h'' b1 sb => ?_
    have sb : Heap.SameBut z h' h'' := sb
    have tu : h''.get? s.heap.objs.size = some { cls := .type "tuple", data := .seq #[u, v] } := (sb.2 _ (Nat.ne_of_gt lz)).trans a5
    have TIk : IsPair h'' TI (.ref i1) (.ref i2) := (sb.2 TI D.TIz).trans (a7 TI _ D.TIz D.TITO D.TIi1 D.TIi2 h2)
    refine ⟨.ref s.heap.objs.size, upd H s.heap.objs.size (.tup [x, y]), I.turnLaid (t' := s.toks) hf (fun c o hb q => ?_) (Nat.le_refl _) ⟨by show 2 ≤ sizeLine; rw [sizeLine_eq]; decide, [u, v], .cons ru (.cons rv' .nil), ⟨_, tu, rfl, _, rfl⟩⟩, rfl,
      ⟨_, x, y, I.fresh, rfl, rfl, fun zs hy => by rw [I.list_inj hy hq]; exact hx, fun zs hz => by rw [I.list_inj hz hq2]; exact hy⟩, ⟨b1, TIk, ⟨u, v, (sb.2 TO D.TOz).trans a2⟩, a3.extBut sb.extBut D.i1z, a4.extBut sb.extBut D.i2z⟩, fun c hc => ?_⟩
    · have n1 : c ≠ z := fun e => hb (by simp [e])
      have n2 : c ≠ TO := fun e => hb (by simp [e])
      have n3 : c ≠ i1 := fun e => hb (by simp [e])
      have n4 : c ≠ i2 := fun e => hb (by simp [e])
      exact (sb.2 c n1).trans (a7 c o n1 n2 n3 n4 q)
    · rw [upd_ne]
      · exact (hf c hc).1
      · obtain ⟨o4, e4, _⟩ := id h4
        obtain ⟨o5, e5, _⟩ := id h5
        have hc' := hc
        simp only [List.mem_cons, List.not_mem_nil, or_false] at hc'
        rcases hc' with rfl | rfl | rfl | rfl | rfl
        · exact Nat.ne_of_lt lz
        · exact Nat.ne_of_lt (Heap.lt_size h2)
        · exact Nat.ne_of_lt (Heap.lt_size h3)
        · exact Nat.ne_of_lt (Heap.lt_size e4)
        · exact Nat.ne_of_lt (Heap.lt_size e5)
  done := by
    intro X hP hw hK hc i pins s σ H E I hf st hg
    subst hP hw hK
    obtain ⟨h1, h2, ⟨u0, v0, h3⟩, h4, h5⟩ := st
    obtain ⟨xs, ys, hq, hq2, hx⟩ := hg
    obtain ⟨its, rv, p, hz⟩ := I.list hq
    obtain ⟨its2, rv2, p2, hz2⟩ := I.list hq2
    have hl := rv.length
    have hl2 := rv2.length
    refine wpAny_pyNext_zip_end (I.ok.hd hc) D h1 h2 h3 h4 h5 p.isList p2.isList (by simp; omega) fun h' k => ⟨rfl, I.turns (t' := s.toks) hf fun c o hb q => ?_⟩
    exact k c o (fun e => hb (by simp [e])) (fun e => hb (by simp [e])) (fun e => hb (by simp [e])) (fun e => hb (by simp [e])) q
  self := fun _ _ _ _ _ st h => wpAny_pyIter_zip st.1 h
theorem apart {l m n : Nat} (h1 : l < n) (h2 : m < n) : ZipApart (n + 4) (n + 2) (n + 3) n (n + 1) l m := by
  constructor <;> (intro (e : (_ : Nat) = _); omega)
section
variable {X : Cx}
def iZip (K : PySem.W.Frag) (ta : TA) : TI := fun σ H R => ta σ H fun vs H1 => ∃ a b, vs = [.ref a, .ref b] ∧ (∃ xs, SqL K H1 a xs) ∧ (∃ ys, SqL K H1 b ys) ∧ R (Itz K a b) H1
theorem pi_zip {els : List Expr} {k1} {tpos : Pos} {a b : Expr} {ta : TA} {p pos : Pos} (hg : Gl X "zip") (hm : X.mg "zip" = none) (ha : PA X [a, b] ta) (hs : starEach [a, b] X.env = [(false, eval a X.env), (false, eval b X.env)] := by rfl) (hs2 : starEach [b] X.env = [(false, eval b X.env)] := by rfl) :
    PI X (.Tuple els k1 tpos) (.Call (.Name "zip" p) [a, b] [] pos) (iZip X.K ta) := by
  intro pins s σ H R I h
  refine Call_ (ld_blt I hg hm boot_zip (PyProof.Rows.callWith_type1 (thn (ha pos pins s σ H _ I h) fun us s1 ⟨vs, H1, I1, r1, q1⟩ => ?_) (by rw [hs, hs2]) (by rw [hs2]; rfl)))
  obtain ⟨l, m, rfl, ⟨xs, hq⟩, ⟨ys, hq2⟩, q⟩ := q1
  obtain ⟨u, v, rfl, rx, ry⟩ := vals2 r1
  cases rx
  cases ry
  obtain ⟨its, rv, pl, hz⟩ := I1.list hq
  obtain ⟨its2, rv2, pl2, hz2⟩ := I1.list hq2
  have ll : l < s1.heap.objs.size := by obtain ⟨o, e, _⟩ := pl.isList; exact Heap.lt_size e
  have lm : m < s1.heap.objs.size := by obtain ⟨o, e, _⟩ := pl2.isList; exact Heap.lt_size e
  refine call_zip_2 pl.isList pl2.isList fun h' e1 e2 e3 e4 e5 sz kp => ?_
  refine wpAny_pyIter_zip e1 ?_
  refine ⟨s1.heap.objs.size + 4, [s1.heap.objs.size + 4, s1.heap.objs.size + 2, s1.heap.objs.size + 3, s1.heap.objs.size, s1.heap.objs.size + 1], _, _, H1, rfl, I1.kept (t' := s1.toks) kp,
    turn_zip l m (s1.heap.objs.size + 4) (s1.heap.objs.size + 2) (s1.heap.objs.size + 3) s1.heap.objs.size (s1.heap.objs.size + 1) (apart ll lm), ⟨e1, e2, ⟨_, _, e3⟩, e4, e5⟩, fun c hc => ?_, q⟩
  have hb' : s1.heap.objs.size ≤ c := by
    simp only [List.mem_cons, List.not_mem_nil, or_false] at hc
    rcases hc with rfl | rfl | rfl | rfl | rfl
    · exact Nat.le_add_right _ 4
    · exact Nat.le_add_right _ 2
    · exact Nat.le_add_right _ 3
    · exact Nat.le_refl _
    · exact Nat.le_add_right _ 1
  exact I1.fpOk hb' (I1.hok.fresh hb')
end
theorem for_zip {K : PySem.W.Frag} {a b : Addr} {xs ys : List V} {g : TG} {tb : TS} {D : Ends} {σ : St} {H : Hp} (Pv : Nat → St → Hp → Prop) (hlen : xs.length = ys.length) (h0 : Pv 0 σ H) (hl : ∀ i σ H, Pv i σ H → SqL K H a xs ∧ SqL K H b ys)
    (hs : ∀ i x y t σ H, xs[i]? = some x → ys[i]? = some y → Pv i σ H → H t = none → g (.ref t) σ (upd H t (.tup [x, y])) fun σ2 H2 => tb { D with nx := Pv (i + 1), ct := Pv (i + 1), bk := D.nx } σ2 H2) (hd : ∀ σ H, Pv xs.length σ H → D.nx σ H) :
    ∃ W : Nat → Nat → St → Hp → Prop, (∃ m, W 0 m σ H) ∧ ∀ i m σ H, W i m σ H →
      ((Itz K a b).stop i H ∧ D.nx σ H) ∨ ((Itz K a b).go i H ∧ ∃ N : St → Hp → Prop, (∀ σ' H', N σ' H' → ∃ m', m' < m ∧ W (i + 1) m' σ' H') ∧ ∀ x H', (Itz K a b).yld i H x H' → g x σ H' fun σ2 H2 => tb { D with nx := N, ct := N, bk := D.nx } σ2 H2) := by
  refine ⟨fun i m σ H => m = xs.length - i ∧ i ≤ xs.length ∧ Pv i σ H, ⟨xs.length, by simp, Nat.zero_le _, h0⟩, ?_⟩
  rintro i m σ H ⟨rfl, hi, p⟩
  obtain ⟨q1, q2⟩ := hl i σ H p
  by_cases hlt : i < xs.length
  · have hlt2 : i < ys.length := by omega
    refine .inr ⟨⟨xs, ys, xs[i], ys[i], q1, q2, by simp [hlt], by simp [hlt2]⟩, Pv (i + 1), fun σ' H' p' => ⟨xs.length - (i + 1), by omega, rfl, hlt, p'⟩, fun x H' y => ?_⟩
    obtain ⟨t, u, v, ht, e1, e2, y1, y2⟩ := y
    subst e1 e2
    exact hs i u v t σ H (y1 xs q1) (y2 ys q2) p ht
  · have e : i = xs.length := by omega
    subst e
    exact .inl ⟨⟨xs, ys, q1, q2, .inl (Nat.le_refl _)⟩, hd σ H p⟩
end L2

end

section
set_option maxHeartbeats 2000000
set_option maxRecDepth 100000
set_option linter.unusedVariables false
set_option linter.unusedSimpArgs false
namespace L2
open PySem PySem.Spec PyProof.Rows
/-! ### lists of lists of ints -/
structure Lists (H : Hp) (rs : List Addr) (qss : List (List Int)) : Prop where
  len : rs.length = qss.length
  at_ : ∀ (i : Nat) r qs, rs[i]? = some r → qss[i]? = some qs → H r = some (.lst (qs.map V.int))
theorem Lists.nil {H : Hp} : Lists H [] [] := ⟨rfl, fun i r qs h => by simp at h⟩
theorem Lists.mono {H H' : Hp} {rs : List Addr} {qss : List (List Int)} (h : Lists H rs qss) (s : Same H H') : Lists H' rs qss := ⟨h.len, fun i r qs a b => s _ _ (h.at_ i r qs a b)⟩
theorem Lists.snoc {H : Hp} {rs : List Addr} {qss : List (List Int)} {r : Addr} {qs : List Int} (h : Lists H rs qss) (hr : H r = some (.lst (qs.map V.int))) : Lists H (rs ++ [r]) (qss ++ [qs]) := by
  refine ⟨by simp [h.len], fun i r' qs' a b => ?_⟩
  have hl := h.len
  by_cases hi : i < rs.length
  · rw [List.getElem?_append_left hi] at a
    rw [List.getElem?_append_left (by omega)] at b
    exact h.at_ i r' qs' a b
  · rw [List.getElem?_append_right (by omega)] at a
    rw [List.getElem?_append_right (by omega)] at b
    have i0 : i - rs.length = 0 := by
      by_cases z : i - rs.length = 0
      · exact z
      · rw [List.getElem?_eq_none_iff.mpr (by simp; omega)] at a; cases a
    rw [i0] at a
    rw [show i - qss.length = 0 by omega] at b
    simp at a b
    subst a b
    exact hr
section
variable {X : Cx}
def rInLL (K : PySem.W.Frag) (neg : Bool) : R2 := fun x y H Q => ∃ b p bs rs qss, x = .ref b ∧ y = .ref p ∧ SqL K H b (bs.map V.int) ∧ SqL K H p (rs.map V.ref) ∧ Lists H rs qss ∧ Q (.bl (if neg then !decide (bs ∈ qss) else decide (bs ∈ qss))) H
end
/-! ### turns again and again -/
def it (j : Nat) (ps : List Int) : List Int := match j with
  | 0 => ps
  | j + 1 => turn (it j ps)
theorem Setting.it {n : Int} {ps : List Int} (h : Setting n ps) (h0 : 1 ≤ n) : ∀ j, Setting n (it j ps)
  | 0 => h
  | j + 1 => (Setting.it h h0 j).turn h0
/-! ### marks go round -/
end L2

end

section
set_option maxHeartbeats 2000000
set_option maxRecDepth 100000
set_option linter.unusedVariables false
set_option linter.unusedSimpArgs false
namespace L2
open PySem PySem.Spec PyProof.Rows
/-- a ring: d turns lead back, fewer don't; no two on the way alike -/
structure Ring (ps : List Int) (d : Nat) : Prop where
  pos : 1 ≤ d
  back : it d ps = ps
  no : ∀ i j, i < j → j < d → it i ps ≠ it j ps
end L2

end

section
set_option maxHeartbeats 2000000
set_option maxRecDepth 100000
set_option linter.unusedVariables false
set_option linter.unusedSimpArgs false
namespace BS

/-- the sum of the first n values -/
def sm : Nat → (Nat → Int) → Int
  | 0, _ => 0
  | n + 1, f => sm n f + f n

def ind (p : Prop) [Decidable p] : Int := if p then 1 else 0

theorem ind_t {p : Prop} [Decidable p] (h : p) : ind p = 1 := by simp [ind, h]
theorem ind_f {p : Prop} [Decidable p] (h : ¬p) : ind p = 0 := by simp [ind, h]
theorem ind_nn (p : Prop) [Decidable p] : 0 ≤ ind p := by unfold ind; split <;> omega
theorem ind_le (p : Prop) [Decidable p] : ind p ≤ 1 := by unfold ind; split <;> omega

theorem sm_le {n : Nat} {f g : Nat → Int} (h : ∀ i, i < n → f i ≤ g i) : sm n f ≤ sm n g := by
  induction n with
  | zero => simp [sm]
  | succ n ih => have := ih (fun i hi => h i (by omega)); have := h n (by omega); simp only [sm]; omega

theorem sm_congr {n : Nat} {f g : Nat → Int} (h : ∀ i, i < n → f i = g i) : sm n f = sm n g := by
  induction n with
  | zero => simp [sm]
  | succ n ih => have := ih (fun i hi => h i (by omega)); have := h n (by omega); simp only [sm]; omega

theorem sm_sub (n : Nat) (f g : Nat → Int) : sm n (fun i => f i - g i) = sm n f - sm n g := by
  induction n with
  | zero => simp [sm]
  | succ n ih => simp only [sm]; omega

theorem sm_const (n : Nat) (d : Int) : sm n (fun _ => d) = n * d := by
  induction n with
  | zero => simp [sm]
  | succ n ih => simp only [sm]; rw [ih]; push_cast; rw [Int.add_mul]; omega

theorem sm_nn {n : Nat} {f : Nat → Int} (h : ∀ i, i < n → 0 ≤ f i) : 0 ≤ sm n f := by
  have := sm_le (n := n) (f := fun _ => 0) (g := f) h
  rw [sm_const] at this; omega

theorem sm_split (n m : Nat) (f : Nat → Int) : sm (n + m) f = sm n f + sm m (fun i => f (n + i)) := by
  induction m with
  | zero => simp [sm]
  | succ m ih => rw [← Nat.add_assoc]; simp only [sm]; omega

theorem sm_succ' (n : Nat) (f : Nat → Int) : sm (n + 1) f = f 0 + sm n (fun i => f (i + 1)) := by
  have h := sm_split 1 n f
  rw [Nat.add_comm 1 n] at h
  rw [h]; simp only [sm]
  rw [sm_congr (n := n) (g := fun i => f (i + 1)) (fun i _ => by rw [Nat.add_comm])]
  omega

theorem sm_iv (n : Nat) (lo hi : Int) :
    sm n (fun y => ind (lo ≤ (y : Int) ∧ (y : Int) < hi)) = max 0 (min (n : Int) hi - max 0 lo) := by
  induction n with
  | zero => simp only [sm]; omega
  | succ n ih =>
      simp only [sm]; rw [ih]
      by_cases h : lo ≤ (n : Int) ∧ (n : Int) < hi
      · rw [ind_t h]; omega
      · rw [ind_f h]; omega

/-! ### the numbers of piles -/

structure Sys (c r : Nat → Int) : Prop where
  mono : ∀ t, 1 ≤ t → r (t + 1) ≤ r t
  nn : ∀ t, 0 ≤ r t
  eqn : ∀ t, 1 ≤ t → c t = r t + sm (t - 1) (fun i => ind ((i : Int) + 1 ≤ c (t - (i + 1))))

section
variable {c r : Nat → Int} (S : Sys c r)

include S

theorem c_nn (t : Nat) (ht : 1 ≤ t) : 0 ≤ c t := by
  rw [S.eqn t ht]
  have := S.nn t
  have := sm_nn (n := t - 1) (f := fun i => ind ((i : Int) + 1 ≤ c (t - (i + 1)))) (fun i _ => ind_nn _)
  omega

theorem rise (t : Nat) (ht : 1 ≤ t) : c (t + 1) ≤ c t + 1 := by
  rw [S.eqn (t + 1) (by omega), S.eqn t ht]
  have h1 := S.mono t ht
  obtain ⟨u, rfl⟩ : ∃ u, t = u + 1 := ⟨t - 1, by omega⟩
  have e : u + 1 + 1 - 1 = u + 1 := by omega
  rw [e, sm_succ']
  have h2 := ind_le (((0 : Nat) : Int) + 1 ≤ c (u + 1 + 1 - (0 + 1)))
  have h3 : sm u (fun i => ind (((i + 1 : Nat) : Int) + 1 ≤ c (u + 1 + 1 - (i + 1 + 1)))) ≤
      sm u (fun i => ind ((i : Int) + 1 ≤ c (u + 1 - (i + 1)))) := by
    apply sm_le; intro i hi
    have e2 : u + 1 + 1 - (i + 1 + 1) = u + 1 - (i + 1) := by omega
    rw [e2]
    by_cases h : ((i + 1 : Nat) : Int) + 1 ≤ c (u + 1 - (i + 1))
    · rw [ind_t h, ind_t (by omega)]; omega
    · rw [ind_f h]; exact ind_nn _
  have e3 : u + 1 - 1 = u := by omega
  rw [e3]; omega

end

/-- landings of the pile of age x in the last m + 1 turns up to a -/
def Lam (c : Nat → Int) (a m x : Nat) : Int :=
  sm (m + 1) (fun y => ind (y < x ∧ (x : Int) ≤ c (a - x) + (y : Int)))

def Rf (k m x : Nat) : Int := sm (m + 1) (fun y => ind (y < x ∧ x ≤ k + y))

theorem Lam_eq (c : Nat → Int) (a m x : Nat) :
    Lam c a m x = max 0 (min ((m : Int) + 1) x - max 0 ((x : Int) - c (a - x))) := by
  have h := sm_iv (m + 1) ((x : Int) - c (a - x)) x
  unfold Lam
  rw [sm_congr (g := fun y => ind ((x : Int) - c (a - x) ≤ (y : Int) ∧ (y : Int) < x))
    (fun y _ => by unfold ind; congr 1; apply propext; constructor <;> intro h <;> omega), h]
  push_cast; rfl

theorem Rf_eq (k m x : Nat) :
    Rf k m x = max 0 (min ((m : Int) + 1) x - max 0 ((x : Int) - k)) := by
  have h := sm_iv (m + 1) ((x : Int) - k) x
  unfold Rf
  rw [sm_congr (g := fun y => ind ((x : Int) - k ≤ (y : Int) ∧ (y : Int) < x))
    (fun y _ => by unfold ind; congr 1; apply propext; constructor <;> intro h <;> omega), h]
  push_cast; rfl

theorem Rf_step (k m x : Nat) : Rf (k + 1) m x - Rf k m x = ind ((k : Int) + 1 ≤ (x : Int) ∧ (x : Int) < k + m + 2) := by
  rw [Rf_eq, Rf_eq]
  by_cases h : (k : Int) + 1 ≤ (x : Int) ∧ (x : Int) < k + m + 2
  · rw [ind_t h]; push_cast; omega
  · rw [ind_f h]; push_cast; omega

section
variable (c : Nat → Int) (a m : Nat)

def cntA (N : Nat) : Int := sm N (fun i => ind ((i : Int) + 1 ≤ c (a - (i + 1))))
def Gd (k N : Nat) : Int := sm N (fun i => Lam c a m (i + 1) - Rf k m (i + 1))

theorem cntA_le (N : Nat) : cntA c a N ≤ N := by
  have := sm_le (n := N) (f := fun i => ind ((i : Int) + 1 ≤ c (a - (i + 1)))) (g := fun _ => 1) (fun i _ => ind_le _)
  rw [sm_const] at this; unfold cntA; omega

theorem last_alive (N : Nat) (h : 1 ≤ cntA c a N) :
    ∃ X, 1 ≤ X ∧ X ≤ N ∧ (X : Int) ≤ c (a - X) ∧ (∀ x, X < x → x ≤ N → c (a - x) < x) ∧ cntA c a X = cntA c a N := by
  induction N with
  | zero => simp [cntA, sm] at h
  | succ N ih =>
      by_cases ha : ((N + 1 : Nat) : Int) ≤ c (a - (N + 1))
      · exact ⟨N + 1, by omega, by omega, ha, fun x h1 h2 => by omega, rfl⟩
      · have e : cntA c a (N + 1) = cntA c a N := by
          show sm N _ + ind _ = _
          rw [ind_f (by push_cast at ha; omega)]; unfold cntA; omega
        rw [e] at h
        obtain ⟨X, h1, h2, h3, h4, h5⟩ := ih h
        refine ⟨X, h1, by omega, h3, ?_, by omega⟩
        intro x hx hxN
        by_cases hx2 : x = N + 1
        · subst hx2; omega
        · exact h4 x hx (by omega)

theorem cntA_succ (N : Nat) (ha : ((N + 1 : Nat) : Int) ≤ c (a - (N + 1))) : cntA c a (N + 1) = cntA c a N + 1 := by
  show sm N _ + ind _ = _
  rw [ind_t (by push_cast at ha; omega)]; rfl

theorem Gd_step (k N : Nat) (h : k ≤ N) :
    Gd c a m (k + 1) N = Gd c a m k N - min ((N : Int) - k) (m + 1) := by
  unfold Gd
  have h2 : sm N (fun i => Lam c a m (i + 1) - Rf (k + 1) m (i + 1)) = sm N (fun i => Lam c a m (i + 1) - Rf k m (i + 1)) -
      sm N (fun i => ind ((k : Int) ≤ (i : Int) ∧ (i : Int) < k + m + 1)) := by
    rw [← sm_sub]; apply sm_congr; intro i _
    have := Rf_step k m (i + 1)
    have e : ind ((k : Int) + 1 ≤ ((i + 1 : Nat) : Int) ∧ ((i + 1 : Nat) : Int) < k + m + 2) =
        ind ((k : Int) ≤ (i : Int) ∧ (i : Int) < k + m + 1) := by
      unfold ind; congr 1; apply propext; constructor <;> intro h <;> omega
    omega
  rw [h2, sm_iv]; omega

end
end BS

end

section
set_option maxHeartbeats 2000000
set_option maxRecDepth 100000
set_option linter.unusedVariables false
set_option linter.unusedSimpArgs false
namespace BS

def Pm (c : Nat → Int) (k m : Nat) : Prop :=
  ∀ a, m * (k + 1) + 1 ≤ a + k → 1 ≤ a → (k : Int) + 1 ≤ c a →
    ((m : Int) + 1) * k + 1 ≤ sm (m + 1) (fun y => c (a - y))

theorem sm_subc (n : Nat) (f : Nat → Int) (d : Int) : sm n (fun i => f i - d) = sm n f - n * d := by
  rw [sm_sub, sm_const]

section
variable {c r : Nat → Int} (S : Sys c r)
include S

/-- a pile that is gone at a has at least its number less k of landings more than the reference -/
theorem dead_term (a m K x : Nat) (hx : K < x) (hx2 : x ≤ K + m) (ha : x < a) (hd : c (a - x) < x) :
    c (a - x) - K ≤ Lam c a m x - Rf K m x := by
  have := c_nn S (a - x) (by omega)
  rw [Lam_eq, Rf_eq]; omega

theorem dead_term0 (a m K x : Nat) (hx2 : K + m < x) : 0 ≤ Lam c a m x - Rf K m x := by
  rw [Lam_eq, Rf_eq]; omega

theorem last_term (a m K x : Nat) (hx2 : x = K + m) : -1 ≤ Lam c a m x - Rf K m x := by
  rw [Lam_eq, Rf_eq]; omega

theorem alive_term (a m K x : Nat) (hx : K < x) (hd : (x : Int) ≤ c (a - x)) :
    Lam c a m x - Rf K m x = min ((x : Int) - K) (m + 1) := by
  rw [Lam_eq, Rf_eq]; omega

/-- the gone piles behind the pile of age X, no older than K + m -/
theorem tail_ge (a m K X N : Nat) (hN : N < a) (hX : K ≤ X) (hXN : X ≤ N) (hd : ∀ x, X < x → x ≤ N → c (a - x) < x)
    (L : Nat) (hL : L = min N (K + m) - X) :
    sm L (fun i => c (a - X - (i + 1)) - K) ≤ sm (N - X) (fun i => Lam c a m (X + i + 1) - Rf K m (X + i + 1)) := by
  obtain ⟨d, hd2⟩ : ∃ d, N - X = L + d := ⟨N - X - L, by omega⟩
  rw [hd2, sm_split]
  have h1 : sm L (fun i => c (a - X - (i + 1)) - K) ≤ sm L (fun i => Lam c a m (X + i + 1) - Rf K m (X + i + 1)) := by
    apply sm_le; intro i hi
    have := dead_term S a m K (X + i + 1) (by omega) (by omega) (by omega) (hd _ (by omega) (by omega))
    have e : a - X - (i + 1) = a - (X + i + 1) := by omega
    rw [e]; exact this
  have h2 : 0 ≤ sm d (fun i => Lam c a m (X + (L + i) + 1) - Rf K m (X + (L + i) + 1)) := by
    apply sm_nn; intro i hi
    apply dead_term0 S; omega
  omega

/-- behind a pile of more than K coins at birth the numbers are K together -/
theorem behind (K L s : Nat) (hP : Pm c K L) (hP' : 1 ≤ L → Pm c K (L - 1)) (hs : L + 1 ≤ s) (ht : L * K + L + 1 ≤ s + K)
    (hc : (K : Int) + 1 ≤ c s) : 0 ≤ sm L (fun i => c (s - (i + 1)) - K) := by
  rcases Nat.eq_zero_or_pos L with h0 | h0
  · subst h0; simp [sm]
  · rw [sm_subc]
    by_cases h1 : c s ≤ (K : Int) + 1
    · have h := hP s (by rw [Nat.mul_add]; omega) (by omega) hc
      rw [sm_succ'] at h
      simp only [Nat.sub_zero] at h
      rw [Int.add_mul] at h; omega
    · have hr := rise S (s - 1) (by omega)
      have e : s - 1 + 1 = s := by omega
      rw [e] at hr
      obtain ⟨l, rfl⟩ : ∃ l, L = l + 1 := ⟨L - 1, by omega⟩
      have h := hP' h0 (s - 1) (by
        have e2 : l + 1 - 1 = l := by omega
        rw [e2, Nat.mul_add]; rw [Nat.add_mul] at ht; omega) (by omega) (by omega)
      have e2 : l + 1 - 1 = l := by omega
      rw [e2] at h
      rw [sm_congr (g := fun i => c (s - (i + 1))) (fun i _ => by congr 1; omega)] at h
      push_cast at h ⊢; omega

theorem Q (a m K0 : Nat) (hm : 2 ≤ m) (hP : ∀ k' m', m' < m → Pm c k' m') (hb : (m - 1) * K0 + m + 1 ≤ a) :
    ∀ k, k ≤ K0 → ∀ N, k ≤ N → N < a → (k : Int) ≤ cntA c a N → - min ((N : Int) - k) m ≤ Gd c a m k N := by
  intro k
  induction k with
  | zero =>
      intro _ N _ _ _
      have : 0 ≤ Gd c a m 0 N := by
        apply sm_nn; intro i _; rw [Lam_eq, Rf_eq]; omega
      omega
  | succ k ih =>
      intro hk N hN hNa hcnt
      -- where the oldest is alive
      have al : ∀ X, k + 1 ≤ X → X < a → ((k + 1 : Nat) : Int) ≤ cntA c a X → (X : Int) ≤ c (a - X) →
          - min ((X : Int) - (k + 1 : Nat)) m ≤ Gd c a m (k + 1) X := by
        intro X hX hXa hc hal
        obtain ⟨x, rfl⟩ : ∃ x, X = x + 1 := ⟨X - 1, by omega⟩
        rw [cntA_succ c a x hal] at hc
        have h1 := ih (by omega) x (by omega) (by omega) (by push_cast at hc; omega)
        have h2 := Gd_step c a m k x (by omega)
        have h3 := alive_term S a m (k + 1) (x + 1)
        have h4 : Lam c a m (x + 1) - Rf (k + 1) m (x + 1) = min ((x : Int) - k) (m + 1) := by
          rw [Lam_eq, Rf_eq]; push_cast at hal ⊢; omega
        have h5 : Gd c a m (k + 1) (x + 1) = Gd c a m (k + 1) x + (Lam c a m (x + 1) - Rf (k + 1) m (x + 1)) := rfl
        push_cast; omega
      have hb' : (m - 1) * (k + 1) + m + 1 ≤ a := by
        have := Nat.mul_le_mul_left (m - 1) hk; omega
      obtain ⟨X, hX1, hXN, hXa, hdead, hcX⟩ := last_alive c a N (by push_cast at hcnt; omega)
      have hXk : k + 1 ≤ X := by
        have := cntA_le c a X; push_cast at hcnt; omega
      have h1 := al X hXk (by omega) (by omega) hXa
      obtain ⟨L, hL⟩ : ∃ L, L = min N (k + 1 + m) - X := ⟨_, rfl⟩
      have ht := tail_ge S a m (k + 1) X N hNa hXk hXN hdead L hL
      have hsplit : Gd c a m (k + 1) N = Gd c a m (k + 1) X +
          sm (N - X) (fun i => Lam c a m (X + i + 1) - Rf (k + 1) m (X + i + 1)) := by
        have e : N = X + (N - X) := by omega
        show sm N _ = sm X _ + _
        rw [show sm N (fun i => Lam c a m (i + 1) - Rf (k + 1) m (i + 1)) = sm (X + (N - X)) (fun i => Lam c a m (i + 1) - Rf (k + 1) m (i + 1)) from by rw [← e]]
        rw [sm_split]
      by_cases hJ : k + 1 < X
      · have hmul : L * (k + 1) ≤ (m - 1) * (k + 1) := Nat.mul_le_mul_right _ (by omega)
        by_cases hL0 : L = 0
        · subst hL0; simp [sm] at ht; push_cast at *; omega
        · have h2 := behind S (k + 1) L (a - X) (hP _ _ (by omega)) (fun _ => hP _ _ (by omega)) (by omega)
            (by have : L + (X - (k + 1)) ≤ m := by omega
                omega) (by push_cast at hXa ⊢; omega)
          push_cast at *; omega
      · have hXe : X = k + 1 := by omega
        subst hXe
        by_cases hL0 : L = 0
        · subst hL0; simp [sm] at ht; push_cast at *; omega
        · have hL1 : (L : Int) = min ((N : Int) - (k + 1)) m := by omega
          by_cases hc1 : ((k + 1 : Nat) : Int) + 1 ≤ c (a - (k + 1))
          · have hr := rise S (a - (k + 1) - 1) (by omega)
            have e : a - (k + 1) - 1 + 1 = a - (k + 1) := by omega
            rw [e] at hr
            have hmul : (L - 1) * (k + 1) ≤ (m - 1) * (k + 1) := Nat.mul_le_mul_right _ (by omega)
            have h := hP k (L - 1) (by omega) (a - (k + 1) - 1) (by omega) (by omega) (by push_cast at *; omega)
            have e2 : L - 1 + 1 = L := by omega
            rw [e2] at h
            rw [sm_congr (g := fun i => c (a - (k + 1) - (i + 1))) (fun i _ => by congr 1; omega)] at h
            rw [sm_subc] at ht
            have e3 : ((L - 1 : Nat) : Int) + 1 = L := by omega
            rw [e3] at h
            push_cast at ht
            rw [Int.mul_add] at ht
            push_cast at *; omega
          · by_cases hLm : L < m
            · have hmul : L * (k + 1) ≤ (m - 1) * (k + 1) := Nat.mul_le_mul_right _ (by omega)
              have h := hP k L hLm (a - (k + 1)) (by omega) (by omega) (by push_cast at *; omega)
              rw [sm_succ'] at h
              simp only [Nat.sub_zero] at h
              rw [sm_subc] at ht
              rw [Int.add_mul] at h
              push_cast at ht
              rw [Int.mul_add] at ht
              push_cast at *; omega
            · have hLe : L = m := by omega
              obtain ⟨l, rfl⟩ : ∃ l, m = l + 1 := ⟨m - 1, by omega⟩
              have e1 : l + 1 - 1 = l := by omega
              rw [e1] at hb hb'
              have h := hP k l (by omega) (a - (k + 1)) (by omega) (by omega) (by push_cast at *; omega)
              rw [sm_succ'] at h
              simp only [Nat.sub_zero] at h
              rw [Int.add_mul] at h
              -- the tail by hand
              have hNX : ∃ d, N - (k + 1) = l + 1 + d := ⟨N - (k + 1) - (l + 1), by omega⟩
              obtain ⟨d, hd⟩ := hNX
              have t1 : sm (N - (k + 1)) (fun i => Lam c a (l + 1) (k + 1 + i + 1) - Rf (k + 1) (l + 1) (k + 1 + i + 1)) =
                  sm (l + 1) (fun i => Lam c a (l + 1) (k + 1 + i + 1) - Rf (k + 1) (l + 1) (k + 1 + i + 1)) +
                  sm d (fun i => Lam c a (l + 1) (k + 1 + (l + 1 + i) + 1) - Rf (k + 1) (l + 1) (k + 1 + (l + 1 + i) + 1)) := by
                rw [hd, sm_split]
              have t2 : 0 ≤ sm d (fun i => Lam c a (l + 1) (k + 1 + (l + 1 + i) + 1) - Rf (k + 1) (l + 1) (k + 1 + (l + 1 + i) + 1)) := by
                apply sm_nn; intro i _; apply dead_term0 S; omega
              have t3 : sm l (fun i => c (a - (k + 1) - (i + 1)) - (k + 1 : Nat)) ≤ sm l (fun i => Lam c a (l + 1) (k + 1 + i + 1) - Rf (k + 1) (l + 1) (k + 1 + i + 1)) := by
                apply sm_le; intro i hi
                have := dead_term S a (l + 1) (k + 1) (k + 1 + i + 1) (by omega) (by omega) (by omega) (hdead _ (by omega) (by omega))
                have e : a - (k + 1) - (i + 1) = a - (k + 1 + i + 1) := by omega
                rw [e]; exact this
              have t4 := last_term S a (l + 1) (k + 1) (k + 1 + l + 1) (by omega)
              have t5 : sm (l + 1) (fun i => Lam c a (l + 1) (k + 1 + i + 1) - Rf (k + 1) (l + 1) (k + 1 + i + 1)) =
                sm l (fun i => Lam c a (l + 1) (k + 1 + i + 1) - Rf (k + 1) (l + 1) (k + 1 + i + 1)) +
                (Lam c a (l + 1) (k + 1 + l + 1) - Rf (k + 1) (l + 1) (k + 1 + l + 1)) := rfl
              rw [sm_subc] at t3
              push_cast at t3
              rw [Int.mul_add] at t3
              push_cast at *; omega

end
end BS

end

section
set_option maxHeartbeats 2000000
set_option maxRecDepth 100000
set_option linter.unusedVariables false
set_option linter.unusedSimpArgs false
namespace L2
open PySem PySem.Spec PyProof.Rows
/-! ### rows of piles -/
/-! ### where a list lies in a list of lists -/
section
variable {X : Cx}
def rIndexLL (K : PySem.W.Frag) : V → List V → Hp → VK → Prop := fun x vs H Q => ∃ l b bs rs qss j, x = .ref l ∧ vs = [.ref b] ∧ H l = some (.lst (rs.map V.ref)) ∧ Lists H rs qss ∧ SqL K H b (bs.map V.int) ∧ qss[j]? = some bs ∧ (∀ m, m < j → qss[m]? ≠ some bs) ∧ Q (.int (j : Nat)) H
end
end L2

end

section
set_option maxHeartbeats 2000000
set_option maxRecDepth 100000
set_option linter.unusedVariables false
set_option linter.unusedSimpArgs false
namespace L2
open PySem PySem.Spec PyProof.Rows
/-! ### a comprehension whose parts lay new things -/
section
variable {K : PySem.W.Frag} {g : TG} {tc : TT} {te : TE} {D : Addr} {H : Hp} {Q : VK}
theorem comp_rel {J : It} (xs : List V) (p : V → Bool) (R : V → V → Hp → Prop) (fr : St) (hn : xs.length < sizeLine)
    (hgo : ∀ i H', i < xs.length → Same H H' → J.go i H') (hst : ∀ H', Same H H' → J.stop xs.length H') (hy : ∀ i H' x H2, Same H H' → i < xs.length → J.yld i H' x H2 → H2 = H' ∧ xs[i]? = some x)
    (hD : H D = none) (hg : ∀ x o H' Q', Q' (some x :: fr) H' → g x (o :: fr) H' Q')
    (hc : ∀ x ∈ xs, ∀ H' Q', Same H H' → (∃ l, H' D = some (.lst l)) → (∀ H2, Same H' H2 → Q' (p x) H2) → tc (some x :: fr) H' Q')
    (he : ∀ x ∈ xs, p x = true → ∀ H' Q', Same H H' → (∃ l, H' D = some (.lst l)) → (∀ H2 v, Same H' H2 → R x v H2 → Q' v H2) → te (some x :: fr) H' Q')
    (hR : ∀ x v H1 H2, R x v H1 → (∀ b o, b ≠ D → H1 b = some o → H2 b = some o) → R x v H2)
    (hQ : ∀ H' vs, Same H H' → Paired (fun x v => R x v H') (xs.filter p) vs → H' D = some (.lst vs) → Q (.ref D) H') :
    ∃ W : Nat → Nat → St → Hp → Prop, (∃ m, W 0 m (none :: fr) (upd H D (.lst []))) ∧ CTurn J g tc te D W Q := by
  refine ⟨fun i m σ' H' => m = xs.length - i ∧ i ≤ xs.length ∧ (∃ o, σ' = o :: fr) ∧ Same H H' ∧ ∃ vs, H' D = some (.lst vs) ∧ Paired (fun x v => R x v H') ((xs.take i).filter p) vs, ⟨xs.length, by simp, Nat.zero_le _, ⟨_, rfl⟩, Same.put hD, [], upd_same, by simpa using Paired.nil⟩, ?_⟩
  rintro i m σ' H' ⟨rfl, hi, ⟨o, rfl⟩, sm, vs, hd, pr⟩
  by_cases hlt : i < xs.length
  · refine .inr ⟨hgo i _ hlt sm, fun x H2 y => ?_⟩
    obtain ⟨e, ex⟩ := hy i _ x H2 sm hlt y
    subst e
    have hx : x ∈ xs := List.mem_of_getElem? ex
    have ft := filter_take_succ p xs i x ex
    have vl : vs.length < sizeLine := by
      have e1 := Paired.length pr
      have e2 : ((xs.take i).filter p).length ≤ xs.length := Nat.le_trans (List.length_filter_le _ _) (by rw [List.length_take]; omega)
      omega
    refine hg x o _ _ (hc x hx _ _ sm ⟨_, hd⟩ fun H3 s3 => ?_)
    have grow : ∀ {H4 : Hp}, Same H2 H4 → Paired (fun x v => R x v H4) ((xs.take i).filter p) vs := fun s4 => Paired.mapP pr fun x v z => hR x v _ _ z fun b o _ e => s4 b o e
    cases hp : p x with
    | true =>
      rw [if_pos rfl]
      refine he x hx hp _ _ (sm.trans s3) ⟨_, s3 _ _ hd⟩ fun H4 v s4 r4 => ?_
      have hd4 := s4 _ _ (s3 _ _ hd)
      refine ⟨vs, hd4, vl, xs.length - (i + 1), by omega, rfl, hlt, ⟨_, rfl⟩, fun b u e => ?_, vs ++ [v], upd_same, ?_⟩
      · rw [upd_ne (ne_of_none e hD)]; exact s4 _ _ (s3 _ _ (sm _ _ e))
      · rw [ft, hp]
        have keep : ∀ x v, R x v H4 → R x v (upd H4 D (.lst (vs ++ [v]))) := fun x' v' z => hR x' v' _ _ z fun b o hb e => by rw [upd_ne hb]; exact e
        refine Paired.snoc (Paired.mapP (grow (s3.trans s4)) fun x' v' z => hR x' v' _ _ z fun b o hb e => by rw [upd_ne hb]; exact e) ?_
        exact hR _ _ _ _ r4 fun b o hb e => by rw [upd_ne hb]; exact e
    | false =>
      rw [if_neg Bool.false_ne_true]
      refine ⟨xs.length - (i + 1), by omega, rfl, hlt, ⟨_, rfl⟩, sm.trans s3, vs, s3 _ _ hd, ?_⟩
      rw [ft, hp]
      simpa using grow s3
  · have e : i = xs.length := by omega
    subst e
    refine .inl ⟨hst _ sm, hQ H' vs sm ?_ hd⟩
    rw [List.take_of_length_le (Nat.le_refl _)] at pr
    exact pr
theorem comp_relL {a : Addr} (xs : List V) (p : V → Bool) (R : V → V → Hp → Prop) (fr : St) (hn : xs.length < sizeLine) (ha : SqL K H a xs) (hD : H D = none)
    (hc : ∀ x ∈ xs, ∀ H' Q', Same H H' → (∃ l, H' D = some (.lst l)) → (∀ H2, Same H' H2 → Q' (p x) H2) → tc (some x :: fr) H' Q')
    (he : ∀ x ∈ xs, p x = true → ∀ H' Q', Same H H' → (∃ l, H' D = some (.lst l)) → (∀ H2 v, Same H' H2 → R x v H2 → Q' v H2) → te (some x :: fr) H' Q')
    (hR : ∀ x v H1 H2, R x v H1 → (∀ b o, b ≠ D → H1 b = some o → H2 b = some o) → R x v H2)
    (hQ : ∀ H' vs, Same H H' → Paired (fun x v => R x v H') (xs.filter p) vs → H' D = some (.lst vs) → Q (.ref D) H') :
    ∃ W : Nat → Nat → St → Hp → Prop, (∃ m, W 0 m (none :: fr) (upd H D (.lst []))) ∧ CTurn (Itl K a) (gName 0) tc te D W Q :=
  comp_rel xs p R fr hn (fun i H' hi s => ⟨xs, xs[i], s.seq ha, by simp [hi]⟩) (fun H' s => ⟨xs, s.seq ha, Nat.le_refl _⟩) (fun i H' x H2 s hi ⟨e, y⟩ => ⟨e, y xs (s.seq ha)⟩) hD (fun _ _ _ _ h => h) hc he hR hQ
end
theorem paired_eq {α β : Type} {f : α → β} : ∀ {xs : List α} {vs : List β}, Paired (fun x v => v = f x) xs vs → vs = xs.map f
  | [], _, .nil => rfl
  | x :: xs, _, .cons e r => by rw [e, paired_eq r]; rfl
section
variable {X : Cx}
end
/-! ### how many rings: sums -/
namespace RC
def chN (p : Nat) : Nat → Nat
  | 0 => 1
  | t + 1 => chN p t * (p - t) / (t + 1)
def again (k r t : Nat) : Nat := if r % (k / Nat.gcd k t) = 0 then chN (Nat.gcd k t) (r / (k / Nat.gcd k t)) else 0
def S (k r : Nat) : Nat := ((List.range k).map (again k r)).sum
end RC
/-- the rest -/
theorem IsStair.rest {n k : Int} (h : IsStair n k) : ∃ r : Nat, n - k * (k - 1) / 2 = r ∧ 1 ≤ r ∧ (r : Int) ≤ k := by
  obtain ⟨h1, h2, h3⟩ := h
  have ev : 2 * (k * (k - 1) / 2) = k * (k - 1) := even_mul k
  have e1 : (k - 1) * k = k * (k - 1) := Int.mul_comm _ _
  have e2 : k * (k + 1) = k * (k - 1) + 2 * k := by rw [Int.mul_add, Int.mul_sub]; omega
  exact ⟨(n - k * (k - 1) / 2).toNat, by omega, by omega, by omega⟩
end L2

end

section
set_option maxHeartbeats 2000000
set_option maxRecDepth 100000
set_option linter.unusedVariables false
set_option linter.unusedSimpArgs false
namespace L2
open PySem PySem.Spec PyProof.Rows
/-! ### range(hi, lo, -1) -/
namespace DR
theorem size (a b : Int) : Builtin.Range.rangeSize a b (-1) = ((a - b).toNat : Int) := by
  unfold Builtin.Range.rangeSize
  simp only [show ¬ ((-1 : Int) > 0) by decide, if_false, show (-(-1) : Int) = 1 from rfl, Int.ediv_one]
  split <;> omega
end DR
def Itd (hi : Int) (n : Nat) : It := ⟨fun i _ => i < n, fun i H x H' => H' = H ∧ x = .int (hi - i), fun i _ => n ≤ i⟩
section
variable {X : Cx} {tg : Expr}
def iRngD (ta : TA) : TI := fun σ H R => ta σ H fun vs H1 => ∃ i j : Int, vs = [.int i, .int j, .int (-1)] ∧ (-(2 ^ 62) ≤ i ∧ i < 2 ^ 62 ∧ -(2 ^ 62) ≤ j ∧ j < 2 ^ 62) ∧ R (Itd i (i - j).toNat) H1
end
/-! ### a def of which nothing is asked -/
theorem Dfn.none {P : Program} {w : World} {K : PySem.W.Frag} {mg : Str → Option Value} {base : Heap} {x : Str} {st : Stmt} {ps : List Str} {k : Nat} (D : Dfn K mg x st ps) : OkD P w K mg base k x ps (fun _ _ _ _ => False) := by
  obtain ⟨f, fd, F, hm, hb⟩ := D
  exact ⟨f, fd, hm, F.kp, hb, ⟨fun _ _ _ _ z => z.elim, fun _ _ _ _ _ _ _ _ _ _ _ _ _ z => z.elim⟩⟩
/-! ### lists of lists -/
theorem Lists.app {H : Hp} : ∀ {rs us : List Addr} {qss tss : List (List Int)}, Lists H rs qss → Lists H us tss → Lists H (rs ++ us) (qss ++ tss) := by
  intro rs us qss tss h1 h2
  refine ⟨by rw [List.length_append, List.length_append, h1.len, h2.len], fun i r qs a b => ?_⟩
  have l1 := h1.len
  by_cases hi : i < rs.length
  · rw [List.getElem?_append_left hi] at a
    rw [List.getElem?_append_left (by omega)] at b
    exact h1.at_ i r qs a b
  · rw [List.getElem?_append_right (by omega)] at a
    rw [List.getElem?_append_right (by omega)] at b
    rw [l1] at a
    exact h2.at_ _ r qs a b
theorem Lists.cons {H : Hp} {r : Addr} {rs : List Addr} {qs : List Int} {qss : List (List Int)} (h1 : H r = some (.lst (qs.map V.int))) (h : Lists H rs qss) : Lists H (r :: rs) (qs :: qss) :=
  Lists.app (rs := [r]) (qss := [qs]) (Lists.snoc (rs := []) (qss := []) Lists.nil h1) h
theorem Lists.tail {H : Hp} {r : Addr} {rs : List Addr} {qs : List Int} {qss : List (List Int)} (h : Lists H (r :: rs) (qs :: qss)) : H r = some (.lst (qs.map V.int)) ∧ Lists H rs qss :=
  ⟨h.at_ 0 r qs rfl rfl, by have := h.len; simpa using this, fun i r' qs' a b => h.at_ (i + 1) r' qs' (by simpa using a) (by simpa using b)⟩
theorem Lists.off {H H' : Hp} {rs : List Addr} {qss : List (List Int)} (h : Lists H rs qss) (k : ∀ r ∈ rs, ∀ o, H r = some o → H' r = some o) : Lists H' rs qss :=
  ⟨h.len, fun i r qs a b => k r (List.mem_of_getElem? a) _ (h.at_ i r qs a b)⟩
def vI : V → Int
  | .int i => i
  | _ => 0
def cont (H : Hp) : V → List Int
  | .ref r => match H r with
    | some (.lst xs) => xs.map vI
    | _ => []
  | _ => []
theorem cont_of {H : Hp} {r : Addr} {qs : List Int} (h : H r = some (.lst (qs.map V.int))) : cont H (.ref r) = qs := by
  show (match H r with | some (.lst xs) => xs.map vI | _ => []) = qs
  rw [h]
  show (qs.map V.int).map vI = qs
  rw [List.map_map]
  exact List.map_id' _
theorem Lists.conts {H : Hp} : ∀ {rs : List Addr} {qss : List (List Int)}, Lists H rs qss → (rs.map V.ref).map (cont H) = qss
  | [], [], _ => rfl
  | [], _ :: _, h => by have := h.len; simp at this
  | _ :: _, [], h => by have := h.len; simp at this
  | r :: rs, qs :: qss, h => by
    obtain ⟨h1, h2⟩ := h.tail
    rw [List.map_cons, List.map_cons, cont_of h1, h2.conts]
theorem Lists.mem {H : Hp} {rs : List Addr} {qss : List (List Int)} (h : Lists H rs qss) {r : Addr} (hr : r ∈ rs) : ∃ qs ∈ qss, H r = some (.lst (qs.map V.int)) := by
  obtain ⟨i, hi, rfl⟩ := List.getElem_of_mem hr
  have hq : i < qss.length := by rw [← h.len]; exact hi
  exact ⟨qss[i], List.getElem_mem hq, h.at_ i _ _ (by simp [hi]) (by simp [hq])⟩
section
variable {K : PySem.W.Frag} {tc : TT} {te : TE} {D : Addr} {H : Hp} {Q : VK}
theorem paired_lists {H0 H' : Hp} {f : V → List Int} : ∀ {xs : List V} {vs : List V}, Paired (fun x v => ∃ q, v = V.ref q ∧ q ≠ D ∧ H0 q = none ∧ H' q = some (.lst ((f x).map V.int))) xs vs →
    ∃ us : List Addr, vs = us.map V.ref ∧ Lists H' us (xs.map f) ∧ ∀ u ∈ us, H0 u = none ∧ u ≠ D
  | [], _, .nil => ⟨[], rfl, Lists.nil, fun _ h => by simp at h⟩
  | x :: xs, _, .cons ⟨q, e, n, z, a⟩ r => by
    obtain ⟨us, e2, L, k⟩ := paired_lists r
    subst e e2
    refine ⟨q :: us, rfl, Lists.cons a L, fun u hu => ?_⟩
    rcases List.mem_cons.mp hu with y | y
    · subst y; exact ⟨z, n⟩
    · exact k u y
/-- lists out of ints of a list -/
theorem comp_IL {a : Addr} (ns : List Int) (p : Int → Bool) (f : Int → List Int) (fr : St) (hn : ns.length < sizeLine) (ha : IL K H a ns) (hD : H D = none)
    (hc : ∀ i ∈ ns, ∀ H' Q', Same H H' → (∀ H2, Same H' H2 → Q' (p i) H2) → tc (some (.int i) :: fr) H' Q')
    (he : ∀ i ∈ ns, p i = true → ∀ H' Q', Same H H' → (∀ H2 q, H' q = none → Same H' H2 → H2 q = some (.lst ((f i).map V.int)) → Q' (.ref q) H2) → te (some (.int i) :: fr) H' Q')
    (hQ : ∀ H' us, Same H H' → H' D = some (.lst (us.map V.ref)) → Lists H' us ((ns.filter p).map f) → (∀ u ∈ us, H u = none ∧ u ≠ D) → Q (.ref D) H') :
    ∃ W : Nat → Nat → St → Hp → Prop, (∃ m, W 0 m (none :: fr) (upd H D (.lst []))) ∧ CTurn (Itl K a) (gName 0) tc te D W Q := by
  refine comp_relL (ns.map V.int) (fun x => p (vI x)) (fun x v H2 => ∃ q, v = V.ref q ∧ q ≠ D ∧ H q = none ∧ H2 q = some (.lst ((f (vI x)).map V.int))) fr (by simpa using hn) ha hD (fun x hx H' Q' s l q => ?_) (fun x hx hp H' Q' s l q => ?_)
    (fun x v H1 H2 ⟨q, e, n, z, y⟩ k => ⟨q, e, n, z, k q _ n y⟩) fun H' vs s pr e => ?_
  · obtain ⟨i, hi, rfl⟩ := List.mem_map.mp hx
    exact hc i hi H' Q' s q
  · obtain ⟨i, hi, rfl⟩ := List.mem_map.mp hx
    obtain ⟨l, hl⟩ := l
    exact he i hi hp H' Q' s fun H2 u hu s2 e2 => q H2 _ s2 ⟨u, rfl, (ne_of_none hl hu).symm, s.free hu, e2⟩
  · obtain ⟨us, rfl, L, k⟩ := paired_lists (f := fun x => f (vI x)) pr
    refine hQ H' us s e ?_ k
    have e3 : ((ns.map V.int).filter fun x => p (vI x)).map (fun x => f (vI x)) = (ns.filter p).map f := by
      rw [List.filter_map, List.map_map]
      rfl
    rw [e3] at L
    exact L
end
end L2

end

section
set_option maxHeartbeats 2000000
set_option maxRecDepth 100000
set_option linter.unusedVariables false
set_option linter.unusedSimpArgs false
namespace L2
open PySem PySem.Spec PyProof.Rows
/-! ### all settings, from the greatest down (f: how deep the calls go) -/
def dn : Nat → Nat → Nat → List (List Int)
  | 0, _, _ => []
  | f + 1, n, m => if n = 0 then [[]] else ((List.range (min n m)).map fun i => (dn f (n - (min n m - i)) (min n m - i)).map (((min n m - i : Nat) : Int) :: ·)).flatten
/-- the first i piles of them -/
def dnp (f n m i : Nat) : List (List Int) := ((List.range i).map fun i => (dn f (n - (min n m - i)) (min n m - i)).map (((min n m - i : Nat) : Int) :: ·)).flatten
theorem dn_eq {f n m : Nat} (h : n ≠ 0) : dn (f + 1) n m = dnp f n m (min n m) := by
  show (if n = 0 then _ else _) = _
  rw [if_neg h]; rfl
theorem dnp_succ (f n m i : Nat) : dnp f n m (i + 1) = dnp f n m i ++ (dn f (n - (min n m - i)) (min n m - i)).map (((min n m - i : Nat) : Int) :: ·) := by
  unfold dnp
  rw [List.range_succ, List.map_append, List.flatten_append]
  simp
theorem dn_len : ∀ (f n m : Nat), (dn f n m).length ≤ 2 ^ n
  | 0, n, m => by show 0 ≤ _; exact Nat.zero_le _
  | f + 1, n, m => by
    by_cases h : n = 0
    · subst h
      show (if 0 = 0 then [[]] else _ : List (List Int)).length ≤ _
      rw [if_pos rfl]; simp
    · rw [dn_eq h]
      have key : ∀ i, i ≤ min n m → (dnp f n m i).length ≤ 2 ^ (n - min n m + i) := fun i => by
        induction i with
        | zero => intro _; show 0 ≤ _; exact Nat.zero_le _
        | succ i ih =>
          intro hi
          have z := ih (by omega)
          have y := dn_len f (n - (min n m - i)) (min n m - i)
          rw [dnp_succ, List.length_append, List.length_map]
          rw [show n - (min n m - i) = n - min n m + i by omega] at y ⊢
          rw [show n - min n m + (i + 1) = (n - min n m + i) + 1 by omega, Nat.pow_succ]
          omega
      have z := key (min n m) (Nat.le_refl _)
      rw [show n - min n m + min n m = n by omega] at z
      exact z
theorem pow18 {n : Nat} (h : n ≤ 18) : 2 ^ n ≤ 262144 := Nat.le_trans (Nat.pow_le_pow_right (by omega) h) (by decide)
end L2

end

section
set_option maxHeartbeats 2000000
set_option maxRecDepth 100000
set_option linter.unusedVariables false
set_option linter.unusedSimpArgs false
namespace LC
open PySem PySem.SeqAt
open PySem.AutoSeq1 (wpAny_loadPart')
open PySem.MeetsSeq PySem.MeetsSeq2 PySem.MeetsSeq3 PySem.SeqRoads2
/-! ### the order of lists of ints -/
def lexLt : List Int → List Int → Bool
  | [], [] => false
  | [], _ :: _ => true
  | _ :: _, [] => false
  | x :: xs, y :: ys => if x = y then lexLt xs ys else decide (x < y)
/-- the ints of an array of values -/
def Nums (xs : Array Value) (ns : List Int) : Prop := xs.size = ns.length ∧ ∀ (i : Nat) (h : i < xs.size) (g : i < ns.length), ∃ t, xs[i] = .int ns[i] t
theorem loop_lt (l b : Addr) (xs ys : Array Value) (ns ms : List Int) (hx : Nums xs ns) (hy : Nums ys ms) (u1 u2 : Nat) (d1 d2 : Option Addr) (z1 z2 : Array (Option Value)) (k : Nat) :
    ∀ i : Nat, min xs.size ys.size - i = k → i ≤ min xs.size ys.size → Meets (Builtin.«list.__eq__.loop» ⟨[.ref l, .ref b, rawInt i, rawInt 0], []⟩)
      (fun _ R s => s.heap.get? l = some { cls := .type "list", dict := d1, data := .seq xs u1, slots := z1 } ∧ s.heap.get? b = some { cls := .type "list", dict := d2, data := .seq ys u2, slots := z2 } ∧
        R (.ok (.ret (.bool (lexLt (ns.drop i) (ms.drop i))))) s) := by
  have lx := hx.1
  have ly := hy.1
  induction k with
  | zero =>
    intro i hk hle prog w A R s h
    obtain ⟨hp, g, d, tk, os⟩ := s
    obtain ⟨e1, e2, h⟩ := h
    wp_walk using wpAny_loadPart' e1, wpAny_loadPart' e2
    have no : xs[((i : Nat) : Int).toNat]? = none ∨ ys[((i : Nat) : Int).toNat]? = none := by
      simp only [Int.toNat_natCast, Array.getElem?_eq_none_iff]; omega
    have fin : R (.ok (.ret (.bool (decide (xs.size < ys.size))))) ⟨hp, g, d, tk, os⟩ := by
      have e : (lexLt (ns.drop i) (ms.drop i)) = decide (xs.size < ys.size) := by
        by_cases c : xs.size ≤ i
        · rw [List.drop_eq_nil_iff.mpr (by omega : ns.length ≤ i)]
          by_cases c2 : ys.size ≤ i
          · rw [List.drop_eq_nil_iff.mpr (by omega : ms.length ≤ i)]
            simp only [lexLt]; symm; simp; omega
          · rw [List.drop_eq_getElem_cons (by omega : i < ms.length)]
            simp only [lexLt]; symm; simp; omega
        · have c2 : ys.size ≤ i := by omega
          rw [List.drop_eq_nil_iff.mpr (by omega : ms.length ≤ i), List.drop_eq_getElem_cons (by omega : i < ns.length)]
          simp only [lexLt]; symm; simp; omega
      rw [e] at h; exact h
    cases cx : xs[((i : Nat) : Int).toNat]? with
    | none =>
      wp_walk using wpAny_loadPart' e1, wpAny_loadPart' e2
      exact fin
    | some v =>
      cases cy : ys[((i : Nat) : Int).toNat]? with
      | none =>
        wp_walk using wpAny_loadPart' e1, wpAny_loadPart' e2
        exact fin
      | some v2 => rcases no with z | z <;> simp_all
  | succ k ih =>
    intro i hk hle prog w A R s h
    obtain ⟨hp, g, d, tk, os⟩ := s
    obtain ⟨e1, e2, h⟩ := h
    wp_walk using wpAny_loadPart' e1, wpAny_loadPart' e2
    have l1 : i < xs.size := by omega
    have l2 : i < ys.size := by omega
    obtain ⟨t1, v1⟩ := hx.2 i l1 (by omega)
    obtain ⟨t2, v2⟩ := hy.2 i l2 (by omega)
    have a1 : xs[((i : Nat) : Int).toNat]? = some (.int (ns[i]'(by omega)) t1) := by rw [Int.toNat_natCast, Array.getElem?_eq_getElem l1, v1]
    have a2 : ys[((i : Nat) : Int).toNat]? = some (.int (ms[i]'(by omega)) t2) := by rw [Int.toNat_natCast, Array.getElem?_eq_getElem l2, v2]
    have up : ((i : Int) + 1) = ((i + 1 : Nat) : Int) := by push_cast; rfl
    rw [List.drop_eq_getElem_cons (show i < ns.length by omega), List.drop_eq_getElem_cons (show i < ms.length by omega)] at h
    rw [a1, a2]
    refine wpAny_bind (EqAt.int_int _ t1 _ t2 prog w _ _ ?_)
    generalize ns[i]'(by omega) = p at *
    generalize ms[i]'(by omega) = q at *
    simp only [lexLt] at h
    by_cases c : p = q
    · rw [show (p == q) = true by simpa using c]
      rw [if_pos c] at h
      wp_walk
      rw [up]
      exact ⟨plainId_quiet plain_eq_loop _, codeAny_builtin entry_eq_loop (by rw [Around.under_plainId plain_eq_loop _]; exact ih (i + 1) (by omega) (by omega) prog w A R _ ⟨e1, e2, h⟩)⟩
    · rw [show (p == q) = false by simpa using c]
      rw [if_neg c] at h
      wp_walk using wpAny_loadPart' e1, wpAny_loadPart' e2
      rw [a1, a2]
      refine wpAny_bind (richCompare_gives (op := .Lt) (typeIs_int _ p t1) (typeIs_int _ q t2) F.slot_int_lt F.entry_int_lt (F.args_int_lt_2 _ _) (gives_int_lt p q t1 t2) (fun x => nomatch x) ?_)
      show wpAny (model prog w) A.in1 (ret (Value.bool _)) _ _ _
      wp_walk
      exact h
theorem list_lt (l b : Addr) (xs ys : Array Value) (ns ms : List Int) (hx : Nums xs ns) (hy : Nums ys ms) (u1 u2 : Nat) (d1 d2 : Option Addr) (z1 z2 : Array (Option Value)) : Meets (Builtin.«list.__lt__» ⟨[.ref l, .ref b], []⟩)
      (fun _ R s => s.heap.get? l = some { cls := .type "list", dict := d1, data := .seq xs u1, slots := z1 } ∧ s.heap.get? b = some { cls := .type "list", dict := d2, data := .seq ys u2, slots := z2 } ∧
        R (.ok (.ret (.bool (lexLt ns ms)))) s) := by
  intro prog w A R s h
  obtain ⟨hp, g, d, tk, os⟩ := s
  obtain ⟨e1, e2, h⟩ := h
  have f3 := AutoSeq1.sub_list_list
  wp_walk using wpAny_loadPart' e1, wpAny_loadPart' e2
  exact ⟨plainId_quiet plain_eq_loop _, codeAny_builtin entry_eq_loop (by rw [Around.under_plainId plain_eq_loop _]; exact loop_lt l b xs ys ns ms hx hy u1 u2 d1 d2 z1 z2 _ 0 rfl (Nat.zero_le _) prog w A R _ ⟨e1, e2, h⟩)⟩
end LC
namespace LC
open PySem
/-! ### max of a list whose items are old things -/
section
variable {prog : Program} {w : World} {A : Around} {R : Result → Shared → Prop} {I ax S : Addr} {items : Array Value} {g : Heap} {bt : Nat → Nat → Bool}
end
end LC

end

section
set_option maxHeartbeats 2000000
set_option maxRecDepth 100000
set_option linter.unusedVariables false
set_option linter.unusedSimpArgs false
namespace Srt
open PySem PyProof.Rows
abbrev Pend := Array (Nat × Nat × Nat)
/-- the state of a sort: a shuffle of a₀, nothing failed, the pending runs p -/
structure TB (a₀ : Array Keyed) (p : Pend) (st : SortSt) : Prop where
  perm : (arrOf st).Perm a₀
  kd : kindOf st = oneType'
  ff : failedOf st = none
  pd : pendingOf st = p
/-- keys by a rank -/
@[reducible] def rkKind (rk : Value → Int) : KeyKind where
  α := Int
  blt a b := decide (a < b)
  irrefl a := by simp
  trans a b c h1 h2 := by simp only [decide_eq_true_eq] at *; omega
  negTrans a b c h := by simp only [decide_eq_true_eq] at *; omega
  total a b h1 h2 := by simp only [decide_eq_false_iff_not] at *; omega
  keyOf v := some (rk v)
  dflt := 0
def KR (rk : Value → Int) (xs : Array Keyed) (i : Nat) : Int := KK (rkKind rk) xs i
theorem KR_bubble {rk : Value → Int} {xs : Array Keyed} {src d : Nat} (hs : src < xs.size) (hd : d ≤ src) (k : Nat) : KR rk (bubble xs src d) k = if k = src - d then KR rk xs src else if src - d < k ∧ k ≤ src then KR rk xs (k - 1) else KR rk xs k := KK_bubble (κ := rkKind rk) hs hd k
theorem KR_mirror {rk : Value → Int} {xs : Array Keyed} {i j : Nat} (hj : j ≤ xs.size) (k : Nat) : KR rk (mirror xs i j ((j - i) / 2)) k = if i ≤ k ∧ k < j then KR rk xs (i + j - 1 - k) else KR rk xs k := KK_mirror (κ := rkKind rk) hj k
theorem KR_mirror_equal {rk : Value → Int} {xs : Array Keyed} {i j : Nat} (hj : j ≤ xs.size) (he : ∀ k, i ≤ k → k < j → KR rk xs k = KR rk xs (j - 1)) (k : Nat) : KR rk (mirror xs i j ((j - i) / 2)) k = KR rk xs k := KK_mirror_equal (κ := rkKind rk) hj he k
theorem KR_at {rk : Value → Int} {xs : Array Keyed} {i : Nat} {x : Keyed} (h : xs[i]? = some x) : KR rk xs i = rk x.1 := by
  unfold KR KK
  rw [h]; rfl
/-- of two keys of a₀ the less one is told by the rank, at s -/
def Lts (prog : Program) (w : World) (A : Around) (s : Shared) (rk : Value → Int) (a₀ : Array Keyed) : Prop :=
  ∀ x ∈ a₀.toList, ∀ y ∈ a₀.toList, ∀ (E : Value → Shared → Prop) (Q : Bool → Shared → Prop), Q (decide (rk x.1 < rk y.1)) s → wpAny (model prog w) A (oneLt' true x.1 y.1) Q E s
def Seg (rk : Value → Int) (xs : Array Keyed) (lo hi : Nat) : Prop := ∀ i j, lo ≤ i → i ≤ j → j < hi → KR rk xs i ≤ KR rk xs j
def Dsc (rk : Value → Int) (xs : Array Keyed) (lo hi : Nat) : Prop := ∀ i j, lo ≤ i → i ≤ j → j < hi → KR rk xs j ≤ KR rk xs i
def Low (rk : Value → Int) (xs ys : Array Keyed) (lo : Nat) : Prop := ∀ i, i < lo → KR rk xs i = KR rk ys i
theorem Low.refl {rk : Value → Int} (xs : Array Keyed) (lo : Nat) : Low rk xs xs lo := fun _ _ => rfl
theorem Low.trans {rk : Value → Int} {xs ys zs : Array Keyed} {lo : Nat} (a : Low rk xs ys lo) (b : Low rk ys zs lo) : Low rk xs zs lo := fun i h => (a i h).trans (b i h)

section
variable {prog : Program} {w : World} {A : Around} {E : Value → Shared → Prop} {s : Shared} {a₀ : Array Keyed} {p : Pend} {st : SortSt} {rk : Value → Int}

theorem TB.size (h : TB a₀ p st) : (arrOf st).size = a₀.size := h.perm.size_eq
theorem TB.arr (h : TB a₀ p st) {xs : Array Keyed} (hp : xs.Perm (arrOf st)) : TB a₀ p (setArr st xs) := ⟨hp.trans h.perm, h.kd, h.ff, h.pd⟩
theorem TB.get (h : TB a₀ p st) (rk : Value → Int) {i : Nat} (hi : i < a₀.size) : ∃ x, (arrOf st)[i]? = some x ∧ x ∈ a₀.toList ∧ rk x.1 = KR rk (arrOf st) i := by
  have hi' : i < (arrOf st).size := by rw [h.size]; exact hi
  have e : (arrOf st)[i]? = some ((arrOf st)[i]'hi') := getElem?_pos (arrOf st) i hi'
  refine ⟨_, e, ?_, (KR_at e).symm⟩
  have m : (arrOf st)[i]'hi' ∈ (arrOf st).toList := Array.getElem_mem_toList hi'
  exact (Array.perm_iff_toList_perm.mp h.perm).mem_iff.mp m
theorem w_lt {x y : Keyed} {Q : Option Bool → SortSt → Prop} (h0 : Lts prog w A s rk a₀) (hk : kindOf st = oneType') (hx : x ∈ a₀.toList) (hy : y ∈ a₀.toList) (h : Q (some (decide (rk x.1 < rk y.1))) st) :
    wpS (model prog w) A E s (lt' x y) Q st := by
  obtain ⟨x1, x2⟩ := x
  obtain ⟨y1, y2⟩ := y
  rw [lt'_eq]
  refine wpS_bind (wpS_get ?_)
  rw [hk]
  dsimp only
  rw [keyLt'_oneType]
  exact wpS_bind (wpS_lift (wpAny_attempt (h0 _ hx _ hy _ _ ⟨rfl, wpS_pure h⟩)))
theorem w_elem {arr : Array Keyed} {i : Nat} {x : Keyed} {Q : Keyed → SortSt → Prop} (e : arr[i]? = some x) (h : Q x st) : wpS (model prog w) A E s (elem' arr i) Q st := by
  rw [elem'_eq, e]
  exact wpS_pure h

theorem w_at {i j : Nat} {Q : Option Bool → SortSt → Prop} (B : TB a₀ p st) (h0 : Lts prog w A s rk a₀) (hi : i < a₀.size) (hj : j < a₀.size)
    (h : Q (some (decide (KR rk (arrOf st) i < KR rk (arrOf st) j))) st) : wpS (model prog w) A E s (ltAt' i j) Q st := by
  obtain ⟨x, e1, k1, v1⟩ := B.get rk hi
  obtain ⟨y, e2, k2, v2⟩ := B.get rk hj
  rw [ltAt'_eq]
  refine wpS_bind (wpS_get (wpS_bind (w_elem e1 (wpS_bind (w_elem e2 (w_lt h0 B.kd k1 k2 ?_))))))
  rw [v1, v2]
  exact h

theorem w_rev {i j : Nat} {Q : Unit → SortSt → Prop} (h : Q () (setArr st (mirror (arrOf st) i j ((j - i) / 2)))) : wpS (model prog w) A E s (reverseSlice' i j) Q st := by
  rw [reverseSlice'_eq]
  exact wpS_modify h

/-! ### binary insertion, from lo on -/
theorem w_bin {lo n ok : Nat} {Q : Bool → SortSt → Prop} (h0 : Lts prog w A s rk a₀) (hn : lo + n ≤ a₀.size) (hok : ok ≤ n) (B : TB a₀ p st) (hs : Seg rk (arrOf st) lo (lo + ok))
    (h : ∀ st', TB a₀ p st' → Seg rk (arrOf st') lo (lo + n) → Low rk (arrOf st') (arrOf st) lo → Q true st') : wpS (model prog w) A E s (binarySort' lo n ok) Q st := by
  rw [binarySort'_eq]
  refine wpS_bind (wpS_mono (wpS_forRange (I := fun k c st' => c = (none, ()) ∧ TB a₀ p st' ∧ Seg rk (arrOf st') lo (lo + min k n) ∧ Low rk (arrOf st') (arrOf st) lo)
    (Q := fun c st' => c = (none, ()) ∧ TB a₀ p st' ∧ Seg rk (arrOf st') lo (lo + n) ∧ Low rk (arrOf st') (arrOf st) lo) ?turn ?fin ?beg) ?post)
  case post =>
    rintro c st' ⟨rfl, B', s', l'⟩
    exact wpS_pure (h st' B' s' l')
  case beg =>
    refine ⟨rfl, B, fun i j h1 h2 h3 => ?_, Low.refl _ _⟩
    by_cases z : ok = 0
    · have e : i = j := by omega
      rw [e]
      exact Int.le_refl _
    · exact hs i j h1 h2 (by omega)
  case fin =>
    rintro c st' ⟨hc, B', s', l'⟩
    refine ⟨hc, B', ?_, l'⟩
    rwa [show min (max (max ok 1) n) n = n from by omega] at s'
  case turn =>
    rintro k c st' hk1 hk2 ⟨rfl, B', s', l'⟩
    rw [show min k n = k from by omega] at s'
    have hk : lo + k < a₀.size := by omega
    refine wpS_bind (wpS_mono (wpS_forRange (I := fun x c st'' => st'' = st' ∧ ∃ l r, c = (none, l, r) ∧ l ≤ r ∧ r ≤ k ∧ r - l ≤ k - x ∧
        (∀ i, i < l → KR rk (arrOf st') (lo + i) ≤ KR rk (arrOf st') (lo + k)) ∧ (∀ i, r ≤ i → i < k → KR rk (arrOf st') (lo + k) < KR rk (arrOf st') (lo + i)))
      (Q := fun c st'' => st'' = st' ∧ ∃ l r, c = (none, l, r) ∧ l ≤ k ∧
        (∀ i, i < l → KR rk (arrOf st') (lo + i) ≤ KR rk (arrOf st') (lo + k)) ∧ (∀ i, l ≤ i → i < k → KR rk (arrOf st') (lo + k) < KR rk (arrOf st') (lo + i))) ?t2 ?f2 ?b2) ?p2)
    case b2 => exact ⟨rfl, 0, k, rfl, by omega, by omega, by omega, fun i z => by omega, fun i y z => by omega⟩
    case f2 =>
      rintro c st'' ⟨rfl, l, r, rfl, x1, x2, x3, x4, x5⟩
      have e : l = r := by omega
      subst e
      exact ⟨rfl, l, l, rfl, x2, x4, x5⟩
    case t2 =>
      rintro x c st'' _ hx ⟨rfl, l, r, rfl, x1, x2, x3, x4, x5⟩
      dsimp only
      by_cases hge : l ≥ r
      · rw [if_pos hge]
        have e : l = r := by omega
        subst e
        exact wpS_pure ⟨rfl, l, l, rfl, x2, x4, x5⟩
      · rw [if_neg hge]
        refine wpS_bind (w_at B' h0 hk (by omega) ?_)
        by_cases hl : KR rk (arrOf st'') (lo + k) < KR rk (arrOf st'') (lo + (l + r) / 2)
        · simp only [hl, decide_true, if_true]
          refine wpS_pure ⟨rfl, l, (l + r) / 2, rfl, by omega, by omega, by omega, x4, fun i y z => ?_⟩
          exact Int.lt_of_lt_of_le hl (s' _ _ (by omega) (by omega) (by omega))
        · simp only [hl, decide_false, Bool.false_eq_true, if_false]
          refine wpS_pure ⟨rfl, (l + r) / 2 + 1, r, rfl, by omega, by omega, by omega, fun i y => ?_, x5⟩
          exact Int.le_trans (s' (lo + i) (lo + (l + r) / 2) (by omega) (by omega) (by omega)) (Int.not_lt.mp hl)
    case p2 =>
      rintro c st'' ⟨rfl, l, r, rfl, x2, x4, x5⟩
      show wpS _ _ _ _ (do moveDown' (lo + k) (lo + l); pure (ForInStep.yield (none, ()))) _ _
      rw [moveDown'_eq]
      have hks : lo + k < (arrOf st'').size := by rw [B'.size]; exact hk
      have kb : ∀ z, KR rk (bubble (arrOf st'') (lo + k) (lo + k - (lo + l))) z = if z = lo + l then KR rk (arrOf st'') (lo + k) else if lo + l < z ∧ z ≤ lo + k then KR rk (arrOf st'') (z - 1) else KR rk (arrOf st'') z := fun z => by
        rw [KR_bubble hks (by omega), show lo + k - (lo + k - (lo + l)) = lo + l from by omega]
      refine wpS_bind (wpS_modify (wpS_pure ⟨rfl, B'.arr (bubble_perm _ _ _), ?_, ?_⟩))
      · rw [show min (k + 1) n = k + 1 from by omega]
        intro i j y1 y2 y3
        show KR rk (bubble (arrOf st'') (lo + k) (lo + k - (lo + l))) i ≤ KR rk (bubble (arrOf st'') (lo + k) (lo + k - (lo + l))) j
        have x4' : ∀ i, lo ≤ i → i < lo + l → KR rk (arrOf st'') i ≤ KR rk (arrOf st'') (lo + k) := fun i u v => by
          have z := x4 (i - lo) (by omega)
          rwa [show lo + (i - lo) = i from by omega] at z
        have x5' : ∀ i, lo + l ≤ i → i < lo + k → KR rk (arrOf st'') (lo + k) < KR rk (arrOf st'') i := fun i u v => by
          have z := x5 (i - lo) (by omega) (by omega)
          rwa [show lo + (i - lo) = i from by omega] at z
        rw [kb, kb]
        repeat' split
        all_goals first
          | (exfalso; omega)
          | exact Int.le_refl _
          | exact x4' _ (by omega) (by omega)
          | exact Int.le_of_lt (x5' _ (by omega) (by omega))
          | exact s' _ _ (by omega) (by omega) (by omega)
      · refine Low.trans (fun i hi => ?_) l'
        show KR rk (bubble (arrOf st'') (lo + k) (lo + k - (lo + l))) i = _
        rw [kb, if_neg (by omega), if_neg (by omega)]
end

/-! ### a run, from lo on -/
theorem K_mir {rk : Value → Int} {xs : Array Keyed} {i j : Nat} (hj : j ≤ xs.size) (k : Nat) : KR rk (mirror xs i j ((j - i) / 2)) k = if i ≤ k ∧ k < j then KR rk xs (i + j - 1 - k) else KR rk xs k := KR_mirror hj k
theorem K_mir_eq {rk : Value → Int} {xs : Array Keyed} {i j : Nat} (hj : j ≤ xs.size) (he : ∀ k, i ≤ k → k < j → KR rk xs k = KR rk xs (j - 1)) (k : Nat) : KR rk (mirror xs i j ((j - i) / 2)) k = KR rk xs k := KR_mirror_equal hj he k

def up (lo a nrem : Nat) : StateT SortSt Sem (Option (Option Nat) × Nat) :=
  forIn [a:nrem] ((none, a) : Option (Option Nat) × Nat) fun _ c => do
    let x ← ltAt' (lo + c.2) (lo + c.2 - 1)
    match x with
    | some b => if b = true then pure (.done (none, c.2)) else pure (.yield (none, c.2 + 1))
    | _ => pure (.done (some none, c.2))
def fin3 (lo n nrem : Nat) : StateT SortSt Sem (Option Nat) := do
  reverseSlice' lo (lo + n)
  let c ← up lo n nrem
  match c.1 with
  | some r => pure r
  | none => pure (some c.2)
def down (lo n nrem : Nat) : StateT SortSt Sem (Option (Option Nat) × Nat × Nat) :=
  forIn [n:nrem] ((none, n, 0) : Option (Option Nat) × Nat × Nat) fun _ c => do
    let x ← ltAt' (lo + c.2.1) (lo + c.2.1 - 1)
    match x with
    | some b =>
      if b = true then
        if c.2.2 > 0 then do
          reverseSlice' (lo + c.2.1 - (c.2.2 + 1)) (lo + c.2.1)
          pure (.yield (none, c.2.1 + 1, 0))
        else pure (.yield (none, c.2.1 + 1, 0))
      else do
        let y ← ltAt' (lo + c.2.1 - 1) (lo + c.2.1)
        match y with
        | some d => if d = true then pure (.done (none, c.2.1, c.2.2)) else pure (.yield (none, c.2.1 + 1, c.2.2 + 1))
        | _ => pure (.done (some none, c.2.1, c.2.2))
    | _ => pure (.done (some none, c.2.1, c.2.2))
def dpart (lo n nrem : Nat) : StateT SortSt Sem (Option Nat) := do
  liftM (rule "list.sort.descending-run")
  let c ← down lo (n + 1) nrem
  match c.1 with
  | some r => pure r
  | none => if c.2.2 > 0 then do reverseSlice' (lo + c.2.1 - (c.2.2 + 1)) (lo + c.2.1); fin3 lo c.2.1 nrem else fin3 lo c.2.1 nrem

theorem run_eq (lo nrem : Nat) : countRun' lo nrem = (do
    let c ← up lo 1 nrem
    match c.1 with
    | some r => pure r
    | none =>
      if (c.2 == nrem) = true then pure (some c.2)
      else if c.2 > 1 then do
        let x ← ltAt' lo (lo + c.2 - 1)
        match x with
        | some b => if b = true then pure (some c.2) else do reverseSlice' lo (lo + c.2); dpart lo c.2 nrem
        | _ => pure none
      else dpart lo c.2 nrem) := by
  have tl : ∀ n, (fin3 lo n nrem) = (do
      reverseSlice' lo (lo + n)
      let mut n := n
      for _ in [n:nrem] do
        let some smaller ← ltAt' (lo + n) (lo + n - 1) | return none
        if smaller then break
        n := n + 1
      return some n) := fun n => by
    unfold fin3 up
    congr 1; funext _; congr 1; funext c; obtain ⟨r, m⟩ := c; cases r <;> rfl
  have dp : ∀ n, dpart lo n nrem = (do
      rule "list.sort.descending-run"
      let mut n := n + 1
      let mut neq := 0
      for _ in [n:nrem] do
        let some smaller ← ltAt' (lo + n) (lo + n - 1) | return none
        if smaller then
          if neq > 0 then reverseSlice' (lo + n - (neq + 1)) (lo + n)
          neq := 0
        else
          let some larger ← ltAt' (lo + n - 1) (lo + n) | return none
          if larger then break
          neq := neq + 1
        n := n + 1
      if neq > 0 then reverseSlice' (lo + n - (neq + 1)) (lo + n)
      fin3 lo n nrem) := fun n => by
    unfold dpart down
    congr 1; funext _; congr 1; funext c; obtain ⟨r, m, q⟩ := c; cases r <;> rfl
  simp only [dp, tl]
  rw [countRun'_eq]
  unfold up
  dsimp only
  congr 1; funext c; obtain ⟨r, n⟩ := c
  cases r with
  | some r => rfl
  | none =>
    dsimp only
    split
    · rfl
    · split
      · congr 1
      · rfl

section
variable {prog : Program} {w : World} {A : Around} {E : Value → Shared → Prop} {s : Shared} {a₀ : Array Keyed} {p : Pend} {st : SortSt} {rk : Value → Int}

theorem w_up {lo a nrem : Nat} {Q : Option (Option Nat) × Nat → SortSt → Prop} (h0 : Lts prog w A s rk a₀) (hn : lo + nrem ≤ a₀.size) (ha : 1 ≤ a) (han : a ≤ nrem) (B : TB a₀ p st) (hs : Seg rk (arrOf st) lo (lo + a))
    (h : ∀ n, a ≤ n → n ≤ nrem → Seg rk (arrOf st) lo (lo + n) → (n = nrem ∨ KR rk (arrOf st) (lo + n) < KR rk (arrOf st) (lo + n - 1)) → Q (none, n) st) : wpS (model prog w) A E s (up lo a nrem) Q st := by
  unfold up
  refine wpS_forRange (I := fun x c st' => st' = st ∧ c = (none, x) ∧ Seg rk (arrOf st) lo (lo + x)) ?turn ?fin ⟨rfl, rfl, hs⟩
  case fin =>
    rintro c st' ⟨rfl, rfl, s'⟩
    rw [show max a nrem = nrem from by omega] at s' ⊢
    exact h nrem han (Nat.le_refl _) s' (.inl rfl)
  case turn =>
    rintro x c st' h1 h2 ⟨rfl, rfl, s'⟩
    dsimp only
    refine wpS_bind (w_at B h0 (by omega) (by omega) ?_)
    by_cases hl : KR rk (arrOf st') (lo + x) < KR rk (arrOf st') (lo + x - 1)
    · simp only [hl, decide_true, if_true]
      exact wpS_pure (h x h1 (by omega) s' (.inr hl))
    · simp only [hl, decide_false, Bool.false_eq_true, if_false]
      refine wpS_pure ⟨rfl, rfl, fun i j y1 y2 y3 => ?_⟩
      by_cases z : j < lo + x
      · exact s' i j y1 y2 z
      · have e : j = lo + x := by omega
        subst e
        by_cases e : i = lo + x
        · rw [e]; exact Int.le_refl _
        · exact Int.le_trans (s' i (lo + x - 1) y1 (by omega) (by omega)) (Int.not_lt.mp hl)

theorem w_fin3 {lo n nrem : Nat} {Q : Option Nat → SortSt → Prop} (h0 : Lts prog w A s rk a₀) (hn : lo + nrem ≤ a₀.size) (h1 : 1 ≤ n) (hnn : n ≤ nrem) (B : TB a₀ p st) (hs : Dsc rk (arrOf st) lo (lo + n))
    (h : ∀ m st', TB a₀ p st' → 1 ≤ m → m ≤ nrem → Seg rk (arrOf st') lo (lo + m) → Low rk (arrOf st') (arrOf st) lo → Q (some m) st') : wpS (model prog w) A E s (fin3 lo n nrem) Q st := by
  unfold fin3
  have hz : lo + n ≤ (arrOf st).size := by rw [B.size]; omega
  have km := K_mir (rk := rk) (i := lo) hz
  refine wpS_bind (w_rev ?_)
  have B' : TB a₀ p (setArr st (mirror (arrOf st) lo (lo + n) ((lo + n - lo) / 2))) := B.arr (mirror_perm _ _ _ _)
  refine wpS_bind (w_up h0 hn h1 hnn B' (fun i j y1 y2 y3 => ?_) fun m z1 z2 z3 _ => wpS_pure (h m _ B' (by omega) z2 z3 fun i hi => ?_))
  · show KR rk (mirror (arrOf st) lo (lo + n) ((lo + n - lo) / 2)) i ≤ KR rk (mirror (arrOf st) lo (lo + n) ((lo + n - lo) / 2)) j
    rw [km, km, if_pos (by omega), if_pos (by omega)]
    exact hs _ _ (by omega) (by omega) (by omega)
  · show KR rk (mirror (arrOf st) lo (lo + n) ((lo + n - lo) / 2)) i = _
    rw [km, if_neg (by omega)]

theorem w_down {lo n nrem : Nat} {Q : Option (Option Nat) × Nat × Nat → SortSt → Prop} (h0 : Lts prog w A s rk a₀) (hn : lo + nrem ≤ a₀.size) (h1 : 1 ≤ n) (hnn : n ≤ nrem) (B : TB a₀ p st) (hs : Dsc rk (arrOf st) lo (lo + n))
    (h : ∀ m q st', TB a₀ p st' → n ≤ m → m ≤ nrem → Dsc rk (arrOf st') lo (lo + m) → q + 1 ≤ m → (∀ i, lo + m - (q + 1) ≤ i → i < lo + m → KR rk (arrOf st') i = KR rk (arrOf st') (lo + m - 1)) → Low rk (arrOf st') (arrOf st) lo → Q (none, m, q) st') :
    wpS (model prog w) A E s (down lo n nrem) Q st := by
  unfold down
  refine wpS_forRange (I := fun x c st' => ∃ q, c = (none, x, q) ∧ TB a₀ p st' ∧ Dsc rk (arrOf st') lo (lo + x) ∧ q + 1 ≤ x ∧
      (∀ i, lo + x - (q + 1) ≤ i → i < lo + x → KR rk (arrOf st') i = KR rk (arrOf st') (lo + x - 1)) ∧ Low rk (arrOf st') (arrOf st) lo) ?turn ?fin ⟨0, rfl, B, hs, by omega, fun i y z => by congr 1; omega, Low.refl _ _⟩
  case fin =>
    rintro c st' ⟨q, rfl, B', s', x1, x2, x3⟩
    rw [show max n nrem = nrem from by omega] at s' x1 x2 ⊢
    exact h nrem q st' B' hnn (Nat.le_refl _) s' x1 x2 x3
  case turn =>
    rintro x c st' y1 y2 ⟨q, rfl, B', s', x1, x2, x3⟩
    dsimp only
    have hz : lo + x ≤ (arrOf st').size := by rw [B'.size]; omega
    refine wpS_bind (w_at B' h0 (by omega) (by omega) ?_)
    by_cases hl : KR rk (arrOf st') (lo + x) < KR rk (arrOf st') (lo + x - 1)
    · simp only [hl, decide_true, if_true]
      have more : ∀ xs : Array Keyed, (∀ k, KR rk xs k = KR rk (arrOf st') k) → Dsc rk xs lo (lo + (x + 1)) := fun xs hk i j u1 u2 u3 => by
        rw [hk, hk]
        by_cases z : j < lo + x
        · exact s' i j u1 u2 z
        · have e : j = lo + x := by omega
          subst e
          by_cases e : i = lo + x
          · rw [e]; exact Int.le_refl _
          · exact Int.le_trans (Int.le_of_lt hl) (s' i (lo + x - 1) u1 (by omega) (by omega))
      by_cases hq : q > 0
      · rw [if_pos hq]
        have km := K_mir_eq hz x2
        refine wpS_bind (w_rev (wpS_pure ⟨0, rfl, B'.arr (mirror_perm _ _ _ _), more _ km, by omega, fun i u v => by congr 1; omega, fun i hi => ?_⟩))
        exact (km i).trans (x3 i hi)
      · rw [if_neg hq]
        exact wpS_pure ⟨0, rfl, B', more _ (fun _ => rfl), by omega, fun i u v => by congr 1; omega, x3⟩
    · simp only [hl, decide_false, Bool.false_eq_true, if_false]
      refine wpS_bind (w_at B' h0 (by omega) (by omega) ?_)
      by_cases hg : KR rk (arrOf st') (lo + x - 1) < KR rk (arrOf st') (lo + x)
      · simp only [hg, decide_true, if_true]
        exact wpS_pure (h x q st' B' y1 (by omega) s' x1 x2 x3)
      · simp only [hg, decide_false, Bool.false_eq_true, if_false]
        have ex : KR rk (arrOf st') (lo + x) = KR rk (arrOf st') (lo + x - 1) := by omega
        refine wpS_pure ⟨q + 1, rfl, B', fun i j u1 u2 u3 => ?_, by omega, fun i u v => ?_, x3⟩
        · by_cases z : j < lo + x
          · exact s' i j u1 u2 z
          · have e : j = lo + x := by omega
            subst e
            by_cases e : i = lo + x
            · rw [e]; exact Int.le_refl _
            · rw [ex]; exact s' i (lo + x - 1) u1 (by omega) (by omega)
        · rw [show lo + (x + 1) - 1 = lo + x from by omega]
          by_cases e : i = lo + x
          · rw [e]
          · rw [ex]; exact x2 i (by omega) (by omega)

theorem w_dpart {lo n nrem : Nat} {Q : Option Nat → SortSt → Prop} (h0 : Lts prog w A s rk a₀) (hn : lo + nrem ≤ a₀.size) (hnn : n + 1 ≤ nrem) (B : TB a₀ p st) (hs : Dsc rk (arrOf st) lo (lo + (n + 1)))
    (h : ∀ m st', TB a₀ p st' → 1 ≤ m → m ≤ nrem → Seg rk (arrOf st') lo (lo + m) → Low rk (arrOf st') (arrOf st) lo → Q (some m) st') : wpS (model prog w) A E s (dpart lo n nrem) Q st := by
  unfold dpart
  refine wpS_bind (wpS_lift (wpAny_rule ⟨rfl, ?_⟩))
  refine wpS_bind (w_down h0 hn (by omega) hnn B hs fun m q st' B' z1 z2 s' x1 x2 x3 => ?_)
  dsimp only
  have hz : lo + m ≤ (arrOf st').size := by rw [B'.size]; omega
  by_cases hq : q > 0
  · rw [if_pos hq]
    have km := K_mir_eq hz x2
    refine wpS_bind (w_rev (w_fin3 h0 hn (by omega) z2 (B'.arr (mirror_perm _ _ _ _)) (fun i j u1 u2 u3 => ?_) fun k st2 a b c d e => h k st2 a b c d (e.trans (Low.trans (fun i hi => km i) x3))))
    show KR rk (mirror (arrOf st') _ _ _) j ≤ KR rk (mirror (arrOf st') _ _ _) i
    rw [km, km]
    exact s' i j u1 u2 u3
  · rw [if_neg hq]
    exact w_fin3 h0 hn (by omega) z2 B' s' fun k st2 a b c d e => h k st2 a b c d (e.trans x3)

theorem w_run {lo nrem : Nat} {Q : Option Nat → SortSt → Prop} (h0 : Lts prog w A s rk a₀) (hn : lo + nrem ≤ a₀.size) (h1 : 1 ≤ nrem) (B : TB a₀ p st)
    (h : ∀ m st', TB a₀ p st' → 1 ≤ m → m ≤ nrem → Seg rk (arrOf st') lo (lo + m) → Low rk (arrOf st') (arrOf st) lo → Q (some m) st') : wpS (model prog w) A E s (countRun' lo nrem) Q st := by
  rw [run_eq]
  refine wpS_bind (w_up h0 hn (Nat.le_refl 1) h1 B (fun i j u1 u2 u3 => by rw [show i = j from by omega]; exact Int.le_refl _) fun n z1 z2 z3 z4 => ?_)
  dsimp only
  by_cases e : n = nrem
  · rw [if_pos (by simpa using e)]
    exact wpS_pure (h n st B z1 z2 z3 (Low.refl _ _))
  · rw [if_neg (by simpa using e)]
    have hl := z4.resolve_left e
    by_cases g : n > 1
    · rw [if_pos g]
      refine wpS_bind (w_at B h0 (by omega) (by omega) ?_)
      by_cases hr : KR rk (arrOf st) lo < KR rk (arrOf st) (lo + n - 1)
      · simp only [hr, decide_true, if_true]
        exact wpS_pure (h n st B z1 z2 z3 (Low.refl _ _))
      · simp only [hr, decide_false, Bool.false_eq_true, if_false]
        have hz : lo + n ≤ (arrOf st).size := by rw [B.size]; omega
        have al : ∀ k, lo ≤ k → k < lo + n → KR rk (arrOf st) k = KR rk (arrOf st) (lo + n - 1) := fun k u v => by
          have a1 := z3 lo k (by omega) u v
          have a2 := z3 k (lo + n - 1) u (by omega) (by omega)
          omega
        have km := K_mir_eq hz al
        refine wpS_bind (w_rev (w_dpart h0 hn (by omega) (B.arr (mirror_perm _ _ _ _)) (fun i j u1 u2 u3 => ?_) fun k st2 a b c d e => h k st2 a b c d (e.trans fun i hi => km i)))
        show KR rk (mirror (arrOf st) _ _ _) j ≤ KR rk (mirror (arrOf st) _ _ _) i
        rw [km, km]
        by_cases z : j < lo + n
        · rw [al i (by omega) (by omega), al j (by omega) z]; exact Int.le_refl _
        · rw [show j = lo + n from by omega]
          by_cases e : i = lo + n
          · rw [e]; exact Int.le_refl _
          · rw [al i (by omega) (by omega)]; exact Int.le_of_lt hl
    · rw [if_neg g]
      have e1 : n = 1 := by omega
      subst e1
      refine w_dpart h0 hn (by omega) B (fun i j u1 u2 u3 => ?_) h
      by_cases e : i = j
      · rw [e]; exact Int.le_refl _
      · rw [show i = lo + 1 - 1 from by omega, show j = lo + 1 from by omega]
        exact Int.le_of_lt hl
end


section
variable {prog : Program} {w : World} {A : Around} {E : Value → Shared → Prop} {s : Shared} {a₀ : Array Keyed} {st : SortSt} {rk : Value → Int}
/-- fewer than 64 -/
theorem w_runs {Q : Unit → SortSt → Prop} (h0 : Lts prog w A s rk a₀) (B : TB a₀ #[] st) (h2 : 2 ≤ a₀.size) (h64 : a₀.size < 64)
    (h : ∀ st', (arrOf st').Perm a₀ → failedOf st' = none → Seg rk (arrOf st') 0 a₀.size → Q () st') : wpS (model prog w) A E s sortRuns' Q st := by
  have mr : minRun' a₀.size a₀.size 0 = a₀.size := by
    obtain ⟨f, hf⟩ : ∃ f, a₀.size = f + 1 := ⟨a₀.size - 1, by omega⟩
    have z : minRun' (f + 1) a₀.size 0 = a₀.size := by rw [minRun'_succ, if_pos h64]; rfl
    rwa [← hf] at z
  rw [sortRuns'_eq]
  refine wpS_bind (wpS_get ?_)
  dsimp only
  simp only [B.size, mr]
  refine wpS_bind (wpS_mono (wpS_forRange
    (I := fun x c st' => (x = 0 ∧ c = (none, 0) ∧ TB a₀ #[] st') ∨ (1 ≤ x ∧ c = (none, a₀.size) ∧ TB a₀ #[(0, a₀.size, 0)] st' ∧ Seg rk (arrOf st') 0 a₀.size))
    (Q := fun c st' => c = (none, a₀.size) ∧ TB a₀ #[(0, a₀.size, 0)] st' ∧ Seg rk (arrOf st') 0 a₀.size) ?turn ?fin (.inl ⟨rfl, rfl, B⟩)) ?post)
  case fin =>
    rintro c st' (⟨hx, _⟩ | ⟨_, e, r⟩)
    · omega
    · exact ⟨e, r⟩
  case turn =>
    rintro x c st' _ hx (⟨rfl, rfl, B1⟩ | ⟨hx1, rfl, r⟩)
    · dsimp only
      rw [if_neg (by omega)]
      simp only [Nat.sub_zero, Nat.min_self, Nat.zero_add]
      refine wpS_bind (w_run h0 (by omega) (by omega) B1 fun m st2 B2 m1 m2 s2 l2 => ?_)
      dsimp only
      rw [Nat.zero_add] at s2
      by_cases hlt : m < a₀.size
      · rw [if_pos hlt]
        refine wpS_bind (wpS_lift (wpAny_rule ⟨rfl, ?_⟩))
        refine wpS_bind (w_bin (lo := 0) h0 (by omega) (by omega) B2 (by rw [Nat.zero_add]; exact s2) fun st3 B3 s3 l3 => ?_)
        rw [Nat.zero_add] at s3
        simp only [Bool.not_true, Bool.false_eq_true, if_false]
        refine wpS_bind (wpS_get ?_)
        rw [show (pendingOf st3).back? = none from by rw [B3.pd]; rfl]
        dsimp only
        refine wpS_bind (wpS_modify (wpS_pure (.inr ⟨by omega, rfl, ⟨B3.perm, B3.kd, B3.ff, ?_⟩, s3⟩)))
        show (pendingOf st3).push _ = _
        rw [B3.pd]; rfl
      · rw [if_neg hlt]
        have e : m = a₀.size := by omega
        subst e
        refine wpS_bind (wpS_get ?_)
        rw [show (pendingOf st2).back? = none from by rw [B2.pd]; rfl]
        dsimp only
        refine wpS_bind (wpS_modify (wpS_pure (.inr ⟨by omega, rfl, ⟨B2.perm, B2.kd, B2.ff, ?_⟩, s2⟩)))
        show (pendingOf st2).push _ = _
        rw [B2.pd]; rfl
    · dsimp only
      rw [if_pos (Nat.le_refl _)]
      exact wpS_pure ⟨rfl, r⟩
  case post =>
    rintro c st' ⟨rfl, B', s'⟩
    dsimp only
    refine wpS_bind (wpS_mono (wpS_forRange (I := fun _ c z => z = st' ∧ c = (none, ())) (Q := fun c z => z = st' ∧ c = (none, ())) (by
      rintro x c z _ _ ⟨rfl, rfl⟩
      refine wpS_bind (wpS_get ?_)
      rw [if_pos (by rw [B'.pd]; exact Nat.le_refl 1)]
      exact wpS_pure ⟨rfl, rfl⟩) (fun _ _ z => z) ⟨rfl, rfl⟩) (by
      rintro c z ⟨rfl, rfl⟩
      exact wpS_pure (h _ B'.perm B'.ff s')))
end
end Srt
namespace LC
open PySem
theorem lexLt_irrefl : ∀ a : List Int, lexLt a a = false
  | [] => rfl
  | x :: r => by simp only [lexLt, if_true]; exact lexLt_irrefl r
theorem lexLt_trans : ∀ {a b c : List Int}, lexLt a b = true → lexLt b c = true → lexLt a c = true
  | [], [], _, h, _ => by simp [lexLt] at h
  | [], _ :: _, [], _, h => by simp [lexLt] at h
  | [], _ :: _, _ :: _, _, _ => rfl
  | _ :: _, [], _, h, _ => by simp [lexLt] at h
  | _ :: _, _ :: _, [], _, h => by simp [lexLt] at h
  | x :: a, y :: b, z :: c, h1, h2 => by
    simp only [lexLt] at h1 h2 ⊢
    by_cases e1 : x = y
    · subst e1
      rw [if_pos rfl] at h1
      by_cases e2 : x = z
      · subst e2
        rw [if_pos rfl] at h2 ⊢
        exact lexLt_trans h1 h2
      · rw [if_neg e2] at h2 ⊢; exact h2
    · rw [if_neg e1] at h1
      by_cases e2 : y = z
      · subst e2
        rw [if_neg e1]; exact h1
      · rw [if_neg e2] at h2
        simp only [decide_eq_true_eq] at h1 h2
        rw [if_neg (by omega)]
        simp only [decide_eq_true_eq]; omega
theorem lexLt_total : ∀ {a b : List Int}, lexLt a b = false → lexLt b a = false → a = b
  | [], [], _, _ => rfl
  | [], _ :: _, h, _ => by simp [lexLt] at h
  | _ :: _, [], _, h => by simp [lexLt] at h
  | x :: a, y :: b, h1, h2 => by
    simp only [lexLt] at h1 h2
    by_cases e : x = y
    · subst e
      rw [if_pos rfl] at h1 h2
      rw [lexLt_total h1 h2]
    · rw [if_neg e] at h1
      rw [if_neg (Ne.symm e)] at h2
      simp only [decide_eq_false_iff_not] at h1 h2
      omega
def rank (qss : List (List Int)) (q : List Int) : Nat := qss.countP fun x => lexLt x q
theorem rank_mono (qss : List (List Int)) {a b : List Int} (h : lexLt a b = false) : rank qss b ≤ rank qss a := by
  refine List.countP_mono_left fun x _ hx => ?_
  cases c : lexLt x a with
  | true => rfl
  | false =>
    cases c2 : lexLt a x with
    | true => have := lexLt_trans c2 hx; rw [h] at this; cases this
    | false => rw [← lexLt_total c c2] at h; rw [h] at hx; cases hx
theorem rank_lt {qss : List (List Int)} {a b : List Int} (ha : a ∈ qss) (h : lexLt a b = true) : rank qss a < rank qss b := by
  unfold rank
  obtain ⟨l, r, rfl⟩ := List.append_of_mem ha
  rw [List.countP_append, List.countP_append, List.countP_cons_of_neg (p := fun x => lexLt x a) (by simp [lexLt_irrefl]), List.countP_cons_of_pos (p := fun x => lexLt x b) h]
  have m : ∀ l : List (List Int), l.countP (fun x => lexLt x a) ≤ l.countP fun x => lexLt x b := fun l => List.countP_mono_left fun x _ hx => lexLt_trans hx h
  have := m l
  have := m r
  omega
theorem rank_iff {qss : List (List Int)} {a b : List Int} (ha : a ∈ qss) : decide ((rank qss a : Int) < (rank qss b : Int)) = lexLt a b := by
  cases c : lexLt a b with
  | true => have := rank_lt ha c; simp; omega
  | false => have := rank_mono qss c; simp; omega
end LC
namespace Srt
open PySem PyProof.Rows LC
section
variable {prog : Program} {w : World} {A : Around} {E : Value → Shared → Prop} {s : Shared}
theorem lt_refs {a b : Addr} {xs ys : Array Value} {ns ms : List Int} {Q : Bool → Shared → Prop} (hl : s.heap.IsList a xs) (hb : s.heap.IsList b ys) (hx : Nums xs ns) (hy : Nums ys ms) (hu : A.units < cLine) (h : Q (lexLt ns ms) s) :
    wpAny (model prog w) A (oneLt' true (.ref a) (.ref b)) Q E s := by
  obtain ⟨⟨c1, d1, a1, z1⟩, g1, y1, u1, k1⟩ := id hl
  obtain ⟨⟨c2, d2, a2, z2⟩, g2, y2, u2, k2⟩ := id hb
  simp only at y1 k1 y2 k2
  subst y1 k1 y2 k2
  rw [oneLt'_eq]
  simp only [if_true]
  refine wpAny_bind (wpAny_cRoomFor hu (wpAny_bind (wpAny_callSpecialIfBound?_slot (T := "list") ⟨_, g1, rfl⟩ F.slot_list_lt (call_meets F.slot_list_lt ⟨_, g1, rfl⟩ F.entry_list_lt (F.args_list_lt_2 _ _) (list_lt a b xs ys ns ms hx hy u1 u2 d1 d2 z1 z2) ⟨g1, g2, ?_⟩))))
  exact wpAny_truthy_bool h
/-- lists as keys -/
def Ls (s : Shared) (vs : List Value) : Prop := ∀ v ∈ vs, s.TypeIs v "list"
theorem map_first : ∀ {vs : List Value} {Q : List (Option Value) → Shared → Prop}, Ls s vs → Q (vs.map fun _ => none) s → wpAny (model prog w) A (vs.mapM firstOfTuple') Q E s
  | [], Q, _, h => by rw [List.mapM_nil]; exact wpAny_pure h
  | v :: r, Q, hl, h => by
    rw [List.mapM_cons]
    refine wpAny_bind ?_
    show wpAny _ _ (typeOf v >>= _) _ _ _
    refine wpAny_bind (wpAny_typeOf (hl v (by simp)) ?_)
    exact wpAny_pure (wpAny_bind (map_first (fun x hx => hl x (by simp [hx])) (wpAny_pure h)))
theorem map_type : ∀ {vs : List Value} {Q : List Value → Shared → Prop}, Ls s vs → Q (vs.map fun _ => .type "list") s → wpAny (model prog w) A (vs.mapM typeOf) Q E s
  | [], Q, _, h => by rw [List.mapM_nil]; exact wpAny_pure h
  | v :: r, Q, hl, h => by
    rw [List.mapM_cons]
    exact wpAny_bind (wpAny_typeOf (hl v (by simp)) (wpAny_bind (map_type (fun x hx => hl x (by simp [hx])) (wpAny_pure h))))
theorem kind_lists {v : Value} {vs : List Value} {Q : SortKind → Shared → Prop} (hl : Ls s (v :: vs)) (h : Q oneType' s) : wpAny (model prog w) A (keyKind' (v :: vs).toArray) Q E s := by
  rw [keyKind'_eq, List.mapM_toArray]
  refine wpAny_bind (wpAny_map (map_first hl ?_))
  rw [if_neg (by simp), if_neg (by simp)]
  refine wpAny_bind ?_
  rw [oneTypeOnly'_eq, List.mapM_toArray]
  refine wpAny_bind (wpAny_map (map_type hl ?_))
  have h0 : (List.map (fun _ => Value.type "list") (v :: vs)).toArray[0]? = some (Value.type "list") := by simp
  rw [h0]
  have ha : ((List.map (fun _ => Value.type "list") (v :: vs)).toArray.all fun x => x == Value.type "list") = true := by
    simp only [List.all_toArray, List.all_map, List.all_eq_true]
    intro _ _; rfl
  simp only [ha, if_true]
  exact wpAny_pure (wpAny_pure h)
end
end Srt
namespace Srt
open PySem PyProof.Rows LC
theorem pairs_snd (vs : List Value) : (pairsOf vs).toList.map (·.2) = vs := by
  unfold pairsOf
  rw [Array.toList_zip]
  show List.map Prod.snd (vs.zip vs) = vs
  rw [List.map_snd_zip (Nat.le_refl _)]
theorem pairs_mem {vs : List Value} {p : Keyed} (h : p ∈ (pairsOf vs).toList) : p.1 = p.2 ∧ p.1 ∈ vs := by
  unfold pairsOf at h
  rw [Array.toList_zip] at h
  have h : p ∈ vs.zip vs := h
  obtain ⟨x, y⟩ := p
  rw [List.mem_iff_getElem?] at h
  obtain ⟨i, hi⟩ := h
  rw [List.getElem?_zip_eq_some] at hi
  obtain ⟨h1, h2⟩ := hi
  have h1 : vs[i]? = some x := h1
  have h2 : vs[i]? = some y := h2
  rw [h1] at h2
  exact ⟨Option.some.inj h2, List.mem_of_getElem? h1⟩
section
variable {prog : Program} {w : World} {A : Around} {E : Value → Shared → Prop} {s : Shared}
/-- the values vs are lists of the ints C of them -/
def Cs (h : Heap) (C : Value → List Int) (vs : List Value) : Prop := ∀ v ∈ vs, ∃ r xs, v = .ref r ∧ h.IsList r xs ∧ Nums xs (C v)
theorem Cs.lts {C : Value → List Int} {vs : List Value} (hc : Cs s.heap C vs) (hu : A.units < cLine) : Lts prog w A s (fun v => (rank (vs.map C) (C v) : Int)) (pairsOf vs) := by
  intro x hx y hy E Q h
  have mx := (pairs_mem hx).2
  have my := (pairs_mem hy).2
  obtain ⟨r, xs, e1, l1, n1⟩ := hc _ mx
  obtain ⟨r2, ys, e2, l2, n2⟩ := hc _ my
  rw [rank_iff (List.mem_map.mpr ⟨_, mx, rfl⟩)] at h
  rw [e1, e2] at h ⊢
  rw [e1] at n1
  rw [e2] at n2
  exact lt_refs l1 l2 n1 n2 hu h
theorem Cs.ls {C : Value → List Int} {vs : List Value} (hc : Cs s.heap C vs) : Ls s vs := fun v hv => by
  obtain ⟨r, xs, rfl, ⟨o, e, q, _⟩, _⟩ := hc v hv
  exact ⟨o, e, q⟩
theorem out_of {C : Value → List Int} {vs : List Value} {arr : Array Keyed} (hp : arr.Perm (pairsOf vs)) (hs : Seg (fun v => (rank (vs.map C) (C v) : Int)) arr 0 (pairsOf vs).size) :
    (arr.map (·.2)).toList.Perm vs ∧ (arr.map (·.2)).toList.Pairwise fun x y => lexLt (C y) (C x) = false := by
  have hp' := Array.perm_iff_toList_perm.mp hp
  constructor
  · rw [Array.toList_map]
    have := hp'.map (·.2)
    rwa [pairs_snd] at this
  · rw [Array.toList_map, List.pairwise_map, List.pairwise_iff_getElem]
    intro i j hi hj hij
    have zi : i < arr.size := by simpa using hi
    have zj : j < arr.size := by simpa using hj
    have k := hs i j (Nat.zero_le _) (by omega) (by rw [← hp.size_eq]; exact zj)
    have ei : arr[i]? = some arr.toList[i] := by rw [← Array.getElem?_toList, List.getElem?_eq_getElem hi]
    have ej : arr[j]? = some arr.toList[j] := by rw [← Array.getElem?_toList, List.getElem?_eq_getElem hj]
    rw [KR_at ei, KR_at ej] at k
    have mi := pairs_mem (hp'.mem_iff.mp (List.getElem_mem hi))
    have mj := pairs_mem (hp'.mem_iff.mp (List.getElem_mem hj))
    rw [mi.1, mj.1] at k
    rw [mj.1] at mj
    rw [← rank_iff (qss := vs.map C) (List.mem_map.mpr ⟨_, mj.2, rfl⟩)]
    simp only [decide_eq_false_iff_not]
    omega
theorem midL {h : Heap} {a : Addr} {vs : List Value} {e : Nat} (ha : a < h.objs.size) (ho1 : (h.update a (Obj.mapSeq fun _ => #[])).get? a = some (seqObj "list" #[] e)) :
    (((h.update a (Obj.mapSeq fun _ => #[])).push (seqObj "tuple" vs.toArray 0)).push (seqObj "list" #[] 0)).get? a = some (seqObj "list" #[] e) := Heap.get?_push_of_some _ (Heap.get?_push_of_some _ ho1)
theorem w_sortL {C : Value → List Int} {a : Addr} {vs : List Value} {n : Nat} {P : Fin → Shared → Prop} (ho : s.heap.get? a = some (seqObj "list" vs.toArray n)) (hc : Cs s.heap C vs) (hne : ∀ v ∈ vs, v ≠ .ref a) (h64 : vs.length < 64) (hu : A.units < cLine)
    (h : ∀ out : Array Value, out.toList.Perm vs → out.toList.Pairwise (fun x y => lexLt (C y) (C x) = false) → P (.done (.ret .none)) { s with heap := sortedHeap s.heap a vs out }) :
    wpAny (model prog w) A (Builtin.«list.sort» ⟨[.ref a], []⟩) P E s := by
  obtain ⟨e1, ho1⟩ : ∃ e, (s.heap.update a (Obj.mapSeq fun _ => #[])).get? a = some (seqObj "list" #[] e) := ⟨_, get?_update_seq ho (fun _ => #[])⟩
  have ho6 := midL (vs := vs) (Heap.lt_size ho) ho1
  rw [list_sort_plain]
  refine wpAny_bind (listItems_at ho rfl (wpAny_bind (listUpdate_at ho rfl (wpAny_bind (seqEpoch_at ho1 rfl (wpAny_bind (wpAny_newTuple (wpAny_bind (wpAny_newList (wpAny_holding ?_))))))))))
  by_cases h2 : vs.toArray.size < 2
  · rw [if_pos h2, if_pos h2]
    refine wpAny_bind (wpAny_pure ?_)
    dsimp only
    rw [StateT.run_pure]
    refine wpAny_bind (wpAny_pure ?_)
    dsimp only
    refine wpAny_bind (seqEpoch_at ho6 rfl (wpAny_bind (listUpdate_at ho6 rfl ?_ (hsz2 := by rw [Array.size_map]; show (pairsOf vs).size ≤ _; rw [pairsOf_size, sizeLine_eq]; omega))))
    simp only [bne_self_eq_false, Bool.false_eq_true, if_false]
    obtain ⟨q1, q2⟩ := out_of (C := C) (vs := vs) (Array.Perm.refl _) fun i j h1 h3 h4 => by
      have : i = j := by rw [pairsOf_size] at h4; have h2 : vs.length < 2 := by simpa using h2
                         omega
      subst this; exact Int.le_refl _
    exact wpAny_pure (h _ q1 q2)
  · rw [if_neg h2, if_neg h2]
    have keep : ∀ b o, b ≠ a → s.heap.get? b = some o → (((s.heap.update a (Obj.mapSeq fun _ => #[])).push (seqObj "tuple" vs.toArray 0)).push (seqObj "list" #[] 0)).get? b = some o := fun b o nb e =>
      Heap.get?_push_of_some _ (Heap.get?_push_of_some _ ((Heap.get?_update_other _ _ (Ne.symm nb)).trans e))
    have hc2 : Cs (((s.heap.update a (Obj.mapSeq fun _ => #[])).push (seqObj "tuple" vs.toArray 0)).push (seqObj "list" #[] 0)) C vs := fun v hv => by
      obtain ⟨r, xs, rfl, ⟨o, e, q⟩, k⟩ := hc v hv
      exact ⟨r, xs, rfl, ⟨o, keep r o (fun z => hne _ hv (by rw [z])) e, q⟩, k⟩
    obtain ⟨v1, rest, rfl⟩ : ∃ v1 rest, vs = v1 :: rest := by
      cases vs with
      | nil => simp at h2
      | cons x r => exact ⟨x, r, rfl⟩
    refine wpAny_bind (kind_lists (s := { s with heap := _ }) (Cs.ls (s := { s with heap := _ }) hc2) (wpAny_bind ?_))
    have z := w_runs (prog := prog) (w := w) (A := A) (E := E) (s := { s with heap := (((s.heap.update a (Obj.mapSeq fun _ => #[])).push (seqObj "tuple" (v1 :: rest).toArray 0)).push (seqObj "list" #[] 0)) }) (st := SortSt.mk' oneType' ((v1 :: rest).toArray.zip (v1 :: rest).toArray) #[] 7 none)
      (Q := fun _ st' => (arrOf st').Perm (pairsOf (v1 :: rest)) ∧ failedOf st' = none ∧ Seg (fun v => (rank ((v1 :: rest).map C) (C v) : Int)) (arrOf st') 0 (pairsOf (v1 :: rest)).size) (Cs.lts hc2 hu) ⟨Array.Perm.refl _, rfl, rfl, rfl⟩
      (by rw [pairsOf_size]; simpa using h2) (by rw [pairsOf_size]; exact h64) fun st' a b c => ⟨a, b, c⟩
    refine wpAny_mono z (fun r s' hr => ?_) fun _ _ e => e
    obtain ⟨⟨⟩, st'⟩ := r
    obtain ⟨rfl, hp, hf, hs⟩ := hr
    dsimp only
    refine wpAny_bind (seqEpoch_at ho6 rfl (wpAny_bind (listUpdate_at ho6 rfl ?_ (hsz2 := by rw [Array.size_map]; dsimp only at hp; rw [hp.size_eq, pairsOf_size, sizeLine_eq]; omega))))
    dsimp only at hf hp hs
    rw [hf]
    simp only [bne_self_eq_false, Bool.false_eq_true, if_false]
    obtain ⟨q1, q2⟩ := out_of hp hs
    exact wpAny_pure (h _ q1 q2)
theorem mkL (h : Heap) (vs : List Value) : ((h.push (seqObj "list" #[] 0)).update h.objs.size (Obj.mapSeq (· ++ vs.toArray))).objs.size = h.objs.size + 1 ∧
    (((h.push (seqObj "list" #[] 0)).update h.objs.size (Obj.mapSeq (· ++ vs.toArray))).push (seqObj "list" vs.toArray 0)).get? (h.objs.size + 1) = some (seqObj "list" vs.toArray 0) ∧
    ∀ b o, h.get? b = some o → (((h.push (seqObj "list" #[] 0)).update h.objs.size (Obj.mapSeq (· ++ vs.toArray))).push (seqObj "list" vs.toArray 0)).get? b = some o := by
  have z : ((h.push (seqObj "list" #[] 0)).update h.objs.size (Obj.mapSeq (· ++ vs.toArray))).objs.size = h.objs.size + 1 := by rw [Heap.size_update, size_push']
  exact ⟨z, by rw [← z]; exact Heap.get?_push_size _ rfl, fun b o e => Heap.get?_push_of_some _ ((Heap.get?_update_other _ _ (Nat.ne_of_gt (Heap.lt_size e))).trans (Heap.get?_push_of_some _ e))⟩
/-- sorted of a list of lists -/
theorem sortedL {C : Value → List Int} {l : Addr} {vs : List Value} {Q : Value → Shared → Prop} (hl : s.heap.IsList l vs.toArray) (hc : Cs s.heap C vs) (h64 : vs.length < 64) (hu : A.in1.in1.units < cLine)
    (h : ∀ out : Array Value, out.toList.Perm vs → out.toList.Pairwise (fun x y => lexLt (C y) (C x) = false) → Q (.ref (s.heap.objs.size + 1)) { s with heap := sortedAll s.heap vs out }) :
    wpAny (model prog w) A (call (.builtin "sorted") [.ref l]) Q E s := by
  obtain ⟨z1, z2, z3⟩ := mkL s.heap vs
  refine Calls.call_function_entry kind_sorted plain_sorted entry_sorted (args_sorted1 _) ?_
  unfold Builtin.«sorted»
  refine wpAny_bind (m := checkCount "sorted" 1 1 _) (wpAny_pure (wpAny_bind (collect_list hl (wpAny_bind (wpAny_newList ?_)) (by rw [sizeLine_eq]; omega))))
  rw [z1]
  have hc2 : Cs (((s.heap.push (seqObj "list" #[] 0)).update s.heap.objs.size (Obj.mapSeq (· ++ vs.toArray))).push (seqObj "list" vs.toArray 0)) C vs := fun v hv => by
    obtain ⟨r, xs, rfl, ⟨o, e, q⟩, k⟩ := hc v hv
    exact ⟨r, xs, rfl, ⟨o, z3 r o e, q⟩, k⟩
  have ne : ∀ v ∈ vs, v ≠ .ref (s.heap.objs.size + 1) := fun v hv z => by
    obtain ⟨r, xs, rfl, ⟨o, e, q⟩, k⟩ := hc v hv
    cases z
    exact absurd (Nat.lt_trans (Nat.lt_succ_self _) (Heap.lt_size e)) (Nat.lt_irrefl _)
  refine wpAny_bind (wpAny_holding (wpAny_call_entry slot_list_sort ⟨_, z2, rfl⟩ entry_list_sort (w_sortL z2 hc2 ne h64 ?_ fun out a1 a2 => ⟨_, rfl, wpAny_pure ⟨_, rfl, h out a1 a2⟩⟩) (args_list_sort _)))
  exact hu
end
end Srt

end

section
set_option maxHeartbeats 2000000
set_option maxRecDepth 100000
set_option linter.unusedVariables false
set_option linter.unusedSimpArgs false
namespace L2
/-! ### elders -/
def elderL (ps : List Int) (x : Int) : List Int := (ps.erase x).map (· + 1) ++ List.replicate (x - ((ps.erase x).length : Int)).toNat 1
theorem ord_erase {ps : List Int} (h : ps.Pairwise (· ≥ ·)) (x : Int) : (ps.erase x).Pairwise (· ≥ ·) := h.sublist List.erase_sublist
theorem leftOf_app (a b : List Int) : leftOf (a ++ b) = leftOf a ++ leftOf b := by unfold leftOf; rw [List.filter_append, List.map_append]
theorem leftOf_up : ∀ {l : List Int}, (∀ x ∈ l, 1 ≤ x) → leftOf (l.map (· + 1)) = l
  | [], _ => rfl
  | x :: r, h => by
    have hx := h x List.mem_cons_self
    have ih := leftOf_up (l := r) fun y hy => h y (List.mem_cons_of_mem _ hy)
    unfold leftOf at ih ⊢
    rw [List.map_cons, List.filter_cons, if_pos (by simp; omega), List.map_cons, ih]
    congr 1; omega
theorem leftOf_onesE (n : Nat) : leftOf (List.replicate n 1) = [] := by
  unfold leftOf
  rw [List.filter_eq_nil_iff.mpr fun x hx => by rw [List.eq_of_mem_replicate hx]; decide]
  rfl
theorem elder_len {ps : List Int} {x : Int} (hx : x ∈ ps) (hb : (ps.length : Int) - 1 ≤ x) (h0 : 0 ≤ x) : ((elderL ps x).length : Int) = x := by
  have e := List.length_erase_of_mem hx
  have := List.length_pos_of_mem hx
  unfold elderL
  rw [List.length_append, List.length_map, List.length_replicate]
  omega
theorem elder_turn {n : Int} {ps : List Int} {x : Int} (h : Setting n ps) (hx : x ∈ ps) (hb : (ps.length : Int) - 1 ≤ x) : turn (elderL ps x) = ps := by
  have hp := h.pos x hx
  have lp : leftOf (elderL ps x) = ps.erase x := by
    unfold elderL
    rw [leftOf_app, leftOf_onesE, List.append_nil]
    exact leftOf_up fun y hy => h.pos y (List.mem_of_mem_erase hy)
  have e := elder_len hx hb (by omega)
  unfold turn
  rw [lp, e]
  refine perm_eq ((insD_perm _ _).trans (List.perm_cons_erase hx).symm) (insD_ord (ord_erase h.ord x)) h.ord
theorem elder_set {n : Int} {ps : List Int} {x : Int} (h : Setting n ps) (hx : x ∈ ps) (hb : (ps.length : Int) - 1 ≤ x) : Setting n (elderL ps x) := by
  have e1 := List.length_erase_of_mem hx
  have e2 := List.length_pos_of_mem hx
  have two : ∀ y ∈ (ps.erase x).map (· + 1), 2 ≤ y := fun y hy => by
    obtain ⟨z, hz, rfl⟩ := List.mem_map.mp hy
    have := h.pos z (List.mem_of_mem_erase hz)
    omega
  refine ⟨?_, fun y hy => ?_, ?_⟩
  · unfold elderL
    refine List.pairwise_append.mpr ⟨(ord_erase h.ord x).map _ fun a b z => by show a + 1 ≥ b + 1; omega, List.pairwise_replicate.mpr (.inr (Int.le_refl _)), fun y hy z hz => ?_⟩
    have e : z = 1 := List.eq_of_mem_replicate hz
    have := two y hy
    show y ≥ z
    omega
  · unfold elderL at hy
    rcases List.mem_append.mp hy with z | z
    · have := two y z; omega
    · rw [List.eq_of_mem_replicate z]; exact Int.le_refl _
  · unfold elderL
    rw [sum_app, sum_add1, sum_rep]
    have e3 := sum_perm (List.perm_cons_erase hx)
    rw [List.sum_cons] at e3
    have := h.sum
    omega
theorem ones_end : ∀ {q : List Int}, q.Pairwise (· ≥ ·) → (∀ x ∈ q, 1 ≤ x) → q = q.filter (fun x => decide (1 < x)) ++ List.replicate (q.length - (q.filter fun x => decide (1 < x)).length) 1
  | [], _, _ => rfl
  | x :: r, h, hp => by
    have h1 := hp x List.mem_cons_self
    obtain ⟨h2, h3⟩ := List.pairwise_cons.mp h
    have ih := ones_end h3 fun y hy => hp y (List.mem_cons_of_mem _ hy)
    rw [List.filter_cons]
    by_cases c : 1 < x
    · rw [if_pos (decide_eq_true c), List.cons_append, List.length_cons, List.length_cons, Nat.add_sub_add_right, ← ih]
    · rw [if_neg (by simpa using c)]
      have al : ∀ y ∈ x :: r, y = 1 := fun y hy => by
        have := hp y hy
        rcases List.mem_cons.mp hy with z | z
        · omega
        · have := h2 y z; omega
      have fl : r.filter (fun x => decide (1 < x)) = [] := List.filter_eq_nil_iff.mpr fun y hy => by rw [al y (List.mem_cons_of_mem _ hy)]; decide
      rw [fl, List.nil_append, List.length_nil, Nat.sub_zero]
      exact List.eq_replicate_iff.mpr ⟨rfl, al⟩
theorem down_up (q : List Int) : (leftOf q).map (· + 1) = q.filter fun x => decide (1 < x) := by
  unfold leftOf
  rw [List.map_map]
  refine (List.map_congr_left fun y _ => ?_).trans (List.map_id _)
  show y - 1 + 1 = y
  omega
theorem elder_of {n : Int} {q : List Int} (h : Setting n q) (h0 : 1 ≤ n) : (q.length : Int) ∈ turn q ∧ ((turn q).length : Int) - 1 ≤ q.length ∧ q = elderL (turn q) q.length := by
  have pm := turn_perm q
  have mem : (q.length : Int) ∈ turn q := pm.mem_iff.mpr (by simp)
  have fl : (leftOf q).length ≤ q.length := by unfold leftOf; rw [List.length_map]; exact List.length_filter_le _ _
  have tl : (turn q).length = (leftOf q).length + 1 := by rw [pm.length_eq]; simp
  have er : (turn q).erase (q.length : Int) = leftOf q := by
    refine perm_eq ?_ (ord_erase (turn_ord h.ord) _) (leftOf_ord h.ord)
    have z := (List.perm_cons_erase mem).symm.trans (pm.trans (List.perm_append_comm (l₁ := leftOf q) (l₂ := [(q.length : Int)])))
    exact (List.perm_cons _).mp z
  refine ⟨mem, by omega, ?_⟩
  unfold elderL
  rw [er, down_up]
  have ll : (leftOf q).length = (q.filter fun x => decide (1 < x)).length := by unfold leftOf; rw [List.length_map]
  rw [show ((q.length : Int) - ((leftOf q).length : Int)).toNat = q.length - (q.filter fun x => decide (1 < x)).length by omega]
  exact ones_end h.ord h.pos
/-! ### all settings -/
structure Sm (n m : Nat) (q : List Int) : Prop where
  ord : q.Pairwise (· ≥ ·)
  pos : ∀ x ∈ q, 1 ≤ x
  sum : q.sum = n
  le : ∀ x ∈ q, x ≤ m
theorem Sm.cons {n m : Nat} {p : Int} {r : List Int} : Sm n m (p :: r) ↔ ∃ k : Nat, p = k ∧ 1 ≤ k ∧ k ≤ n ∧ k ≤ m ∧ Sm (n - k) k r := by
  constructor
  · intro h
    have hp := h.pos p List.mem_cons_self
    have hl := h.le p List.mem_cons_self
    obtain ⟨h1, h2⟩ := List.pairwise_cons.mp h.ord
    have hs := h.sum
    rw [List.sum_cons] at hs
    have rp : ∀ x ∈ r, 1 ≤ x := fun x hx => h.pos x (List.mem_cons_of_mem _ hx)
    have r0 : 0 ≤ r.sum := by have := sum_ge_len rp; omega
    refine ⟨p.toNat, by omega, by omega, by omega, by omega, h2, rp, by omega, fun x hx => ?_⟩
    have := h1 x hx
    omega
  · rintro ⟨k, rfl, k1, k2, k3, h⟩
    refine ⟨List.pairwise_cons.mpr ⟨fun x hx => ?_, h.ord⟩, fun x hx => ?_, ?_, fun x hx => ?_⟩
    · have := h.le x hx; show (k : Int) ≥ x; omega
    · rcases List.mem_cons.mp hx with z | z
      · omega
      · exact h.pos x z
    · rw [List.sum_cons, h.sum]; omega
    · rcases List.mem_cons.mp hx with z | z
      · omega
      · have := h.le x z; omega
theorem Sm.nil {n m : Nat} : Sm n m [] ↔ n = 0 := ⟨fun h => by have := h.sum; simp at this; omega, fun h => ⟨List.Pairwise.nil, fun _ h => by simp at h, by subst h; rfl, fun _ h => by simp at h⟩⟩
theorem Sm.setting {n : Nat} {q : List Int} : Sm n n q ↔ Setting n q :=
  ⟨fun h => ⟨h.ord, h.pos, h.sum⟩, fun h => ⟨h.ord, h.pos, h.sum, fun x hx => h.le hx⟩⟩
/-- by a rule g that tells the i-th pile -/
def allBy (g : Nat → Nat → Nat) : Nat → Nat → Nat → List (List Int)
  | 0, _, _ => []
  | f + 1, n, m => if n = 0 then [[]] else ((List.range (min n m)).map fun i => (allBy g f (n - g (min n m) i) (g (min n m) i)).map (((g (min n m) i : Nat) : Int) :: ·)).flatten
def allPre (g : Nat → Nat → Nat) (f n m i : Nat) : List (List Int) := ((List.range i).map fun i => (allBy g f (n - g (min n m) i) (g (min n m) i)).map (((g (min n m) i : Nat) : Int) :: ·)).flatten
theorem allBy_eq {g : Nat → Nat → Nat} {f n m : Nat} (h : n ≠ 0) : allBy g (f + 1) n m = allPre g f n m (min n m) := by
  show (if n = 0 then _ else _) = _
  rw [if_neg h]; rfl
theorem allPre_succ (g : Nat → Nat → Nat) (f n m i : Nat) : allPre g f n m (i + 1) = allPre g f n m i ++ (allBy g f (n - g (min n m) i) (g (min n m) i)).map (((g (min n m) i : Nat) : Int) :: ·) := by
  unfold allPre
  rw [List.range_succ, List.map_append, List.flatten_append]
  simp
/-- g goes through 1 .. k, each once -/
structure Goes (g : Nat → Nat → Nat) : Prop where
  lo : ∀ k i, i < k → 1 ≤ g k i ∧ g k i ≤ k
  inj : ∀ k i j, i < k → j < k → g k i = g k j → i = j
  onto : ∀ k p, 1 ≤ p → p ≤ k → ∃ i, i < k ∧ g k i = p
theorem goes_up : Goes fun _ i => i + 1 := ⟨fun k i h => by omega, fun k i j _ _ h => by omega, fun k p h1 h2 => ⟨p - 1, by omega, by omega⟩⟩
theorem goes_down : Goes fun k i => k - i := ⟨fun k i h => by omega, fun k i j h1 h2 h => by omega, fun k p h1 h2 => ⟨k - p, by omega, by omega⟩⟩
theorem mem_all {g : Nat → Nat → Nat} (G : Goes g) : ∀ (f n m : Nat) (q : List Int), n < f → (q ∈ allBy g f n m ↔ Sm n m q)
  | 0, n, m, q, h => by omega
  | f + 1, n, m, q, h => by
    by_cases hn : n = 0
    · subst hn
      show q ∈ (if 0 = 0 then [[]] else _ : List (List Int)) ↔ _
      rw [if_pos rfl, List.mem_singleton]
      constructor
      · rintro rfl; exact Sm.nil.mpr rfl
      · intro z
        cases q with
        | nil => rfl
        | cons p r =>
          obtain ⟨k, _, k1, k2, _⟩ := Sm.cons.mp z
          omega
    · rw [allBy_eq hn]
      unfold allPre
      rw [List.mem_flatten]
      constructor
      · rintro ⟨l, hl, hq⟩
        obtain ⟨i, hi, rfl⟩ := List.mem_map.mp hl
        have hi := List.mem_range.mp hi
        obtain ⟨r, hr, rfl⟩ := List.mem_map.mp hq
        obtain ⟨g1, g2⟩ := G.lo _ i hi
        exact Sm.cons.mpr ⟨g (min n m) i, rfl, g1, by omega, by omega, (mem_all G f _ _ r (by omega)).mp hr⟩
      · intro z
        cases q with
        | nil => exact absurd (Sm.nil.mp z) hn
        | cons p r =>
          obtain ⟨k, rfl, k1, k2, k3, z⟩ := Sm.cons.mp z
          obtain ⟨i, hi, e⟩ := G.onto (min n m) k k1 (by omega)
          refine ⟨_, List.mem_map.mpr ⟨i, List.mem_range.mpr hi, rfl⟩, List.mem_map.mpr ⟨r, ?_, by rw [e]⟩⟩
          rw [e]
          exact (mem_all G f _ _ r (by omega)).mpr z
theorem nodup_all {g : Nat → Nat → Nat} (G : Goes g) : ∀ (f n m : Nat), (allBy g f n m).Nodup
  | 0, n, m => List.nodup_nil
  | f + 1, n, m => by
    by_cases hn : n = 0
    · subst hn
      show (if 0 = 0 then [[]] else _ : List (List Int)).Nodup
      rw [if_pos rfl]; simp
    · rw [allBy_eq hn]
      unfold allPre
      unfold List.Nodup
      rw [List.pairwise_flatten]
      constructor
      · intro l hl
        obtain ⟨i, hi, rfl⟩ := List.mem_map.mp hl
        exact (nodup_all G f _ _).map _ fun a b h z => h (List.cons.inj z).2
      · rw [List.pairwise_map]
        refine List.Pairwise.imp_of_mem (fun {i j} hi hj hij => ?_) (List.nodup_range (n := min n m))
        have hi := List.mem_range.mp hi
        have hj := List.mem_range.mp hj
        intro x hx y hy e
        obtain ⟨a, _, rfl⟩ := List.mem_map.mp hx
        obtain ⟨b, _, rfl⟩ := List.mem_map.mp hy
        have e := (List.cons.inj e).1
        exact hij (G.inj _ i j hi hj (by omega))
theorem all_len {g : Nat → Nat → Nat} (G : Goes g) : ∀ (f n m : Nat) (q : List Int), n < f → q ∈ allBy g f n m → q.length ≤ n := fun f n m q h hq => by
  have z := (mem_all G f n m q h).mp hq
  have := sum_ge_len z.pos
  have := z.sum
  omega
theorem dn_all : ∀ f n m : Nat, dn f n m = allBy (fun k i => k - i) f n m
  | 0, _, _ => rfl
  | f + 1, n, m => by
    show (if n = 0 then _ else _) = (if n = 0 then _ else _ : List (List Int))
    split
    · rfl
    · congr 1
      exact List.map_congr_left fun i _ => by rw [dn_all f]
end L2
namespace LC
theorem lex_eq : ∀ {l r : List (List Int)}, l.Perm r → l.Pairwise (fun a b => lexLt b a = false) → r.Pairwise (fun a b => lexLt b a = false) → l = r
  | [], r, h, _, _ => List.Perm.nil_eq h
  | x :: l, [], h, _, _ => by have := h.length_eq; simp at this
  | x :: l, y :: r, h, h1, h2 => by
    have e : x = y := by
      have a1 : lexLt x y = false := by
        rcases List.mem_cons.mp (h.mem_iff.mp List.mem_cons_self) with z | z
        · rw [z]; exact lexLt_irrefl y
        · exact (List.pairwise_cons.mp h2).1 x z
      have a2 : lexLt y x = false := by
        rcases List.mem_cons.mp (h.mem_iff.mpr (List.mem_cons_self : y ∈ y :: r)) with z | z
        · rw [z]; exact lexLt_irrefl x
        · exact (List.pairwise_cons.mp h1).1 y z
      exact lexLt_total a1 a2
    subst e
    rw [lex_eq (List.perm_cons x |>.mp h) (List.pairwise_cons.mp h1).2 (List.pairwise_cons.mp h2).2]
end LC

end

section
set_option maxHeartbeats 2000000
set_option maxRecDepth 100000
set_option linter.unusedVariables false
set_option linter.unusedSimpArgs false
namespace L2
open PySem PySem.Spec PyProof.Rows
/-! ### max of a list of lists -/
section
variable {X : Cx}
theorem nums_of {ns : List Int} {us : List Value} (h : IntsAre us ns) : LC.Nums us.toArray ns := by
  have hl : us.length = ns.length := IntsAre.length h
  refine ⟨by simpa using hl, fun i h1 h2 => ?_⟩
  induction h generalizing i with
  | nil => simp at h1
  | cons n t _ ih =>
    cases i with
    | zero => exact ⟨t, rfl⟩
    | succ i =>
      have := ih (by simpa using hl) i (by simpa using h1) (by simpa using h2)
      simpa using this
def rMaxLL (K : PySem.W.Frag) : List V → Hp → VK → Prop := fun xs H Q => ∃ p rs qss, xs = [.ref p] ∧ SqL K H p (rs.map V.ref) ∧ Lists H rs qss ∧ 0 < rs.length ∧ ∀ (r : Addr) (M : List Int), M ∈ qss → H r = some (.lst (M.map V.int)) → (∀ x ∈ qss, LC.lexLt M x = false) → Q (.ref r) H
end
/-! ### lists of lists of lists -/
structure L3 (H : Hp) (qs : List Addr) (tt : List (List (List Int))) : Prop where
  len : qs.length = tt.length
  at_ : ∀ (i : Nat) q ts, qs[i]? = some q → tt[i]? = some ts → ∃ us : List Addr, H q = some (.lst (us.map V.ref)) ∧ Lists H us ts
section
variable {K : PySem.W.Frag} {tc : TT} {te : TE} {D : Addr} {H : Hp} {Q : VK}
end
/-! ### the ring of marks -/
end L2

end

section
set_option maxHeartbeats 2000000
set_option maxRecDepth 100000
set_option linter.unusedVariables false
set_option linter.unusedSimpArgs false
namespace PS
open PySem
/-! ### a set's table whose places rise, without dummies -/
structure Gd (t : SetTable) (L : Bool) : Prop where
  led : t.led = L
  dum : t.dummies = #[]
  ris : t.place.toList.Pairwise (· < ·)
theorem ris_at {xs : Array Nat} (h : xs.toList.Pairwise (· < ·)) {i j : Nat} (hj : j < xs.size) (hi : i < j) : xs[i] < xs[j] := by
  have z := List.pairwise_iff_getElem.mp h i j (by simpa using Nat.lt_trans hi hj) (by simpa using hj) hi
  simpa using z
theorem ris_le {xs : Array Nat} (h : xs.toList.Pairwise (· < ·)) {i j : Nat} (hj : j < xs.size) (hi : i ≤ j) : xs[i] ≤ xs[j] := by
  rcases Nat.lt_or_ge i j with z | z
  · exact Nat.le_of_lt (ris_at h hj z)
  · have e : i = j := by omega
    subst e; exact Nat.le_refl _
def Cuts (xs : Array Nat) (j r : Nat) : Prop := r ≤ xs.size ∧ (∀ i (g : i < xs.size), i < r → xs[i] < j) ∧ ∀ i (g : i < xs.size), r ≤ i → j ≤ xs[i]
theorem cuts_go {xs : Array Nat} {j : Nat} (h : xs.toList.Pairwise (· < ·)) : ∀ (f lo hi : Nat), hi ≤ xs.size → hi - lo ≤ f → lo ≤ hi →
    (∀ i (g : i < xs.size), i < lo → xs[i] < j) → (∀ i (g : i < xs.size), hi ≤ i → j ≤ xs[i]) → Cuts xs j (SetTable.below.go xs j f lo hi)
  | 0, lo, hi, a, b, c, d, e => by
    have z : lo = hi := by omega
    subst z
    unfold SetTable.below.go
    exact ⟨a, d, e⟩
  | f + 1, lo, hi, a, b, c, d, e => by
    unfold SetTable.below.go
    by_cases z : lo < hi
    · rw [if_pos z]
      have hm : (lo + hi) / 2 < xs.size := by omega
      have em : xs.getD ((lo + hi) / 2) j = xs[(lo + hi) / 2] := by simp [Array.getD, hm]
      dsimp only
      rw [em]
      by_cases y : xs[(lo + hi) / 2] < j
      · rw [if_pos y]
        exact cuts_go h f _ _ a (by omega) (by omega) (fun i g k => Nat.lt_of_le_of_lt (ris_le h hm (by omega)) y) e
      · rw [if_neg y]
        exact cuts_go h f _ _ (by omega) (by omega) (by omega) d fun i g k => Nat.le_trans (Nat.le_of_not_lt y) (ris_le h g k)
    · rw [if_neg z]
      have z : lo = hi := by omega
      subst z
      exact ⟨a, d, e⟩
theorem below_cuts {xs : Array Nat} {j : Nat} (h : xs.toList.Pairwise (· < ·)) : Cuts xs j (SetTable.below xs j) := by
  unfold SetTable.below
  exact cuts_go h _ _ _ (Nat.le_refl _) (by omega) (Nat.zero_le _) (fun i g k => by omega) fun i g k => by omega
theorem cuts_uniq {xs : Array Nat} {j r q : Nat} (a : Cuts xs j r) (b : Cuts xs j q) : r = q := by
  rcases Nat.lt_trichotomy r q with z | z | z
  · have g : r < xs.size := by have := b.1; omega
    have y1 := a.2.2 r g (Nat.le_refl _)
    have y2 := b.2.1 r g z
    omega
  · exact z
  · have g : q < xs.size := by have := a.1; omega
    have y1 := b.2.2 q g (Nat.le_refl _)
    have y2 := a.2.1 q g z
    omega
theorem has_nil (j : Nat) : SetTable.has #[] j = false := by
  unfold SetTable.has SetTable.below
  rfl
theorem slot_two {t : SetTable} (hd : t.dummies = #[]) (j : Nat) : t.slot j ≠ .dummy := by
  unfold SetTable.slot
  rw [hd, has_nil]
  dsimp only
  split
  · exact fun z => by cases z
  · exact fun z => by cases z
theorem slot_empty {t : SetTable} {j : Nat} (h : t.slot j = .empty) : t.place[SetTable.below t.place j]? ≠ some j := by
  unfold SetTable.slot at h
  dsimp only at h
  split at h
  · cases h
  · rename_i z; exact fun y => z (by simpa using y)
theorem adv_dummy (t : SetTable) (p : SetTable.Probe) : (t.advance p).dummy = p.dummy := by
  unfold SetTable.advance
  split <;> rfl
theorem probe_go {t : SetTable} (hd : t.dummies = #[]) (ha : Nat → Int) (h : Int) : ∀ (f : Nat) (p : SetTable.Probe) (j : Nat) (d : Option Nat), p.dummy = none → SetTable.probe.go t ha h f p = some (.empty j d) → d = none ∧ t.slot j = .empty
  | 0, p, j, d, _, e => by unfold SetTable.probe.go at e; cases e
  | f + 1, p, j, d, hp, e => by
    unfold SetTable.probe.go at e
    split at e
    · rename_i z
      injection e with e
      injection e with e1 e2
      subst e1 e2
      exact ⟨hp, z⟩
    · rename_i z; exact absurd z (slot_two hd _)
    · split at e
      · injection e with e; cases e
      · exact probe_go hd ha h f _ j d (by rw [adv_dummy]; exact hp) e
theorem free_slot {t : SetTable} (hd : t.dummies = #[]) {h : Int} {j : Nat} {b : Bool} (e : t.freeSlot h = some (j, b)) : t.slot j = .empty ∧ b = false := by
  unfold SetTable.freeSlot SetTable.probe at e
  split at e
  · rename_i j' d z
    obtain ⟨rfl, y⟩ := probe_go hd _ _ _ _ _ _ rfl z
    injection e with e
    injection e with e1 e2
    subst e1 e2
    exact ⟨y, rfl⟩
  · cases e
theorem put_gd {t : SetTable} {L : Bool} (g : Gd t L) {j : Nat} (he : t.slot j = .empty) : Gd (t.put j).1 L := by
  have c := below_cuts (j := j) g.ris
  have ne := slot_empty he
  refine ⟨g.led, ?_, ?_⟩
  · unfold SetTable.put
    dsimp only
    rw [g.dum, has_nil]
    rfl
  · unfold SetTable.put
    dsimp only
    generalize hr : SetTable.below t.place j = r at c ne
    have tl : (SetTable.insertAt t.place r j).toList = t.place.toList.take r ++ j :: t.place.toList.drop r := by
      simp [SetTable.insertAt, List.extract_eq_take_drop, List.take_of_length_le]
    rw [tl]
    refine List.pairwise_append.mpr ⟨g.ris.sublist (List.take_sublist _ _), List.pairwise_cons.mpr ⟨fun x hx => ?_, g.ris.sublist (List.drop_sublist _ _)⟩, fun x hx y hy => ?_⟩
    · obtain ⟨i, hi, rfl⟩ := List.mem_iff_getElem.mp hx
      rw [List.length_drop, Array.length_toList] at hi
      rw [List.getElem_drop, Array.getElem_toList]
      have y := c.2.2 (r + i) (by omega) (by omega)
      have y0 := c.2.2 r (by omega) (Nat.le_refl _)
      rw [getElem?_pos t.place r (by omega)] at ne
      have y1 : t.place[r] ≠ j := fun z => ne (by rw [z])
      have y2 := ris_le g.ris (i := r) (j := r + i) (by omega) (by omega)
      omega
    · obtain ⟨i, hi, rfl⟩ := List.mem_iff_getElem.mp hx
      rw [List.length_take, Array.length_toList] at hi
      rw [List.getElem_take, Array.getElem_toList]
      have a1 := c.2.1 i (by omega) (by omega)
      rcases List.mem_cons.mp hy with z | z
      · omega
      · obtain ⟨k, hk, rfl⟩ := List.mem_iff_getElem.mp z
        rw [List.length_drop, Array.length_toList] at hk
        rw [List.getElem_drop, Array.getElem_toList]
        have y := c.2.2 (r + k) (by omega) (by omega)
        omega
theorem range_lt (n : Nat) : (List.range n).Pairwise (· < ·) := List.pairwise_lt_range
theorem stand_gd {t : SetTable} {L : Bool} (h : t.led = L) (n : Nat) : Gd (t.standIn n) L := ⟨h, rfl, by
  show (Array.range n).toList.Pairwise _
  rw [Array.toList_range]; exact range_lt n⟩
theorem orStand_gd {t : SetTable} {L : Bool} (g : Gd t L) (n : Nat) : Gd (t.orStandIn n) L := by
  unfold SetTable.orStandIn
  split
  · exact g
  · exact stand_gd g.led n
theorem lay_gd {t : SetTable} {L : Bool} (g : Gd t L) (es : Array (Int × Value)) (h : Int) (x : Value) : Gd (layNew t es h x).2.1 L := by
  unfold layNew
  split
  · rename_i j b z
    exact orStand_gd (put_gd g (free_slot g.dum z).1) _
  · exact stand_gd g.led _
theorem live_sub (f : Nat → Option Nat) : ∀ l : List Nat, ((l.filterMap fun j => (f j).map (j, ·)).map (·.1)).Sublist l
  | [] => List.Sublist.slnil
  | x :: l => by
    have ih := live_sub f l
    rw [List.filterMap_cons]
    cases hx : f x with
    | none => exact ih.cons x
    | some y => exact ih.cons_cons x
theorem relaid_gd {t : SetTable} {L : Bool} (g : t.led = L) {hs : Array Int} {n : Nat} {u : SetTable} {o : Array Nat} (e : t.relaid hs n = some (u, o)) : Gd u L := by
  unfold SetTable.relaid SetTable.laid at e
  cases hc : SetTable.layClean (SetTable.sizeAbove n - 1) hs with
  | none => rw [hc] at e; cases e
  | some ow =>
    rw [hc] at e
    injection e with e
    injection e with e1 e2
    subst e1
    refine ⟨g, rfl, ?_⟩
    show (((List.range (SetTable.sizeAbove n - 1 + 1)).filterMap fun j => (ow.getD j none).map (j, ·)).map (·.1)).toArray.toList.Pairwise _
    rw [List.toList_toArray]
    exact (range_lt _).sublist (live_sub _ _)
theorem relay_gd {t : SetTable} {L : Bool} (g : t.led = L) (es : Array (Int × Value)) (n : Nat) : Gd (relayAll t es n).2.1 L := by
  unfold relayAll
  split
  · rename_i u o z
    dsimp only
    split
    · exact relaid_gd g z
    · exact stand_gd g _
  · exact stand_gd g _
theorem erase_perm {α : Type} {l : List α} {i : Nat} (h : i < l.length) : (l[i] :: l.eraseIdx i).Perm l := by
  rw [List.eraseIdx_eq_take_drop_succ]
  refine List.perm_middle.symm.trans ?_
  rw [← List.drop_eq_getElem_cons h, List.take_append_drop]
theorem pick_go {α : Type} (nx : Nat → Nat) : ∀ (f k : Nat) (l : List α) (o : Array α), l.length = f → ((pickOrder.go nx f k l o).toList).Perm (o.toList ++ l)
  | 0, k, l, o, h => by
    unfold pickOrder.go
    rw [List.length_eq_zero_iff.mp h, List.append_nil]
  | f + 1, k, l, o, h => by
    unfold pickOrder.go
    have hi : nx k % l.length < l.length := Nat.mod_lt _ (by omega)
    rw [List.getElem?_eq_getElem hi]
    dsimp only
    refine (pick_go nx f (k + 1) _ _ (by rw [List.length_eraseIdx_of_lt hi]; omega)).trans ?_
    rw [Array.toList_push, List.append_assoc]
    refine List.Perm.append_left _ ?_
    exact erase_perm hi
theorem pick_perm {α : Type} (nx : Nat → Nat) (xs : Array α) : (pickOrder nx xs).toList.Perm xs.toList := by
  unfold pickOrder
  simpa using pick_go nx xs.size 0 xs.toList #[] (by simp)
end PS
namespace PS
open PySem PySem.Spec PyProof.Rows
def ival : Value → Int
  | .int k _ => k
  | _ => 0
/-- a set of ints at a -/
structure SetE (h : Heap) (a : Addr) (L : Bool) (es : Array (Int × Value)) (ep : Nat) (t : SetTable) : Prop where
  obj : ∃ o, h.get? a = some o ∧ o.ExactSet ∧ o.data = .set es ep t
  itg : ∀ e ∈ es.toList, ∃ k u, e = (hashInt k, Value.int k u)
  small : es.size < scanBound
  fit : t.fits es.size = true
  gd : Gd t L
def SetI (h : Heap) (a : Addr) (L : Bool) (ks : List Int) : Prop := ∃ es ep t, SetE h a L es ep t ∧ (es.toList.map fun e => ival e.2).Perm ks
theorem SetE.at {h h' : Heap} {a : Addr} {L : Bool} {es : Array (Int × Value)} {ep : Nat} {t : SetTable} (x : SetE h a L es ep t) (k : ∀ o, h.get? a = some o → h'.get? a = some o) : SetE h' a L es ep t :=
  ⟨let ⟨o, e, r⟩ := x.obj; ⟨o, k o e, r⟩, x.itg, x.small, x.fit, x.gd⟩
theorem SetI.at {h h' : Heap} {a : Addr} {L : Bool} {ks : List Int} (x : SetI h a L ks) (k : ∀ o, h.get? a = some o → h'.get? a = some o) : SetI h' a L ks :=
  let ⟨es, ep, t, e, p⟩ := x; ⟨es, ep, t, e.at k, p⟩
section
variable {prog : Program} {w : World} {A : Around} {E : Value → Shared → Prop} {s : Shared}
theorem SetE.typeIs {a : Addr} {L : Bool} {es : Array (Int × Value)} {ep : Nat} {t : SetTable} (x : SetE s.heap a L es ep t) : s.TypeIs (.ref a) "set" :=
  let ⟨o, e, r, _⟩ := x.obj; ⟨o, e, r.1⟩
theorem elems {es : Array (Int × Value)} (h : ∀ e ∈ es.toList, ∃ k u, e = (hashInt k, Value.int k u)) : ElemsOf (intKind prog w) es.toList := fun e he => by
  obtain ⟨k, u, rfl⟩ := h e he
  exact ⟨⟨k, intKind_is _ _ _ _, rfl⟩, rfl⟩
theorem int_is {v k : Int} {u : Tok} : (intKind prog w).is v (.int k u) = true ↔ v = k := by
  constructor
  · exact fun h => (intKind prog w).inj _ v k h (intKind_is _ _ _ _)
  · rintro rfl; exact intKind_is _ _ _ _
/-- what is laid behind a new item -/
theorem put_tail {g : Bool → Sem Unit} (hg : ∀ (b : Bool) (s1 : Shared) (Z : Unit → Shared → Prop), Z () s1 → wpAny (model prog w) A (g b) Z E s1)
    {a : Addr} {o : Obj} {es : Array (Int × Value)} {ep : Nat} {t : SetTable} (ho : s.heap.get? a = some o) (hx : o.ExactSet) (hd : o.data = .set es ep t)
    {fs : Array (Int × Value)} {u : SetTable} {L : Bool} (hi : ∀ e ∈ fs.toList, ∃ k u, e = (hashInt k, Value.int k u)) (hb : fs.size < scanBound) (hf : u.fits fs.size = true) (gu : Gd u L) {wd : Bool} {R : Option Bool → Shared → Prop}
    (k : ∀ h' es' ep' t', Heap.SameBut a s.heap h' → SetE h' a L es' ep' t' → es'.toList.Perm fs.toList → R (some true) { s with heap := h' }) :
    wpAny (model prog w) A (do
        storeSet a fs u
        if (!wd && u.tooFull) = true then do
            g (relayAll u fs (SetTable.grown fs.size)).2.2
            storeSet a (relayAll u fs (SetTable.grown fs.size)).1 (relayAll u fs (SetTable.grown fs.size)).2.1
            pure (some true)
          else pure (some true)) R E s := by
  have st : ∀ {h : Heap} {o : Obj} {es : Array (Int × Value)} {ep : Nat} {t : SetTable} (fs : Array (Int × Value)) (u : SetTable), h.get? a = some o → o.data = .set es ep t →
      (h.update a (Obj.putSet fs u)).get? a = some { o with data := .set fs (ep + 1) u } := fun {h o es ep t} fs u e1 e2 => by
    have z := Heap.get?_update_self (Obj.putSet fs u) e1 (by rw [putSet_of fs u e2]; rfl)
    rwa [putSet_of fs u e2] at z
  have o1 := st fs u ho hd
  have sb := Heap.SameBut.update s.heap a (Obj.putSet fs u)
  refine wpAny_bind (wpAny_storeSet_of ho hd ?_ (fits_of_scanBound hb))
  split
  · have pm := relayAll_perm u fs (SetTable.grown fs.size)
    have ft := relayAll_fits u fs (SetTable.grown fs.size)
    have gr := relay_gd gu.led fs (SetTable.grown fs.size)
    generalize relayAll u fs (SetTable.grown fs.size) = Z at pm ft gr ⊢
    obtain ⟨fs2, u2, b2⟩ := Z
    dsimp only at pm ft gr ⊢
    have sz : fs2.size = fs.size := by
      have z := pm.length_eq
      simpa using z
    refine wpAny_bind (hg _ _ _ (wpAny_bind (wpAny_storeSet_of o1 rfl ?_ (fits_of_scanBound (by omega)))))
    exact wpAny_pure (k _ fs2 _ u2 (sb.trans (Heap.SameBut.update _ a _)) ⟨⟨_, st fs2 u2 o1 rfl, hx, rfl⟩, fun e he => hi e (pm.mem_iff.mp he), by omega, ft, gr⟩ pm)
  · exact wpAny_pure (k _ fs _ u sb ⟨⟨_, o1, hx, rfl⟩, hi, hb, hf, gu⟩ (List.Perm.refl _))
theorem add_int_set {a : Addr} {L : Bool} {ks : List Int} {v : Int} {u : Tok} {Q : Bool → Shared → Prop} (h : SetI s.heap a L ks) (hr : ks.length + 1 < scanBound)
    (k : ∀ h' b, Heap.SameBut a s.heap h' → SetI h' a L (if v ∈ ks then ks else ks ++ [v]) → Q b { s with heap := h' }) :
    wpAny (model prog w) A (setAddHashed a (.int v u) (hashInt v)) Q E s := by
  obtain ⟨es, ep, t, z, hp⟩ := h
  obtain ⟨⟨o, ho, hx, hd⟩, hi, hb, hf, g⟩ := z
  have el := elems (prog := prog) (w := w) hi
  have ll : es.size = ks.length := by
    have z := hp.length_eq
    simpa using z
  have mem : ∀ x, x ∈ ks ↔ ∃ e ∈ es.toList, (intKind prog w).is x e.2 = true := fun x => by
    rw [← hp.mem_iff, List.mem_map]
    constructor
    · rintro ⟨e, he, rfl⟩
      obtain ⟨y, c, rfl⟩ := hi e he
      exact ⟨_, he, intKind_is _ _ _ _⟩
    · rintro ⟨e, he, y⟩
      obtain ⟨y', c, rfl⟩ := hi e he
      exact ⟨_, he, (int_is.mp y).symm⟩
  unfold setAddHashed setAddHashedIn
  refine wpAny_holding (wpAny_bind (wpAny_setState_of ho hd hf ?_))
  dsimp only
  rw [byScan_of (knd := intKind prog w) rfl hb el, if_pos rfl]
  unfold setAddByScan
  refine wpAny_bind (wpAny_bind (wpAny_rule (wpAny_bind (wpAny_setScan_of (knd := intKind prog w) (k := v) (intKind_is _ _ _ _) ho hd hf el ?_))))
  cases hq : es.toList.findIdx? (fun e => (intKind prog w).is v e.2) with
  | some j =>
    obtain ⟨hj, y, _⟩ := List.findIdx?_eq_some_iff_getElem.mp hq
    have iv : v ∈ ks := (mem v).mpr ⟨_, List.getElem_mem hj, y⟩
    refine wpAny_pure (wpAny_pure ?_)
    have z := k s.heap false (Heap.SameBut.refl a s.heap) (by rw [if_pos iv]; exact ⟨es, ep, t, ⟨⟨o, ho, hx, hd⟩, hi, hb, hf, g⟩, hp⟩)
    cases s; exact z
  | none =>
    have iv : ¬ v ∈ ks := fun z => by
      obtain ⟨e, he, y⟩ := (mem v).mp z
      have := List.findIdx?_eq_none_iff.mp hq e he
      rw [y] at this; cases this
    rw [if_neg iv] at k
    dsimp only
    have pm := layNew_perm t es (hashInt v) (.int v u)
    have ft := layNew_fits t es (hashInt v) (.int v u)
    have gn := lay_gd g es (hashInt v) (.int v u)
    generalize layNew t es (hashInt v) (.int v u) = Z at pm ft gn ⊢
    obtain ⟨fs, t1, wd, gv⟩ := Z
    dsimp only at pm ft gn ⊢
    rw [Array.toList_push] at pm
    have fi : ∀ e ∈ fs.toList, ∃ k u, e = (hashInt k, Value.int k u) := fun e he => by
      rcases List.mem_append.mp (pm.mem_iff.mp he) with y | y
      · exact hi e y
      · exact ⟨v, u, List.mem_singleton.mp y⟩
    have fz : fs.size = es.size + 1 := by
      have z := pm.length_eq
      simpa using z
    have fin : ∀ h' es' ep' t', Heap.SameBut a s.heap h' → SetE h' a L es' ep' t' → es'.toList.Perm fs.toList → Q true { s with heap := h' } := fun h' es' ep' t' sb se p => by
      refine k h' true sb ⟨es', ep', t', se, ?_⟩
      refine ((p.trans pm).map fun e => ival e.2).trans ?_
      rw [List.map_append]
      exact hp.append_right _
    have gw : ∀ (b : Bool) (s1 : Shared) (Z : Unit → Shared → Prop), Z () s1 → wpAny (model prog w) A (match b with | true => rule "set.scan.the-table-gave-way" | false => pure ()) Z E s1 := fun b s1 Z z => by
      cases b
      · exact wpAny_pure z
      · exact wpAny_rule z
    refine wpAny_bind (gw _ _ _ ?_)
    split
    · refine wpAny_bind (wpAny_pure ?_)
      refine put_tail (L := L) gw ho hx hd fi (by omega) ?_ ?_ fun h' es' ep' t' sb se p => ?_
      · exact ft
      · exact gn
      · exact wpAny_pure (fin h' es' ep' t' sb se p)
    · refine wpAny_bind (wpAny_pure ?_)
      refine put_tail (L := L) gw ho hx hd fi (by omega) ?_ ?_ fun h' es' ep' t' sb se p => ?_
      · exact ft
      · exact gn
      · exact wpAny_pure (fin h' es' ep' t' sb se p)
end
end PS
namespace PS
open PySem PySem.Spec PyProof.Rows
theorem dedup_eq (l : List Int) (v : Int) : step_dedup l v = if v ∈ l then l else l ++ [v] := by
  unfold step_dedup
  by_cases c : v ∈ l
  · rw [if_pos c, if_pos (List.any_eq_true.mpr ⟨v, c, by simp⟩)]
  · rw [if_neg c, if_neg fun z => by
      obtain ⟨x, hx, e⟩ := List.any_eq_true.mp z
      exact c ((by simpa using e : x = v) ▸ hx)]
theorem met_nodup (f : Nat → Int) : ∀ i, (firstMet f i).Nodup
  | 0 => by rw [firstMet_zero]; exact List.nodup_nil
  | i + 1 => by
    rw [firstMet_succ, dedup_eq]
    by_cases c : f i ∈ firstMet f i
    · rw [if_pos c]; exact met_nodup f i
    · rw [if_neg c]
      refine List.nodup_append.mpr ⟨met_nodup f i, by simp, fun x hx y hy z => c ?_⟩
      rw [← List.mem_singleton.mp hy, ← z]; exact hx
theorem met_mem (f : Nat → Int) (i : Nat) (x : Int) : x ∈ firstMet f i ↔ ∃ j, j < i ∧ f j = x := by
  have z := firstMet_any f i x
  rw [Bool.eq_iff_iff, List.any_eq_true, List.any_eq_true] at z
  constructor
  · intro h
    obtain ⟨y, hy, e⟩ := z.mp ⟨x, h, by simp⟩
    obtain ⟨j, hj, rfl⟩ := List.mem_map.mp hy
    exact ⟨j, List.mem_range.mp hj, by simpa using e⟩
  · rintro ⟨j, hj, rfl⟩
    obtain ⟨y, hy, e⟩ := z.mpr ⟨f j, List.mem_map.mpr ⟨j, List.mem_range.mpr hj, rfl⟩, by simp⟩
    rw [← (by simpa using e : y = f j)]; exact hy
section
variable {prog : Program} {w : World} {A : Around} {E : Value → Shared → Prop} {s : Shared}
theorem upd_loop {R : Result → Shared → Prop} {I : Addr} {fp wr : List Addr} {G : Array GenState → Array GenState → Prop} {n : Nat} {P : Nat → Value → Prop} {St : Nat → Shared → Prop} {L : Bool}
    (W : WalksS prog w A.in1 I fp wr G n P St) (S : Addr) (hS : S ∉ fp) (f : Nat → Int) (hf : ∀ i v, P i v → ∃ t, v = .int (f i) t) (hn : n + 1 < scanBound) :
    ∀ (k i : Nat) (s : Shared), n - i = k → i ≤ n → St i s → SetI s.heap S L (firstMet f i) → (∀ s', Moved (S :: wr) G s s' → SetI s'.heap S L (firstMet f n) → R (.ok (.ret .none)) s') →
      codeAny (model prog w) A (.builtin "set.update.loop" ⟨[.ref S, .ref I], []⟩) R s := by
  have nw : S ∉ wr := fun z => hS (W.sub _ z)
  have up : ∀ b ∈ wr, b ∈ S :: wr := fun b z => List.mem_cons_of_mem _ z
  intro k
  induction k with
  | zero =>
    intro i s h1 h2 st si fin
    obtain rfl : i = n := by omega
    refine codeAny_builtin F.entry_set_update_loop ?_
    rw [Around.under_plainId F.plain_set_update_loop _]
    refine wpAny_bind (m := pyNext (.ref I)) (W.done s _ _ st fun s' m => ?_)
    exact wpAny_pure (fin s' (m.mono up) (si.at fun o e => m.heap S o nw e))
  | succ k ih =>
    intro i s h1 h2 st si fin
    have lt : i < n := by omega
    refine codeAny_builtin F.entry_set_update_loop ?_
    rw [Around.under_plainId F.plain_set_update_loop _]
    refine wpAny_bind (m := pyNext (.ref I)) (W.item i s _ _ lt st fun v s' pv st' m => ?_)
    obtain ⟨t, rfl⟩ := hf i v pv
    refine wpAny_bind (m := holding [Value.int (f i) t] (setAdd S (.int (f i) t))) (wpAny_holding ?_)
    unfold setAdd
    refine wpAny_holding (wpAny_bind (wpAny_pyHash_int ?_))
    have rm : (firstMet f i).length + 1 < scanBound := by have := firstMet_length_le f i; omega
    refine add_int_set (s := { s' with toks := s'.toks + 1 }) (si.at fun o e => m.heap S o nw e) rm fun h' b sb si' => ?_
    rw [← dedup_eq, ← firstMet_succ] at si'
    refine wpAny_pure ⟨plainId_quiet F.plain_set_update_loop _, ih (i + 1) _ (by omega) lt (W.frame _ s' _ _ st' (Nat.le_succ _) fun c hc o e => ?_) si' fun s'' m' si'' => ?_⟩
    · rw [sb.2 c fun z => hS (z ▸ hc)]; exact e
    · refine fin s'' (Moved.trans W.gtrans ((m.mono up).then_heap (Nat.le_succ _) fun c o hc e => ?_) m') si''
      rw [sb.2 c fun z => hc (z ▸ List.mem_cons_self)]; exact e
/-- whether sets are led -/
abbrev ledW (w : World) : Bool := !w.params.followText "set-order"
theorem code_new (a : Value) {Z : Value → Shared → Prop}
    (h : Z (.ref s.heap.objs.size) { s with heap := s.heap.push { cls := .type "set", dict := none, data := .set #[] 0 (.fresh 0 0 (ledW w)) } }) :
    codeAny (model prog w) A (.call (.builtin "set.__new__") ⟨[.type "set", a], []⟩) (wants Z E) s := by
  refine codeAny_of_tree ?_
  refine wpAny_bind (m := checkBuiltinCall "set.__new__" _) (wpAny_of_eq (F.newCall_set_1 a) (wpAny_pure ⟨plainId_quiet F.plain_set_new _, codeAny_builtin F.entry_set_new ?_⟩))
  rw [Around.under_plainId F.plain_set_new _]
  unfold Builtin.«set.__new__» Builtin.Frozenset.newClass
  have z := sub_set_self
  obtain ⟨h0, g, d, tk, os⟩ := s
  dsimp only
  wp_walk
  refine wpAny_askSetting (wpAny_pure ?_)
  dsimp only
  simp only [newObj]
  exact wpAny_bind (wpAny_alloc (wpAny_pure (wpAny_pure h)))
theorem fresh_set (L : Bool) {h : Heap} {a : Addr} (e : h.get? a = some { cls := .type "set", dict := none, data := .set #[] 0 (.fresh 0 0 L) }) : SetI h a L [] :=
  ⟨#[], 0, _, ⟨⟨_, e, ⟨rfl, rfl, rfl⟩, rfl⟩, fun e he => by simp at he, by decide, by rfl, ⟨rfl, rfl, List.Pairwise.nil⟩⟩, List.Perm.refl _⟩
theorem call_set {l : Addr} {items : Array Value} {ns : List Int} {Q : Value → Shared → Prop} (hh : A.handled = none) (hl : s.heap.IsList l items) (hi : IntsAre items.toList ns) (hb : items.size + 1 < scanBound)
    (k : ∀ (h' : Heap) (tk : Nat), SetI h' s.heap.objs.size (ledW w) (firstMet (fun i => ns.getD i 0) items.size) → (∀ b o, b < s.heap.objs.size → s.heap.get? b = some o → h'.get? b = some o) → Q (.ref s.heap.objs.size) { s with heap := h', toks := tk }) :
    wpAny (model prog w) A (call (.type "set") [.ref l]) Q E s := by
  obtain ⟨c, tl, z0⟩ := F.called_set.mro
  have z1 := F.called_set.made
  have z2 := F.called_set.sub
  refine wpAny_call (codeAny_of_tree ?_)
  refine wpAny_pure ⟨Code.quiet_builtin _ (by decide +kernel), codeAny_builtin F.entry_type_call ?_⟩
  rw [Around.under_plain (weight_type_call_type "set" [.ref l] []) rfl]
  have z3 := F.called_set.notType
  have z4 := F.called_set.canCreate
  have z5 := F.typeCall_set_1 (.ref l)
  repeat (any_goals (first | assumption | wp_step))
  refine codeAny_mono (code_new (.ref l) (E := E) (Z := fun v s1 => v = .ref s.heap.objs.size ∧ s1 = { s with heap := s.heap.push { cls := .type "set", dict := none, data := .set #[] 0 (.fresh 0 0 (ledW w)) } }) ⟨rfl, rfl⟩) fun r s1 hr => ?_
  cases r with
  | error e => exact hr
  | ok fl =>
    cases fl with
    | ret v =>
      obtain ⟨rfl, rfl⟩ := hr
      generalize ho : ({ cls := .type "set", dict := none, data := .set #[] 0 (.fresh 0 0 (ledW w)) } : Obj) = os
      have gS : (s.heap.push os).get? s.heap.objs.size = some os := by subst ho; exact Heap.get?_push_size _ rfl
      have oc : os.cls = .type "set" := by rw [← ho]
      have tS : Shared.TypeIs { s with heap := s.heap.push os } (.ref s.heap.objs.size) "set" := ⟨_, gS, oc⟩
      have z6 := F.called_set.init.lookup
      have z7 := F.called_set.init.bind (.ref s.heap.objs.size)
      repeat (any_goals (first | assumption | wp_step))
      refine codeAny_mono (codeAny_call_builtin (R := wants (fun r s2 => r = .none ∧ ∃ h' tk, s2 = { s with heap := h', toks := tk } ∧ SetI h' s.heap.objs.size (ledW w) (firstMet (fun i => ns.getD i 0) items.size) ∧ ∀ b o, b < s.heap.objs.size → s.heap.get? b = some o → h'.get? b = some o) E) F.called_set.init.plain F.entry_set_init (check_set_init_1 tS ?_)) fun r2 s2 hr2 => ?_
      · obtain ⟨ol, gl, hc, nl, hd⟩ := id hl
        obtain ⟨c1, c2, c3, c4⟩ := ol
        simp only at hc hd
        subst hc; subst hd
        have gl' : (s.heap.push os).get? l = some { cls := .type "list", dict := c2, data := .seq items nl, slots := c4 } := Heap.get?_push_of_some _ gl
        have y1 := F.sub_list_set
        have y2 := F.sub_list_frozenset
        have y3 : (Value.type "list" == Value.type "dict") = false := by decide
        have hl1 : (s.heap.push os).IsList l items := ⟨_, gl', rfl, nl, rfl⟩
        have ll := Heap.lt_size gl
        unfold Builtin.«set.__init__» noKeywords Builtin.Frozenset.updateFrom
        subst ho
        generalize hPI : pyIter = PI
        wp_walk
        subst hPI
        refine wpAny_pyIter_list hl1 (wpAny_bind (wpAny_runValue ?_))
        have sz : (s.heap.push { cls := .type "set", dict := none, data := .set #[] 0 (.fresh 0 0 (ledW w)) }).objs.size = s.heap.objs.size + 1 := Heap.size_push ..
        have hit : ((s.heap.push { cls := .type "set", dict := none, data := .set #[] 0 (.fresh 0 0 (ledW w)) }).push { cls := .type "list_iterator", data := .fields #[.ref l, .int 0 0] }).IsListIter (s.heap.objs.size + 1) l 0 :=
          ⟨{ cls := .type "list_iterator", data := .fields #[.ref l, .int 0 0] }, by rw [← sz]; exact Heap.get?_push_size _ rfl, rfl, rfl⟩
        dsimp only
        rw [sz]
        refine upd_loop (L := ledW w) ((Walks.list (by simp [hh] : A.in1.in1.in1.handled = none) (s.heap.objs.size + 1) l (Nat.ne_of_lt (Nat.lt_succ_of_lt ll)) items).toS) s.heap.objs.size (fun z => ?_) (fun i => ns.getD i 0)
          (fun i v hv => IntsAre.int_at hi i v (by rw [Array.getElem?_toList]; exact hv)) hb (items.size - 0) 0 _ (by omega) (Nat.zero_le _) ?_ ?_ fun s' m si => ?_
        · rcases List.mem_cons.mp z with y | y
          · exact absurd y (Nat.ne_of_lt (Nat.lt_succ_self _))
          · exact absurd (List.mem_singleton.mp y).symm (Nat.ne_of_lt ll)
        · exact ⟨hit, hl1.push _⟩
        · exact fresh_set _ (Heap.get?_push_of_some _ gS)
        · obtain ⟨h', g', d', tk', os'⟩ := s'
          obtain rfl : g' = s.gens := m.gens
          obtain rfl : d' = s.drawn := m.drawn
          obtain rfl : os' = s.os := m.os
          refine wpAny_pure (wpAny_pure ⟨rfl, h', tk', rfl, si, fun b o hlt e => m.heap b o (fun z => ?_) (Heap.get?_push_of_some _ (Heap.get?_push_of_some _ e))⟩)
          rcases List.mem_cons.mp z with y | y
          · exact absurd y (Nat.ne_of_lt hlt)
          · exact absurd (List.mem_singleton.mp y) (Nat.ne_of_lt (Nat.lt_succ_of_lt hlt))
      · cases r2 with
        | error e => exact hr2
        | ok fl2 =>
          cases fl2 with
          | ret r =>
            obtain ⟨rfl, h', tk, rfl, si, kp⟩ := hr2
            repeat (any_goals (first | assumption | wp_step))
            exact k h' tk si kp
          | _ => exact hr2.elim
    | _ => exact hr.elim
end
end PS
namespace PS
open PySem PySem.Spec PyProof.Rows
theorem it_next : Slot "set_iterator" "__next__" "set_iterator.__next__" :=
  .of (owner := "set_iterator") (n := "__next__") (by rw [typeLookup_type, builtinLookup_eq_fast]; kernel_rfl) (by decide +kernel) (by decide +kernel) (by decide +kernel) (by first | exact .inl (by decide +kernel) | exact .inr (by decide +kernel)) (by rw [isSubtype_type]; kernel_rfl)
theorem it_iter : Slot "set_iterator" "__iter__" "set_iterator.__iter__" :=
  .of (owner := "set_iterator") (n := "__iter__") (by rw [typeLookup_type, builtinLookup_eq_fast]; kernel_rfl) (by decide +kernel) (by decide +kernel) (by decide +kernel) (by first | exact .inl (by decide +kernel) | exact .inr (by decide +kernel)) (by rw [isSubtype_type]; kernel_rfl)
theorem en_next : entryFor table "set_iterator.__next__" = some Builtin.«set_iterator.__next__» := entryFor_of_tree (by kernel_rfl)
theorem en_self : entryFor table "set_iterator.__iter__" = some Builtin.«dict_keyiterator.__iter__» := entryFor_alias (id' := "dict_keyiterator.__iter__") (by kernel_rfl) rfl (by decide +kernel) (by kernel_rfl)
theorem en_iter : entryFor table "set.__iter__" = some Builtin.«frozenset.__iter__» := entryFor_alias (id' := "frozenset.__iter__") (by kernel_rfl) rfl (by decide +kernel) (by kernel_rfl)
theorem own_it : Manifest.owners.lookup (String.ofList ['r', 'o', 't', 'a', 'r', 'e', 't', 'i', '_', 't', 'e', 's'].reverse) = some Manifest.sig_set_iterator := by kernel_rfl
theorem ar_next (a : Value) : argsOk "set_iterator.__next__" ⟨[a], []⟩ := by
  unfold argsOk; rw [signature?_of (id := "set_iterator.__next__") (n := ['_', '_', 't', 'x', 'e', 'n', '_', '_']) (o := ['r', 'o', 't', 'a', 'r', 'e', 't', 'i', '_', 't', 'e', 's']) (by kernel_rfl) own_it]; kernel_rfl
theorem ar_self (a : Value) : argsOk "set_iterator.__iter__" ⟨[a], []⟩ := by
  unfold argsOk; rw [signature?_of (id := "set_iterator.__iter__") (n := ['_', '_', 'r', 'e', 't', 'i', '_', '_']) (o := ['r', 'o', 't', 'a', 'r', 'e', 't', 'i', '_', 't', 'e', 's']) (by kernel_rfl) own_it]; kernel_rfl
def IsSI (h : Heap) (I S : Addr) (first : Value) (i n ep : Nat) : Prop := ∃ o, h.get? I = some o ∧ o.cls = .type "set_iterator" ∧ o.data = .fields #[first, .int i 0, .ref S, .int n 0, .int ep 0]
theorem IsSI.at {h h' : Heap} {I S : Addr} {first : Value} {i n ep : Nat} (x : IsSI h I S first i n ep) (k : ∀ o, h.get? I = some o → h'.get? I = some o) : IsSI h' I S first i n ep := let ⟨o, e, r⟩ := x; ⟨o, k o e, r⟩
section
variable {prog : Program} {w : World} {A : Around} {E : Value → Shared → Prop} {s : Shared}
theorem IsSI.typeIs {I S : Addr} {first : Value} {i n ep : Nat} (x : IsSI s.heap I S first i n ep) : s.TypeIs (.ref I) "set_iterator" := let ⟨o, e, r, _⟩ := x; ⟨o, e, r⟩
theorem si_self {I S : Addr} {first : Value} {i n ep : Nat} {Q : Value → Shared → Prop} (x : IsSI s.heap I S first i n ep) (q : Q (.ref I) s) : wpAny (model prog w) A (pyIter (.ref I)) Q E s := by
  refine wpAny_pyIter_slot x.typeIs it_iter (wpAny_call_entry it_iter x.typeIs en_self ?_ (ar_self _))
  exact wpAny_pure ⟨_, rfl, "set_iterator", _, x.typeIs, it_next.lookup, q⟩
/-- the end -/
theorem stop_it {I : Addr} {o : Obj} {f : Array Value} {Q : Option Value → Shared → Prop} (hh : A.handled = none) (e : s.heap.get? I = some o) (hd : o.data = .fields f) (hf : 2 < f.size)
    (q : ∀ h', Heap.ExtBut I s.heap h' → Q none { s with heap := h' }) {R : Except Value (Option Value) → Sem (Option Value)} (hR : ∀ v, R (.error v) = (do if ← isInstance v (.type "StopIteration") then pure none else throw v)) :
    wpAny (model prog w) A.in1 (do setField (.ref I) 2 .none; raiseNew (← newExc (.type "StopIteration") []) : Sem Fin) (fun _ _ => False) (fun v s' => wpAny (model prog w) A (R (.error v)) Q E s') s := by
  refine wpAny_bind (wpAny_setField e hd hf (wpAny_bind ?_))
  simp only [newExc, newTuple]
  refine wpAny_bind (wpAny_newObj_type ?_ (by size_fits))
  refine wpAny_bind (m := firstArgMember _ _) (wpAny_of_eq (a := Value.none) (by first | rfl | (simp only [firstArgMember]; rfl)) ?_)
  refine wpAny_newObj_type ?_ (by size_fits)
  simp only [raiseNew]
  refine wpAny_bind (wpAny_handled ?_)
  rw [show A.in1.handled = none from hh]
  refine wpAny_bind (wpAny_pure (wpAny_throw ?_))
  rw [hR]
  refine wpAny_bind (wpAny_isInstance (T := "StopIteration") (b := true) ⟨_, Heap.get?_push_size _ rfl, rfl⟩ isSubtype_stop ?_)
  exact wpAny_pure (q _ (((Heap.SameBut.update ..).extBut.push _).push _))
end
end PS
namespace PS
open PySem PySem.Spec PyProof.Rows
def siObj (S : Addr) (first : Value) (i n ep : Nat) : Obj := { cls := .type "set_iterator", dict := none, data := .fields #[first, .int i 0, .ref S, .int n 0, .int ep 0], slots := #[] }
section
variable {prog : Program} {w : World} {A : Around} {E : Value → Shared → Prop} {s : Shared} {I S : Addr} {L : Bool} {es : Array (Int × Value)} {ep : Nat} {t : SetTable} {i n : Nat}
theorem si_of {h : Heap} {first : Value} (e : h.get? I = some (siObj S first i n ep)) : IsSI h I S first i n ep := ⟨_, e, rfl, rfl⟩
theorem next_text {slot : Nat} {Q : Option (Value × Nat) → Shared → Prop} (hb : w.params.followText "set-order" = true) (x : SetE s.heap S L es ep t)
    (q : Q (((pickOrder (w.params.setOrder S ep) es)[i]?).map fun e => (e.2, slot)) s) : wpAny (model prog w) A (setNext S slot i ep) Q E s := by
  obtain ⟨o, ho, hx, hd⟩ := x.obj
  unfold setNext setsByText
  refine wpAny_bind (wpAny_setState_of ho hd x.fit (wpAny_bind (wpAny_bind (wpAny_askSetting (wpAny_pure ?_)))))
  show wpAny _ _ (if w.params.followText "set-order" = true then _ else _) _ _ _
  rw [if_pos hb, if_neg (by simp)]
  refine wpAny_bind ?_
  unfold setWalk setsByText
  refine wpAny_bind (wpAny_setState_of ho hd x.fit (wpAny_bind (wpAny_bind (wpAny_askSetting (wpAny_pure ?_)))))
  show wpAny _ _ (if w.params.followText "set-order" = true then _ else _) _ _ _
  rw [if_pos hb]
  exact wpAny_bind (wpAny_askSetting (wpAny_pure (wpAny_pure q)))
theorem next_slot {slot : Nat} {Q : Option (Value × Nat) → Shared → Prop} (hb : w.params.followText "set-order" = false) (x : SetE s.heap S true es ep t) (nd : (!t.plain && decide (es.size > 1)) = false)
    (q : Q (match es[SetTable.below t.place slot]?, t.place[SetTable.below t.place slot]? with | some (_, v), some j => some (v, j + 1) | _, _ => none) s) : wpAny (model prog w) A (setNext S slot i ep) Q E s := by
  obtain ⟨o, ho, hx, hd⟩ := x.obj
  unfold setNext setsByText
  refine wpAny_bind (wpAny_setState_of ho hd x.fit (wpAny_bind (wpAny_bind (wpAny_askSetting (wpAny_pure ?_)))))
  show wpAny _ _ (if w.params.followText "set-order" = true then _ else _) _ _ _
  rw [if_neg (by rw [hb]; decide)]
  show wpAny _ _ (if (!t.plain && decide (es.size > 1)) = true then _ else _) _ _ _
  rw [if_neg (by rw [nd]; decide)]
  refine wpAny_bind ?_
  show wpAny _ _ (if (!t.led && !es.isEmpty) = true then _ else _) _ _ _
  rw [if_neg (by rw [x.gd.led]; simp)]
  exact wpAny_pure (wpAny_pure q)
theorem pn_some {slot nx : Nat} {v : Value} {Q : Option Value → Shared → Prop} (x : s.heap.get? I = some (siObj S (.int slot 0) i es.size ep)) (y : SetE s.heap S L es ep t)
    (hn : ∀ (Q' : Option (Value × Nat) → Shared → Prop) (E' : Value → Shared → Prop), Q' (some (v, nx)) s → wpAny (model prog w) A.in1 (setNext S slot i ep) Q' E' s)
    (q : ∀ h', h'.get? I = some (siObj S (.int nx 0) (i + 1) es.size ep) → Heap.SameBut I s.heap h' → Q (some v) { s with heap := h' }) : wpAny (model prog w) A (pyNext (.ref I)) Q E s := by
  obtain ⟨o, ho, hx, hd⟩ := y.obj
  have z := (si_of x).typeIs
  unfold pyNext
  refine wpAny_bind (wpAny_attempt (wpAny_callSpecial?_slot (name := Str.ofString "__next__") z it_next (wpAny_call_entry it_next z en_next ?_ (ar_next _))))
  unfold Builtin.«set_iterator.__next__»
  refine wpAny_bind (m := slotArgs "__next__" 0 _) (wpAny_pure ?_)
  refine wpAny_bind (wpAny_fieldsOf x rfl ?_)
  refine wpAny_bind (m := setEntries S) (wpAny_setEntries_of ho hd y.fit ?_)
  rw [if_neg (by simp)]
  refine wpAny_bind (m := setNext S (slot : Int).toNat (i : Int).toNat (ep : Int).toNat) ?_
  simp only [Int.toNat_natCast]
  refine hn _ _ ?_
  refine wpAny_bind (wpAny_setField_rec x (by simp) fun h1 e1 s1 => ?_)
  refine wpAny_bind (wpAny_setField_rec e1 (by simp) fun h2 e2 s2 => wpAny_pure ⟨v, rfl, wpAny_pure (q h2 ?_ (s1.trans s2))⟩)
  rw [e2]
  simp [siObj, rawInt]
theorem pn_none {slot : Nat} {Q : Option Value → Shared → Prop} (hh : A.handled = none) (x : s.heap.get? I = some (siObj S (.int slot 0) i es.size ep)) (y : SetE s.heap S L es ep t)
    (hn : ∀ (Q' : Option (Value × Nat) → Shared → Prop) (E' : Value → Shared → Prop), Q' none s → wpAny (model prog w) A.in1 (setNext S slot i ep) Q' E' s)
    (q : ∀ h', Heap.ExtBut I s.heap h' → Q none { s with heap := h' }) : wpAny (model prog w) A (pyNext (.ref I)) Q E s := by
  obtain ⟨o, ho, hx, hd⟩ := y.obj
  have z := (si_of x).typeIs
  unfold pyNext
  refine wpAny_bind (wpAny_attempt (wpAny_callSpecial?_slot (name := Str.ofString "__next__") z it_next (wpAny_call_entry it_next z en_next ?_ (ar_next _))))
  unfold Builtin.«set_iterator.__next__»
  refine wpAny_bind (m := slotArgs "__next__" 0 _) (wpAny_pure ?_)
  refine wpAny_bind (wpAny_fieldsOf x rfl ?_)
  refine wpAny_bind (m := setEntries S) (wpAny_setEntries_of ho hd y.fit ?_)
  rw [if_neg (by simp)]
  refine wpAny_bind (m := setNext S (slot : Int).toNat (i : Int).toNat (ep : Int).toNat) ?_
  simp only [Int.toNat_natCast]
  refine hn _ _ ?_
  refine wpAny_mono (stop_it (R := fun r => match r with | .ok (some v) => pure (some v) | .ok none => unsupported "iter:the-iterator's-class-has-lost-its-__next__-amid-the-walk" | .error e => do if ← isInstance e (.type "StopIteration") then pure none else throw e) hh x rfl (by simp) q fun v => rfl) (fun _ _ f => f.elim) fun _ _ f => f
/-- the order of a walk by the text's rule -/
theorem walk_text (hh : A.handled = none) (hb : w.params.followText "set-order" = true) (hne : S ≠ I) :
    Walks prog w A I [I, S] [I] es.size (fun i v => ((pickOrder (w.params.setOrder S ep) es).toList.map (·.2))[i]? = some v) (fun i h => (∃ slot : Nat, h.get? I = some (siObj S (.int slot 0) i es.size ep)) ∧ SetE h S L es ep t) where
  sub := fun b hb => by simp at hb; simp [hb]
  frame := fun i h h' st k => ⟨let ⟨sl, e⟩ := st.1; ⟨sl, k I (by simp) _ e⟩, st.2.at fun o e => k S (by simp) o e⟩
  item := fun i s Q E hi st q => by
    obtain ⟨⟨sl, e⟩, y⟩ := st
    have pl : (pickOrder (w.params.setOrder S ep) es).size = es.size := by
      have z := (pick_perm (w.params.setOrder S ep) es).length_eq
      simpa using z
    have gi : (pickOrder (w.params.setOrder S ep) es)[i]? = some ((pickOrder (w.params.setOrder S ep) es)[i]'(by omega)) := getElem?_pos _ _ _
    refine pn_some (v := ((pickOrder (w.params.setOrder S ep) es)[i]'(by omega)).2) e y (fun Q' E' q' => next_text hb y (by rw [gi]; exact q')) fun h' e' sb => ?_
    refine q _ h' s.toks ?_ ⟨⟨sl, e'⟩, y.at fun o eo => by rw [sb.2 S hne]; exact eo⟩ fun b o hb eo => by rw [sb.2 b fun z => hb (by simp [z])]; exact eo
    rw [List.getElem?_map, Array.getElem?_toList, gi]; rfl
  done := fun s Q E st q => by
    obtain ⟨⟨sl, e⟩, y⟩ := st
    have pl : (pickOrder (w.params.setOrder S ep) es).size = es.size := by
      have z := (pick_perm (w.params.setOrder S ep) es).length_eq
      simpa using z
    refine pn_none hh e y (fun Q' E' q' => next_text hb y (by rw [getElem?_neg _ _ (by omega)]; exact q')) fun h' eb => q h' s.toks fun b o hb eo => eb b o (fun z => hb (by simp [z])) eo
  self := fun i s Q E st q => let ⟨⟨_, e⟩, _⟩ := st; si_self (si_of e) q
/-- .. by the places of the table -/
def slotAt (t : SetTable) : Nat → Nat
  | 0 => 0
  | i + 1 => (t.place[i]?).getD 0 + 1
theorem slot_cut (g : Gd t L) (hi : i ≤ t.place.size) : SetTable.below t.place (slotAt t i) = i := by
  refine cuts_uniq (below_cuts g.ris) ⟨hi, fun j gj hj => ?_, fun j gj hj => ?_⟩
  · cases i with
    | zero => omega
    | succ k =>
      have y := ris_le g.ris (i := j) (j := k) (by omega) (by omega)
      show t.place[j] < (t.place[k]?).getD 0 + 1
      rw [getElem?_pos t.place k (by omega), Option.getD_some]; omega
  · cases i with
    | zero => exact Nat.zero_le _
    | succ k =>
      have y := ris_at g.ris (i := k) (j := j) gj (by omega)
      show (t.place[k]?).getD 0 + 1 ≤ _
      rw [getElem?_pos t.place k (by omega), Option.getD_some]; omega
theorem walk_slot (hh : A.handled = none) (hb : w.params.followText "set-order" = false) (nd : (!t.plain && decide (es.size > 1)) = false) (hne : S ≠ I) (hz : t.place.size = es.size) :
    Walks prog w A I [I, S] [I] es.size (fun i v => (es.toList.map (·.2))[i]? = some v) (fun i h => h.get? I = some (siObj S (.int (slotAt t i) 0) i es.size ep) ∧ SetE h S true es ep t) where
  sub := fun b hb => by simp at hb; simp [hb]
  frame := fun i h h' st k => ⟨k I (by simp) _ st.1, st.2.at fun o e => k S (by simp) o e⟩
  item := fun i s Q E hi st q => by
    obtain ⟨e, y⟩ := st
    have c := slot_cut y.gd (show i ≤ t.place.size by omega)
    have g1 : es[i]? = some es[i] := getElem?_pos _ _ _
    have g2 : t.place[i]? = some (t.place[i]'(by omega)) := getElem?_pos _ _ _
    refine pn_some (v := es[i].2) (nx := slotAt t (i + 1)) e y (fun Q' E' q' => next_slot hb y nd ?_) fun h' e' sb => ?_
    · rw [c, g1, g2]
      show Q' (some (es[i].2, t.place[i]'(by omega) + 1)) s
      have : slotAt t (i + 1) = t.place[i]'(by omega) + 1 := by show (t.place[i]?).getD 0 + 1 = _; rw [g2]; rfl
      rw [← this]; exact q'
    · refine q _ h' s.toks ?_ ⟨e', y.at fun o eo => by rw [sb.2 S hne]; exact eo⟩ fun b o hb eo => by rw [sb.2 b fun z => hb (by simp [z])]; exact eo
      rw [List.getElem?_map, Array.getElem?_toList, g1]; rfl
  done := fun s Q E st q => by
    obtain ⟨e, y⟩ := st
    have c := slot_cut y.gd (show es.size ≤ t.place.size by omega)
    refine pn_none hh e y (fun Q' E' q' => next_slot hb y nd ?_) fun h' eb => q h' s.toks fun b o hb eo => eb b o (fun z => hb (by simp [z])) eo
    rw [c, getElem?_neg es _ (by omega)]; exact q'
  self := fun i s Q E st q => si_self (si_of st.1) q
end
end PS
namespace PS
open PySem PySem.Spec PyProof.Rows
section
variable {prog : Program} {w : World} {A : Around} {E : Value → Shared → Prop} {s : Shared} {I S T : Addr} {L : Bool} {es : Array (Int × Value)} {ep : Nat} {t : SetTable} {i n : Nat}
theorem wp_choose {src : Source} {n : Nat} {Q : Nat → Shared → Prop} (h : n ≠ 0) (q : ∀ i d, i < n → Q i { s with drawn := d }) : wpAny (model prog w) A (choose src n) Q E s :=
  fun _ _ _ => ⟨h, q _ _ (Nat.mod_lt _ (Nat.pos_of_ne_zero h))⟩
theorem wp_draw {α : Type} : ∀ (n : Nat) (xs : List α) (s : Shared) (Q : List α → Shared → Prop), xs.length = n → (∀ ys d, ys.Perm xs → Q ys { s with drawn := d }) → wpAny (model prog w) A (drawOrder n xs) Q E s
  | 0, xs, s, Q, h, q => by
    rw [List.length_eq_zero_iff.mp h]
    unfold drawOrder
    have z := q [] s.drawn (by rw [List.length_eq_zero_iff.mp h])
    cases s; exact wpAny_pure z
  | n + 1, [], s, Q, h, q => by simp at h
  | n + 1, x :: xs, s, Q, h, q => by
    unfold drawOrder
    refine wpAny_bind (wp_choose (by simp) fun i d hi => ?_)
    rw [List.getElem?_eq_getElem hi]
    dsimp only
    refine wpAny_bind (wp_draw n _ _ _ (by rw [List.length_eraseIdx_of_lt hi]; omega) fun ys d' p => wpAny_pure (q _ d' ?_))
    exact (p.cons _).trans (erase_perm hi)
def tupO (ps : List Nat) : Obj := { cls := .type "tuple", dict := none, data := .seq (ps.map fun (i : Nat) => Value.int i 0).toArray 0, slots := #[] }
theorem pd_some {ps : List Nat} {p : Nat} {v : Int × Value} {Q : Option Value → Shared → Prop} (x : s.heap.get? I = some (siObj S (.ref T) i es.size ep)) (hT : s.heap.get? T = some (tupO ps)) (y : SetE s.heap S L es ep t) (hp : ps[i]? = some p) (hv : es[p]? = some v)
    (q : ∀ h', h'.get? I = some (siObj S (.ref T) (i + 1) es.size ep) → Heap.SameBut I s.heap h' → Q (some v.2) { s with heap := h' }) : wpAny (model prog w) A (pyNext (.ref I)) Q E s := by
  obtain ⟨o, ho, hx, hd⟩ := y.obj
  have z := (si_of x).typeIs
  unfold pyNext
  refine wpAny_bind (wpAny_attempt (wpAny_callSpecial?_slot (name := Str.ofString "__next__") z it_next (wpAny_call_entry it_next z en_next ?_ (ar_next _))))
  unfold Builtin.«set_iterator.__next__»
  refine wpAny_bind (m := slotArgs "__next__" 0 _) (wpAny_pure ?_)
  refine wpAny_bind (wpAny_fieldsOf x rfl ?_)
  refine wpAny_bind (m := setEntries S) (wpAny_setEntries_of ho hd y.fit ?_)
  rw [if_neg (by simp)]
  refine wpAny_bind (m := seqItems? (.ref T)) (wpAny_seqItems hT rfl ?_)
  have e1 : (ps.map fun (i : Nat) => Value.int i 0).toArray[(i : Int).toNat]? = some (.int p 0) := by
    rw [Int.toNat_natCast, List.getElem?_toArray, List.getElem?_map, hp]; rfl
  dsimp only
  rw [e1]
  dsimp only
  refine wpAny_bind (m := setNextDrawn S _ _) ?_
  simp only [Int.toNat_natCast]
  unfold setNextDrawn
  refine wpAny_bind (wpAny_setState_of ho hd y.fit ?_)
  dsimp only
  rw [if_neg (by simp), hv]
  refine wpAny_pure ?_
  refine wpAny_bind (wpAny_setField_rec x (by simp) fun h1 e1 s1 => wpAny_pure ⟨v.2, rfl, wpAny_pure (q h1 ?_ s1)⟩)
  rw [e1]
  simp [siObj, rawInt]
theorem pd_none {ps : List Nat} {Q : Option Value → Shared → Prop} (hh : A.handled = none) (x : s.heap.get? I = some (siObj S (.ref T) i es.size ep)) (hT : s.heap.get? T = some (tupO ps)) (y : SetE s.heap S L es ep t) (hp : ps[i]? = none)
    (q : ∀ h', Heap.ExtBut I s.heap h' → Q none { s with heap := h' }) : wpAny (model prog w) A (pyNext (.ref I)) Q E s := by
  obtain ⟨o, ho, hx, hd⟩ := y.obj
  have z := (si_of x).typeIs
  unfold pyNext
  refine wpAny_bind (wpAny_attempt (wpAny_callSpecial?_slot (name := Str.ofString "__next__") z it_next (wpAny_call_entry it_next z en_next ?_ (ar_next _))))
  unfold Builtin.«set_iterator.__next__»
  refine wpAny_bind (m := slotArgs "__next__" 0 _) (wpAny_pure ?_)
  refine wpAny_bind (wpAny_fieldsOf x rfl ?_)
  refine wpAny_bind (m := setEntries S) (wpAny_setEntries_of ho hd y.fit ?_)
  rw [if_neg (by simp)]
  refine wpAny_bind (m := seqItems? (.ref T)) (wpAny_seqItems hT rfl ?_)
  have e1 : (ps.map fun (i : Nat) => Value.int i 0).toArray[(i : Int).toNat]? = none := by
    rw [Int.toNat_natCast, List.getElem?_toArray, List.getElem?_map, hp]; rfl
  dsimp only
  rw [e1]
  dsimp only
  refine wpAny_bind (wpAny_setField_rec x (by simp) fun h1 e1 s1 => ?_)
  refine wpAny_mono (stop_it (s := { s with heap := h1 }) (R := fun r => match r with | .ok (some v) => pure (some v) | .ok none => unsupported "iter:the-iterator's-class-has-lost-its-__next__-amid-the-walk" | .error e => do if ← isInstance e (.type "StopIteration") then pure none else throw e) hh e1 rfl (by simp) (fun h' eb => q h' fun b o nb e => eb b o nb (by rw [s1.2 b nb]; exact e)) fun v => rfl) (fun _ _ f => f.elim) fun _ _ f => f
/-- .. by drawn places -/
theorem walk_drawn {ps : List Nat} (hh : A.handled = none) (hne : S ≠ I) (hnt : T ≠ I) (hp : ps.Perm (List.range es.size)) :
    Walks prog w A I [I, S, T] [I] es.size (fun i v => (ps.map fun p => (es.getD p (0, .none)).2)[i]? = some v) (fun i h => h.get? I = some (siObj S (.ref T) i es.size ep) ∧ h.get? T = some (tupO ps) ∧ SetE h S L es ep t) where
  sub := fun b hb => by simp at hb; simp [hb]
  frame := fun i h h' st k => ⟨k I (by simp) _ st.1, k T (by simp) _ st.2.1, st.2.2.at fun o e => k S (by simp) o e⟩
  item := fun i s Q E hi st q => by
    obtain ⟨e, eT, y⟩ := st
    have pl : ps.length = es.size := by rw [hp.length_eq, List.length_range]
    have g1 : ps[i]? = some (ps[i]'(by omega)) := List.getElem?_eq_getElem _
    have pm : ps[i]'(by omega) < es.size := List.mem_range.mp (hp.mem_iff.mp (List.getElem_mem _))
    have g2 : es[ps[i]'(by omega)]? = some (es[ps[i]'(by omega)]'pm) := getElem?_pos _ _ _
    refine pd_some e eT y g1 g2 fun h' e' sb => ?_
    refine q _ h' s.toks ?_ ⟨e', by rw [sb.2 T hnt]; exact eT, y.at fun o eo => by rw [sb.2 S hne]; exact eo⟩ fun b o hb eo => by rw [sb.2 b fun z => hb (by simp [z])]; exact eo
    rw [List.getElem?_map, g1]
    simp [Array.getD, pm]
  done := fun s Q E st q => by
    obtain ⟨e, eT, y⟩ := st
    have pl : ps.length = es.size := by rw [hp.length_eq, List.length_range]
    exact pd_none hh e eT y (List.getElem?_eq_none (by omega)) fun h' eb => q h' s.toks fun b o hb eo => eb b o (fun z => hb (by simp [z])) eo
  self := fun i s Q E st q => si_self (si_of st.1) q
theorem get_all (es : Array (Int × Value)) : (List.range es.size).map (fun p => (es.getD p (0, .none)).2) = es.toList.map (·.2) := by
  refine List.ext_getElem (by simp) fun j h1 h2 => ?_
  have hj : j < es.size := by simpa using h2
  simp [Array.getD, hj]
theorem iter_set {Q : Value → Shared → Prop} (x : SetE s.heap S (ledW w) es ep t)
    (q : ∀ (I : Addr) (fp : List Addr) (ord : List Value) (St : Nat → Heap → Prop) (h' : Heap) d, (∀ A' : Around, A'.handled = none → Walks prog w A' I fp [I] es.size (fun i v => ord[i]? = some v) St) → St 0 h' → ord.Perm (es.toList.map (·.2)) →
      (∀ b o, s.heap.get? b = some o → h'.get? b = some o) → s.heap.objs.size ≤ I → I < h'.objs.size → (∀ b ∈ fp, b = S ∨ s.heap.objs.size ≤ b) → Q (.ref I) { s with heap := h', drawn := d }) :
    wpAny (model prog w) A (pyIter (.ref S)) Q E s := by
  obtain ⟨o, ho, hx, hd⟩ := x.obj
  have ls := Heap.lt_size ho
  refine wpAny_pyIter_slot x.typeIs F.slot_set_iter (wpAny_call_entry F.slot_set_iter x.typeIs en_iter ?_ (F.args_set_iter_1 _))
  unfold Builtin.«frozenset.__iter__»
  refine wpAny_bind (m := Builtin.Frozenset.slot0 "__iter__" _) (wpAny_pure ?_)
  refine wpAny_bind (m := Builtin.Frozenset.sizeOf S) (wpAny_bind (wpAny_setEntries_of ho hd x.fit (wpAny_pure ?_)))
  refine wpAny_bind (m := setDrawn S) ?_
  unfold setDrawn setsByText
  refine wpAny_bind (wpAny_setState_of ho hd x.fit (wpAny_bind (wpAny_bind (wpAny_askSetting (wpAny_pure (wpAny_pure ?_))))))
  show wpAny _ _ (if (!w.params.followText "set-order" && (!t.plain && decide (es.size > 1))) = true then _ else _) _ _ _
  have fz : t.place.size = es.size := by
    have z := x.fit
    simp only [SetTable.fits, Bool.and_eq_true, beq_iff_eq] at z
    exact z.1
  by_cases c : (!w.params.followText "set-order" && (!t.plain && decide (es.size > 1))) = true
  · rw [if_pos c]
    refine wpAny_bind (wp_draw _ _ _ _ List.length_range fun ps d pm => wpAny_bind (wpAny_newTuple ?_ (by rw [List.length_map, pm.length_eq, List.length_range]; exact fits_of_scanBound x.small)))
    have k1 : ∀ b o, s.heap.get? b = some o → (s.heap.push (seqObj "tuple" (ps.map fun (i : Nat) => rawInt i).toArray 0)).get? b = some o := fun b o e => Heap.get?_push_of_some _ e
    refine wpAny_bind (wpAny_setEpoch_of (s := { s with heap := _, drawn := d }) (k1 _ _ ho) hd x.fit (wpAny_bind (wpAny_newObj_type (wpAny_pure ⟨_, rfl, "set_iterator", _, ⟨_, Heap.get?_push_size _ rfl, rfl⟩, it_next.lookup, ?_⟩))))
    have sz : (s.heap.push (seqObj "tuple" (ps.map fun (i : Nat) => rawInt i).toArray 0)).objs.size = s.heap.objs.size + 1 := Heap.size_push ..
    rw [sz]
    refine q (s.heap.objs.size + 1) [s.heap.objs.size + 1, S, s.heap.objs.size] (ps.map fun p => (es.getD p (0, .none)).2) _ _ d (fun A' hh => walk_drawn hh (T := s.heap.objs.size) (L := ledW w) (t := t) (ep := ep) (S := S) (I := s.heap.objs.size + 1) (Nat.ne_of_lt (Nat.lt_succ_of_lt ls)) (Nat.ne_of_lt (Nat.lt_succ_self _)) pm) ⟨by rw [← sz]; exact Heap.get?_push_size _ rfl, Heap.get?_push_of_some _ (Heap.get?_push_size _ rfl), (x.at fun o e => k1 _ _ e).at fun o e => Heap.get?_push_of_some _ e⟩ ?_ (fun b o e => Heap.get?_push_of_some _ (k1 b o e)) ?_ ?_ fun b hb => ?_
    · refine (pm.map fun p => (es.getD p (0, .none)).2).trans ?_
      rw [get_all]
    · omega
    · rw [Heap.size_push, sz]; exact Nat.lt_succ_self _
    · rcases List.mem_cons.mp hb with z | z
      · right; rw [z]; omega
      · rcases List.mem_cons.mp z with z | z
        · exact .inl z
        · right; rw [List.mem_singleton.mp z]; exact Nat.le_refl _
  · rw [if_neg c]
    refine wpAny_bind (wpAny_pure (wpAny_bind (wpAny_setEpoch_of ho hd x.fit (wpAny_bind (wpAny_newObj_type (wpAny_pure ⟨_, rfl, "set_iterator", _, ⟨_, Heap.get?_push_size _ rfl, rfl⟩, it_next.lookup, ?_⟩))))))
    have fpk : ∀ b ∈ [s.heap.objs.size, S], b = S ∨ s.heap.objs.size ≤ b := fun b hb => by
      rcases List.mem_cons.mp hb with z | z
      · right; rw [z]; exact Nat.le_refl _
      · exact .inl (List.mem_singleton.mp z)
    have lI : ∀ ob : Obj, s.heap.objs.size < (s.heap.push ob).objs.size := fun ob => by rw [Heap.size_push]; exact Nat.lt_succ_self _
    cases hb : w.params.followText "set-order" with
    | true =>
      exact q s.heap.objs.size [s.heap.objs.size, S] ((pickOrder (w.params.setOrder S ep) es).toList.map (·.2)) _ _ s.drawn (fun A' hh => walk_text hh hb (L := ledW w) (t := t) (Nat.ne_of_lt ls)) ⟨⟨0, Heap.get?_push_size _ rfl⟩, x.at fun o e => Heap.get?_push_of_some _ e⟩ ((pick_perm _ _).map _) (fun b o e => Heap.get?_push_of_some _ e) (Nat.le_refl _) (lI _) fpk
    | false =>
      have lw : ledW w = true := by show (!w.params.followText "set-order") = true; rw [hb]; rfl
      have nd : (!t.plain && decide (es.size > 1)) = false := by
        rw [hb] at c
        simpa using c
      rw [lw] at x
      exact q s.heap.objs.size [s.heap.objs.size, S] (es.toList.map (·.2)) _ _ s.drawn (fun A' hh => walk_slot hh hb nd (Nat.ne_of_lt ls) fz) ⟨Heap.get?_push_size _ rfl, x.at fun o e => Heap.get?_push_of_some _ e⟩ (List.Perm.refl _) (fun b o e => Heap.get?_push_of_some _ e) (Nat.le_refl _) (lI _) fpk
end
end PS
namespace PS
open PySem PySem.Spec PyProof.Rows
section
variable {prog : Program} {w : World} {A : Around} {E : Value → Shared → Prop} {s : Shared} {S : Addr} {es : Array (Int × Value)} {ep : Nat} {t : SetTable}
theorem collect_set {Q : List Value → Shared → Prop} (hh : A.handled = none) (x : SetE s.heap S (ledW w) es ep t)
    (q : ∀ vs s', vs.Perm (es.toList.map (·.2)) → (∀ b o, s.heap.get? b = some o → s'.heap.get? b = some o) → s'.gens = s.gens → s'.os = s.os → s.heap.objs.size < s'.heap.objs.size → Q vs s') : wpAny (model prog w) A (collect (.ref S)) Q E s := by
  obtain ⟨o, ho, hx, hd⟩ := x.obj
  have ls := Heap.lt_size ho
  unfold collect
  refine wpAny_bind (wpAny_runValue (codeAny_builtin F.entry_proto_collect ?_))
  rw [Around.under_plainId F.plain_proto_collect _]
  refine wpAny_bind (m := newList []) (wpAny_newObj_type ?_)
  refine wpAny_pure ⟨plainId_quiet F.plain_list_iadd _, codeAny_builtin F.entry_list_iadd ?_⟩
  rw [Around.under_plainId F.plain_list_iadd _]
  generalize hD : s.heap.objs.size = D
  have hl : ({ cls := .type "list", data := .seq ([] : List Value).toArray } : Obj) = seqObj "list" #[] 0 := rfl
  rw [hl]
  have gD : (s.heap.push (seqObj "list" #[] 0)).get? D = some (seqObj "list" #[] 0) := by rw [← hD]; exact Heap.get?_push_size _ rfl
  have k0 : ∀ b o, s.heap.get? b = some o → (s.heap.push (seqObj "list" #[] 0)).get? b = some o := fun b o e => Heap.get?_push_of_some _ e
  have sz : (s.heap.push (seqObj "list" #[] 0)).objs.size = D + 1 := by rw [← hD]; exact Heap.size_push ..
  have nS : S ≠ D := by rw [← hD]; exact Nat.ne_of_lt ls
  have x1 : SetE (s.heap.push (seqObj "list" #[] 0)) S (ledW w) es ep t := x.at fun o e => k0 _ _ e
  generalize s.heap.push (seqObj "list" #[] 0) = h1 at gD k0 sz x1
  show wpAny _ A.in1 (Builtin.List.listExtendWith (.ref D) (.ref S) (.ref D)) _ _ { s with heap := h1 }
  unfold Builtin.List.listExtendWith
  refine wpAny_bind (wpAny_typeOf (s := { s with heap := h1 }) (SetE.typeIs (s := { s with heap := h1 }) x1) ?_)
  have same : Builtin.List.listSameRef (.ref D) (.ref S) = false := by simp [Builtin.List.listSameRef, Ne.symm nS]
  rw [if_neg (by rw [same]; decide)]
  refine wpAny_bind (iter_set (s := { s with heap := h1 }) x1 fun I fp ord St h2 d W st pm kp lI ltI fpk => ?_)
  have x2 : SetE h2 S (ledW w) es ep t := x1.at fun o e => kp _ _ e
  have t2 : Shared.TypeIs { s with heap := h2, drawn := d } (.ref S) "set" := SetE.typeIs (s := { s with heap := h2, drawn := d }) x2
  refine wpAny_bind (wpAny_holding ?_)
  unfold Builtin.List.listLengthHint
  refine wpAny_bind (wpAny_specialOf t2 F.slot_set_len.lookup ?_)
  (generalize hid : ("set.__len__" : String) = id0; (fail_if_success (clear hid id0)); wp_delta; rw [show splitId id0 = some ("set", "__len__") from by subst hid; decide +kernel]; subst hid)
  refine wpAny_bind (wpAny_isInstance (b := true) t2 sub_set_self ?_)
  refine wpAny_bind (m := typeOf (.ref S)) (wpAny_typeOf t2 (wpAny_pure ?_))
  rw [if_pos (by decide)]
  refine wpAny_bind (wpAny_rule (wpAny_bind ?_))
  have gD2 : h2.get? D = some (seqObj "list" #[] 0) := kp _ _ gD
  show wpAny _ A.in1 (updateSeq D (·.push .none) >>= fun _ => updateSeq D (·.pop)) _ _ _
  refine wpAny_bind (wpAny_updateSeq gD2 rfl ?_)
  have gD3 := Heap.get?_update_self (Obj.mapSeq (·.push Value.none)) gD2 rfl
  refine wpAny_updateSeq gD3 rfl ?_
  have gD4 := Heap.get?_update_self (Obj.mapSeq (·.pop)) gD3 rfl
  have oth : ∀ b o, b ≠ D → h2.get? b = some o → ((h2.update D (Obj.mapSeq (·.push Value.none))).update D (Obj.mapSeq (·.pop))).get? b = some o := fun b o nb e =>
    (Heap.get?_update_other _ _ (Ne.symm nb)).trans ((Heap.get?_update_other _ _ (Ne.symm nb)).trans e)
  have nf : D ∉ fp := fun z => by
    rcases fpk D z with y | y
    · exact nS y.symm
    · have y : h1.objs.size ≤ D := y
      rw [sz] at y; exact Nat.lt_irrefl _ y
  have W1 := W A.in1 hh
  have st2 : St 0 ((h2.update D (Obj.mapSeq (·.push Value.none))).update D (Obj.mapSeq (·.pop))) := W1.frame _ _ _ st fun b hb o e => oth b o (fun z => nf (z ▸ hb)) e
  generalize (h2.update D (Obj.mapSeq (·.push Value.none))).update D (Obj.mapSeq (·.pop)) = h3 at gD4 oth st2
  refine wpAny_pure ⟨plainId_quiet F.plain_extend_loop _, codeAny_extend_loopS W1.toS (fits_of_scanBound x.small) D nf _ es.size 0 _ #[] _ rfl (Nat.zero_le _) st2 gD4 (ItemsOf.nil _) fun s' acc c m gD5 ia => ?_⟩
  refine wpAny_bind (m := load D) (wpAny_load gD5 (wpAny_pure (q acc.toList s' ?_ (fun b o e => m.heap b o (fun z => ?_) (oth b o (fun y => ?_) (kp b o (k0 b o e)))) m.gens m.os (by rw [hD]; exact Heap.lt_size gD5))))
  · refine List.Perm.trans ?_ pm
    rw [show acc.toList = ord from ?_]
    refine List.ext_getElem? fun j => ?_
    have ol : ord.length = es.size := by rw [pm.length_eq]; simp
    rw [Array.getElem?_toList]
    by_cases hj : j < acc.size
    · rw [getElem?_pos acc j hj]
      exact (ia.2 j _ (getElem?_pos acc j hj)).symm
    · rw [getElem?_neg acc j hj, List.getElem?_eq_none (by rw [ol, ← ia.1]; omega)]
  · rcases List.mem_cons.mp z with y | y
    · rw [y, ← hD] at e; exact absurd (Heap.lt_size e) (Nat.lt_irrefl _)
    · have y := List.mem_singleton.mp y
      have lI : h1.objs.size ≤ I := lI
      have := Heap.lt_size e
      rw [y, hD] at this
      rw [sz] at lI
      exact absurd (Nat.lt_of_lt_of_le (Nat.lt_trans this (Nat.lt_succ_self _)) lI) (Nat.lt_irrefl _)
  · rw [y, ← hD] at e; exact absurd (Heap.lt_size e) (Nat.lt_irrefl _)
end
end PS
namespace PS
open PySem PySem.Spec PyProof.Rows
section
variable {prog : Program} {w : World} {A : Around} {E : Value → Shared → Prop} {s : Shared} {S : Addr} {es : Array (Int × Value)} {ep : Nat} {t : SetTable}
theorem ints_of {l : List (Int × Value)} (h : ∀ e ∈ l, ∃ k u, e = (hashInt k, Value.int k u)) : IntsAre (l.map (·.2)) (l.map fun e => ival e.2) := by
  induction l with
  | nil => exact .nil
  | cons e l ih =>
    obtain ⟨k, u, rfl⟩ := h e List.mem_cons_self
    exact .cons k u (ih fun e he => h e (List.mem_cons_of_mem _ he))
theorem ints_perm {vs us : List Value} {ns : List Int} (h : IntsAre us ns) (p : vs.Perm us) : IntsAre vs (vs.map ival) := by
  have al : ∀ v ∈ vs, ∃ k u, v = Value.int k u := fun v hv => by
    obtain ⟨i, hi, e⟩ := List.mem_iff_getElem.mp (p.mem_iff.mp hv)
    obtain ⟨t, e2⟩ := IntsAre.int_at h i v (by rw [List.getElem?_eq_getElem hi, e])
    exact ⟨_, t, e2⟩
  clear p
  induction vs with
  | nil => exact .nil
  | cons v vs ih =>
    obtain ⟨k, u, rfl⟩ := al v List.mem_cons_self
    exact .cons k u (ih fun v hv => al v (List.mem_cons_of_mem _ hv))
theorem sorted_set {Q : Value → Shared → Prop} (hh : A.handled = none) (x : SetE s.heap S (ledW w) es ep t) (hz : es.size < 128)
    (q : ∀ (a : Addr) (out : List Value) (ns : List Int) (s' : Shared), IntsAre out ns → ns.Perm (es.toList.map fun e => ival e.2) → ns.Pairwise (· ≤ ·) → s.heap.objs.size ≤ a → (∃ c, s'.heap.get? a = some (seqObj "list" out.toArray c)) →
      (∀ b o, s.heap.get? b = some o → s'.heap.get? b = some o) → s'.gens = s.gens → s'.os = s.os → Q (.ref a) s') : wpAny (model prog w) A (call (.builtin "sorted") [.ref S]) Q E s := by
  refine Calls.call_function_entry kind_sorted plain_sorted entry_sorted (args_sorted1 _) ?_
  unfold Builtin.«sorted»
  refine wpAny_bind (m := checkCount "sorted" 1 1 _) (wpAny_pure (wpAny_bind (collect_set (A := A.in1) hh x fun vs s1 pm kp hg hos big => ?_)))
  have vl : vs.length = es.size := by rw [pm.length_eq]; simp
  refine wpAny_bind (wpAny_newList ?_ (by rw [sizeLine_eq]; omega))
  have hI : IntsAre vs (vs.map ival) := ints_perm (ints_of x.itg) pm
  have pv : (vs.map ival).Perm (es.toList.map fun e => ival e.2) := by
    have z := pm.map ival
    rwa [List.map_map] at z
  have z2 : (s1.heap.push (seqObj "list" vs.toArray 0)).get? s1.heap.objs.size = some (seqObj "list" vs.toArray 0) := Heap.get?_push_size _ rfl
  have fin : ∀ (out : Array Value) (ns' : List Int), IntsAre out.toList ns' → ns'.Perm (vs.map ival) → ns'.Pairwise (· ≤ ·) → Q (.ref s1.heap.objs.size) { s1 with heap := sortedHeap (s1.heap.push (seqObj "list" vs.toArray 0)) s1.heap.objs.size vs out } := fun out ns' a1 a2 a3 => by
    obtain ⟨c, e⟩ := sortedHeap_at (out := out) z2
    refine q _ out.toList ns' _ a1 (a2.trans pv) a3 (Nat.le_of_lt big) ⟨c, by rw [Array.toArray_toList]; exact e⟩ (fun b o e => ?_) hg hos
    have e1 := kp b o e
    have l1 := Heap.lt_size e1
    rw [sortedHeap_old (Nat.ne_of_lt l1) (by rw [size_push']; exact Nat.lt_succ_of_lt l1)]
    exact Heap.get?_push_of_some _ e1
  refine wpAny_bind (wpAny_holding (wpAny_call_entry slot_list_sort ⟨_, z2, rfl⟩ entry_list_sort ?_ (args_list_sort _)))
  by_cases h64 : vs.length < 64
  · exact list_sort_tree z2 hI h64 fun out ns' a1 a2 a3 => ⟨_, rfl, wpAny_pure ⟨_, rfl, fin out ns' a1 a2 a3⟩⟩
  · exact Tim.w_sort z2 hI (by omega) (by omega) fun out ns' a1 a2 a3 => ⟨_, rfl, wpAny_pure ⟨_, rfl, fin out ns' a1 a2 a3⟩⟩
/-! ### list.remove -/
theorem en_rloop : entryFor table "list.remove.loop" = some Builtin.«list.remove.loop» := entryFor_of_tree (by kernel_rfl)
theorem pl_rloop : plainId "list.remove.loop" = true := by decide +kernel
theorem remove_loop {l : Addr} {vs : List Value} {ns : List Int} {y : Int} {u : Tok} {n : Nat} {R : Result → Shared → Prop} (hl : s.heap.get? l = some (seqObj "list" vs.toArray n)) (hI : IntsAre vs ns) (hz : vs.length ≤ sizeLine)
    (q : ∀ j, j < ns.length → ns[j]? = some y → (∀ m, m < j → ns[m]? ≠ some y) → R (.ok (.ret .none)) { s with heap := s.heap.update l (Obj.mapSeq (·.eraseIdxIfInBounds j)) }) (hy : y ∈ ns) :
    ∀ (k i : Nat), ns.length - i = k → (∀ m, m < i → ns[m]? ≠ some y) → codeAny (model prog w) A (.builtin "list.remove.loop" ⟨[.ref l, .int y u, rawInt i], []⟩) R s := by
  have ll : vs.length = ns.length := hI.length
  intro k
  induction k with
  | zero =>
    intro i h1 h2
    obtain ⟨j, hj, e⟩ := List.mem_iff_getElem.mp hy
    exact absurd (by rw [List.getElem?_eq_getElem hj, e]) (h2 j (by omega))
  | succ k ih =>
    intro i h1 h2
    have hi : i < ns.length := by omega
    refine codeAny_builtin en_rloop ?_
    rw [Around.under_plainId pl_rloop _]
    unfold Builtin.«list.remove.loop»
    refine wpAny_bind (m := Builtin.List.listItems (.ref l)) (listItems_at hl rfl ?_)
    obtain ⟨t, ev⟩ := IntsAre.int_at hI i (vs[i]'(by omega)) (List.getElem?_eq_getElem _)
    have ei : vs.toArray[(i : Int).toNat]? = some (.int ns[i] t) := by
      rw [Int.toNat_natCast, List.getElem?_toArray, List.getElem?_eq_getElem (by omega), ev]
      simp [List.getD, hi]
    rw [ei]
    dsimp only
    refine wpAny_bind (wpAny_eqBool_int ?_)
    by_cases c : ns[i] = y
    · rw [if_pos (by simpa using c)]
      refine wpAny_bind (listUpdate_at hl rfl (wpAny_pure ?_) (by simpa using hz) ?_)
      · have := q i hi (by rw [List.getElem?_eq_getElem hi, c]) h2
        rwa [Int.toNat_natCast]
      · rw [Int.toNat_natCast]
        have : (vs.toArray.eraseIdxIfInBounds i).size ≤ vs.toArray.size := by
          unfold Array.eraseIdxIfInBounds
          split
          · rw [Array.size_eraseIdx]; omega
          · exact Nat.le_refl _
        have e2 : vs.toArray.size = vs.length := by simp
        omega
    · rw [if_neg (by simpa using c)]
      refine wpAny_pure ⟨plainId_quiet pl_rloop _, ih (i + 1) (by omega) fun m hm => ?_⟩
      rcases Nat.lt_or_ge m i with z | z
      · exact h2 m z
      · obtain rfl : m = i := by omega
        rw [List.getElem?_eq_getElem hi]
        intro z; injection z with z; exact c z
end
end PS
namespace L2
open PySem PySem.Spec PyProof.Rows
section
variable {X : Cx} {pins : List (Addr × Obj)} {σ : St} {H : Hp} {s s' : Shared}
theorem Inv.moved (I : Inv X pins σ H s) (ho : s'.os = s.os) (hg : s'.gens = s.gens) (k : ∀ b u, s.heap.get? b = some u → s'.heap.get? b = some u) : Inv X pins σ H s' :=
  I.call' (ch := []) ho (Un.kept k) (I.hok.kept k) (by rw [hg]; exact I.bare) fun b hb => by simp at hb
theorem Inv.laidM {a : Addr} {o : HO} (I : Inv X pins σ H s) (ho : s'.os = s.os) (hg : s'.gens = s.gens) (k : ∀ b u, s.heap.get? b = some u → s'.heap.get? b = some u) (hp : s.heap.objs.size ≤ a) (new : ObjOk X.prog X.w (upd H a o) s'.heap a o) : Inv X pins σ (upd H a o) s' :=
  I.call' (ch := []) ho (Un.laid k hp (I.hok.fresh hp)) (I.hok.laid k hp new) (by rw [hg]; exact I.bare) fun b hb => by simp at hb
theorem ns_mem {ns : List Int} {x : Int} : x ∈ firstMet (fun i => ns.getD i 0) ns.length ↔ x ∈ ns := by
  rw [PS.met_mem]
  constructor
  · rintro ⟨j, hj, rfl⟩
    rw [List.getD_eq_getElem?_getD, List.getElem?_eq_getElem hj]; exact List.getElem_mem hj
  · intro h
    obtain ⟨j, hj, e⟩ := List.mem_iff_getElem.mp h
    exact ⟨j, hj, by rw [List.getD_eq_getElem?_getD, List.getElem?_eq_getElem hj]; exact e⟩
def rSortSet (K : PySem.W.Frag) : List V → Hp → VK → Prop := fun xs H Q => ∃ (p : Addr) (ns : List Int), xs = [.ref p] ∧ SqL K H p (ns.map V.int) ∧ ns.length < 128 ∧
  ∀ q (us : List Int), H q = none → us.Pairwise (· < ·) → (∀ x, x ∈ us ↔ x ∈ ns) → Q (.ref q) (upd H q (.lst (us.map V.int)))
theorem pe_sortset {e : Expr} {t : TA} {p1 p2 pos1 pos2 : Pos} (hc : X.calm = true) (hg : Gl X "sorted") (hm : X.mg "sorted" = none) (hg2 : Gl X "set") (hm2 : X.mg "set" = none) (ha : PA X [e] t)
    (he : starEach [e] X.env = [(false, eval e X.env)] := by rfl) (he2 : starEach [.Call (.Name "set" p2) [e] [] pos2] X.env = [(false, eval (.Call (.Name "set" p2) [e] [] pos2) X.env)] := by rfl) :
    PE X (.Call (.Name "sorted" p1) [.Call (.Name "set" p2) [e] [] pos2] [] pos1) (tCB (rSortSet X.K) t) := by
  intro pins s σ H Q I h
  refine wpAny_Call_Name_kw (ld_blt I hg hm boot_sorted ?_)
  refine PyProof.Rows.callWith_builtin1 ?_ he2 (by rfl)
  rw [he2]
  show wpAny _ _ (spliced ((false, eval (.Call (.Name "set" p2) [e] [] pos2) X.env) :: [])) _ _ s
  refine Calls.spliced_cons ?_
  refine wpAny_Call_Name_kw (ld_blt I hg2 hm2 boot_set ?_)
  refine PyProof.Rows.callWith_type1 (thn (ha pos2 pins s σ H _ I h) fun us s1 ⟨vs, H1, I1, r1, q1⟩ => ?_) he (by rfl)
  obtain ⟨p, ns, rfl, hq, hz, q⟩ := q1
  obtain ⟨u, rfl, rx⟩ := vals1 r1
  cases rx
  obtain ⟨its, rv, pl, _⟩ := I1.list hq
  have hl := rv.length
  rw [List.length_map] at hl
  have hI := intsAre_of rv
  refine PS.call_set (ns := ns) (I.ok.hd hc) pl.isList hI (by rw [List.size_toArray]; unfold scanBound; omega) fun h2 tk si kp => Calls.spliced_nil ?_
  rw [show its.toArray.size = ns.length by simp [hl]] at si
  have I2 : Inv X pins σ H1 { s1 with heap := h2, toks := tk } := I1.kept fun b u z => kp b u (Heap.lt_size z) z
  obtain ⟨es, ep, t, x, pm⟩ := si
  have el : es.size ≤ ns.length := by
    have z := pm.length_eq
    have y := firstMet_length_le (fun i => ns.getD i 0) ns.length
    simp only [List.length_map, Array.length_toList] at z
    omega
  refine PS.sorted_set (s := { s1 with heap := h2, toks := tk }) (I.ok.hd hc) x (by omega) fun a out ms s3 a1 a2 a3 a4 a5 kp3 g3 o3 => ?_
  have I3 : Inv X pins σ H1 s3 := I2.moved o3 g3 kp3
  obtain ⟨c, ea⟩ := a5
  have p3 := a2.trans pm
  have nd : ms.Nodup := p3.nodup_iff.mpr (PS.met_nodup _ _)
  have lm : ms.length < 128 := by rw [a2.length_eq]; simp; omega
  have fa : H1 a = none := I2.hok.fresh a4
  refine ⟨.ref a, upd H1 a (.lst (ms.map V.int)), I2.laidM (s' := s3) (a := a) o3 g3 kp3 a4 ⟨by rw [List.length_map, sizeLine_eq]; omega, out, c, vals_of a1, ea⟩, rfl, q a ms fa ?_ fun y => p3.mem_iff.trans ns_mem⟩
  exact (a3.and nd).imp fun ⟨h1, h2⟩ => by omega
def rLenSet (K : PySem.W.Frag) : List V → Hp → VK → Prop := fun xs H Q => ∃ (p : Addr) (ns : List Int), xs = [.ref p] ∧ SqL K H p (ns.map V.int) ∧ ns.length < 128 ∧ ∀ us : List Int, us.Nodup → (∀ x, x ∈ us ↔ x ∈ ns) → Q (.int us.length) H
def rRemove : V → List V → Hp → VK → Prop := fun x vs H Q => ∃ (l : Addr) (ns : List Int) (y : Int), x = .ref l ∧ vs = [.int y] ∧ H l = some (.lst (ns.map V.int)) ∧ y ∈ ns ∧ Q .non (upd H l (.lst ((ns.erase y).map V.int)))
end
end L2
namespace L2
open PySem PySem.Spec PyProof.Rows
section
variable {X : Cx}
theorem erase_at : ∀ {ns : List Int} {y : Int} {j : Nat}, ns[j]? = some y → (∀ m, m < j → ns[m]? ≠ some y) → ns.erase y = ns.eraseIdx j
  | [], y, j, h, _ => by simp at h
  | x :: r, y, 0, h, _ => by
    have e : x = y := by simpa using h
    subst e
    rw [List.erase_cons_head]; rfl
  | x :: r, y, j + 1, h, h2 => by
    have ne : x ≠ y := fun e => h2 0 (by omega) (by simp [e])
    rw [List.erase_cons_tail (by simpa using ne), List.eraseIdx_cons_succ, erase_at (by simpa using h) fun m hm => by simpa using h2 (m + 1) (by omega)]
theorem map_eraseI (f : Int → V) : ∀ (l : List Int) (j : Nat), (l.map f).eraseIdx j = (l.eraseIdx j).map f
  | [], j => by simp
  | x :: r, 0 => by simp
  | x :: r, j + 1 => by simp [map_eraseI f r j]
theorem mt_remove : MtM X "list.remove" rRemove := by
  intro pins s σ H x vs v us Q I rx rv h
  obtain ⟨l, ns, y, rfl, rfl, hH, hy, q⟩ := h
  cases rx
  obtain ⟨u, rfl, ru⟩ := rv.one
  obtain ⟨t, rfl⟩ := ru
  obtain ⟨z, its, n, r, hl, e⟩ := I.lstM hH
  have hI := intsAre_of r
  refine wpAny_call (codeAny_call_builtin F.slot_list_remove.plain F.entry_list_remove (F.slot_list_remove.check _ _ _ _ _ _ _ _ ⟨_, e, rfl⟩ (F.args_list_remove_2 _ _) ?_))
  unfold Builtin.«list.remove»
  refine wpAny_bind (wpAny_pure ?_)
  refine wpAny_pure ⟨plainId_quiet PS.pl_rloop _, PS.remove_loop e hI (by omega) (fun j hj e1 e2 => ?_) hy _ 0 rfl fun m hm => by omega⟩
  show EP X pins σ Q .none _
  refine ⟨.non, _, I.lset (its' := its.eraseIdx j) (t' := s.toks) hH e (List.eraseIdxIfInBounds_toArray ..) (r.eraseIdx j) ?_, rfl, ?_⟩
  · have := len_erase (ns.map V.int) j
    omega
  · rw [map_eraseI, ← erase_at e1 e2]; exact q
/-! ### sorted of a list of lists -/
def contV (H : Hp) : Value → List Int
  | .ref r => cont H (.ref r)
  | _ => []
theorem vals_refs : ∀ {rs : List Addr} {us : List Value}, Vals (rs.map V.ref) us → us = rs.map Value.ref
  | [], _, .nil => rfl
  | r :: rs, _, .cons e h => by
    rw [vals_refs h, List.map_cons, show _ = Value.ref r from e]
theorem refs_vals : ∀ rs : List Addr, Vals (rs.map V.ref) (rs.map Value.ref)
  | [] => .nil
  | r :: rs => .cons rfl (refs_vals rs)
theorem refs_back {rs : List Addr} : ∀ {vs : List Value}, (∀ v ∈ vs, v ∈ rs.map Value.ref) → ∃ us : List Addr, vs = us.map Value.ref
  | [], _ => ⟨[], rfl⟩
  | v :: vs, h => by
    obtain ⟨r, _, rfl⟩ := List.mem_map.mp (h v List.mem_cons_self)
    obtain ⟨us, e⟩ := refs_back (rs := rs) (vs := vs) fun v hv => h v (List.mem_cons_of_mem _ hv)
    exact ⟨r :: us, by rw [e]; rfl⟩
theorem Lists.sub {H : Hp} {rs us : List Addr} {qss : List (List Int)} (h : Lists H rs qss) (k : ∀ u ∈ us, u ∈ rs) : Lists H us (us.map fun r => cont H (.ref r)) := by
  refine ⟨by simp, fun i r q h1 h2 => ?_⟩
  rw [List.getElem?_map, h1] at h2
  simp only [Option.map_some, Option.some.injEq] at h2
  obtain ⟨qs, _, e⟩ := h.mem (k r (List.mem_of_getElem? h1))
  rw [← h2, cont_of e]; exact e
def rSortedLL (K : PySem.W.Frag) : List V → Hp → VK → Prop := fun xs H Q => ∃ (p : Addr) (rs : List Addr) (qss : List (List Int)), xs = [.ref p] ∧ SqL K H p (rs.map V.ref) ∧ Lists H rs qss ∧ rs.length < 64 ∧
  ∀ (q : Addr) (us : List Addr) (tss : List (List Int)), H q = none → us.Perm rs → Lists H us tss → tss.Perm qss → tss.Pairwise (fun a b => LC.lexLt b a = false) → Q (.ref q) (upd H q (.lst (us.map V.ref)))
theorem call_sortedLL (hu : X.A.units + 65 < cLine) : CallR X (.builtin "sorted") (rSortedLL X.K) := by
  intro pins s σ H xs us Q I r h
  obtain ⟨p, rs, qss, rfl, hq, hL, h64, q⟩ := h
  obtain ⟨u, rfl, rx⟩ := vals1 r
  cases rx
  obtain ⟨its, rv, pl, _⟩ := I.list hq
  have ei := vals_refs rv
  subst ei
  have hc : Srt.Cs s.heap (contV H) (rs.map Value.ref) := fun v hv => by
    obtain ⟨r, hr, rfl⟩ := List.mem_map.mp hv
    obtain ⟨qs, _, e⟩ := hL.mem hr
    obtain ⟨vs, r1, p1, _⟩ := I.list (show SqL X.K H r (qs.map V.int) from SqL.of e)
    exact ⟨r, vs.toArray, rfl, p1.isList, by show LC.Nums _ (cont H (.ref r)); rw [cont_of e]; exact nums_of (intsAre_of r1)⟩
  refine Srt.sortedL pl.isList hc (by rw [List.length_map]; exact h64) (by show X.A.units + 1 + 1 < cLine; omega) fun out a1 a2 => ?_
  obtain ⟨ws, ew⟩ := refs_back (rs := rs) (vs := out.toList) fun v hv => a1.mem_iff.mp hv
  rw [ew] at a1 a2
  have pw : ws.Perm rs := by
    have z := a1.map fun v => match v with | Value.ref r => r | _ => 0
    simpa [List.map_map, Function.comp_def] using z
  obtain ⟨e, he⟩ := sortedAll_at s.heap (rs.map Value.ref) out
  have eo : out = (ws.map Value.ref).toArray := by rw [← ew]
  refine ⟨.ref (s.heap.objs.size + 1), upd H (s.heap.objs.size + 1) (.lst (ws.map V.ref)), I.laid (t' := s.toks) (a := s.heap.objs.size + 1) (fun b u z => sortedAll_old z) (Nat.le_succ _) ⟨by rw [List.length_map, pw.length_eq, sizeLine_eq]; omega, ws.map Value.ref, e, refs_vals ws, by rw [← eo]; exact he⟩, rfl, ?_⟩
  refine q _ ws (ws.map fun r => cont H (.ref r)) (I.hok.fresh (Nat.le_succ _)) pw (hL.sub fun u hu => pw.mem_iff.mp hu) ?_ ?_
  · rw [← hL.conts, List.map_map]
    exact pw.map _
  · rw [List.pairwise_map] at a2 ⊢
    exact a2
/-! ### >= of two lists -/
def rGeL (K : PySem.W.Frag) : R2 := fun x y H Q => ∃ (p q : Addr) (ns ms : List Int), x = .ref p ∧ y = .ref q ∧ SqL K H p (ns.map V.int) ∧ SqL K H q (ms.map V.int) ∧ Q (.bl (!LC.lexLt ns ms)) H
/-! ### == of two lists of lists -/
def rEqLL (K : PySem.W.Frag) : R2 := fun x y H Q => ∃ (p q : Addr) (rs us : List Addr) (qss tss : List (List Int)), x = .ref p ∧ y = .ref q ∧ SqL K H p (rs.map V.ref) ∧ SqL K H q (us.map V.ref) ∧ Lists H rs qss ∧ Lists H us tss ∧ Q (.bl (decide (qss = tss))) H
end
end L2
namespace L2
open PySem PySem.Spec PyProof.Rows
end L2

end
set_option maxHeartbeats 4000000
set_option linter.unusedVariables false
set_option maxRecDepth 100000
set_option linter.unusedSimpArgs false
namespace My
open PySem L2
def top (i : Nat) : Stmt := PySem.Challenge.pw_pilewheel_k11_elders_of_few_coins.main.body.getD i (.Pass ⟨0, 0, 0, 0⟩)
abbrev s_is_setting : Stmt := top 5
theorem sc_is_setting : FnScope ["piles"] ["piles"] (defScope s_is_setting) := ⟨rfl, rfl, rfl, by decide +kernel, rfl, by decide +kernel, by decide +kernel⟩
abbrev s_check_setting : Stmt := top 6
theorem sc_check_setting : FnScope ["piles"] ["piles"] (defScope s_check_setting) := ⟨rfl, rfl, rfl, by decide +kernel, rfl, by decide +kernel, by decide +kernel⟩
abbrev s_elders_of : Stmt := top 8
theorem sc_elders_of : FnScope ["piles"] ["piles"] (defScope s_elders_of) := ⟨rfl, rfl, rfl, by decide +kernel, rfl, by decide +kernel, by decide +kernel⟩
abbrev s_elder_by : Stmt := top 9
theorem sc_elder_by : FnScope ["piles", "new_pile", "others"] ["piles", "new_pile"] (defScope s_elder_by) := ⟨rfl, rfl, rfl, by decide +kernel, rfl, by decide +kernel, by decide +kernel⟩
abbrev s__law_cell : Stmt := top 11
theorem sc__law_cell : FnScope ["script", "k", "base"] ["script", "k"] (defScope s__law_cell) := ⟨rfl, rfl, rfl, by decide +kernel, rfl, by decide +kernel, by decide +kernel⟩
abbrev s__law_ints : Stmt := top 12
theorem sc__law_ints : FnScope ["found", "due", "k"] ["found", "due"] (defScope s__law_ints) := ⟨rfl, rfl, rfl, by decide +kernel, rfl, by decide +kernel, by decide +kernel⟩
abbrev s__law_lists_like : Stmt := top 13
theorem sc__law_lists_like : FnScope ["found", "due", "one", "other"] ["found", "due"] (defScope s__law_lists_like) := ⟨rfl, rfl, rfl, by decide +kernel, rfl, by decide +kernel, by decide +kernel⟩
abbrev s__law_next : Stmt := top 14
theorem sc__law_next : FnScope ["step"] ["step"] (defScope s__law_next) := ⟨rfl, rfl, rfl, by decide +kernel, rfl, by decide +kernel, by decide +kernel⟩
abbrev s__law_fallen : Stmt := top 15
theorem sc__law_fallen : FnScope ["piles"] ["piles"] (defScope s__law_fallen) := ⟨rfl, rfl, rfl, by decide +kernel, rfl, by decide +kernel, by decide +kernel⟩
abbrev s__law_turned : Stmt := top 16
theorem sc__law_turned : FnScope ["piles"] ["piles"] (defScope s__law_turned) := ⟨rfl, rfl, rfl, by decide +kernel, rfl, by decide +kernel, by decide +kernel⟩
abbrev s__law_stair : Stmt := top 17
theorem sc__law_stair : FnScope ["coins", "stair"] ["coins"] (defScope s__law_stair) := ⟨rfl, rfl, rfl, by decide +kernel, rfl, by decide +kernel, by decide +kernel⟩
abbrev s__law_by_marks : Stmt := top 18
theorem sc__law_by_marks : FnScope ["marks", "piles"] ["marks"] (defScope s__law_by_marks) := ⟨rfl, rfl, rfl, by decide +kernel, rfl, by decide +kernel, by decide +kernel⟩
abbrev s__law_drawn_marks : Stmt := top 19
theorem sc__law_drawn_marks : FnScope ["script", "k", "coins", "stair", "ones", "step", "marks", "j"] ["script", "k", "coins"] (defScope s__law_drawn_marks) := ⟨rfl, rfl, rfl, by decide +kernel, rfl, by decide +kernel, by decide +kernel⟩
abbrev s__law_elder : Stmt := top 20
theorem sc__law_elder : FnScope ["piles", "number", "many", "some", "at", "rest"] ["piles", "number"] (defScope s__law_elder) := ⟨rfl, rfl, rfl, by decide +kernel, rfl, by decide +kernel, by decide +kernel⟩
abbrev s__law_drawn_piles : Stmt := top 21
theorem sc__law_drawn_piles : FnScope ["script", "k", "coins", "cap", "step", "piles", "left"] ["script", "k", "coins", "cap"] (defScope s__law_drawn_piles) := ⟨rfl, rfl, rfl, by decide +kernel, rfl, by decide +kernel, by decide +kernel⟩
abbrev s__law_setting : Stmt := top 22
theorem sc__law_setting : FnScope ["script", "k", "coins", "way", "cap", "piles", "step", "turn"] ["script", "k", "coins"] (defScope s__law_setting) := ⟨rfl, rfl, rfl, by decide +kernel, rfl, by decide +kernel, by decide +kernel⟩
abbrev s__law_all : Stmt := top 23
theorem sc__law_all : FnScope ["coins", "most", "found", "pile", "rest"] ["coins", "most"] (defScope s__law_all) := ⟨rfl, rfl, rfl, by decide +kernel, rfl, by decide +kernel, by decide +kernel⟩
abbrev s_law : Stmt := top 24
theorem sc_law : FnScope ["script", "coins", "piles", "due", "handed", "found"] ["script"] (defScope s_law) := ⟨rfl, rfl, rfl, by decide +kernel, rfl, by decide +kernel, by decide +kernel⟩
def cvOf (v0 v1 v2 v3 v4 v5 : Value) : Nat → Value
  | 0 => v0
  | 1 => v1
  | 2 => v2
  | 3 => v3
  | 4 => v4
  | _ => v5
abbrev UM := (Nat → Value) × (Nat → Addr)
structure Txt (K : PySem.W.Frag) (mg : Str → Option Value) (uM : UM) : Prop where
  n_len : mg "len" = none
  n_range : mg "range" = none
  n_list : mg "list" = none
  n_reversed : mg "reversed" = none
  n_sorted : mg "sorted" = none
  n_sum : mg "sum" = none
  n_min : mg "min" = none
  n_int : mg "int" = none
  n_isinstance : mg "isinstance" = none
  n_bool : mg "bool" = none
  n_set : mg "set" = none
  n_zip : mg "zip" = none
  c_MOST_COINS : mg "MOST_COINS" = some (uM.1 0)
  r_MOST_COINS : RelV (.int 100) (uM.1 0)
  kib : PySem.W.kitOne K (.type "int") (.type "bool") = some false
def spNext : Sp := fun vs H Q _ => ∃ n : Int, vs = [.int n] ∧ ∀ v : Int, 0 ≤ v → v < 2147483647 → Q (.int v) H
def spCell (K : PySem.W.Frag) : Sp := fun vs H Q _ => ∃ (a : Addr) (ns : List Int) (k : Int), vs = [.ref a, .int k] ∧ IL K H a ns ∧ ns.length ≤ 63 ∧ 0 ≤ k ∧ k ≤ 1000 ∧ ∀ v : Int, Q (.int v) H
def spFallen (K : PySem.W.Frag) : Sp := fun vs H Q _ => ∃ (a : Addr) (ns : List Int), vs = [.ref a] ∧ IL K H a ns ∧ ns.length < 128 ∧
  ∀ (p : Addr) (H' : Hp) (ms : List Int), H p = none → Same H H' → H' p = some (.lst (ms.map V.int)) → ms.Perm ns → ms.Pairwise (· ≥ ·) → Q (.ref p) H'
def spStair : Sp := fun vs H Q _ => ∃ n : Int, vs = [.int n] ∧ 1 ≤ n ∧ n ≤ 10000 ∧ ∀ k : Int, 1 ≤ k → (k - 1) * k < 2 * n → 2 * n ≤ k * (k + 1) → Q (.int k) H
section
variable {P : Program} {w : World} {K : PySem.W.Frag} {mg : Str → Option Value} {base : Heap} {uM : UM}
theorem d__law_next (D : Dfn K mg "_law_next" s__law_next ["step"]) (T : Txt K mg uM) : OkD P w K mg base 1 "_law_next" ["step"] spNext := by
  have SC := sc__law_next
  refine D.ok SC (fun vs H Q E h => ?_) (fun f cdv A outer s H vs Q E hr h => ?_)
  · obtain ⟨n, rfl, _⟩ := h; rfl
  · obtain ⟨n, rfl, k⟩ := h
    refine ⟨_, (pss_one (ps_ret (pe_op op_mod (pe_op op_add (pe_op op_mul (pv 0) pe_int) pe_int) pe_int))), ?_⟩
    simp only [tSeq, tRet, tRetN, tNext, tOp, tUn, tVar, tC, tAsg, gName, tIfS, tTest, tB, tNot, tNotV, tOr, tAnd, tAndV, tOrV, tChain, tCB, tCall, tCons, tNil, tLst, tDrop, tBM, tBM0, tSl, tNoPart, tPart, gSub, rI, rI0, rU, rIxL, cxOf, cxC, rEq, rNe, rEqL, rNeL, scal, L2.start, tComp, iList, iRng1, iRng2, iEnum, tYes, stC, List.map_cons, List.map_nil, List.cons_append, List.nil_append, List.append_nil, List.length_cons, List.length_nil, List.replicate_succ, List.replicate_zero, List.set_cons_zero, List.set_cons_succ, List.getElem?_cons_zero, List.getElem?_cons_succ, Option.some.injEq, List.cons.injEq, V.int.injEq, V.ref.injEq, V.bl.injEq, exists_eq_left, exists_eq_left', exists_and_left, true_and, and_true, Option.join_some, Option.join_none, Nat.reduceAdd, Nat.reduceSub, Nat.sub_self, Nat.sub_zero, List.length_map, Int.toNat_natCast, rSlL, rCat, rAppend, rReverse, rClear, rCount, rIndex, tTup, rRep, rIn, tDNewT, tDNotIn, sDPut, iZip, rInLL, rIndexLL, rMaxLL, rSortSet, rLenSet, rRemove, rSortedLL, rGeL, rEqLL, iRngD, rExtend, rPop]
    refine ⟨.inr ⟨by decide, by decide⟩, by decide, k _ (Int.emod_nonneg _ (by decide)) (Int.emod_lt_of_pos _ (by decide))⟩
theorem d__law_cell (D : Dfn K mg "_law_cell" s__law_cell ["script", "k"]) (T : Txt K mg uM) : OkD P w K mg base 1 "_law_cell" ["script", "k"] (spCell K) := by
  have SC := sc__law_cell
  refine D.ok SC (fun vs H Q E h => ?_) (fun f cdv A outer s H vs Q E hr h => ?_)
  · obtain ⟨a, ns, n, rfl, _⟩ := h; rfl
  · obtain ⟨a, ns, n, rfl, hS, hl, h0, h1, k⟩ := h
    refine ⟨_, (pss_cons (ps_if (pt_cmpR op_lt (pv 1) (pe_callB call_len_seq rfl T.n_len PySem.boot_len (pa_cons (pv 0) pa_nil)) (nomark _)) (pss_one (ps_ret (pe_ix ix_list (pv 0) (pv 1) (fun _ _ => rfl)))) pss_nil)
      (pss_cons (ps_set (i := 2) SC.nd rfl (Or.inl rfl) pe_int)
      (pss_cons (ps_if (pt_cmpR op_gt (pe_callB call_len_seq rfl T.n_len PySem.boot_len (pa_cons (pv 0) pa_nil)) pe_int (nomark _)) (pss_one (ps_set (i := 2) SC.nd rfl (Or.inl rfl) (pe_ix ix_list (pv 0) pe_int (fun _ _ => rfl)))) pss_nil)
      (pss_one (ps_ret (pe_op op_mod (pe_op op_add (pe_op op_mul (pe_op op_mod (pv 2) pe_int) pe_int) (pe_op op_mul (pv 1) pe_int)) pe_int)))))), ?_⟩
    simp only [tSeq, tRet, tRetN, tNext, tOp, tUn, tVar, tC, tAsg, gName, tIfS, tTest, tB, tNot, tNotV, tOr, tAnd, tAndV, tOrV, tChain, tCB, tCall, tCons, tNil, tLst, tDrop, tBM, tBM0, tSl, tNoPart, tPart, gSub, rI, rI0, rU, rIxL, cxOf, cxC, rEq, rNe, rEqL, rNeL, scal, L2.start, tComp, iList, iRng1, iRng2, iEnum, tYes, stC, List.map_cons, List.map_nil, List.cons_append, List.nil_append, List.append_nil, List.length_cons, List.length_nil, List.replicate_succ, List.replicate_zero, List.set_cons_zero, List.set_cons_succ, List.getElem?_cons_zero, List.getElem?_cons_succ, Option.some.injEq, List.cons.injEq, V.int.injEq, V.ref.injEq, V.bl.injEq, exists_eq_left, exists_eq_left', exists_and_left, true_and, and_true, Option.join_some, Option.join_none, Nat.reduceAdd, Nat.reduceSub, Nat.sub_self, Nat.sub_zero, List.length_map, Int.toNat_natCast, rSlL, rCat, rAppend, rReverse, rClear, rCount, rIndex, tTup, rRep, rIn, tDNewT, tDNotIn, sDPut, iZip, rInLL, rIndexLL, rMaxLL, rSortSet, rLenSet, rRemove, rSortedLL, rGeL, rEqLL, iRngD, rExtend, rPop]
    refine ⟨_, .inl hS, ite2 (fun c => ?_) fun c => ?_⟩
    · have c : n < ((ns.map V.int).length : Int) := of_decide_eq_true c
      rw [List.length_map] at c
      exact ⟨_, hS, _, at_int h0 c, k _⟩
    · have m1 : ∀ x : Int, CMul (x % 65521) 48271 := fun x => .inr ⟨by decide, by decide⟩
      have m2 : CMul n 30103 := .inr ⟨by decide, by decide⟩
      refine ⟨_, .inl hS, ite2 (fun c => ?_) fun c => ?_⟩
      · have c : (0 : Int) < ((ns.map V.int).length : Int) := of_decide_eq_true c
        rw [List.length_map] at c
        exact ⟨_, hS, _, at_int (Int.le_refl 0) c, _, rfl, by decide, m1 _, m2, by decide, k _⟩
      · exact ⟨by decide, m1 _, m2, by decide, k _⟩
theorem d__law_fallen (D : Dfn K mg "_law_fallen" s__law_fallen ["piles"]) (T : Txt K mg uM) : OkD P w K mg base 1 "_law_fallen" ["piles"] (spFallen K) := by
  have SC := sc__law_fallen
  refine D.ok SC (fun vs H Q E h => ?_) (fun f cdv A outer s H vs Q E hr h => ?_)
  · obtain ⟨a, ns, rfl, _⟩ := h; rfl
  · obtain ⟨a, ns, rfl, hS, hl, k⟩ := h
    refine ⟨_, (pss_one (ps_ret (pe_listrev rfl rfl T.n_list rfl T.n_reversed PyProof.Rows.boot_list (pa_cons (pe_callB call_sorted rfl T.n_sorted PyProof.Rows.boot_sorted (pa_cons (pv 0) pa_nil)) pa_nil)))), ?_⟩
    simp only [tSeq, tRet, tRetN, tNext, tOp, tUn, tVar, tC, tAsg, gName, tIfS, tTest, tB, tNot, tNotV, tOr, tAnd, tAndV, tOrV, tChain, tCB, tCall, tCons, tNil, tLst, tDrop, tBM, tBM0, tSl, tNoPart, tPart, gSub, rI, rI0, rU, rIxL, cxOf, cxC, rEq, rNe, rEqL, rNeL, scal, L2.start, tComp, iList, iRng1, iRng2, iEnum, tYes, stC, List.map_cons, List.map_nil, List.cons_append, List.nil_append, List.append_nil, List.length_cons, List.length_nil, List.replicate_succ, List.replicate_zero, List.set_cons_zero, List.set_cons_succ, List.getElem?_cons_zero, List.getElem?_cons_succ, Option.some.injEq, List.cons.injEq, V.int.injEq, V.ref.injEq, V.bl.injEq, exists_eq_left, exists_eq_left', exists_and_left, true_and, and_true, Option.join_some, Option.join_none, Nat.reduceAdd, Nat.reduceSub, Nat.sub_self, Nat.sub_zero, List.length_map, Int.toNat_natCast, rSlL, rCat, rAppend, rReverse, rClear, rCount, rIndex, tTup, rRep, rIn, tDNewT, tDNotIn, sDPut, iZip, rInLL, rIndexLL, rMaxLL, rSortSet, rLenSet, rRemove, rSortedLL, rGeL, rEqLL, iRngD, rExtend, rPop, rSorted, rRev]
    refine ⟨_, hS, hl, fun q ms hq pm so => ⟨_, SqL.of upd_same, fun r hr' => ?_⟩⟩
    have hr0 : H r = none := (Same.put hq).free hr'
    refine k r _ ms.reverse hr0 ((Same.put hq).trans (Same.put hr')) (by rw [upd_same, List.map_reverse]) ((List.reverse_perm _).trans pm) ?_
    rw [List.pairwise_reverse]
    exact so
def wStair (n : Int) (H : Hp) (m : Nat) (σ : St) (H' : Hp) : Prop := H' = H ∧ ∃ j : Int, σ = [some (.int n), some (.int j)] ∧ 1 ≤ j ∧ (j - 1) * j < 2 * n ∧ m = (20000 - j).toNat
theorem d__law_stair (D : Dfn K mg "_law_stair" s__law_stair ["coins"]) (T : Txt K mg uM) : OkD P w K mg base 1 "_law_stair" ["coins"] spStair := by
  have SC := sc__law_stair
  refine D.ok SC (fun vs H Q E h => ?_) (fun f cdv A outer s H vs Q E hr h => ?_)
  · obtain ⟨n, rfl, _⟩ := h; rfl
  · obtain ⟨n, rfl, h0, h1, k⟩ := h
    refine ⟨_, (pss_cons (ps_set (i := 1) SC.nd rfl (Or.inl rfl) pe_int)
      (pss_cons (ps_while PassesOwn.never (pt_cmpR op_lt (pe_op op_mul (pv 1) (pe_op op_add (pv 1) pe_int)) (pe_op op_mul pe_int (pv 0)) (nomark _))
        (pss_one (ps_set (i := 1) SC.nd rfl (Or.inl rfl) (pe_op op_add (pv 1) pe_int))))
      (pss_one (ps_ret (pv 1))))), ?_⟩
    simp only [tSeq, tRet, tRetN, tNext, tOp, tUn, tVar, tC, tAsg, gName, tIfS, tTest, tB, tNot, tNotV, tOr, tAnd, tAndV, tOrV, tChain, tCB, tCall, tCons, tNil, tLst, tDrop, tBM, tBM0, tSl, tNoPart, tPart, gSub, rI, rI0, rU, rIxL, cxOf, cxC, rEq, rNe, rEqL, rNeL, scal, L2.start, tComp, iList, iRng1, iRng2, iEnum, tYes, stC, List.map_cons, List.map_nil, List.cons_append, List.nil_append, List.append_nil, List.length_cons, List.length_nil, List.replicate_succ, List.replicate_zero, List.set_cons_zero, List.set_cons_succ, List.getElem?_cons_zero, List.getElem?_cons_succ, Option.some.injEq, List.cons.injEq, V.int.injEq, V.ref.injEq, V.bl.injEq, exists_eq_left, exists_eq_left', exists_and_left, true_and, and_true, Option.join_some, Option.join_none, Nat.reduceAdd, Nat.reduceSub, Nat.sub_self, Nat.sub_zero, List.length_map, Int.toNat_natCast, rSlL, rCat, rAppend, rReverse, rClear, rCount, rIndex, tTup, rRep, rIn, tDNewT, tDNotIn, sDPut, iZip, rInLL, rIndexLL, rMaxLL, rSortSet, rLenSet, rRemove, rSortedLL, rGeL, rEqLL, iRngD, rExtend, rPop]
    refine ⟨wStair n H, ⟨_, rfl, 1, rfl, by omega, by omega, rfl⟩, ?_⟩
    rintro m σ H' ⟨rfl, j, rfl, j1, j2, rfl⟩
    have jb : j < 20000 := by
      rcases Int.lt_or_le j 20000 with z | z
      · exact z
      · have : 19999 * 20000 ≤ (j - 1) * j := Int.mul_le_mul (by omega) (by omega) (by omega) (by omega)
        omega
    simp only [tSeq, tRet, tRetN, tNext, tOp, tUn, tVar, tC, tAsg, gName, tIfS, tTest, tB, tNot, tNotV, tOr, tAnd, tAndV, tOrV, tChain, tCB, tCall, tCons, tNil, tLst, tDrop, tBM, tBM0, tSl, tNoPart, tPart, gSub, rI, rI0, rU, rIxL, cxOf, cxC, rEq, rNe, rEqL, rNeL, scal, L2.start, tComp, iList, iRng1, iRng2, iEnum, tYes, stC, List.map_cons, List.map_nil, List.cons_append, List.nil_append, List.append_nil, List.length_cons, List.length_nil, List.replicate_succ, List.replicate_zero, List.set_cons_zero, List.set_cons_succ, List.getElem?_cons_zero, List.getElem?_cons_succ, Option.some.injEq, List.cons.injEq, V.int.injEq, V.ref.injEq, V.bl.injEq, exists_eq_left, exists_eq_left', exists_and_left, true_and, and_true, Option.join_some, Option.join_none, Nat.reduceAdd, Nat.reduceSub, Nat.sub_self, Nat.sub_zero, List.length_map, Int.toNat_natCast, rSlL, rCat, rAppend, rReverse, rClear, rCount, rIndex, tTup, rRep, rIn, tDNewT, tDNotIn, sDPut, iZip, rInLL, rIndexLL, rMaxLL, rSortSet, rLenSet, rRemove, rSortedLL, rGeL, rEqLL, iRngD, rExtend, rPop]
    refine ⟨.inl ⟨by omega, by omega⟩, .inl ⟨by decide, by decide⟩, ite2 (fun c => ?_) fun c => ?_⟩
    · have c : j * (j + 1) < 2 * n := of_decide_eq_true c
      exact ⟨fun σ' H1 => ∃ m', m' < (20000 - j).toNat ∧ wStair n H' m' σ' H1, fun _ _ z => z, _, by omega, rfl, j + 1, rfl, by omega, by rw [show j + 1 - 1 = j from by omega]; exact c, rfl⟩
    · have c : ¬ j * (j + 1) < 2 * n := fun z => c (decide_eq_true z)
      exact k j j1 j2 (by omega)
end
def spByMarks (K : PySem.W.Frag) : Sp := fun vs H Q _ => ∃ (a : Addr) (ms : List Int), vs = [.ref a] ∧ IL K H a ms ∧ ms.length ≤ 1000 ∧
  ∀ (p : Addr) (H' : Hp), H p = none → Same H H' → H' p = some (.lst ((byMarks ms).map V.int)) → Q (.ref p) H'
def spDrawnMarks (K : PySem.W.Frag) : Sp := fun vs H Q _ => ∃ (a : Addr) (ns : List Int) (k n : Int), vs = [.ref a, .int k, .int n] ∧ IL K H a ns ∧ ns.length ≤ 63 ∧ 0 ≤ k ∧ k ≤ 1000 ∧ 1 ≤ n ∧ n ≤ 100 ∧
  ∀ (p : Addr) (H' : Hp) (ms : List Int), H p = none → Same H H' → H' p = some (.lst (ms.map V.int)) → Marks n ms → Q (.ref p) H'
section
variable {P : Program} {w : World} {K : PySem.W.Frag} {mg : Str → Option Value} {base : Heap} {uM : UM}
theorem d__law_by_marks (D : Dfn K mg "_law_by_marks" s__law_by_marks ["marks"]) (T : Txt K mg uM) : OkD P w K mg base 1 "_law_by_marks" ["marks"] (spByMarks K) := by
  have SC := sc__law_by_marks
  refine D.ok SC (fun vs H Q E h => ?_) (fun f cdv A outer s H vs Q E hr h => ?_)
  · obtain ⟨a, ns, rfl, _⟩ := h; rfl
  · obtain ⟨a, ms, rfl, hS, hl, k⟩ := h
    refine ⟨_, (pss_cons (ps_setC (i := 1) (own := ["k"]) (fr := ["marks"]) (ixs := [0]) rfl ⟨rfl, rfl, rfl, rfl, rfl, rfl, rfl⟩ ⟨fun _ _ _ _ => pg_name (i := 0) (by decide +kernel : (["k", "marks"] : List Str).Nodup) rfl (Or.inl rfl) (.inr rfl), fun _ _ _ _ => pts_nil, fun _ _ _ _ => (pe_op op_add (pe_op op_sub (pe_op op_sub (pe_callB (call_lenK (K := K) rfl) rfl T.n_len PySem.boot_len (pa_cons (pv 1) pa_nil)) pe_int) (pv 0)) (pe_ix (ix_listK (K := K) rfl) (pv 1) (pv 0) (fun _ _ => rfl)))⟩ (pi_range1 rfl T.n_range (pa_cons (pe_callB call_len_seq rfl T.n_len PySem.boot_len (pa_cons (pv 0) pa_nil)) pa_nil)) SC.nd rfl rfl)
      (pss_one (ps_ret (pe_comp (own := ["pile"]) (fr := []) (ixs := []) rfl ⟨rfl, rfl, rfl, rfl, rfl, rfl, rfl⟩ ⟨fun _ _ _ _ => pg_name (i := 0) (by decide +kernel : (["pile"] : List Str).Nodup) rfl (Or.inl rfl) (.inr rfl), fun _ _ _ _ => pts_one (pt_cmpR op_gt (pv 0) pe_int (nomark _)), fun _ _ _ _ => (pv 0)⟩ (pi_list (pv 1)))))), ?_⟩
    simp only [tSeq, tRet, tRetN, tNext, tOp, tUn, tVar, tC, tAsg, gName, tIfS, tTest, tB, tNot, tNotV, tOr, tAnd, tAndV, tOrV, tChain, tCB, tCall, tCons, tNil, tLst, tDrop, tBM, tBM0, tSl, tNoPart, tPart, gSub, rI, rI0, rU, rIxL, cxOf, cxC, rEq, rNe, rEqL, rNeL, scal, L2.start, tComp, iList, iRng1, iRng2, iEnum, tYes, stC, List.map_cons, List.map_nil, List.cons_append, List.nil_append, List.append_nil, List.length_cons, List.length_nil, List.replicate_succ, List.replicate_zero, List.set_cons_zero, List.set_cons_succ, List.getElem?_cons_zero, List.getElem?_cons_succ, Option.some.injEq, List.cons.injEq, V.int.injEq, V.ref.injEq, V.bl.injEq, exists_eq_left, exists_eq_left', exists_and_left, true_and, and_true, Option.join_some, Option.join_none, Nat.reduceAdd, Nat.reduceSub, Nat.sub_self, Nat.sub_zero, List.length_map, Int.toNat_natCast, rSlL, rCat, rAppend, rReverse, rClear, rCount, rIndex, tTup, rRep, rIn, tDNewT, tDNotIn, sDPut, iZip, rInLL, rIndexLL, rMaxLL, rSortSet, rLenSet, rRemove, rSortedLL, rGeL, rEqLL, iRngD, rExtend, rPop]
    refine ⟨_, .inl hS, ?_, ?_, fun D1 hD1 => ?_⟩
    · omega
    · rw [List.length_map]; omega
    · rw [List.length_map]
      refine comp_rangeI (lo := 0) ms.length (fun _ => true) (fun i => (ms.length : Int) - 1 - i + ms.getD i.toNat 0) [some (.ref a)] (small1000 hl) hD1 (fun i _ _ H' Q' _ q => q) (fun i i1 i2 _ H' Q' sm q => ?_) ?_
      · simp only [tSeq, tRet, tRetN, tNext, tOp, tUn, tVar, tC, tAsg, gName, tIfS, tTest, tB, tNot, tNotV, tOr, tAnd, tAndV, tOrV, tChain, tCB, tCall, tCons, tNil, tLst, tDrop, tBM, tBM0, tSl, tNoPart, tPart, gSub, rI, rI0, rU, rIxL, cxOf, cxC, rEq, rNe, rEqL, rNeL, scal, L2.start, tComp, iList, iRng1, iRng2, iEnum, tYes, stC, List.map_cons, List.map_nil, List.cons_append, List.nil_append, List.append_nil, List.length_cons, List.length_nil, List.replicate_succ, List.replicate_zero, List.set_cons_zero, List.set_cons_succ, List.getElem?_cons_zero, List.getElem?_cons_succ, Option.some.injEq, List.cons.injEq, V.int.injEq, V.ref.injEq, V.bl.injEq, exists_eq_left, exists_eq_left', exists_and_left, true_and, and_true, Option.join_some, Option.join_none, Nat.reduceAdd, Nat.reduceSub, Nat.sub_self, Nat.sub_zero, List.length_map, Int.toNat_natCast, rSlL, rCat, rAppend, rReverse, rClear, rCount, rIndex, tTup, rRep, rIn, tDNewT, tDNotIn, sDPut, iZip, rInLL, rIndexLL, rMaxLL, rSortSet, rLenSet, rRemove, rSortedLL, rGeL, rEqLL, iRngD, rExtend, rPop]
        refine ⟨_, .inl (sm.seq hS), _, sm.seq hS, _, at_int i1 (by omega), _, rfl, ?_⟩
        rw [List.length_map]; exact q
      · refine ⟨D1, rfl, ⟨_, SqL.of upd_same⟩, fun D2 hD2 => ?_⟩
        refine comp_listI (K := K) (((((List.range ms.length).map fun (i : Nat) => (0 : Int) + (i : Int)).filter fun _ => true).map fun i => (ms.length : Int) - 1 - i + ms.getD i.toNat 0)) (fun x => decide (0 < x)) id [] (by rw [range_all, List.length_map, List.length_range]; exact small1000 hl) (SqL.of upd_same) hD2 (fun x _ H' Q' _ q => ?_) (fun x _ _ H' Q' _ q => ?_) ?_
        · simp only [tSeq, tRet, tRetN, tNext, tOp, tUn, tVar, tC, tAsg, gName, tIfS, tTest, tB, tNot, tNotV, tOr, tAnd, tAndV, tOrV, tChain, tCB, tCall, tCons, tNil, tLst, tDrop, tBM, tBM0, tSl, tNoPart, tPart, gSub, rI, rI0, rU, rIxL, cxOf, cxC, rEq, rNe, rEqL, rNeL, scal, L2.start, tComp, iList, iRng1, iRng2, iEnum, tYes, stC, List.map_cons, List.map_nil, List.cons_append, List.nil_append, List.append_nil, List.length_cons, List.length_nil, List.replicate_succ, List.replicate_zero, List.set_cons_zero, List.set_cons_succ, List.getElem?_cons_zero, List.getElem?_cons_succ, Option.some.injEq, List.cons.injEq, V.int.injEq, V.ref.injEq, V.bl.injEq, exists_eq_left, exists_eq_left', exists_and_left, true_and, and_true, Option.join_some, Option.join_none, Nat.reduceAdd, Nat.reduceSub, Nat.sub_self, Nat.sub_zero, List.length_map, Int.toNat_natCast, rSlL, rCat, rAppend, rReverse, rClear, rCount, rIndex, tTup, rRep, rIn, tDNewT, tDNotIn, sDPut, iZip, rInLL, rIndexLL, rMaxLL, rSortSet, rLenSet, rRemove, rSortedLL, rGeL, rEqLL, iRngD, rExtend, rPop]; exact q
        · simp only [tSeq, tRet, tRetN, tNext, tOp, tUn, tVar, tC, tAsg, gName, tIfS, tTest, tB, tNot, tNotV, tOr, tAnd, tAndV, tOrV, tChain, tCB, tCall, tCons, tNil, tLst, tDrop, tBM, tBM0, tSl, tNoPart, tPart, gSub, rI, rI0, rU, rIxL, cxOf, cxC, rEq, rNe, rEqL, rNeL, scal, L2.start, tComp, iList, iRng1, iRng2, iEnum, tYes, stC, List.map_cons, List.map_nil, List.cons_append, List.nil_append, List.append_nil, List.length_cons, List.length_nil, List.replicate_succ, List.replicate_zero, List.set_cons_zero, List.set_cons_succ, List.getElem?_cons_zero, List.getElem?_cons_succ, Option.some.injEq, List.cons.injEq, V.int.injEq, V.ref.injEq, V.bl.injEq, exists_eq_left, exists_eq_left', exists_and_left, true_and, and_true, Option.join_some, Option.join_none, Nat.reduceAdd, Nat.reduceSub, Nat.sub_self, Nat.sub_zero, List.length_map, Int.toNat_natCast, rSlL, rCat, rAppend, rReverse, rClear, rCount, rIndex, tTup, rRep, rIn, tDNewT, tDNotIn, sDPut, iZip, rInLL, rIndexLL, rMaxLL, rSortSet, rLenSet, rRemove, rSortedLL, rGeL, rEqLL, iRngD, rExtend, rPop]; exact q
        · refine k D2 _ ((Same.put hD1).free hD2) ((Same.put hD1).trans (Same.put hD2)) ?_
          rw [upd_same, range_all, List.map_id]
          rfl
def wMarks (a : Addr) (kk n st ones : Int) (p : Addr) (H : Hp) (i : Nat) (σ : St) (H' : Hp) : Prop := ∃ (step : Int) (j : Option V) (ms : List Int), σ = [some (.ref a), some (.int kk), some (.int n), some (.int st), some (.int ones), some (.int step), some (.ref p), j] ∧
  Same H H' ∧ H' p = some (.lst (ms.map V.int)) ∧ ms.length = i ∧ (∀ m ∈ ms, m = 0 ∨ m = 1) ∧ ms.sum = min (i : Int) ones ∧ 0 ≤ step
theorem ins_len {α : Type} (l : List α) (i : Nat) (x : α) : (l.take i ++ x :: l.drop i).length = l.length + 1 := by
  rw [List.length_append, List.length_cons, List.length_take, List.length_drop]; omega
theorem ins_perm {α : Type} (l : List α) (i : Nat) (x : α) : (l.take i ++ x :: l.drop i).Perm (x :: l) := by
  have z : (l.take i ++ x :: l.drop i).Perm (x :: (l.take i ++ l.drop i)) := List.perm_middle
  rwa [List.take_append_drop] at z
theorem d__law_drawn_marks (D : Dfn K mg "_law_drawn_marks" s__law_drawn_marks ["script", "k", "coins"]) (T : Txt K mg uM) (D__law_stair : OkD P w K mg base 1 "_law_stair" ["coins"] spStair) (D__law_next : OkD P w K mg base 1 "_law_next" ["step"] spNext)
    (D__law_cell : OkD P w K mg base 1 "_law_cell" ["script", "k"] (spCell K)) : OkD P w K mg base 2 "_law_drawn_marks" ["script", "k", "coins"] (spDrawnMarks K) := by
  have SC := sc__law_drawn_marks
  refine D.ok SC (fun vs H Q E h => ?_) (fun f cdv A outer s H vs Q E hr h => ?_)
  · obtain ⟨a, ns, kk, n, rfl, _⟩ := h; rfl
  · obtain ⟨a, ns, kk, n, rfl, hS, hl, k0, k1, n0, n1, k⟩ := h
    refine ⟨_, (pss_cons (ps_set (i := 3) SC.nd rfl (Or.inl rfl) (pe_callD D__law_stair (hr.mono (by first | decide | omega)) rfl (pa_cons (pv 2) pa_nil)))
      (pss_cons (ps_set (i := 4) SC.nd rfl (Or.inl rfl) (pe_op op_sub (pv 2) (pe_op op_fdiv (pe_op op_mul (pv 3) (pe_op op_sub (pv 3) pe_int)) pe_int)))
      (pss_cons (ps_set (i := 5) SC.nd rfl (Or.inl rfl) (pe_callD D__law_next (hr.mono (by first | decide | omega)) rfl (pa_cons (pe_op op_add (pe_op op_mod (pe_op op_mul (pe_callD D__law_cell (hr.mono (by first | decide | omega)) rfl (pa_cons (pv 0) (pa_cons (pv 1) pa_nil))) pe_int) pe_int) pe_int) pa_nil)))
      (pss_cons (ps_set (i := 6) SC.nd rfl (Or.inl rfl) (pe_lst pa_nil))
      (pss_cons (ps_for PassesOwn.never rfl (pi_range1 rfl T.n_range (pa_cons (pv 3) pa_nil)) (pg_name (i := 7) SC.nd rfl (Or.inl rfl))
        (pss_cons (ps_set (i := 5) SC.nd rfl (Or.inl rfl) (pe_callD D__law_next (hr.mono (by first | decide | omega)) rfl (pa_cons (pv 5) pa_nil)))
        (pss_one (ps_expr (pe_bm PySem.F.plainAttrs_list PySem.F.slot_list_insert PySem.F.type_list_insert mt_insert (pv 6) (pa_cons (pe_op op_mod (pe_op op_fdiv (pv 5) pe_int) (pe_op op_add (pv 7) pe_int)) (pa_cons (pe_callTy call_int1 rfl T.n_int PyProof.Rows.boot_int (pa_cons (pe_cmpR op_lt (pv 7) (pv 4) (nomark _)) pa_nil)) pa_nil)))))))
      (pss_one (ps_ret (pv 6)))))))), ?_⟩
    simp only [tSeq, tRet, tRetN, tNext, tOp, tUn, tVar, tC, tAsg, gName, tIfS, tTest, tB, tNot, tNotV, tOr, tAnd, tAndV, tOrV, tChain, tCB, tCall, tCons, tNil, tLst, tDrop, tBM, tBM0, tSl, tNoPart, tPart, gSub, rI, rI0, rU, rIxL, cxOf, cxC, rEq, rNe, rEqL, rNeL, scal, L2.start, tComp, iList, iRng1, iRng2, iEnum, tYes, stC, List.map_cons, List.map_nil, List.cons_append, List.nil_append, List.append_nil, List.length_cons, List.length_nil, List.replicate_succ, List.replicate_zero, List.set_cons_zero, List.set_cons_succ, List.getElem?_cons_zero, List.getElem?_cons_succ, Option.some.injEq, List.cons.injEq, V.int.injEq, V.ref.injEq, V.bl.injEq, exists_eq_left, exists_eq_left', exists_and_left, true_and, and_true, Option.join_some, Option.join_none, Nat.reduceAdd, Nat.reduceSub, Nat.sub_self, Nat.sub_zero, List.length_map, Int.toNat_natCast, rSlL, rCat, rAppend, rReverse, rClear, rCount, rIndex, tTup, rRep, rIn, tDNewT, tDNotIn, sDPut, iZip, rInLL, rIndexLL, rMaxLL, rSortSet, rLenSet, rRemove, rSortedLL, rGeL, rEqLL, iRngD, rExtend, rPop]
    refine ⟨n, rfl, n0, by omega, fun st s1 s2 s3 => ?_⟩
    have sb : st ≤ 15 := by
      rcases Int.lt_or_le 15 st with z | z
      · have : 15 * 16 ≤ (st - 1) * st := Int.mul_le_mul (by omega) (by omega) (by omega) (by omega)
        omega
      · exact z
    simp only [tSeq, tRet, tRetN, tNext, tOp, tUn, tVar, tC, tAsg, gName, tIfS, tTest, tB, tNot, tNotV, tOr, tAnd, tAndV, tOrV, tChain, tCB, tCall, tCons, tNil, tLst, tDrop, tBM, tBM0, tSl, tNoPart, tPart, gSub, rI, rI0, rU, rIxL, cxOf, cxC, rEq, rNe, rEqL, rNeL, scal, L2.start, tComp, iList, iRng1, iRng2, iEnum, tYes, stC, List.map_cons, List.map_nil, List.cons_append, List.nil_append, List.append_nil, List.length_cons, List.length_nil, List.replicate_succ, List.replicate_zero, List.set_cons_zero, List.set_cons_succ, List.getElem?_cons_zero, List.getElem?_cons_succ, Option.some.injEq, List.cons.injEq, V.int.injEq, V.ref.injEq, V.bl.injEq, exists_eq_left, exists_eq_left', exists_and_left, true_and, and_true, Option.join_some, Option.join_none, Nat.reduceAdd, Nat.reduceSub, Nat.sub_self, Nat.sub_zero, List.length_map, Int.toNat_natCast, rSlL, rCat, rAppend, rReverse, rClear, rCount, rIndex, tTup, rRep, rIn, tDNewT, tDNotIn, sDPut, iZip, rInLL, rIndexLL, rMaxLL, rSortSet, rLenSet, rRemove, rSortedLL, rGeL, rEqLL, iRngD, rExtend, rPop]
    refine ⟨.inl ⟨by omega, by omega⟩, ⟨by decide, by decide⟩, a, ns, kk, rfl, hS, hl, k0, k1, fun v => ?_⟩
    simp only [tSeq, tRet, tRetN, tNext, tOp, tUn, tVar, tC, tAsg, gName, tIfS, tTest, tB, tNot, tNotV, tOr, tAnd, tAndV, tOrV, tChain, tCB, tCall, tCons, tNil, tLst, tDrop, tBM, tBM0, tSl, tNoPart, tPart, gSub, rI, rI0, rU, rIxL, cxOf, cxC, rEq, rNe, rEqL, rNeL, scal, L2.start, tComp, iList, iRng1, iRng2, iEnum, tYes, stC, List.map_cons, List.map_nil, List.cons_append, List.nil_append, List.append_nil, List.length_cons, List.length_nil, List.replicate_succ, List.replicate_zero, List.set_cons_zero, List.set_cons_succ, List.getElem?_cons_zero, List.getElem?_cons_succ, Option.some.injEq, List.cons.injEq, V.int.injEq, V.ref.injEq, V.bl.injEq, exists_eq_left, exists_eq_left', exists_and_left, true_and, and_true, Option.join_some, Option.join_none, Nat.reduceAdd, Nat.reduceSub, Nat.sub_self, Nat.sub_zero, List.length_map, Int.toNat_natCast, rSlL, rCat, rAppend, rReverse, rClear, rCount, rIndex, tTup, rRep, rIn, tDNewT, tDNotIn, sDPut, iZip, rInLL, rIndexLL, rMaxLL, rSortSet, rLenSet, rRemove, rSortedLL, rGeL, rEqLL, iRngD, rExtend, rPop]
    refine ⟨.inr ⟨by decide, by decide⟩, by decide, _, rfl, fun v0 v1 v2 => ?_⟩
    refine ⟨by decide, fun p hp => ?_⟩
    have n15 : st.toNat ≤ 15 := by omega
    have xx : st * (st + 1) = st * (st - 1) + 2 * st := by rw [Int.mul_add, Int.mul_sub]; omega
    have x0 : 0 ≤ st * (st - 1) := Int.mul_nonneg (by omega) (by omega)
    have xy : (st - 1) * st = st * (st - 1) := Int.mul_comm _ _
    refine ⟨_, rfl, _, rfl, by omega, by omega, for_range (lo := 0) (n := st.toNat) (wMarks a kk n st (n - st * (st - 1) / 2) p H) ?_ ?_ ?_⟩
    · refine ⟨v0, none, [], rfl, Same.put hp, upd_same, rfl, fun m hm => by simp at hm, ?_, v1⟩
      show (0 : Int) = min ((0 : Nat) : Int) _
      omega
    · rintro i σ H' hi ⟨step, j, ms, rfl, sm, hm, hlen, hbit, hsum, hst⟩
      simp only [tSeq, tRet, tRetN, tNext, tOp, tUn, tVar, tC, tAsg, gName, tIfS, tTest, tB, tNot, tNotV, tOr, tAnd, tAndV, tOrV, tChain, tCB, tCall, tCons, tNil, tLst, tDrop, tBM, tBM0, tSl, tNoPart, tPart, gSub, rI, rI0, rU, rIxL, cxOf, cxC, rEq, rNe, rEqL, rNeL, scal, L2.start, tComp, iList, iRng1, iRng2, iEnum, tYes, stC, List.map_cons, List.map_nil, List.cons_append, List.nil_append, List.append_nil, List.length_cons, List.length_nil, List.replicate_succ, List.replicate_zero, List.set_cons_zero, List.set_cons_succ, List.getElem?_cons_zero, List.getElem?_cons_succ, Option.some.injEq, List.cons.injEq, V.int.injEq, V.ref.injEq, V.bl.injEq, exists_eq_left, exists_eq_left', exists_and_left, true_and, and_true, Option.join_some, Option.join_none, Nat.reduceAdd, Nat.reduceSub, Nat.sub_self, Nat.sub_zero, List.length_map, Int.toNat_natCast, rSlL, rCat, rAppend, rReverse, rClear, rCount, rIndex, tTup, rRep, rIn, tDNewT, tDNotIn, sDPut, iZip, rInLL, rIndexLL, rMaxLL, rSortSet, rLenSet, rRemove, rSortedLL, rGeL, rEqLL, iRngD, rExtend, rPop, spNext]
      intro v v1 v2
      refine ⟨.inl ⟨rfl, _, SqL.of hm⟩, ⟨by decide, by decide⟩, by omega, .inr ?_⟩
      generalize n - st * (st - 1) / 2 = ones at hsum ⊢
      have q0 := Int.emod_nonneg (v / 64) (show (0 + (i : Int) + 1) ≠ 0 by omega)
      have q1 := Int.emod_lt_of_pos (v / 64) (show 0 < (0 + (i : Int) + 1) by omega)
      refine ⟨p, _, _, _, rfl, rfl, hm, q0, by omega, by rw [List.length_map, hlen, sizeLine_eq]; omega, ?_⟩
      generalize (v / 64 % (0 + (i : Int) + 1)).toNat = at'
      have pm := ins_perm ms at' (if decide (0 + (i : Int) < ones) = true then (1 : Int) else 0)
      refine ⟨v, some (.int (0 + i)), ms.take at' ++ (if decide (0 + (i : Int) < ones) = true then (1 : Int) else 0) :: ms.drop at', rfl, fun b o e => ?_, ?_, ?_, fun m hm' => ?_, ?_, v1⟩
      · rw [upd_ne (ne_of_none e hp)]; exact sm b o e
      · rw [upd_same, List.map_append, List.map_cons, List.map_take, List.map_drop]
      · rw [ins_len, hlen]
      · rcases List.mem_cons.mp (pm.mem_iff.mp hm') with z | z
        · rw [z]; split <;> simp
        · exact hbit m z
      · rw [sum_perm pm, List.sum_cons, hsum]
        by_cases c : 0 + (i : Int) < ones
        · rw [if_pos (decide_eq_true c)]; omega
        · rw [if_neg (by simpa using c)]; omega
    · rintro σ H' ⟨step, j, ms, rfl, sm, hm, hlen, hbit, hsum, hst⟩
      simp only [tSeq, tRet, tRetN, tNext, tOp, tUn, tVar, tC, tAsg, gName, tIfS, tTest, tB, tNot, tNotV, tOr, tAnd, tAndV, tOrV, tChain, tCB, tCall, tCons, tNil, tLst, tDrop, tBM, tBM0, tSl, tNoPart, tPart, gSub, rI, rI0, rU, rIxL, cxOf, cxC, rEq, rNe, rEqL, rNeL, scal, L2.start, tComp, iList, iRng1, iRng2, iEnum, tYes, stC, List.map_cons, List.map_nil, List.cons_append, List.nil_append, List.append_nil, List.length_cons, List.length_nil, List.replicate_succ, List.replicate_zero, List.set_cons_zero, List.set_cons_succ, List.getElem?_cons_zero, List.getElem?_cons_succ, Option.some.injEq, List.cons.injEq, V.int.injEq, V.ref.injEq, V.bl.injEq, exists_eq_left, exists_eq_left', exists_and_left, true_and, and_true, Option.join_some, Option.join_none, Nat.reduceAdd, Nat.reduceSub, Nat.sub_self, Nat.sub_zero, List.length_map, Int.toNat_natCast, rSlL, rCat, rAppend, rReverse, rClear, rCount, rIndex, tTup, rRep, rIn, tDNewT, tDNotIn, sDPut, iZip, rInLL, rIndexLL, rMaxLL, rSortSet, rLenSet, rRemove, rSortedLL, rGeL, rEqLL, iRngD, rExtend, rPop]
      have el : (ms.length : Int) = st := by omega
      refine k p H' ms hp sm hm ⟨by omega, by rw [el]; exact s2, by rw [el]; exact s3, hbit, ?_⟩
      rw [hsum, el]
      omega
end
def spElder (K : PySem.W.Frag) : Sp := fun vs H Q _ => ∃ (a : Addr) (ps : List Int) (num n : Int), vs = [.ref a, .int num] ∧ H a = some (.lst (ps.map V.int)) ∧ Setting n ps ∧ 1 ≤ n ∧ n ≤ 100 ∧
  ∀ (p : Addr) (H' : Hp) (qs : List Int), Same H H' → H' p = some (.lst (qs.map V.int)) → Setting n qs → Q (.ref p) H'
section
variable {P : Program} {w : World} {K : PySem.W.Frag} {mg : Str → Option Value} {base : Heap} {uM : UM}
theorem d__law_elder (D : Dfn K mg "_law_elder" s__law_elder ["piles", "number"]) (T : Txt K mg uM) : OkD P w K mg base 1 "_law_elder" ["piles", "number"] (spElder K) := by
  have SC := sc__law_elder
  refine D.ok SC (fun vs H Q E h => ?_) (fun f cdv A outer s H vs Q E hr h => ?_)
  · obtain ⟨a, ps, num, n, rfl, _⟩ := h; rfl
  · obtain ⟨a, ps, num, n, rfl, ha, hs, n0, n1, k⟩ := h
    have hS : IL K H a ps := SqL.of ha
    have pl := hs.len
    have pn := hs.ne n0
    refine ⟨_, (pss_cons (ps_set (i := 2) SC.nd rfl (Or.inr rfl) (pe_callB call_len_seq rfl T.n_len PySem.boot_len (pa_cons (pv 0) pa_nil)))
      (pss_cons (ps_setC (i := 3) (own := ["at"]) (fr := ["piles", "many"]) (ixs := [0, 2]) rfl ⟨rfl, rfl, rfl, rfl, rfl, rfl, rfl⟩ ⟨fun _ _ _ _ => pg_name (i := 0) (by decide +kernel : (["at", "piles", "many"] : List Str).Nodup) rfl (Or.inl rfl) (.inr rfl), fun _ _ _ _ => pts_one (pt_cmpR op_ge (pe_ix (ix_listK (K := K) rfl) (pv 1) (pv 0) (fun _ _ => rfl)) (pe_op op_sub (pv 2) pe_int) (nomark _)), fun _ _ _ _ => (pv 0)⟩ (pi_range1 rfl T.n_range (pa_cons (pv 2) pa_nil)) SC.nd rfl rfl)
      (pss_cons (ps_if (pt_cmpR op_eq (pe_callB call_len_seq rfl T.n_len PySem.boot_len (pa_cons (pv 3) pa_nil)) pe_int (nomark _)) (pss_one (ps_ret (pv 0))) pss_nil)
      (pss_cons (ps_set (i := 4) SC.nd rfl (Or.inl rfl) (pe_ix ix_list (pv 3) (pe_op op_mod (pv 1) (pe_callB call_len_seq rfl T.n_len PySem.boot_len (pa_cons (pv 3) pa_nil))) (fun _ _ => rfl)))
      (pss_cons (ps_setC (i := 5) (own := ["pile"]) (fr := []) (ixs := []) rfl ⟨rfl, rfl, rfl, rfl, rfl, rfl, rfl⟩ ⟨fun _ _ _ _ => pg_name (i := 0) (by decide +kernel : (["pile"] : List Str).Nodup) rfl (Or.inl rfl) (.inr rfl), fun _ _ _ _ => pts_nil, fun _ _ _ _ => (pe_op op_add (pv 0) pe_int)⟩ (pi_list (pe_op op_cat (pe_slice sl_list (pv 0) po_none (po_some (pv 4))) (pe_slice sl_list (pv 0) (po_some (pe_op op_add (pv 4) pe_int)) po_none))) SC.nd rfl rfl)
      (pss_one (ps_ret (pe_op op_cat (pv 5) (pe_comp (own := ["k"]) (fr := []) (ixs := []) rfl ⟨rfl, rfl, rfl, rfl, rfl, rfl, rfl⟩ ⟨fun _ _ _ _ => pg_name (i := 0) (by decide +kernel : (["k"] : List Str).Nodup) rfl (Or.inl rfl) (.inr rfl), fun _ _ _ _ => pts_nil, fun _ _ _ _ => pe_int⟩ (pi_range1 rfl T.n_range (pa_cons (pe_op op_sub (pe_ix ix_list (pv 0) (pv 4) (fun _ _ => rfl)) (pe_callB call_len_seq rfl T.n_len PySem.boot_len (pa_cons (pv 5) pa_nil))) pa_nil))))))))))), ?_⟩
    simp only [tSeq, tRet, tRetN, tNext, tOp, tUn, tVar, tC, tAsg, gName, tIfS, tTest, tB, tNot, tNotV, tOr, tAnd, tAndV, tOrV, tChain, tCB, tCall, tCons, tNil, tLst, tDrop, tBM, tBM0, tSl, tNoPart, tPart, gSub, rI, rI0, rU, rIxL, cxOf, cxC, rEq, rNe, rEqL, rNeL, scal, L2.start, tComp, iList, iRng1, iRng2, iEnum, tYes, stC, List.map_cons, List.map_nil, List.cons_append, List.nil_append, List.append_nil, List.length_cons, List.length_nil, List.replicate_succ, List.replicate_zero, List.set_cons_zero, List.set_cons_succ, List.getElem?_cons_zero, List.getElem?_cons_succ, Option.some.injEq, List.cons.injEq, V.int.injEq, V.ref.injEq, V.bl.injEq, exists_eq_left, exists_eq_left', exists_and_left, true_and, and_true, Option.join_some, Option.join_none, Nat.reduceAdd, Nat.reduceSub, Nat.sub_self, Nat.sub_zero, List.length_map, Int.toNat_natCast, rSlL, rCat, rAppend, rReverse, rClear, rCount, rIndex, tTup, rRep, rIn, tDNewT, tDNotIn, sDPut, iZip, rInLL, rIndexLL, rMaxLL, rSortSet, rLenSet, rRemove, rSortedLL, rGeL, rEqLL, iRngD, rExtend, rPop]
    refine ⟨_, .inl hS, by omega, by rw [List.length_map]; omega, fun D1 hD1 => ?_⟩
    simp only [tSeq, tRet, tRetN, tNext, tOp, tUn, tVar, tC, tAsg, gName, tIfS, tTest, tB, tNot, tNotV, tOr, tAnd, tAndV, tOrV, tChain, tCB, tCall, tCons, tNil, tLst, tDrop, tBM, tBM0, tSl, tNoPart, tPart, gSub, rI, rI0, rU, rIxL, cxOf, cxC, rEq, rNe, rEqL, rNeL, scal, L2.start, tComp, iList, iRng1, iRng2, iEnum, tYes, stC, List.map_cons, List.map_nil, List.cons_append, List.nil_append, List.append_nil, List.length_cons, List.length_nil, List.replicate_succ, List.replicate_zero, List.set_cons_zero, List.set_cons_succ, List.getElem?_cons_zero, List.getElem?_cons_succ, Option.some.injEq, List.cons.injEq, V.int.injEq, V.ref.injEq, V.bl.injEq, exists_eq_left, exists_eq_left', exists_and_left, true_and, and_true, Option.join_some, Option.join_none, Nat.reduceAdd, Nat.reduceSub, Nat.sub_self, Nat.sub_zero, List.length_map, Int.toNat_natCast, rSlL, rCat, rAppend, rReverse, rClear, rCount, rIndex, tTup, rRep, rIn, tDNewT, tDNotIn, sDPut, iZip, rInLL, rIndexLL, rMaxLL, rSortSet, rLenSet, rRemove, rSortedLL, rGeL, rEqLL, iRngD, rExtend, rPop]
    refine comp_rangeI (lo := 0) ps.length (fun i => decide ((ps.length : Int) - 1 ≤ ps.getD i.toNat 0)) id [some (.ref a), some (.int ps.length)] (small1000 (by omega)) hD1 (fun i i0 i1 H' Q' sm q => ?_) (fun i i0 i1 _ H' Q' sm q => ?_) ?_
    · simp only [tSeq, tRet, tRetN, tNext, tOp, tUn, tVar, tC, tAsg, gName, tIfS, tTest, tB, tNot, tNotV, tOr, tAnd, tAndV, tOrV, tChain, tCB, tCall, tCons, tNil, tLst, tDrop, tBM, tBM0, tSl, tNoPart, tPart, gSub, rI, rI0, rU, rIxL, cxOf, cxC, rEq, rNe, rEqL, rNeL, scal, L2.start, tComp, iList, iRng1, iRng2, iEnum, tYes, stC, List.map_cons, List.map_nil, List.cons_append, List.nil_append, List.append_nil, List.length_cons, List.length_nil, List.replicate_succ, List.replicate_zero, List.set_cons_zero, List.set_cons_succ, List.getElem?_cons_zero, List.getElem?_cons_succ, Option.some.injEq, List.cons.injEq, V.int.injEq, V.ref.injEq, V.bl.injEq, exists_eq_left, exists_eq_left', exists_and_left, true_and, and_true, Option.join_some, Option.join_none, Nat.reduceAdd, Nat.reduceSub, Nat.sub_self, Nat.sub_zero, List.length_map, Int.toNat_natCast, rSlL, rCat, rAppend, rReverse, rClear, rCount, rIndex, tTup, rRep, rIn, tDNewT, tDNotIn, sDPut, iZip, rInLL, rIndexLL, rMaxLL, rSortSet, rLenSet, rRemove, rSortedLL, rGeL, rEqLL, iRngD, rExtend, rPop]
      exact ⟨_, sm.seq hS, _, at_int i0 (by omega), _, rfl, q⟩
    · simp only [tSeq, tRet, tRetN, tNext, tOp, tUn, tVar, tC, tAsg, gName, tIfS, tTest, tB, tNot, tNotV, tOr, tAnd, tAndV, tOrV, tChain, tCB, tCall, tCons, tNil, tLst, tDrop, tBM, tBM0, tSl, tNoPart, tPart, gSub, rI, rI0, rU, rIxL, cxOf, cxC, rEq, rNe, rEqL, rNeL, scal, L2.start, tComp, iList, iRng1, iRng2, iEnum, tYes, stC, List.map_cons, List.map_nil, List.cons_append, List.nil_append, List.append_nil, List.length_cons, List.length_nil, List.replicate_succ, List.replicate_zero, List.set_cons_zero, List.set_cons_succ, List.getElem?_cons_zero, List.getElem?_cons_succ, Option.some.injEq, List.cons.injEq, V.int.injEq, V.ref.injEq, V.bl.injEq, exists_eq_left, exists_eq_left', exists_and_left, true_and, and_true, Option.join_some, Option.join_none, Nat.reduceAdd, Nat.reduceSub, Nat.sub_self, Nat.sub_zero, List.length_map, Int.toNat_natCast, rSlL, rCat, rAppend, rReverse, rClear, rCount, rIndex, tTup, rRep, rIn, tDNewT, tDNotIn, sDPut, iZip, rInLL, rIndexLL, rMaxLL, rSortSet, rLenSet, rRemove, rSortedLL, rGeL, rEqLL, iRngD, rExtend, rPop]; exact q
    · have ce : ((((List.range ps.length).map fun (i : Nat) => (0 : Int) + (i : Int)).filter fun i => decide ((ps.length : Int) - 1 ≤ ps.getD i.toNat 0)).map id) = cand ps.length fun i => decide ((ps.length : Int) - 1 ≤ ps.getD i.toNat 0) := rfl
      rw [ce]
      have cm : ∀ i ∈ cand ps.length (fun i => decide ((ps.length : Int) - 1 ≤ ps.getD i.toNat 0)), 0 ≤ i ∧ i < ps.length ∧ (ps.length : Int) - 1 ≤ ps.getD i.toNat 0 := fun i hi => by
        obtain ⟨a1, a2, a3⟩ := cand_mem hi
        exact ⟨a1, a2, of_decide_eq_true a3⟩
      have cl := cand_len (n := ps.length) (q := fun i => decide ((ps.length : Int) - 1 ≤ ps.getD i.toNat 0))
      generalize cand ps.length (fun i => decide ((ps.length : Int) - 1 ≤ ps.getD i.toNat 0)) = cs at cm cl ⊢
      have S1 : Same H (upd H D1 (.lst (cs.map V.int))) := Same.put hD1
      simp only [tSeq, tRet, tRetN, tNext, tOp, tUn, tVar, tC, tAsg, gName, tIfS, tTest, tB, tNot, tNotV, tOr, tAnd, tAndV, tOrV, tChain, tCB, tCall, tCons, tNil, tLst, tDrop, tBM, tBM0, tSl, tNoPart, tPart, gSub, rI, rI0, rU, rIxL, cxOf, cxC, rEq, rNe, rEqL, rNeL, scal, L2.start, tComp, iList, iRng1, iRng2, iEnum, tYes, stC, List.map_cons, List.map_nil, List.cons_append, List.nil_append, List.append_nil, List.length_cons, List.length_nil, List.replicate_succ, List.replicate_zero, List.set_cons_zero, List.set_cons_succ, List.getElem?_cons_zero, List.getElem?_cons_succ, Option.some.injEq, List.cons.injEq, V.int.injEq, V.ref.injEq, V.bl.injEq, exists_eq_left, exists_eq_left', exists_and_left, true_and, and_true, Option.join_some, Option.join_none, Nat.reduceAdd, Nat.reduceSub, Nat.sub_self, Nat.sub_zero, List.length_map, Int.toNat_natCast, rSlL, rCat, rAppend, rReverse, rClear, rCount, rIndex, tTup, rRep, rIn, tDNewT, tDNotIn, sDPut, iZip, rInLL, rIndexLL, rMaxLL, rSortSet, rLenSet, rRemove, rSortedLL, rGeL, rEqLL, iRngD, rExtend, rPop]
      refine ⟨_, .inl (SqL.of upd_same), ite2 (fun c => ?_) fun c => ?_⟩
      · exact k a _ ps S1 (S1 _ _ ha) hs
      · have c : ¬ ((cs.map V.int).length : Int) = 0 := fun z => c (decide_eq_true z)
        rw [List.length_map] at c
        have cp : 0 < (cs.length : Int) := by omega
        refine ⟨_, .inl (SqL.of upd_same), by rw [List.length_map]; exact cp, _, SqL.of upd_same, _, at_int (Int.emod_nonneg _ (by rw [List.length_map]; omega)) (by rw [List.length_map]; exact Int.emod_lt_of_pos _ cp), ?_⟩
        have im : cs.getD (num % ((cs.map V.int).length : Int)).toNat 0 ∈ cs := getD_mem' (by
          have e0 := Int.emod_nonneg num (show (cs.length : Int) ≠ 0 by omega)
          have e1 := Int.emod_lt_of_pos num cp
          rw [List.length_map]; omega)
        generalize cs.getD (num % ((cs.map V.int).length : Int)).toNat 0 = i at im ⊢
        obtain ⟨i0, i1, i2⟩ := cm i im
        generalize upd H D1 (.lst (cs.map V.int)) = H1 at S1 ⊢
        refine ⟨i, rfl, _, S1.seq hS, fun p hp => ⟨i, rfl, _, (S1.put' hp).seq hS, fun r hr' => ?_⟩⟩
        have pr : p ≠ r := fun z => by rw [← z, upd_same] at hr'; cases hr'
        rw [cut_to _ i0] at hr' ⊢
        rw [cut_from _ (by omega), show (i + 1).toNat = i.toNat + 1 from by omega, ← List.map_take, ← List.map_drop]
        rw [← List.map_take] at hr'
        refine ⟨_, by rw [upd_ne pr, upd_same], _, upd_same, by rw [List.length_map, List.length_map, List.length_take, List.length_drop, sizeLine_eq]; omega, fun u hu => ?_⟩
        rw [← List.map_append]
        have S2 : Same H (upd (upd (upd H1 p (.lst ((ps.take i.toNat).map V.int))) r (.lst ((ps.drop (i.toNat + 1)).map V.int))) u (.lst ((ps.take i.toNat ++ ps.drop (i.toNat + 1)).map V.int))) := ((S1.put' hp).put' hr').put' hu
        have e2 : upd (upd (upd H1 p (.lst ((ps.take i.toNat).map V.int))) r (.lst ((ps.drop (i.toNat + 1)).map V.int))) u (.lst ((ps.take i.toNat ++ ps.drop (i.toNat + 1)).map V.int)) u = some (.lst ((ps.take i.toNat ++ ps.drop (i.toNat + 1)).map V.int)) := upd_same
        generalize upd (upd (upd H1 p (.lst ((ps.take i.toNat).map V.int))) r (.lst ((ps.drop (i.toNat + 1)).map V.int))) u (.lst ((ps.take i.toNat ++ ps.drop (i.toNat + 1)).map V.int)) = H2 at S2 e2 ⊢
        have el : (ps.take i.toNat ++ ps.drop (i.toNat + 1)).length ≤ 1000 := by rw [List.length_append, List.length_take, List.length_drop]; omega
        refine ⟨⟨_, SqL.of e2⟩, fun D2 hD2 => ?_⟩
        refine comp_listI (K := K) (ps.take i.toNat ++ ps.drop (i.toNat + 1)) (fun _ => true) (· + 1) [] (small1000 el) (SqL.of e2) hD2 (fun x _ H' Q' _ q => q) (fun x _ _ H' Q' _ q => ?_) ?_
        · simp only [tSeq, tRet, tRetN, tNext, tOp, tUn, tVar, tC, tAsg, gName, tIfS, tTest, tB, tNot, tNotV, tOr, tAnd, tAndV, tOrV, tChain, tCB, tCall, tCons, tNil, tLst, tDrop, tBM, tBM0, tSl, tNoPart, tPart, gSub, rI, rI0, rU, rIxL, cxOf, cxC, rEq, rNe, rEqL, rNeL, scal, L2.start, tComp, iList, iRng1, iRng2, iEnum, tYes, stC, List.map_cons, List.map_nil, List.cons_append, List.nil_append, List.append_nil, List.length_cons, List.length_nil, List.replicate_succ, List.replicate_zero, List.set_cons_zero, List.set_cons_succ, List.getElem?_cons_zero, List.getElem?_cons_succ, Option.some.injEq, List.cons.injEq, V.int.injEq, V.ref.injEq, V.bl.injEq, exists_eq_left, exists_eq_left', exists_and_left, true_and, and_true, Option.join_some, Option.join_none, Nat.reduceAdd, Nat.reduceSub, Nat.sub_self, Nat.sub_zero, List.length_map, Int.toNat_natCast, rSlL, rCat, rAppend, rReverse, rClear, rCount, rIndex, tTup, rRep, rIn, tDNewT, tDNotIn, sDPut, iZip, rInLL, rIndexLL, rMaxLL, rSortSet, rLenSet, rRemove, rSortedLL, rGeL, rEqLL, iRngD, rExtend, rPop]; exact q
        · rw [all_list]
          have S3 := S2.put' (o := .lst (((ps.take i.toNat ++ ps.drop (i.toNat + 1)).map (· + 1)).map V.int)) hD2
          have e3 : upd H2 D2 (.lst (((ps.take i.toNat ++ ps.drop (i.toNat + 1)).map (· + 1)).map V.int)) D2 = some (.lst (((ps.take i.toNat ++ ps.drop (i.toNat + 1)).map (· + 1)).map V.int)) := upd_same
          generalize upd H2 D2 (.lst (((ps.take i.toNat ++ ps.drop (i.toNat + 1)).map (· + 1)).map V.int)) = H3 at S3 e3 ⊢
          have ad : ps.getD i.toNat 0 ≤ n := hs.le (getD_mem' (by omega))
          have eld := hs.elder (at' := i.toNat) (by omega) i2
          have erl : ((ps.take i.toNat ++ ps.drop (i.toNat + 1)).map (· + 1)).length = ps.length - 1 := by rw [List.length_map, List.length_append, List.length_take, List.length_drop]; omega
          generalize (ps.take i.toNat ++ ps.drop (i.toNat + 1)).map (· + 1) = rest at S3 e3 eld erl ⊢
          have al : ps.getD i.toNat 0 - (rest.length : Int) ≤ 100 := by omega
          refine ⟨_, i, rfl, S3.seq hS, _, at_int i0 (by omega), D2, rfl, _, .inl (SqL.of e3), _, rfl, by rw [List.length_map]; omega, by rw [List.length_map]; omega, fun D3 hD3 => ?_⟩
          rw [List.length_map]
          refine comp_rangeI (lo := 0) (ps.getD i.toNat 0 - (rest.length : Int)).toNat (fun _ => true) (fun _ => 1) [] (small1000 (by omega)) hD3 (fun _ _ _ H' Q' _ q => q) (fun _ _ _ _ H' Q' _ q => q) ?_
          rw [ones_eq]
          have n3 : D2 ≠ D3 := ne_of_none e3 hD3
          refine ⟨D2, rfl, D3, rfl, _, by rw [upd_ne n3]; exact e3, _, upd_same, by rw [List.length_map, List.length_map, List.length_replicate, erl, sizeLine_eq]; omega, fun r hr' => ?_⟩
          rw [← List.map_append]
          exact k r _ _ ((S3.put' hD3).put' hr') upd_same eld
def spDrawnPiles (K : PySem.W.Frag) : Sp := fun vs H Q _ => ∃ (a : Addr) (ns : List Int) (kk n cap : Int), vs = [.ref a, .int kk, .int n, .int cap] ∧ IL K H a ns ∧ ns.length ≤ 63 ∧ 0 ≤ kk ∧ kk ≤ 1000 ∧ 1 ≤ n ∧ n ≤ 100 ∧ 1 ≤ cap ∧
  ∀ (p : Addr) (H' : Hp) (qs : List Int), Same H H' → H' p = some (.lst (qs.map V.int)) → Setting n qs → Q (.ref p) H'
def wPiles (a : Addr) (kk n cap : Int) (p : Addr) (H : Hp) (m : Nat) (σ : St) (H' : Hp) : Prop := ∃ (step left : Int) (qs : List Int), σ = [some (.ref a), some (.int kk), some (.int n), some (.int cap), some (.int step), some (.ref p), some (.int left)] ∧
  Same H H' ∧ H' p = some (.lst (qs.map V.int)) ∧ (∀ x ∈ qs, 1 ≤ x) ∧ qs.sum + left = n ∧ 0 ≤ left ∧ m = left.toNat
theorem d__law_drawn_piles (D : Dfn K mg "_law_drawn_piles" s__law_drawn_piles ["script", "k", "coins", "cap"]) (T : Txt K mg uM) (D__law_next : OkD P w K mg base 1 "_law_next" ["step"] spNext)
    (D__law_cell : OkD P w K mg base 1 "_law_cell" ["script", "k"] (spCell K)) (D__law_fallen : OkD P w K mg base 1 "_law_fallen" ["piles"] (spFallen K)) : OkD P w K mg base 2 "_law_drawn_piles" ["script", "k", "coins", "cap"] (spDrawnPiles K) := by
  have SC := sc__law_drawn_piles
  refine D.ok SC (fun vs H Q E h => ?_) (fun f cdv A outer s H vs Q E hr h => ?_)
  · obtain ⟨a, ns, kk, n, cap, rfl, _⟩ := h; rfl
  · obtain ⟨a, ns, kk, n, cap, rfl, hS, hl, k0, k1, n0, n1, c0, k⟩ := h
    refine ⟨_, (pss_cons (ps_set (i := 4) SC.nd rfl (Or.inl rfl) (pe_callD D__law_next (hr.mono (by first | decide | omega)) rfl (pa_cons (pe_op op_add (pe_op op_mod (pe_op op_mul (pe_callD D__law_cell (hr.mono (by first | decide | omega)) rfl (pa_cons (pv 0) (pa_cons (pv 1) pa_nil))) pe_int) pe_int) pe_int) pa_nil)))
      (pss_cons (ps_set (i := 5) SC.nd rfl (Or.inl rfl) (pe_lst pa_nil))
      (pss_cons (ps_set (i := 6) SC.nd rfl (Or.inl rfl) (pv 2))
      (pss_cons (ps_while PassesOwn.never (pt_cmpR op_gt (pv 6) pe_int (nomark _))
        (pss_cons (ps_set (i := 4) SC.nd rfl (Or.inl rfl) (pe_callD D__law_next (hr.mono (by first | decide | omega)) rfl (pa_cons (pv 4) pa_nil)))
        (pss_cons (ps_expr (pe_bm PySem.F.plainAttrs_list PySem.F.slot_list_append PySem.F.type_list_append mt_append (pv 5) (pa_cons (pe_op op_add pe_int (pe_op op_mod (pe_op op_fdiv (pv 4) pe_int) (pe_callB (call_min2 rfl) rfl T.n_min PyProof.Rows.boot_min (pa_cons (pv 6) (pa_cons (pv 3) pa_nil))))) pa_nil)))
        (pss_one (ps_set (i := 6) SC.nd rfl (Or.inl rfl) (pe_op op_sub (pv 6) (pe_ix ix_list (pv 5) (pe_un un_neg pe_int) (fun _ _ => rfl))))))))
      (pss_one (ps_ret (pe_callD D__law_fallen (hr.mono (by first | decide | omega)) rfl (pa_cons (pv 5) pa_nil)))))))), ?_⟩
    simp only [tSeq, tRet, tRetN, tNext, tOp, tUn, tVar, tC, tAsg, gName, tIfS, tTest, tB, tNot, tNotV, tOr, tAnd, tAndV, tOrV, tChain, tCB, tCall, tCons, tNil, tLst, tDrop, tBM, tBM0, tSl, tNoPart, tPart, gSub, rI, rI0, rU, rIxL, cxOf, cxC, rEq, rNe, rEqL, rNeL, scal, L2.start, tComp, iList, iRng1, iRng2, iEnum, tYes, stC, List.map_cons, List.map_nil, List.cons_append, List.nil_append, List.append_nil, List.length_cons, List.length_nil, List.replicate_succ, List.replicate_zero, List.set_cons_zero, List.set_cons_succ, List.getElem?_cons_zero, List.getElem?_cons_succ, Option.some.injEq, List.cons.injEq, V.int.injEq, V.ref.injEq, V.bl.injEq, exists_eq_left, exists_eq_left', exists_and_left, true_and, and_true, Option.join_some, Option.join_none, Nat.reduceAdd, Nat.reduceSub, Nat.sub_self, Nat.sub_zero, List.length_map, Int.toNat_natCast, rSlL, rCat, rAppend, rReverse, rClear, rCount, rIndex, tTup, rRep, rIn, tDNewT, tDNotIn, sDPut, iZip, rInLL, rIndexLL, rMaxLL, rSortSet, rLenSet, rRemove, rSortedLL, rGeL, rEqLL, iRngD, rExtend, rPop]
    refine ⟨a, ns, kk, rfl, hS, hl, k0, k1, fun v => ?_⟩
    simp only [tSeq, tRet, tRetN, tNext, tOp, tUn, tVar, tC, tAsg, gName, tIfS, tTest, tB, tNot, tNotV, tOr, tAnd, tAndV, tOrV, tChain, tCB, tCall, tCons, tNil, tLst, tDrop, tBM, tBM0, tSl, tNoPart, tPart, gSub, rI, rI0, rU, rIxL, cxOf, cxC, rEq, rNe, rEqL, rNeL, scal, L2.start, tComp, iList, iRng1, iRng2, iEnum, tYes, stC, List.map_cons, List.map_nil, List.cons_append, List.nil_append, List.append_nil, List.length_cons, List.length_nil, List.replicate_succ, List.replicate_zero, List.set_cons_zero, List.set_cons_succ, List.getElem?_cons_zero, List.getElem?_cons_succ, Option.some.injEq, List.cons.injEq, V.int.injEq, V.ref.injEq, V.bl.injEq, exists_eq_left, exists_eq_left', exists_and_left, true_and, and_true, Option.join_some, Option.join_none, Nat.reduceAdd, Nat.reduceSub, Nat.sub_self, Nat.sub_zero, List.length_map, Int.toNat_natCast, rSlL, rCat, rAppend, rReverse, rClear, rCount, rIndex, tTup, rRep, rIn, tDNewT, tDNotIn, sDPut, iZip, rInLL, rIndexLL, rMaxLL, rSortSet, rLenSet, rRemove, rSortedLL, rGeL, rEqLL, iRngD, rExtend, rPop]
    refine ⟨.inr ⟨by decide, by decide⟩, by decide, _, rfl, fun v0 v1 v2 => ⟨by decide, fun p hp => ?_⟩⟩
    refine ⟨wPiles a kk n cap p H, ⟨_, v0, n, [], rfl, Same.put hp, upd_same, fun x hx => by simp at hx, by simp, by omega, rfl⟩, ?_⟩
    rintro m σ H' ⟨step, left, qs, rfl, sm, hq, hpos, hsum, hleft, rfl⟩
    simp only [tSeq, tRet, tRetN, tNext, tOp, tUn, tVar, tC, tAsg, gName, tIfS, tTest, tB, tNot, tNotV, tOr, tAnd, tAndV, tOrV, tChain, tCB, tCall, tCons, tNil, tLst, tDrop, tBM, tBM0, tSl, tNoPart, tPart, gSub, rI, rI0, rU, rIxL, cxOf, cxC, rEq, rNe, rEqL, rNeL, scal, L2.start, tComp, iList, iRng1, iRng2, iEnum, tYes, stC, List.map_cons, List.map_nil, List.cons_append, List.nil_append, List.append_nil, List.length_cons, List.length_nil, List.replicate_succ, List.replicate_zero, List.set_cons_zero, List.set_cons_succ, List.getElem?_cons_zero, List.getElem?_cons_succ, Option.some.injEq, List.cons.injEq, V.int.injEq, V.ref.injEq, V.bl.injEq, exists_eq_left, exists_eq_left', exists_and_left, true_and, and_true, Option.join_some, Option.join_none, Nat.reduceAdd, Nat.reduceSub, Nat.sub_self, Nat.sub_zero, List.length_map, Int.toNat_natCast, rSlL, rCat, rAppend, rReverse, rClear, rCount, rIndex, tTup, rRep, rIn, tDNewT, tDNotIn, sDPut, iZip, rInLL, rIndexLL, rMaxLL, rSortSet, rLenSet, rRemove, rSortedLL, rGeL, rEqLL, iRngD, rExtend, rPop, spNext, spFallen]
    refine ite2 (fun c => ?_) fun c => ?_
    · have c : 0 < left := of_decide_eq_true c
      refine ⟨fun σ' H1 => ∃ m', m' < left.toNat ∧ wPiles a kk n cap p H m' σ' H1, fun _ _ z => z, fun v w1 w2 => ⟨.inl ⟨rfl, _, SqL.of hq⟩, ⟨by decide, by decide⟩, left, cap, ⟨rfl, rfl⟩, ?_⟩⟩
      have mp : 0 < (if cap < left then cap else left) := by split <;> omega
      have ml : (if cap < left then cap else left) ≤ left := by split <;> omega
      refine ⟨mp, _, hq, by rw [List.length_map, sizeLine_eq]; have := sum_ge_len hpos; omega, ?_⟩
      generalize (if cap < left then cap else left) = b at mp ml ⊢
      have q0 := Int.emod_nonneg (v / 64) (show b ≠ 0 by omega)
      have q1 := Int.emod_lt_of_pos (v / 64) mp
      generalize v / 64 % b = x at q0 q1 ⊢
      refine ⟨_, SqL.of upd_same, _, atI_last _ _, _, rfl, (left - (1 + x)).toNat, by omega, v, left - (1 + x), qs ++ [1 + x], rfl, fun b' o e => ?_, ?_, fun y hy => ?_, ?_, by omega, rfl⟩
      · rw [upd_ne (ne_of_none e hp)]; exact sm b' o e
      · rw [upd_same, List.map_append]; rfl
      · rcases List.mem_append.mp hy with z | z
        · exact hpos y z
        · rw [List.mem_singleton.mp z]; omega
      · rw [sum_app, List.sum_cons, List.sum_nil]; omega
    · have c : ¬ 0 < left := fun z => c (decide_eq_true z)
      have := sum_ge_len hpos
      exact ⟨qs, SqL.of hq, by omega, fun r H1 ms hr1 hr2 hr3 hr4 hr5 => k r H1 ms (sm.trans hr2) hr3 (Setting.of_perm hr4 hr5 hpos (by omega))⟩
def spSetting (K : PySem.W.Frag) : Sp := fun vs H Q _ => ∃ (a : Addr) (ns : List Int) (kk n : Int), vs = [.ref a, .int kk, .int n] ∧ IL K H a ns ∧ ns.length ≤ 63 ∧ 0 ≤ kk ∧ kk ≤ 100 ∧ 1 ≤ n ∧ n ≤ 100 ∧
  ∀ (p : Addr) (H' : Hp) (qs : List Int), Same H H' → H' p = some (.lst (qs.map V.int)) → Setting n qs → Q (.ref p) H'
def wSet (a : Addr) (kk n way cap : Int) (H : Hp) (K : PySem.W.Frag) (i : Nat) (σ : St) (H' : Hp) : Prop := ∃ (p : Addr) (step : Int) (j : Option V) (qs : List Int), σ = [some (.ref a), some (.int kk), some (.int n), some (.int way), some (.int cap), some (.ref p), some (.int step), j] ∧
  Same H H' ∧ H' p = some (.lst (qs.map V.int)) ∧ Setting n qs
theorem d__law_setting (D : Dfn K mg "_law_setting" s__law_setting ["script", "k", "coins"]) (T : Txt K mg uM) (D__law_next : OkD P w K mg base 1 "_law_next" ["step"] spNext)
    (D__law_cell : OkD P w K mg base 1 "_law_cell" ["script", "k"] (spCell K)) (D__law_drawn_piles : OkD P w K mg base 2 "_law_drawn_piles" ["script", "k", "coins", "cap"] (spDrawnPiles K)) (D__law_by_marks : OkD P w K mg base 1 "_law_by_marks" ["marks"] (spByMarks K))
    (D__law_drawn_marks : OkD P w K mg base 2 "_law_drawn_marks" ["script", "k", "coins"] (spDrawnMarks K)) (D__law_elder : OkD P w K mg base 1 "_law_elder" ["piles", "number"] (spElder K)) : OkD P w K mg base 3 "_law_setting" ["script", "k", "coins"] (spSetting K) := by
  have SC := sc__law_setting
  refine D.ok SC (fun vs H Q E h => ?_) (fun f cdv A outer s H vs Q E hr h => ?_)
  · obtain ⟨a, ns, kk, n, rfl, _⟩ := h; rfl
  · obtain ⟨a, ns, kk, n, rfl, hS, hl, k0, k1, n0, n1, k⟩ := h
    refine ⟨_, (pss_cons (ps_set (i := 3) SC.nd rfl (Or.inl rfl) (pe_op op_mod (pe_callD D__law_cell (hr.mono (by first | decide | omega)) rfl (pa_cons (pv 0) (pa_cons (pv 1) pa_nil))) pe_int))
      (pss_cons (ps_set (i := 4) SC.nd rfl (Or.inl rfl) (pe_op op_add pe_int (pe_op op_mod (pe_callD D__law_cell (hr.mono (by first | decide | omega)) rfl (pa_cons (pv 0) (pa_cons (pe_op op_add (pv 1) pe_int) pa_nil))) (pv 2))))
      (pss_cons (ps_if (PW.pt (pw_or (pt_cmpR op_eq (pv 3) pe_int (nomark _)) (pw_or1 (pt_cmpR op_eq (pv 3) pe_int (nomark _))))) (pss_one (ps_ret (pe_callD D__law_drawn_piles (hr.mono (by first | decide | omega)) rfl (pa_cons (pv 0) (pa_cons (pe_op op_add (pv 1) pe_int) (pa_cons (pv 2) (pa_cons (pv 4) pa_nil))))))) pss_nil)
      (pss_cons (ps_if (pt_cmpR op_eq (pv 3) pe_int (nomark _)) (pss_one (ps_ret (pe_ix ix_list (pe_lst (pa_consL (pe_lst (pa_cons (pv 2) pa_nil)) (pa_cons (pe_comp (own := ["j"]) (fr := []) (ixs := []) rfl ⟨rfl, rfl, rfl, rfl, rfl, rfl, rfl⟩ ⟨fun _ _ _ _ => pg_name (i := 0) (by decide +kernel : (["j"] : List Str).Nodup) rfl (Or.inl rfl) (.inr rfl), fun _ _ _ _ => pts_nil, fun _ _ _ _ => pe_int⟩ (pi_range1 rfl T.n_range (pa_cons (pv 2) pa_nil))) pa_nil))) (pe_op op_mod (pe_callD D__law_cell (hr.mono (by first | decide | omega)) rfl (pa_cons (pv 0) (pa_cons (pe_op op_add (pv 1) pe_int) pa_nil))) pe_int) (fun _ _ => rfl)))) pss_nil)
      (pss_cons (ps_set (i := 5) SC.nd rfl (Or.inl rfl) (pe_callD D__law_by_marks (hr.mono (by first | decide | omega)) rfl (pa_cons (pe_callD D__law_drawn_marks (hr.mono (by first | decide | omega)) rfl (pa_cons (pv 0) (pa_cons (pe_op op_add (pv 1) pe_int) (pa_cons (pv 2) pa_nil)))) pa_nil)))
      (pss_cons (ps_set (i := 6) SC.nd rfl (Or.inl rfl) (pe_callD D__law_next (hr.mono (by first | decide | omega)) rfl (pa_cons (pe_op op_add (pe_op op_mod (pe_op op_mul (pe_callD D__law_cell (hr.mono (by first | decide | omega)) rfl (pa_cons (pv 0) (pa_cons (pe_op op_add (pv 1) pe_int) pa_nil))) pe_int) pe_int) pe_int) pa_nil)))
      (pss_cons (ps_if (pt_cmpR op_gt (pv 3) pe_int (nomark _)) (pss_one (ps_for PassesOwn.never rfl (pi_range1 rfl T.n_range (pa_cons (pe_op op_mod (pe_callD D__law_cell (hr.mono (by first | decide | omega)) rfl (pa_cons (pv 0) (pa_cons (pe_op op_add (pv 1) pe_int) pa_nil))) pe_int) pa_nil)) (pg_name (i := 7) SC.nd rfl (Or.inl rfl))
          (pss_cons (ps_set (i := 6) SC.nd rfl (Or.inl rfl) (pe_callD D__law_next (hr.mono (by first | decide | omega)) rfl (pa_cons (pv 6) pa_nil)))
          (pss_one (ps_set (i := 5) SC.nd rfl (Or.inl rfl) (pe_callD D__law_elder (hr.mono (by first | decide | omega)) rfl (pa_cons (pv 5) (pa_cons (pe_op op_fdiv (pv 6) pe_int) pa_nil)))))))) pss_nil)
      (pss_one (ps_ret (pv 5)))))))))), ?_⟩
    simp only [tSeq, tRet, tRetN, tNext, tOp, tUn, tVar, tC, tAsg, gName, tIfS, tTest, tB, tNot, tNotV, tOr, tAnd, tAndV, tOrV, tChain, tCB, tCall, tCons, tNil, tLst, tDrop, tBM, tBM0, tSl, tNoPart, tPart, gSub, rI, rI0, rU, rIxL, cxOf, cxC, rEq, rNe, rEqL, rNeL, scal, L2.start, tComp, iList, iRng1, iRng2, iEnum, tYes, stC, List.map_cons, List.map_nil, List.cons_append, List.nil_append, List.append_nil, List.length_cons, List.length_nil, List.replicate_succ, List.replicate_zero, List.set_cons_zero, List.set_cons_succ, List.getElem?_cons_zero, List.getElem?_cons_succ, Option.some.injEq, List.cons.injEq, V.int.injEq, V.ref.injEq, V.bl.injEq, exists_eq_left, exists_eq_left', exists_and_left, true_and, and_true, Option.join_some, Option.join_none, Nat.reduceAdd, Nat.reduceSub, Nat.sub_self, Nat.sub_zero, List.length_map, Int.toNat_natCast, rSlL, rCat, rAppend, rReverse, rClear, rCount, rIndex, tTup, rRep, rIn, tDNewT, tDNotIn, sDPut, iZip, rInLL, rIndexLL, rMaxLL, rSortSet, rLenSet, rRemove, rSortedLL, rGeL, rEqLL, iRngD, rExtend, rPop]
    refine ⟨a, ns, kk, rfl, hS, hl, k0, by omega, fun v1 => ?_⟩
    simp only [tSeq, tRet, tRetN, tNext, tOp, tUn, tVar, tC, tAsg, gName, tIfS, tTest, tB, tNot, tNotV, tOr, tAnd, tAndV, tOrV, tChain, tCB, tCall, tCons, tNil, tLst, tDrop, tBM, tBM0, tSl, tNoPart, tPart, gSub, rI, rI0, rU, rIxL, cxOf, cxC, rEq, rNe, rEqL, rNeL, scal, L2.start, tComp, iList, iRng1, iRng2, iEnum, tYes, stC, List.map_cons, List.map_nil, List.cons_append, List.nil_append, List.append_nil, List.length_cons, List.length_nil, List.replicate_succ, List.replicate_zero, List.set_cons_zero, List.set_cons_succ, List.getElem?_cons_zero, List.getElem?_cons_succ, Option.some.injEq, List.cons.injEq, V.int.injEq, V.ref.injEq, V.bl.injEq, exists_eq_left, exists_eq_left', exists_and_left, true_and, and_true, Option.join_some, Option.join_none, Nat.reduceAdd, Nat.reduceSub, Nat.sub_self, Nat.sub_zero, List.length_map, Int.toNat_natCast, rSlL, rCat, rAppend, rReverse, rClear, rCount, rIndex, tTup, rRep, rIn, tDNewT, tDNotIn, sDPut, iZip, rInLL, rIndexLL, rMaxLL, rSortSet, rLenSet, rRemove, rSortedLL, rGeL, rEqLL, iRngD, rExtend, rPop]
    refine ⟨by decide, a, ns, kk + 1, rfl, hS, hl, by omega, by omega, fun v2 => ?_⟩
    simp only [tSeq, tRet, tRetN, tNext, tOp, tUn, tVar, tC, tAsg, gName, tIfS, tTest, tB, tNot, tNotV, tOr, tAnd, tAndV, tOrV, tChain, tCB, tCall, tCons, tNil, tLst, tDrop, tBM, tBM0, tSl, tNoPart, tPart, gSub, rI, rI0, rU, rIxL, cxOf, cxC, rEq, rNe, rEqL, rNeL, scal, L2.start, tComp, iList, iRng1, iRng2, iEnum, tYes, stC, List.map_cons, List.map_nil, List.cons_append, List.nil_append, List.append_nil, List.length_cons, List.length_nil, List.replicate_succ, List.replicate_zero, List.set_cons_zero, List.set_cons_succ, List.getElem?_cons_zero, List.getElem?_cons_succ, Option.some.injEq, List.cons.injEq, V.int.injEq, V.ref.injEq, V.bl.injEq, exists_eq_left, exists_eq_left', exists_and_left, true_and, and_true, Option.join_some, Option.join_none, Nat.reduceAdd, Nat.reduceSub, Nat.sub_self, Nat.sub_zero, List.length_map, Int.toNat_natCast, rSlL, rCat, rAppend, rReverse, rClear, rCount, rIndex, tTup, rRep, rIn, tDNewT, tDNotIn, sDPut, iZip, rInLL, rIndexLL, rMaxLL, rSortSet, rLenSet, rRemove, rSortedLL, rGeL, rEqLL, iRngD, rExtend, rPop]
    refine ⟨by omega, ?_⟩
    have cap1 : 1 ≤ 1 + v2 % n := by have := Int.emod_nonneg v2 (show n ≠ 0 by omega); omega
    have dp : spDrawnPiles K [V.ref a, V.int (kk + 2), V.int n, V.int (1 + v2 % n)] H Q E0 := ⟨a, ns, kk + 2, n, _, rfl, hS, hl, by omega, by omega, n0, n1, cap1, k⟩
    generalize v1 % 6 = way
    by_cases c0 : way = 0
    · simp only [c0, decide_true, if_true]; exact dp
    by_cases c1 : way = 1
    · simp only [c1, decide_true, if_true]; exact dp
    simp only [c0, c1, decide_false, Bool.false_eq_true, if_false]
    by_cases c2 : way = 2
    · simp only [c2, decide_true, if_true]
      refine ⟨by decide, fun p hp => ⟨by omega, by omega, fun D1 hD1 => ?_⟩⟩
      refine comp_rangeI (lo := 0) n.toNat (fun _ => true) (fun _ => 1) [] (small1000 (by omega)) hD1 (fun _ _ _ H' Q' _ q => q) (fun _ _ _ _ H' Q' _ q => q) ?_
      rw [ones_eq]
      have np : p ≠ D1 := fun z => by rw [← z, upd_same] at hD1; cases hD1
      have S1 : Same H (upd (upd H p (.lst [V.int n])) D1 (.lst ((List.replicate n.toNat (1 : Int)).map V.int))) := (Same.put hp).put' hD1
      have e1 : upd (upd H p (.lst [V.int n])) D1 (.lst ((List.replicate n.toNat (1 : Int)).map V.int)) p = some (.lst ([n].map V.int)) := by rw [upd_ne np, upd_same]; rfl
      have e2 : upd (upd H p (.lst [V.int n])) D1 (.lst ((List.replicate n.toNat (1 : Int)).map V.int)) D1 = some (.lst ((List.replicate n.toNat (1 : Int)).map V.int)) := upd_same
      generalize upd (upd H p (.lst [V.int n])) D1 (.lst ((List.replicate n.toNat (1 : Int)).map V.int)) = H1 at S1 e1 e2 ⊢
      refine ⟨by decide, fun r hr' => ⟨a, ns, kk + 1, rfl, (S1.put' hr').seq hS, hl, by omega, by omega, fun v3 => ?_⟩⟩
      refine ⟨_, rfl, by decide, _, SqL.of upd_same, ?_⟩
      have S2 := S1.put' (o := .lst [V.ref p, V.ref D1]) hr'
      have nr1 : p ≠ r := ne_of_none e1 hr'
      have nr2 : D1 ≠ r := ne_of_none e2 hr'
      have v0 := Int.emod_nonneg v3 (show (2 : Int) ≠ 0 by decide)
      have v4 := Int.emod_lt_of_pos v3 (show (0 : Int) < 2 by decide)
      rcases (show v3 % 2 = 0 ∨ v3 % 2 = 1 by omega) with z | z
      · rw [z]
        refine ⟨.ref p, rfl, k p _ [n] S2 (by rw [upd_ne nr1]; exact e1) ⟨List.pairwise_singleton _ _, fun x hx => by rw [List.mem_singleton.mp hx]; exact n0, by simp⟩⟩
      · rw [z]
        refine ⟨.ref D1, rfl, k D1 _ (List.replicate n.toNat 1) S2 (by rw [upd_ne nr2]; exact e2) ⟨List.pairwise_replicate.mpr (.inr (Int.le_refl _)), fun x hx => by rw [List.eq_of_mem_replicate hx]; exact Int.le_refl _, by rw [sum_rep]; omega⟩⟩
    · simp only [c2, decide_false, Bool.false_eq_true, if_false]
      refine ⟨a, ns, kk + 2, n, rfl, hS, hl, by omega, by omega, n0, n1, fun p H1 ms hp S1 e1 hm => ?_⟩
      have ml : ms.length ≤ 1000 := by
        have z := hm.lo
        rcases Nat.lt_or_ge 1000 ms.length with y | y
        · have : 1000 * 1001 ≤ ((ms.length : Int) - 1) * ms.length := Int.mul_le_mul (by omega) (by omega) (by omega) (by omega)
          omega
        · exact y
      refine ⟨p, ms, rfl, SqL.of e1, ml, fun r H2 hr1 S2 e2 => ?_⟩
      have S3 := S1.trans S2
      refine ⟨a, ns, kk + 3, rfl, S3.seq hS, hl, by omega, by omega, fun v3 => ⟨_, rfl, .inr ⟨by decide, by decide⟩, by decide, _, rfl, fun v4 v5 v6 => ?_⟩⟩
      have hset := hm.setting
      refine ite2 (fun c => ?_) fun c => ?_
      · refine ⟨_, rfl, _, rfl, _, _, rfl, rfl, a, ns, kk + 1, rfl, S3.seq hS, hl, by omega, by omega, fun v7 => ⟨_, _, rfl, rfl, (by show (0 : Int) < 120; decide), ?_⟩⟩
        have w0 := Int.emod_nonneg v7 (show (120 : Int) ≠ 0 by decide)
        have w1 := Int.emod_lt_of_pos v7 (show (0 : Int) < 120 by decide)
        refine ⟨_, rfl, by omega, by omega, for_range (lo := 0) (n := (v7 % 120).toNat) (wSet a kk n way (1 + v2 % n) H K) ⟨r, v4, none, _, rfl, S3, e2, hset⟩ ?_ ?_⟩
        · rintro i σ H' hi ⟨p', step, j, qs, rfl, sm, hq, hset'⟩
          simp only [tSeq, tRet, tRetN, tNext, tOp, tUn, tVar, tC, tAsg, gName, tIfS, tTest, tB, tNot, tNotV, tOr, tAnd, tAndV, tOrV, tChain, tCB, tCall, tCons, tNil, tLst, tDrop, tBM, tBM0, tSl, tNoPart, tPart, gSub, rI, rI0, rU, rIxL, cxOf, cxC, rEq, rNe, rEqL, rNeL, scal, L2.start, tComp, iList, iRng1, iRng2, iEnum, tYes, stC, List.map_cons, List.map_nil, List.cons_append, List.nil_append, List.append_nil, List.length_cons, List.length_nil, List.replicate_succ, List.replicate_zero, List.set_cons_zero, List.set_cons_succ, List.getElem?_cons_zero, List.getElem?_cons_succ, Option.some.injEq, List.cons.injEq, V.int.injEq, V.ref.injEq, V.bl.injEq, exists_eq_left, exists_eq_left', exists_and_left, true_and, and_true, Option.join_some, Option.join_none, Nat.reduceAdd, Nat.reduceSub, Nat.sub_self, Nat.sub_zero, List.length_map, Int.toNat_natCast, rSlL, rCat, rAppend, rReverse, rClear, rCount, rIndex, tTup, rRep, rIn, tDNewT, tDNotIn, sDPut, iZip, rInLL, rIndexLL, rMaxLL, rSortSet, rLenSet, rRemove, rSortedLL, rGeL, rEqLL, iRngD, rExtend, rPop, spNext]
          intro v8 v9 v10
          refine ⟨⟨by decide, by decide⟩, p', qs, _, n, rfl, hq, hset', n0, n1, fun u H3 us S4 e4 h4 => ?_⟩
          exact ⟨u, v8, _, us, rfl, sm.trans S4, e4, h4⟩
        · rintro σ H' ⟨p', step, j, qs, rfl, sm, hq, hset'⟩
          simp only [tSeq, tRet, tRetN, tNext, tOp, tUn, tVar, tC, tAsg, gName, tIfS, tTest, tB, tNot, tNotV, tOr, tAnd, tAndV, tOrV, tChain, tCB, tCall, tCons, tNil, tLst, tDrop, tBM, tBM0, tSl, tNoPart, tPart, gSub, rI, rI0, rU, rIxL, cxOf, cxC, rEq, rNe, rEqL, rNeL, scal, L2.start, tComp, iList, iRng1, iRng2, iEnum, tYes, stC, List.map_cons, List.map_nil, List.cons_append, List.nil_append, List.append_nil, List.length_cons, List.length_nil, List.replicate_succ, List.replicate_zero, List.set_cons_zero, List.set_cons_succ, List.getElem?_cons_zero, List.getElem?_cons_succ, Option.some.injEq, List.cons.injEq, V.int.injEq, V.ref.injEq, V.bl.injEq, exists_eq_left, exists_eq_left', exists_and_left, true_and, and_true, Option.join_some, Option.join_none, Nat.reduceAdd, Nat.reduceSub, Nat.sub_self, Nat.sub_zero, List.length_map, Int.toNat_natCast, rSlL, rCat, rAppend, rReverse, rClear, rCount, rIndex, tTup, rRep, rIn, tDNewT, tDNotIn, sDPut, iZip, rInLL, rIndexLL, rMaxLL, rSortSet, rLenSet, rRemove, rSortedLL, rGeL, rEqLL, iRngD, rExtend, rPop]
          exact k p' H' qs sm hq hset'
      · exact k r H2 _ S3 e2 hset
end
def spGood (K : PySem.W.Frag) : Sp := fun vs H Q _ => ∃ (a : Addr) (ps : List Int), vs = [.ref a] ∧ IL K H a ps ∧ ps.length < 128 ∧ ∀ H', Same H H' → Q (.bl (goodB ps)) H'
section
variable {P : Program} {w : World} {K : PySem.W.Frag} {mg : Str → Option Value} {base : Heap} {uM : UM}
theorem d_is_setting (D : Dfn K mg "is_setting" s_is_setting ["piles"]) (T : Txt K mg uM) : OkD P w K mg base 1 "is_setting" ["piles"] (spGood K) := by
  have SC := sc_is_setting
  refine D.ok SC (fun vs H Q E h => ?_) (fun f cdv A outer s H vs Q E hr h => ?_)
  · obtain ⟨a, ps, rfl, _⟩ := h; rfl
  · obtain ⟨a, ps, rfl, hS, hl, k⟩ := h
    have hu := hr.units
    refine ⟨_, (pss_cons (ps_if (pt_cmpR (op_neL hu) (pv 0) (pe_sortedR rfl T.n_sorted (pa_cons (pv 0) pa_nil)) (nomark _)) (pss_one (ps_ret pe_bl)) pss_nil)
      (pss_one (ps_ret (pe_and (pe_chain op_le op_le pe_int (pe_callB (call_sumL rfl) rfl T.n_sum PyProof.Rows.boot_sum (pa_cons (pv 0) pa_nil)) (pe_glob rfl T.c_MOST_COINS T.r_MOST_COINS)) (pe_one (pe_cmpR op_ge (pe_callB (call_minL rfl) rfl T.n_min PyProof.Rows.boot_min (pa_cons (pv 0) pa_nil)) pe_int (nomark _))))))), ?_⟩
    simp only [tSeq, tRet, tRetN, tNext, tOp, tUn, tVar, tC, tAsg, gName, tIfS, tTest, tB, tNot, tNotV, tOr, tAnd, tAndV, tOrV, tChain, tCB, tCall, tCons, tNil, tLst, tDrop, tBM, tBM0, tSl, tNoPart, tPart, gSub, rI, rI0, rU, rIxL, cxOf, cxC, rEq, rNe, rEqL, rNeL, scal, L2.start, tComp, iList, iRng1, iRng2, iEnum, tYes, stC, List.map_cons, List.map_nil, List.cons_append, List.nil_append, List.append_nil, List.length_cons, List.length_nil, List.replicate_succ, List.replicate_zero, List.set_cons_zero, List.set_cons_succ, List.getElem?_cons_zero, List.getElem?_cons_succ, Option.some.injEq, List.cons.injEq, V.int.injEq, V.ref.injEq, V.bl.injEq, exists_eq_left, exists_eq_left', exists_and_left, true_and, and_true, Option.join_some, Option.join_none, Nat.reduceAdd, Nat.reduceSub, Nat.sub_self, Nat.sub_zero, List.length_map, Int.toNat_natCast, rSlL, rCat, rAppend, rReverse, rClear, rCount, rIndex, tTup, rRep, rIn, tDNewT, tDNotIn, sDPut, iZip, rInLL, rIndexLL, rMaxLL, rSortSet, rLenSet, rRemove, rSortedLL, rGeL, rEqLL, iRngD, rExtend, rPop, rSortedR]
    refine ⟨_, hS, hl, fun p ms hp pm so => ?_⟩
    have S1 := Same.put (o := .lst (ms.map V.int)) hp
    refine ⟨ps, S1.seq hS, ms, SqL.of upd_same, ite2 (fun c => ?_) fun c => ?_⟩
    · have c : ¬ ps = ms := by simpa using c
      have z := k _ S1
      have e : goodB ps = false := by
        unfold goodB
        exact decide_eq_false fun y => c (perm_eq pm.symm y.2.2.2 so)
      rw [e] at z
      exact z
    · have c : ps = ms := by simpa using c
      subst c
      refine ⟨_, S1.seq hS, ?_⟩
      have fin : ∀ b : Bool, b = goodB ps → Q (.bl b) (upd H p (.lst (ps.map V.int))) := fun b e => by rw [e]; exact k _ S1
      have bad : ¬ (ps ≠ [] ∧ ps.sum ≤ 100 ∧ (∀ x ∈ ps, 1 ≤ x) ∧ ps.Pairwise (· ≥ ·)) → Q (.bl false) (upd H p (.lst (ps.map V.int))) := fun z => fin false (decide_eq_false z).symm
      by_cases c1 : 1 ≤ ps.sum
      · rw [if_pos (decide_eq_true c1)]
        by_cases c2 : ps.sum ≤ 100
        · rw [if_pos (decide_eq_true c2)]
          have ne : ps ≠ [] := fun z => by rw [z] at c1; simp at c1
          refine ⟨ps, S1.seq hS, ne, fun M m1 m2 => fin _ ?_⟩
          unfold goodB
          by_cases c3 : 1 ≤ M
          · rw [decide_eq_true c3]
            exact (decide_eq_true ⟨ne, c2, fun x hx => Int.le_trans c3 (m2 x hx), so⟩).symm
          · rw [decide_eq_false c3]
            exact (decide_eq_false fun z => c3 (z.2.2.1 M m1)).symm
        · rw [if_neg (by simpa using c2)]
          exact bad fun z => c2 z.2.1
      · rw [if_neg (by simpa using c1), if_neg Bool.false_ne_true]
        refine bad fun z => c1 ?_
        have := sum_ge_len z.2.2.1
        have : 0 < ps.length := List.length_pos_iff.mpr z.1
        omega
end
def spCheck (K : PySem.W.Frag) : Sp := fun vs H Q _ => ∃ (a : Addr) (ps : List Int), vs = [.ref a] ∧ IL K H a ps ∧ ps.length < 128 ∧ goodB ps = true ∧ ∀ H', Same H H' → Q .non H'
def spTurned (K : PySem.W.Frag) : Sp := fun vs H Q _ => ∃ (a : Addr) (ps : List Int) (n : Int), vs = [.ref a] ∧ IL K H a ps ∧ Setting n ps ∧ 1 ≤ n ∧ n ≤ 100 ∧
  ∀ (p : Addr) (H' : Hp), H p = none → Same H H' → H' p = some (.lst ((turn ps).map V.int)) → Q (.ref p) H'
def spInts (K : PySem.W.Frag) : Sp := fun vs H Q _ => ∃ (a b : Addr) (xs : List Int), vs = [.ref a, .ref b] ∧ H a = some (.lst (xs.map V.int)) ∧ IL K H b xs ∧ xs.length ≤ 1000 ∧ Q (.bl true) H
def wInts (a b : Addr) (H : Hp) (i : Nat) (σ : St) (H' : Hp) : Prop := H' = H ∧ ∃ j, σ = [some (.ref a), some (.ref b), j]
section
variable {P : Program} {w : World} {K : PySem.W.Frag} {mg : Str → Option Value} {base : Heap} {uM : UM}
theorem d_check_setting (D : Dfn K mg "check_setting" s_check_setting ["piles"]) (T : Txt K mg uM) (D_is_setting : OkD P w K mg base 1 "is_setting" ["piles"] (spGood K)) : OkD P w K mg base 2 "check_setting" ["piles"] (spCheck K) := by
  have SC := sc_check_setting
  refine D.ok SC (fun vs H Q E h => ?_) (fun f cdv A outer s H vs Q E hr h => ?_)
  · obtain ⟨a, ps, rfl, _⟩ := h; rfl
  · obtain ⟨a, ps, rfl, hS, hl, hg, k⟩ := h
    refine ⟨_, (pss_one (ps_if (pt_not (pt_val (pe_callD D_is_setting (hr.mono (by first | decide | omega)) rfl (pa_cons (pv 0) pa_nil)))) (pss_one ps_never) pss_nil)), ?_⟩
    simp only [tSeq, tRet, tRetN, tNext, tOp, tUn, tVar, tC, tAsg, gName, tIfS, tTest, tB, tNot, tNotV, tOr, tAnd, tAndV, tOrV, tChain, tCB, tCall, tCons, tNil, tLst, tDrop, tBM, tBM0, tSl, tNoPart, tPart, gSub, rI, rI0, rU, rIxL, cxOf, cxC, rEq, rNe, rEqL, rNeL, scal, L2.start, tComp, iList, iRng1, iRng2, iEnum, tYes, stC, List.map_cons, List.map_nil, List.cons_append, List.nil_append, List.append_nil, List.length_cons, List.length_nil, List.replicate_succ, List.replicate_zero, List.set_cons_zero, List.set_cons_succ, List.getElem?_cons_zero, List.getElem?_cons_succ, Option.some.injEq, List.cons.injEq, V.int.injEq, V.ref.injEq, V.bl.injEq, exists_eq_left, exists_eq_left', exists_and_left, true_and, and_true, Option.join_some, Option.join_none, Nat.reduceAdd, Nat.reduceSub, Nat.sub_self, Nat.sub_zero, List.length_map, Int.toNat_natCast, rSlL, rCat, rAppend, rReverse, rClear, rCount, rIndex, tTup, rRep, rIn, tDNewT, tDNotIn, sDPut, iZip, rInLL, rIndexLL, rMaxLL, rSortSet, rLenSet, rRemove, rSortedLL, rGeL, rEqLL, iRngD, rExtend, rPop, tNever]
    refine ⟨a, ps, rfl, hS, hl, fun H1 sm => ?_⟩
    rw [hg]
    refine ⟨true, rfl, ?_⟩
    rw [if_neg (by decide)]
    exact k H1 sm
theorem d__law_turned (D : Dfn K mg "_law_turned" s__law_turned ["piles"]) (T : Txt K mg uM) (D__law_fallen : OkD P w K mg base 1 "_law_fallen" ["piles"] (spFallen K)) : OkD P w K mg base 2 "_law_turned" ["piles"] (spTurned K) := by
  have SC := sc__law_turned
  refine D.ok SC (fun vs H Q E h => ?_) (fun f cdv A outer s H vs Q E hr h => ?_)
  · obtain ⟨a, ps, n, rfl, _⟩ := h; rfl
  · obtain ⟨a, ps, n, rfl, hS, st, n0, n1, k⟩ := h
    have pl := st.len
    refine ⟨_, (pss_one (ps_ret (pe_callD D__law_fallen (hr.mono (by first | decide | omega)) rfl (pa_cons (pe_op op_cat (pe_comp (own := ["pile"]) (fr := []) (ixs := []) rfl ⟨rfl, rfl, rfl, rfl, rfl, rfl, rfl⟩ ⟨fun _ _ _ _ => pg_name (i := 0) (by decide +kernel : (["pile"] : List Str).Nodup) rfl (Or.inl rfl) (.inr rfl), fun _ _ _ _ => pts_one (pt_cmpR op_gt (pv 0) pe_int (nomark _)), fun _ _ _ _ => (pe_op op_sub (pv 0) pe_int)⟩ (pi_list (pv 0))) (pe_lst (pa_cons (pe_callB call_len_seq rfl T.n_len PySem.boot_len (pa_cons (pv 0) pa_nil)) pa_nil))) pa_nil)))), ?_⟩
    simp only [tSeq, tRet, tRetN, tNext, tOp, tUn, tVar, tC, tAsg, gName, tIfS, tTest, tB, tNot, tNotV, tOr, tAnd, tAndV, tOrV, tChain, tCB, tCall, tCons, tNil, tLst, tDrop, tBM, tBM0, tSl, tNoPart, tPart, gSub, rI, rI0, rU, rIxL, cxOf, cxC, rEq, rNe, rEqL, rNeL, scal, L2.start, tComp, iList, iRng1, iRng2, iEnum, tYes, stC, List.map_cons, List.map_nil, List.cons_append, List.nil_append, List.append_nil, List.length_cons, List.length_nil, List.replicate_succ, List.replicate_zero, List.set_cons_zero, List.set_cons_succ, List.getElem?_cons_zero, List.getElem?_cons_succ, Option.some.injEq, List.cons.injEq, V.int.injEq, V.ref.injEq, V.bl.injEq, exists_eq_left, exists_eq_left', exists_and_left, true_and, and_true, Option.join_some, Option.join_none, Nat.reduceAdd, Nat.reduceSub, Nat.sub_self, Nat.sub_zero, List.length_map, Int.toNat_natCast, rSlL, rCat, rAppend, rReverse, rClear, rCount, rIndex, tTup, rRep, rIn, tDNewT, tDNotIn, sDPut, iZip, rInLL, rIndexLL, rMaxLL, rSortSet, rLenSet, rRemove, rSortedLL, rGeL, rEqLL, iRngD, rExtend, rPop]
    refine ⟨⟨_, hS⟩, fun D1 hD1 => ?_⟩
    refine comp_listI (K := K) ps (fun x => decide (1 < x)) (fun x => x - 1) [] (small1000 (by omega)) hS hD1 (fun x _ H' Q' _ q => ?_) (fun x _ _ H' Q' _ q => ?_) ?_
    · simp only [tSeq, tRet, tRetN, tNext, tOp, tUn, tVar, tC, tAsg, gName, tIfS, tTest, tB, tNot, tNotV, tOr, tAnd, tAndV, tOrV, tChain, tCB, tCall, tCons, tNil, tLst, tDrop, tBM, tBM0, tSl, tNoPart, tPart, gSub, rI, rI0, rU, rIxL, cxOf, cxC, rEq, rNe, rEqL, rNeL, scal, L2.start, tComp, iList, iRng1, iRng2, iEnum, tYes, stC, List.map_cons, List.map_nil, List.cons_append, List.nil_append, List.append_nil, List.length_cons, List.length_nil, List.replicate_succ, List.replicate_zero, List.set_cons_zero, List.set_cons_succ, List.getElem?_cons_zero, List.getElem?_cons_succ, Option.some.injEq, List.cons.injEq, V.int.injEq, V.ref.injEq, V.bl.injEq, exists_eq_left, exists_eq_left', exists_and_left, true_and, and_true, Option.join_some, Option.join_none, Nat.reduceAdd, Nat.reduceSub, Nat.sub_self, Nat.sub_zero, List.length_map, Int.toNat_natCast, rSlL, rCat, rAppend, rReverse, rClear, rCount, rIndex, tTup, rRep, rIn, tDNewT, tDNotIn, sDPut, iZip, rInLL, rIndexLL, rMaxLL, rSortSet, rLenSet, rRemove, rSortedLL, rGeL, rEqLL, iRngD, rExtend, rPop]; exact q
    · simp only [tSeq, tRet, tRetN, tNext, tOp, tUn, tVar, tC, tAsg, gName, tIfS, tTest, tB, tNot, tNotV, tOr, tAnd, tAndV, tOrV, tChain, tCB, tCall, tCons, tNil, tLst, tDrop, tBM, tBM0, tSl, tNoPart, tPart, gSub, rI, rI0, rU, rIxL, cxOf, cxC, rEq, rNe, rEqL, rNeL, scal, L2.start, tComp, iList, iRng1, iRng2, iEnum, tYes, stC, List.map_cons, List.map_nil, List.cons_append, List.nil_append, List.append_nil, List.length_cons, List.length_nil, List.replicate_succ, List.replicate_zero, List.set_cons_zero, List.set_cons_succ, List.getElem?_cons_zero, List.getElem?_cons_succ, Option.some.injEq, List.cons.injEq, V.int.injEq, V.ref.injEq, V.bl.injEq, exists_eq_left, exists_eq_left', exists_and_left, true_and, and_true, Option.join_some, Option.join_none, Nat.reduceAdd, Nat.reduceSub, Nat.sub_self, Nat.sub_zero, List.length_map, Int.toNat_natCast, rSlL, rCat, rAppend, rReverse, rClear, rCount, rIndex, tTup, rRep, rIn, tDNewT, tDNotIn, sDPut, iZip, rInLL, rIndexLL, rMaxLL, rSortSet, rLenSet, rRemove, rSortedLL, rGeL, rEqLL, iRngD, rExtend, rPop]; exact q
    · have sm2 := Same.put (o := .lst ((leftOf ps).map V.int)) hD1
      have e1 : upd H D1 (.lst ((leftOf ps).map V.int)) D1 = some (.lst ((leftOf ps).map V.int)) := upd_same
      have ce : (ps.filter fun x => decide (1 < x)).map (fun x => x - 1) = leftOf ps := rfl
      rw [ce]
      generalize upd H D1 (.lst ((leftOf ps).map V.int)) = H2 at sm2 e1 ⊢
      have l2 := leftOf_two st.pos
      have hsum := st.sum
      refine ⟨_, .inl (sm2.seq hS), by decide, fun p hp => ⟨D1, rfl, _, by rw [upd_ne (ne_of_none e1 hp)]; exact e1, _, upd_same, by rw [List.length_map, sizeLine_eq]; simp only [List.length_cons, List.length_nil]; omega, fun r hr' => ?_⟩⟩
      have sm3 := (sm2.put' (o := .lst [V.int ((ps.map V.int).length : Int)]) hp).put' (o := .lst ((leftOf ps).map V.int ++ [V.int ((ps.map V.int).length : Int)])) hr'
      refine ⟨r, leftOf ps ++ [(ps.length : Int)], rfl, SqL.of (by rw [upd_same, List.map_append, List.length_map]; rfl), by rw [List.length_append, List.length_singleton]; omega, fun q H3 ms hq sm4 e4 pm so => ?_⟩
      refine k q H3 (sm3.free hq) (sm3.trans sm4) ?_
      rw [e4, turn_of st.ord pm so]
theorem d__law_ints (D : Dfn K mg "_law_ints" s__law_ints ["found", "due"]) (T : Txt K mg uM) : OkD P w K mg base 1 "_law_ints" ["found", "due"] (spInts K) := by
  have SC := sc__law_ints
  refine D.ok SC (fun vs H Q E h => ?_) (fun f cdv A outer s H vs Q E hr h => ?_)
  · obtain ⟨a, b, xs, rfl, _⟩ := h; rfl
  · obtain ⟨a, b, xs, rfl, ha, hb, hl, k⟩ := h
    refine ⟨_, (pss_cons (ps_if (PW.pt (pw_or (pt_not (pt_val (pe_callB call_isI rfl T.n_isinstance PyProof.Rows.boot_isinstance (pa_cons (pv 0) (pa_cons (pe_bltn (v := .ty "list") rfl T.n_list PyProof.Rows.boot_list rfl) pa_nil))))) (pw_or1 (pt_cmpR op_ne (pe_callB call_len_seq rfl T.n_len PySem.boot_len (pa_cons (pv 0) pa_nil)) (pe_callB call_len_seq rfl T.n_len PySem.boot_len (pa_cons (pv 1) pa_nil)) (nomark _))))) (pss_one (ps_ret pe_bl)) pss_nil)
      (pss_cons (ps_for PassesOwn.never rfl (pi_range1 rfl T.n_range (pa_cons (pe_callB call_len_seq rfl T.n_len PySem.boot_len (pa_cons (pv 1) pa_nil)) pa_nil)) (pg_name (i := 2) SC.nd rfl (Or.inl rfl))
        (pss_one (ps_if (PW.pt (pw_or (pt_not (pt_val (pe_callB call_isI rfl T.n_isinstance PyProof.Rows.boot_isinstance (pa_cons (pe_ix ix_list (pv 0) (pv 2) (fun _ _ => rfl)) (pa_cons (pe_bltn (v := .ty "int") rfl T.n_int PyProof.Rows.boot_int rfl) pa_nil))))) (pw_or (pt_val (pe_callB call_isI rfl T.n_isinstance PyProof.Rows.boot_isinstance (pa_cons (pe_ix ix_list (pv 0) (pv 2) (fun _ _ => rfl)) (pa_cons (pe_bltn (v := .ty "bool") rfl T.n_bool PyProof.Rows.boot_bool rfl) pa_nil)))) (pw_or1 (pt_cmpR op_ne (pe_ix ix_list (pv 0) (pv 2) (fun _ _ => rfl)) (pe_ix ix_list (pv 1) (pv 2) (fun _ _ => rfl)) (nomark _)))))) (pss_one (ps_ret pe_bl)) pss_nil)))
      (pss_one (ps_ret pe_bl)))), ?_⟩
    simp only [tSeq, tRet, tRetN, tNext, tOp, tUn, tVar, tC, tAsg, gName, tIfS, tTest, tB, tNot, tNotV, tOr, tAnd, tAndV, tOrV, tChain, tCB, tCall, tCons, tNil, tLst, tDrop, tBM, tBM0, tSl, tNoPart, tPart, gSub, rI, rI0, rU, rIxL, cxOf, cxC, rEq, rNe, rEqL, rNeL, scal, L2.start, tComp, iList, iRng1, iRng2, iEnum, tYes, stC, List.map_cons, List.map_nil, List.cons_append, List.nil_append, List.append_nil, List.length_cons, List.length_nil, List.replicate_succ, List.replicate_zero, List.set_cons_zero, List.set_cons_succ, List.getElem?_cons_zero, List.getElem?_cons_succ, Option.some.injEq, List.cons.injEq, V.int.injEq, V.ref.injEq, V.bl.injEq, exists_eq_left, exists_eq_left', exists_and_left, true_and, and_true, Option.join_some, Option.join_none, Nat.reduceAdd, Nat.reduceSub, Nat.sub_self, Nat.sub_zero, List.length_map, Int.toNat_natCast, rSlL, rCat, rAppend, rReverse, rClear, rCount, rIndex, tTup, rRep, rIn, tDNewT, tDNotIn, sDPut, iZip, rInLL, rIndexLL, rMaxLL, rSortSet, rLenSet, rRemove, rSortedLL, rGeL, rEqLL, iRngD, rExtend, rPop, rIsI]
    refine ⟨_, _, ⟨rfl, rfl⟩, _, .lst ha, true, if_pos (by decide), ?_⟩
    rw [if_neg (by decide)]
    refine ⟨_, .inl (SqL.of ha), _, .inl hb, ?_⟩
    rw [if_neg (by simp)]
    refine ⟨_, rfl, b, rfl, _, .inl hb, ?_⟩
    rw [List.length_map]
    refine ⟨_, rfl, by omega, by omega, for_range (lo := 0) (n := ((xs.length : Int)).toNat) (wInts a b H) ⟨rfl, none, rfl⟩ ?_ ?_⟩
    · rintro i σ H' hi ⟨rfl, j, rfl⟩
      have i0 : (0 : Int) ≤ 0 + (i : Int) := by omega
      have i1 : (0 : Int) + (i : Int) < xs.length := by omega
      simp only [tSeq, tRet, tRetN, tNext, tOp, tUn, tVar, tC, tAsg, gName, tIfS, tTest, tB, tNot, tNotV, tOr, tAnd, tAndV, tOrV, tChain, tCB, tCall, tCons, tNil, tLst, tDrop, tBM, tBM0, tSl, tNoPart, tPart, gSub, rI, rI0, rU, rIxL, cxOf, cxC, rEq, rNe, rEqL, rNeL, scal, L2.start, tComp, iList, iRng1, iRng2, iEnum, tYes, stC, List.map_cons, List.map_nil, List.cons_append, List.nil_append, List.append_nil, List.length_cons, List.length_nil, List.replicate_succ, List.replicate_zero, List.set_cons_zero, List.set_cons_succ, List.getElem?_cons_zero, List.getElem?_cons_succ, Option.some.injEq, List.cons.injEq, V.int.injEq, V.ref.injEq, V.bl.injEq, exists_eq_left, exists_eq_left', exists_and_left, true_and, and_true, Option.join_some, Option.join_none, Nat.reduceAdd, Nat.reduceSub, Nat.sub_self, Nat.sub_zero, List.length_map, Int.toNat_natCast, rSlL, rCat, rAppend, rReverse, rClear, rCount, rIndex, tTup, rRep, rIn, tDNewT, tDNotIn, sDPut, iZip, rInLL, rIndexLL, rMaxLL, rSortSet, rLenSet, rRemove, rSortedLL, rGeL, rEqLL, iRngD, rExtend, rPop, rIsI]
      refine ⟨_, SqL.of ha, _, at_int i0 i1, _, _, ⟨rfl, rfl⟩, _, .int _, true, if_pos (by decide), ?_⟩
      rw [if_neg (by decide)]
      refine ⟨_, SqL.of ha, _, at_int i0 i1, _, _, ⟨rfl, rfl⟩, _, .int _, false, T.kib, ?_⟩
      rw [if_neg (by decide)]
      refine ⟨_, SqL.of ha, _, at_int i0 i1, _, hb, _, at_int i0 i1, rfl, ?_⟩
      rw [if_neg (by simp)]
      exact ⟨rfl, _, rfl⟩
    · rintro σ H' ⟨rfl, j, rfl⟩
      exact k
end
def spLike (K : PySem.W.Frag) : Sp := fun vs H Q _ => ∃ (a b : Addr) (rs us : List Addr) (qss : List (List Int)), vs = [.ref a, .ref b] ∧ H a = some (.lst (rs.map V.ref)) ∧ H b = some (.lst (us.map V.ref)) ∧ Lists H rs qss ∧ Lists H us qss ∧ (∀ q ∈ qss, q.length ≤ 1000) ∧ ∀ H', Same H H' → Q (.bl true) H'
def wLike (a b : Addr) (H : Hp) (i : Nat) (σ : St) (H' : Hp) : Prop := ∃ o1 o2, σ = [some (.ref a), some (.ref b), o1, o2] ∧ Same H H'
section
variable {P : Program} {w : World} {K : PySem.W.Frag} {mg : Str → Option Value} {base : Heap} {uM : UM}
theorem d__law_lists_like (D : Dfn K mg "_law_lists_like" s__law_lists_like ["found", "due"]) (T : Txt K mg uM) (D__law_ints : OkD P w K mg base 1 "_law_ints" ["found", "due"] (spInts K)) : OkD P w K mg base 2 "_law_lists_like" ["found", "due"] (spLike K) := by
  have SC := sc__law_lists_like
  refine D.ok SC (fun vs H Q E h => ?_) (fun f cdv A outer s H vs Q E hr h => ?_)
  · obtain ⟨a, b, rs, us, qss, rfl, _⟩ := h; rfl
  · obtain ⟨a, b, rs, us, qss, rfl, ha, hb, hL, hM, hq, k⟩ := h
    have rl := hL.len
    have ul := hM.len
    refine ⟨_, (pss_cons (ps_if (PW.pt (pw_or (pt_not (pt_val (pe_callB call_isI rfl T.n_isinstance PyProof.Rows.boot_isinstance (pa_cons (pv 0) (pa_cons (pe_bltn (v := .ty "list") rfl T.n_list PyProof.Rows.boot_list rfl) pa_nil))))) (pw_or1 (pt_cmpR op_ne (pe_callB call_len_seq rfl T.n_len PySem.boot_len (pa_cons (pv 0) pa_nil)) (pe_callB call_len_seq rfl T.n_len PySem.boot_len (pa_cons (pv 1) pa_nil)) (nomark _))))) (pss_one (ps_ret pe_bl)) pss_nil)
      (pss_cons (ps_for PassesOwn.never rfl (pi_zip rfl T.n_zip (pa_cons (pv 0) (pa_cons (pv 1) pa_nil))) (pg_tup rfl (pgs_cons (pg_name (i := 2) SC.nd rfl (Or.inl rfl)) (pgs_cons (pg_name (i := 3) SC.nd rfl (Or.inl rfl)) pgs_nil)))
        (pss_one (ps_if (pt_not (pt_val (pe_callD D__law_ints (hr.mono (by first | decide | omega)) rfl (pa_cons (pv 2) (pa_cons (pv 3) pa_nil))))) (pss_one (ps_ret pe_bl)) pss_nil)))
      (pss_one (ps_ret pe_bl)))), ?_⟩
    refine cut (fun σ H' => σ = [some (.ref a), some (.ref b), none, none] ∧ H' = H) (fun R hR => ?_) ?_
    · simp only [tSeq, tRet, tRetN, tNext, tOp, tUn, tVar, tC, tAsg, gName, tIfS, tTest, tB, tNot, tNotV, tOr, tAnd, tAndV, tOrV, tChain, tCB, tCall, tCons, tNil, tLst, tDrop, tBM, tBM0, tSl, tNoPart, tPart, gSub, rI, rI0, rU, rIxL, cxOf, cxC, rEq, rNe, rEqL, rNeL, scal, L2.start, tComp, iList, iRng1, iRng2, iEnum, tYes, stC, List.map_cons, List.map_nil, List.cons_append, List.nil_append, List.append_nil, List.length_cons, List.length_nil, List.replicate_succ, List.replicate_zero, List.set_cons_zero, List.set_cons_succ, List.getElem?_cons_zero, List.getElem?_cons_succ, Option.some.injEq, List.cons.injEq, V.int.injEq, V.ref.injEq, V.bl.injEq, exists_eq_left, exists_eq_left', exists_and_left, true_and, and_true, Option.join_some, Option.join_none, Nat.reduceAdd, Nat.reduceSub, Nat.sub_self, Nat.sub_zero, List.length_map, Int.toNat_natCast, rSlL, rCat, rAppend, rReverse, rClear, rCount, rIndex, tTup, rRep, rIn, tDNewT, tDNotIn, sDPut, iZip, rInLL, rIndexLL, rMaxLL, rSortSet, rLenSet, rRemove, rSortedLL, rGeL, rEqLL, iRngD, rExtend, rPop, rIsI]
      refine ⟨_, _, ⟨rfl, rfl⟩, _, .lst ha, true, if_pos (by decide), ?_⟩
      rw [if_neg (by decide)]
      refine ⟨_, .inl (SqL.of ha), _, .inl (SqL.of hb), ?_⟩
      rw [List.length_map, List.length_map, rl, ul, if_neg (by simp)]
      exact hR _ _ ⟨rfl, rfl⟩
    rintro σ1 H1 ⟨rfl, rfl⟩
    refine ⟨_, rfl, _, rfl, a, b, rfl, ⟨_, SqL.of ha⟩, ⟨_, SqL.of hb⟩, for_zip (xs := rs.map V.ref) (ys := us.map V.ref) (wLike a b H1) (by rw [List.length_map, List.length_map]; omega) ⟨_, _, rfl, Same.refl _⟩ (fun i σ H' ⟨_, _, _, sm⟩ => ⟨sm.seq (SqL.of ha), sm.seq (SqL.of hb)⟩) ?_ ?_⟩
    · rintro i x y t σ H' hx hy ⟨o1, o2, rfl, sm⟩ ht
      have il : i < rs.length := by
        have := (List.getElem?_eq_some_iff.mp hx).1
        simpa using this
      have iu : i < us.length := by omega
      have iq : i < qss.length := by omega
      have ex : x = .ref rs[i] := by simpa [il] using hx.symm
      have ey : y = .ref us[i] := by simpa [iu] using hy.symm
      subst ex ey
      have s2 := sm.put' (o := .tup [V.ref rs[i], V.ref us[i]]) ht
      refine ⟨t, _, rfl, SqT.of upd_same, rfl, _, _, rfl, _, _, rfl, rfl, ?_⟩
      simp only [tSeq, tRet, tRetN, tNext, tOp, tUn, tVar, tC, tAsg, gName, tIfS, tTest, tB, tNot, tNotV, tOr, tAnd, tAndV, tOrV, tChain, tCB, tCall, tCons, tNil, tLst, tDrop, tBM, tBM0, tSl, tNoPart, tPart, gSub, rI, rI0, rU, rIxL, cxOf, cxC, rEq, rNe, rEqL, rNeL, scal, L2.start, tComp, iList, iRng1, iRng2, iEnum, tYes, stC, List.map_cons, List.map_nil, List.cons_append, List.nil_append, List.append_nil, List.length_cons, List.length_nil, List.replicate_succ, List.replicate_zero, List.set_cons_zero, List.set_cons_succ, List.getElem?_cons_zero, List.getElem?_cons_succ, Option.some.injEq, List.cons.injEq, V.int.injEq, V.ref.injEq, V.bl.injEq, exists_eq_left, exists_eq_left', exists_and_left, true_and, and_true, Option.join_some, Option.join_none, Nat.reduceAdd, Nat.reduceSub, Nat.sub_self, Nat.sub_zero, List.length_map, Int.toNat_natCast, rSlL, rCat, rAppend, rReverse, rClear, rCount, rIndex, tTup, rRep, rIn, tDNewT, tDNotIn, sDPut, iZip, rInLL, rIndexLL, rMaxLL, rSortSet, rLenSet, rRemove, rSortedLL, rGeL, rEqLL, iRngD, rExtend, rPop]
      refine ⟨rs[i], us[i], qss[i], rfl, s2 _ _ (hL.at_ i _ _ (by simp [il]) (by simp [iq])), SqL.of (s2 _ _ (hM.at_ i _ _ (by simp [iu]) (by simp [iq]))), hq _ (List.getElem_mem iq), true, rfl, ?_⟩
      rw [if_neg (by decide)]
      exact ⟨_, _, rfl, s2⟩
    · rintro σ H' ⟨o1, o2, rfl, sm⟩
      simp only [tSeq, tRet, tRetN, tNext, tOp, tUn, tVar, tC, tAsg, gName, tIfS, tTest, tB, tNot, tNotV, tOr, tAnd, tAndV, tOrV, tChain, tCB, tCall, tCons, tNil, tLst, tDrop, tBM, tBM0, tSl, tNoPart, tPart, gSub, rI, rI0, rU, rIxL, cxOf, cxC, rEq, rNe, rEqL, rNeL, scal, L2.start, tComp, iList, iRng1, iRng2, iEnum, tYes, stC, List.map_cons, List.map_nil, List.cons_append, List.nil_append, List.append_nil, List.length_cons, List.length_nil, List.replicate_succ, List.replicate_zero, List.set_cons_zero, List.set_cons_succ, List.getElem?_cons_zero, List.getElem?_cons_succ, Option.some.injEq, List.cons.injEq, V.int.injEq, V.ref.injEq, V.bl.injEq, exists_eq_left, exists_eq_left', exists_and_left, true_and, and_true, Option.join_some, Option.join_none, Nat.reduceAdd, Nat.reduceSub, Nat.sub_self, Nat.sub_zero, List.length_map, Int.toNat_natCast, rSlL, rCat, rAppend, rReverse, rClear, rCount, rIndex, tTup, rRep, rIn, tDNewT, tDNotIn, sDPut, iZip, rInLL, rIndexLL, rMaxLL, rSortSet, rLenSet, rRemove, rSortedLL, rGeL, rEqLL, iRngD, rExtend, rPop]
      exact k H' sm
end
def spWhole : Sp := fun vs H Q _ => ∃ n : Int, vs = [.int n] ∧ Q (.bl true) H
theorem at0_cons (v : V) (l : List V) : atI (v :: l) 0 = some v := by
  have z := HT.sIx_nat 0 0 0
  simp [atI, ixN]
def spLaw (K : PySem.W.Frag) : Sp := fun vs H Q _ => ∃ (a : Addr) (ns : List Int), vs = [.ref a] ∧ SqL K H a (ns.map V.int) ∧ ns.length ≤ 63 ∧ ∀ H', Q (.bl true) H'
section
variable {P : Program} {w : World} {K : PySem.W.Frag} {mg : Str → Option Value} {base : Heap} {uM : UM}
end
/-- the elders of ps, rising -/
def IsEl (ps : List Int) (tss : List (List Int)) : Prop := ∃ ds : List Int, ds.Pairwise (· < ·) ∧ (∀ x, x ∈ ds ↔ x ∈ ps ∧ (ps.length : Int) - 1 ≤ x) ∧ tss.Perm (ds.map (elderL ps)) ∧ tss.Pairwise fun a b => LC.lexLt b a = false
theorem IsEl.mem {n : Int} {ps : List Int} {tss : List (List Int)} (h : IsEl ps tss) (st : Setting n ps) (h0 : 1 ≤ n) {q : List Int} : q ∈ tss ↔ Setting n q ∧ turn q = ps := by
  obtain ⟨ds, _, hm, hp, _⟩ := h
  rw [hp.mem_iff, List.mem_map]
  constructor
  · rintro ⟨x, hx, rfl⟩
    obtain ⟨h1, h2⟩ := (hm x).mp hx
    exact ⟨elder_set st h1 h2, elder_turn st h1 h2⟩
  · rintro ⟨h1, h2⟩
    obtain ⟨e1, e2, e3⟩ := elder_of h1 h0
    rw [h2] at e1 e2 e3
    exact ⟨q.length, (hm _).mpr ⟨e1, e2⟩, e3.symm⟩
theorem IsEl.nodup {n : Int} {ps : List Int} {tss : List (List Int)} (h : IsEl ps tss) (st : Setting n ps) : tss.Nodup := by
  obtain ⟨ds, ho, hm, hp, _⟩ := h
  rw [hp.nodup_iff]
  refine List.pairwise_map.mpr (ho.imp_of_mem fun {a b} ha hb hab e => ?_)
  obtain ⟨a1, a2⟩ := (hm a).mp ha
  obtain ⟨b1, b2⟩ := (hm b).mp hb
  have ea := elder_len a1 a2 (by have := st.pos a a1; omega)
  have eb := elder_len b1 b2 (by have := st.pos b b1; omega)
  rw [e] at ea
  omega
theorem IsEl.strict {n : Int} {ps : List Int} {tss : List (List Int)} (h : IsEl ps tss) (st : Setting n ps) : tss.Pairwise fun a b => LC.lexLt a b = true := by
  have nd := h.nodup st
  obtain ⟨ds, _, _, _, hs⟩ := h
  refine (hs.and nd).imp fun {a b} ⟨h1, h2⟩ => ?_
  cases c : LC.lexLt a b with
  | true => rfl
  | false => exact absurd (LC.lexLt_total c h1) h2
theorem IsEl.sorted {ps : List Int} {tss : List (List Int)} (h : IsEl ps tss) : tss.Pairwise fun a b => LC.lexLt b a = false := let ⟨_, _, _, _, z⟩ := h; z
theorem perm_of_mem {α : Type} [DecidableEq α] {l r : List α} (hl : l.Nodup) (hr : r.Nodup) (h : ∀ x, x ∈ l ↔ x ∈ r) : l.Perm r := (List.perm_ext_iff_of_nodup hl hr).mpr h
/-- two rising lists of the same lists are one -/
theorem IsEl.uniq {n : Int} {ps : List Int} {tss uss : List (List Int)} (h : IsEl ps tss) (g : IsEl ps uss) (st : Setting n ps) (h0 : 1 ≤ n) : tss = uss :=
  LC.lex_eq (perm_of_mem (h.nodup st) (g.nodup st) fun q => (h.mem st h0).trans (g.mem st h0).symm) h.sorted g.sorted
theorem IsEl.count {ps us : List Int} {tss : List (List Int)} (h : IsEl ps tss) (hu : us.Nodup) (hm : ∀ x, x ∈ us ↔ x ∈ ps ∧ (ps.length : Int) - 1 ≤ x) : tss.length = us.length := by
  obtain ⟨ds, ho, hd, hp, _⟩ := h
  rw [hp.length_eq, List.length_map]
  exact (perm_of_mem (ho.imp fun {a b} z => Int.ne_of_lt z) hu fun x => (hd x).trans (hm x).symm).length_eq
theorem rise_sum : ∀ {ds : List Int} {m : Int}, ds.Pairwise (· < ·) → (∀ x ∈ ds, m ≤ x) → (ds.length : Int) * (2 * m + ds.length - 1) ≤ 2 * ds.sum
  | [], m, _, _ => by simp
  | x :: r, m, h, k => by
    obtain ⟨h1, h2⟩ := List.pairwise_cons.mp h
    have hx := k x List.mem_cons_self
    have ih := rise_sum (ds := r) (m := m + 1) h2 fun y hy => by have := h1 y hy; omega
    rw [List.sum_cons, List.length_cons]
    have e1 : ((r.length + 1 : Nat) : Int) * (2 * m + ((r.length + 1 : Nat) : Int) - 1) = (r.length : Int) * (2 * (m + 1) + r.length - 1) + 2 * m := by
      rw [show ((r.length + 1 : Nat) : Int) = (r.length : Int) + 1 by omega]
      generalize (r.length : Int) = k
      rw [show 2 * m + (k + 1) - 1 = 2 * m + k by omega, show 2 * (m + 1) + k - 1 = 2 * m + k + 1 by omega, Int.add_mul, Int.mul_add, Int.one_mul, Int.mul_add k (2 * m + k) 1, Int.mul_add]
      omega
    omega
theorem part_sum : ∀ {ds ps : List Int}, ds.Nodup → (∀ x ∈ ds, x ∈ ps) → (∀ x ∈ ps, 1 ≤ x) → ds.sum ≤ ps.sum
  | [], ps, _, _, hp => by have := sum_ge_len hp; simp; omega
  | x :: r, ps, h, k, hp => by
    obtain ⟨h1, h2⟩ := List.nodup_cons.mp h
    have hx := k x List.mem_cons_self
    have e := sum_perm (List.perm_cons_erase hx)
    rw [List.sum_cons] at e
    have ih := part_sum (ds := r) (ps := ps.erase x) h2 (fun y hy => (List.mem_erase_of_ne (by rintro rfl; exact h1 hy)).mpr (k y (List.mem_cons_of_mem _ hy))) fun y hy => hp y (List.mem_of_mem_erase hy)
    rw [List.sum_cons]; omega
theorem few {n : Int} {ps ds : List Int} (st : Setting n ps) (h1 : n ≤ 100) (ho : ds.Pairwise (· < ·)) (hm : ∀ x ∈ ds, x ∈ ps) : ds.length < 64 := by
  have a := part_sum (ho.imp fun {a b} z => Int.ne_of_lt z) hm st.pos
  have b := rise_sum ho (m := 1) fun x hx => st.pos x (hm x hx)
  rw [st.sum] at a
  rcases Nat.lt_or_ge ds.length 64 with z | z
  · exact z
  · exfalso
    have c : (64 : Int) * 65 ≤ (ds.length : Int) * (2 * 1 + ds.length - 1) := Int.mul_le_mul (by omega) (by omega) (by omega) (by omega)
    omega
theorem hu65_of {A : Around} {k : Nat} (hr : Room k A) : A.units + 65 < cLine := by have := hr.un; omega
def spElderBy (K : PySem.W.Frag) : Sp := fun vs H Q _ => ∃ (a : Addr) (ps : List Int) (x : Int), vs = [.ref a, .int x] ∧ IL K H a ps ∧ ps.length ≤ 127 ∧ x ∈ ps ∧ x ≤ 1000 ∧ 0 ≤ x ∧
  ∀ (p : Addr) (H' : Hp), H p = none → Same H H' → H' p = some (.lst ((elderL ps x).map V.int)) → Q (.ref p) H'
def spElders (K : PySem.W.Frag) : Sp := fun vs H Q _ => ∃ (a : Addr) (ps : List Int) (n : Int), vs = [.ref a] ∧ IL K H a ps ∧ Setting n ps ∧ 1 ≤ n ∧ n ≤ 100 ∧
  ∀ (p : Addr) (H' : Hp) (us : List Addr) (tss : List (List Int)), H p = none → Same H H' → H' p = some (.lst (us.map V.ref)) → Lists H' us tss → IsEl ps tss → tss.length < 64 → (∀ u ∈ us, H u = none ∧ u ≠ p) → Q (.ref p) H'
theorem ones_flat (k : Nat) : (List.replicate k [V.int 1]).flatten = (List.replicate k (1 : Int)).map V.int := by
  induction k with
  | zero => rfl
  | succ k ih => rw [List.replicate_succ, List.flatten_cons, ih]; rfl
section
variable {P : Program} {w : World} {K : PySem.W.Frag} {mg : Str → Option Value} {base : Heap} {uM : UM}
theorem d_elder_by (D : Dfn K mg "elder_by" s_elder_by ["piles", "new_pile"]) (T : Txt K mg uM) : OkD P w K mg base 1 "elder_by" ["piles", "new_pile"] (spElderBy K) := by
  have SC := sc_elder_by
  refine D.ok SC (fun vs H Q E h => ?_) (fun f cdv A outer s H vs Q E hr h => ?_)
  · obtain ⟨a, ps, x, rfl, _⟩ := h; rfl
  · obtain ⟨a, ps, x, rfl, hS, hl, hx, x1, x0, k⟩ := h
    have el := List.length_erase_of_mem hx
    have pp := List.length_pos_of_mem hx
    refine ⟨_, (pss_cons (ps_set (i := 2) SC.nd rfl (Or.inl rfl) (pe_callTy call_list_of rfl T.n_list PyProof.Rows.boot_list (pa_cons (pv 0) pa_nil)))
      (pss_cons (ps_expr (pe_bm PySem.F.plainAttrs_list PySem.F.slot_list_remove PySem.F.type_list_remove mt_remove (pv 2) (pa_cons (pv 1) pa_nil)))
      (pss_one (ps_ret (pe_op op_cat (pe_comp (own := ["pile"]) (fr := []) (ixs := []) rfl ⟨rfl, rfl, rfl, rfl, rfl, rfl, rfl⟩ ⟨fun _ _ _ _ => pg_name (i := 0) (by decide +kernel : (["pile"] : List Str).Nodup) rfl (Or.inl rfl) (.inr rfl), fun _ _ _ _ => pts_nil, fun _ _ _ _ => (pe_op op_add (pv 0) pe_int)⟩ (pi_list (pv 2))) (pe_op op_rep (pe_lst (pa_cons pe_int pa_nil)) (pe_op op_sub (pv 1) (pe_callB call_len_seq rfl T.n_len PySem.boot_len (pa_cons (pv 2) pa_nil))))))))), ?_⟩
    refine cut (fun σ H' => ∃ o, σ = [some (.ref a), some (.int x), some (.ref o)] ∧ H o = none ∧ H' = upd H o (.lst (ps.map V.int))) (fun R hR => ?_) ?_
    · simp only [tSeq, tRet, tRetN, tNext, tOp, tUn, tVar, tC, tAsg, gName, tIfS, tTest, tB, tNot, tNotV, tOr, tAnd, tAndV, tOrV, tChain, tCB, tCall, tCons, tNil, tLst, tDrop, tBM, tBM0, tSl, tNoPart, tPart, gSub, rI, rI0, rU, rIxL, cxOf, cxC, rEq, rNe, rEqL, rNeL, scal, L2.start, tComp, iList, iRng1, iRng2, iEnum, tYes, stC, List.map_cons, List.map_nil, List.cons_append, List.nil_append, List.append_nil, List.length_cons, List.length_nil, List.replicate_succ, List.replicate_zero, List.set_cons_zero, List.set_cons_succ, List.getElem?_cons_zero, List.getElem?_cons_succ, Option.some.injEq, List.cons.injEq, V.int.injEq, V.ref.injEq, V.bl.injEq, exists_eq_left, exists_eq_left', exists_and_left, true_and, and_true, Option.join_some, Option.join_none, Nat.reduceAdd, Nat.reduceSub, Nat.sub_self, Nat.sub_zero, List.length_map, Int.toNat_natCast, rSlL, rCat, rAppend, rReverse, rClear, rCount, rIndex, tTup, rRep, rIn, tDNewT, tDNotIn, sDPut, iZip, rInLL, rIndexLL, rMaxLL, rSortSet, rLenSet, rRemove, rSortedLL, rGeL, rEqLL, iRngD, rExtend, rPop]
      exact ⟨_, .inl hS, fun o ho => hR _ _ ⟨o, rfl, ho, rfl⟩⟩
    rintro σ1 H1 ⟨o, rfl, ho, rfl⟩
    refine cut (fun σ H' => σ = [some (.ref a), some (.int x), some (.ref o)] ∧ Same H H' ∧ H' o = some (.lst ((ps.erase x).map V.int))) (fun R hR => ?_) ?_
    · simp only [tSeq, tRet, tRetN, tNext, tOp, tUn, tVar, tC, tAsg, gName, tIfS, tTest, tB, tNot, tNotV, tOr, tAnd, tAndV, tOrV, tChain, tCB, tCall, tCons, tNil, tLst, tDrop, tBM, tBM0, tSl, tNoPart, tPart, gSub, rI, rI0, rU, rIxL, cxOf, cxC, rEq, rNe, rEqL, rNeL, scal, L2.start, tComp, iList, iRng1, iRng2, iEnum, tYes, stC, List.map_cons, List.map_nil, List.cons_append, List.nil_append, List.append_nil, List.length_cons, List.length_nil, List.replicate_succ, List.replicate_zero, List.set_cons_zero, List.set_cons_succ, List.getElem?_cons_zero, List.getElem?_cons_succ, Option.some.injEq, List.cons.injEq, V.int.injEq, V.ref.injEq, V.bl.injEq, exists_eq_left, exists_eq_left', exists_and_left, true_and, and_true, Option.join_some, Option.join_none, Nat.reduceAdd, Nat.reduceSub, Nat.sub_self, Nat.sub_zero, List.length_map, Int.toNat_natCast, rSlL, rCat, rAppend, rReverse, rClear, rCount, rIndex, tTup, rRep, rIn, tDNewT, tDNotIn, sDPut, iZip, rInLL, rIndexLL, rMaxLL, rSortSet, rLenSet, rRemove, rSortedLL, rGeL, rEqLL, iRngD, rExtend, rPop]
      exact ⟨.inl ⟨rfl, _, SqL.of upd_same⟩, ps, upd_same, hx, hR _ _ ⟨rfl, fun b u e => by rw [upd_ne (ne_of_none e ho), upd_ne (ne_of_none e ho)]; exact e, upd_same⟩⟩
    rintro σ2 H2 ⟨rfl, s2, e2⟩
    simp only [tSeq, tRet, tRetN, tNext, tOp, tUn, tVar, tC, tAsg, gName, tIfS, tTest, tB, tNot, tNotV, tOr, tAnd, tAndV, tOrV, tChain, tCB, tCall, tCons, tNil, tLst, tDrop, tBM, tBM0, tSl, tNoPart, tPart, gSub, rI, rI0, rU, rIxL, cxOf, cxC, rEq, rNe, rEqL, rNeL, scal, L2.start, tComp, iList, iRng1, iRng2, iEnum, tYes, stC, List.map_cons, List.map_nil, List.cons_append, List.nil_append, List.append_nil, List.length_cons, List.length_nil, List.replicate_succ, List.replicate_zero, List.set_cons_zero, List.set_cons_succ, List.getElem?_cons_zero, List.getElem?_cons_succ, Option.some.injEq, List.cons.injEq, V.int.injEq, V.ref.injEq, V.bl.injEq, exists_eq_left, exists_eq_left', exists_and_left, true_and, and_true, Option.join_some, Option.join_none, Nat.reduceAdd, Nat.reduceSub, Nat.sub_self, Nat.sub_zero, List.length_map, Int.toNat_natCast, rSlL, rCat, rAppend, rReverse, rClear, rCount, rIndex, tTup, rRep, rIn, tDNewT, tDNotIn, sDPut, iZip, rInLL, rIndexLL, rMaxLL, rSortSet, rLenSet, rRemove, rSortedLL, rGeL, rEqLL, iRngD, rExtend, rPop]
    refine ⟨⟨_, SqL.of e2⟩, fun D1 hD1 => ?_⟩
    refine comp_listI (K := K) (ps.erase x) (fun _ => true) (· + 1) [] (small1000 (by omega)) (SqL.of e2) hD1 (fun x _ H' Q' _ q => q) (fun x _ _ H' Q' _ q => ?_) ?_
    · simp only [tSeq, tRet, tRetN, tNext, tOp, tUn, tVar, tC, tAsg, gName, tIfS, tTest, tB, tNot, tNotV, tOr, tAnd, tAndV, tOrV, tChain, tCB, tCall, tCons, tNil, tLst, tDrop, tBM, tBM0, tSl, tNoPart, tPart, gSub, rI, rI0, rU, rIxL, cxOf, cxC, rEq, rNe, rEqL, rNeL, scal, L2.start, tComp, iList, iRng1, iRng2, iEnum, tYes, stC, List.map_cons, List.map_nil, List.cons_append, List.nil_append, List.append_nil, List.length_cons, List.length_nil, List.replicate_succ, List.replicate_zero, List.set_cons_zero, List.set_cons_succ, List.getElem?_cons_zero, List.getElem?_cons_succ, Option.some.injEq, List.cons.injEq, V.int.injEq, V.ref.injEq, V.bl.injEq, exists_eq_left, exists_eq_left', exists_and_left, true_and, and_true, Option.join_some, Option.join_none, Nat.reduceAdd, Nat.reduceSub, Nat.sub_self, Nat.sub_zero, List.length_map, Int.toNat_natCast, rSlL, rCat, rAppend, rReverse, rClear, rCount, rIndex, tTup, rRep, rIn, tDNewT, tDNotIn, sDPut, iZip, rInLL, rIndexLL, rMaxLL, rSortSet, rLenSet, rRemove, rSortedLL, rGeL, rEqLL, iRngD, rExtend, rPop]; exact q
    · rw [all_list]
      have n1 : o ≠ D1 := ne_of_none e2 hD1
      have s3 : Same H (upd H2 D1 (.lst (((ps.erase x).map (· + 1)).map V.int))) := s2.put' hD1
      have e3 : upd H2 D1 (.lst (((ps.erase x).map (· + 1)).map V.int)) D1 = some (.lst (((ps.erase x).map (· + 1)).map V.int)) := upd_same
      have o3 : upd H2 D1 (.lst (((ps.erase x).map (· + 1)).map V.int)) o = some (.lst ((ps.erase x).map V.int)) := by rw [upd_ne n1]; exact e2
      generalize upd H2 D1 (.lst (((ps.erase x).map (· + 1)).map V.int)) = H3 at s3 e3 o3 ⊢
      refine ⟨by decide, fun D2 hD2 => ⟨_, .inl (SqL.of (Same.put hD2 _ _ o3)), _, upd_same, ?_⟩⟩
      rw [List.length_map]
      have n2 : D1 ≠ D2 := ne_of_none e3 hD2
      refine ⟨by omega, by omega, by rw [sizeLine_eq]; simp only [List.length_cons, List.length_nil]; omega, fun D3 hD3 => ?_⟩
      rw [ones_flat]
      have s4 := (s3.put' (o := .lst [V.int 1]) hD2).put' (o := .lst ((List.replicate (x - ((ps.erase x).length : Int)).toNat (1 : Int)).map V.int)) hD3
      have e4 : upd (upd H3 D2 (.lst [V.int 1])) D3 (.lst ((List.replicate (x - ((ps.erase x).length : Int)).toNat (1 : Int)).map V.int)) D1 = some (.lst (((ps.erase x).map (· + 1)).map V.int)) := by
        rw [upd_ne (ne_of_none (Same.put hD2 _ _ e3) hD3), upd_ne n2]; exact e3
      refine ⟨D1, rfl, _, e4, _, upd_same, ?_, fun D4 hD4 => k D4 _ (s4.free hD4) (s4.put' hD4) ?_⟩
      · rw [List.length_map, List.length_map, List.length_map, List.length_replicate, sizeLine_eq]; omega
      · rw [upd_same, ← List.map_append]; rfl
theorem d_elders_of (D : Dfn K mg "elders_of" s_elders_of ["piles"]) (T : Txt K mg uM) (D_check_setting : OkD P w K mg base 2 "check_setting" ["piles"] (spCheck K)) (D_elder_by : OkD P w K mg base 1 "elder_by" ["piles", "new_pile"] (spElderBy K)) : OkD P w K mg base 3 "elders_of" ["piles"] (spElders K) := by
  have SC := sc_elders_of
  refine D.ok SC (fun vs H Q E h => ?_) (fun f cdv A outer s H vs Q E hr h => ?_)
  · obtain ⟨a, ps, n, rfl, _⟩ := h; rfl
  · obtain ⟨a, ps, n, rfl, hS, st, n0, n1, k⟩ := h
    have hu65 := hu65_of hr
    have pl := st.len
    refine ⟨_, (pss_cons (ps_expr (pe_callD D_check_setting (hr.mono (by first | decide | omega)) rfl (pa_cons (pv 0) pa_nil)))
      (pss_one (ps_ret (pe_callB (call_sortedLL hu65) rfl T.n_sorted PyProof.Rows.boot_sorted (pa_cons (pe_comp (own := ["pile"]) (fr := ["piles"]) (ixs := [0]) rfl ⟨rfl, rfl, rfl, rfl, rfl, rfl, rfl⟩ ⟨fun _ _ _ _ => pg_name (i := 0) (by decide +kernel : (["pile", "piles"] : List Str).Nodup) rfl (Or.inl rfl) (.inr rfl), fun _ _ _ _ => pts_one (pt_cmpR op_ge (pv 0) (pe_op op_sub (pe_callB (call_lenK (K := K) rfl) rfl T.n_len PySem.boot_len (pa_cons (pv 1) pa_nil)) pe_int) (nomark _)), fun _ _ _ _ => (pe_callD D_elder_by (hr.mono (by first | decide | omega)) rfl (pa_cons (pv 1) (pa_cons (pv 0) pa_nil)))⟩ (pi_list (pe_sortset rfl rfl T.n_sorted rfl T.n_set (pa_cons (pv 0) pa_nil)))) pa_nil))))), ?_⟩
    refine cut (fun σ H' => σ = [some (.ref a)] ∧ Same H H') (fun R hR => ?_) ?_
    · simp only [tSeq, tRet, tRetN, tNext, tOp, tUn, tVar, tC, tAsg, gName, tIfS, tTest, tB, tNot, tNotV, tOr, tAnd, tAndV, tOrV, tChain, tCB, tCall, tCons, tNil, tLst, tDrop, tBM, tBM0, tSl, tNoPart, tPart, gSub, rI, rI0, rU, rIxL, cxOf, cxC, rEq, rNe, rEqL, rNeL, scal, L2.start, tComp, iList, iRng1, iRng2, iEnum, tYes, stC, List.map_cons, List.map_nil, List.cons_append, List.nil_append, List.append_nil, List.length_cons, List.length_nil, List.replicate_succ, List.replicate_zero, List.set_cons_zero, List.set_cons_succ, List.getElem?_cons_zero, List.getElem?_cons_succ, Option.some.injEq, List.cons.injEq, V.int.injEq, V.ref.injEq, V.bl.injEq, exists_eq_left, exists_eq_left', exists_and_left, true_and, and_true, Option.join_some, Option.join_none, Nat.reduceAdd, Nat.reduceSub, Nat.sub_self, Nat.sub_zero, List.length_map, Int.toNat_natCast, rSlL, rCat, rAppend, rReverse, rClear, rCount, rIndex, tTup, rRep, rIn, tDNewT, tDNotIn, sDPut, iZip, rInLL, rIndexLL, rMaxLL, rSortSet, rLenSet, rRemove, rSortedLL, rGeL, rEqLL, iRngD, rExtend, rPop]
      exact ⟨a, ps, rfl, hS, by omega, st.good n0 n1, fun H' s => hR _ _ ⟨rfl, s⟩⟩
    rintro σ1 H1 ⟨rfl, s1⟩
    simp only [tSeq, tRet, tRetN, tNext, tOp, tUn, tVar, tC, tAsg, gName, tIfS, tTest, tB, tNot, tNotV, tOr, tAnd, tAndV, tOrV, tChain, tCB, tCall, tCons, tNil, tLst, tDrop, tBM, tBM0, tSl, tNoPart, tPart, gSub, rI, rI0, rU, rIxL, cxOf, cxC, rEq, rNe, rEqL, rNeL, scal, L2.start, tComp, iList, iRng1, iRng2, iEnum, tYes, stC, List.map_cons, List.map_nil, List.cons_append, List.nil_append, List.append_nil, List.length_cons, List.length_nil, List.replicate_succ, List.replicate_zero, List.set_cons_zero, List.set_cons_succ, List.getElem?_cons_zero, List.getElem?_cons_succ, Option.some.injEq, List.cons.injEq, V.int.injEq, V.ref.injEq, V.bl.injEq, exists_eq_left, exists_eq_left', exists_and_left, true_and, and_true, Option.join_some, Option.join_none, Nat.reduceAdd, Nat.reduceSub, Nat.sub_self, Nat.sub_zero, List.length_map, Int.toNat_natCast, rSlL, rCat, rAppend, rReverse, rClear, rCount, rIndex, tTup, rRep, rIn, tDNewT, tDNotIn, sDPut, iZip, rInLL, rIndexLL, rMaxLL, rSortSet, rLenSet, rRemove, rSortedLL, rGeL, rEqLL, iRngD, rExtend, rPop]
    refine ⟨ps, s1.seq hS, by omega, fun q us hq ho hm => ⟨⟨_, SqL.of upd_same⟩, fun D1 hD1 => ?_⟩⟩
    have s2 : Same H (upd H1 q (.lst (us.map V.int))) := s1.put' hq
    have e2 : upd H1 q (.lst (us.map V.int)) q = some (.lst (us.map V.int)) := upd_same
    generalize upd H1 q (.lst (us.map V.int)) = H2 at s2 e2 hD1 ⊢
    have ul := few st n1 ho fun x hx => (hm x).mp hx
    refine comp_IL (K := K) us (fun i => decide ((ps.length : Int) - 1 ≤ i)) (elderL ps) _ (small1000 (by omega)) (SqL.of e2) hD1 (fun i hi H' Q' sm q => ?_) (fun i hi hp H' Q' sm q => ?_) (fun H3 ws s3 e3 L3 k3 => ?_)
    · simp only [tSeq, tRet, tRetN, tNext, tOp, tUn, tVar, tC, tAsg, gName, tIfS, tTest, tB, tNot, tNotV, tOr, tAnd, tAndV, tOrV, tChain, tCB, tCall, tCons, tNil, tLst, tDrop, tBM, tBM0, tSl, tNoPart, tPart, gSub, rI, rI0, rU, rIxL, cxOf, cxC, rEq, rNe, rEqL, rNeL, scal, L2.start, tComp, iList, iRng1, iRng2, iEnum, tYes, stC, List.map_cons, List.map_nil, List.cons_append, List.nil_append, List.append_nil, List.length_cons, List.length_nil, List.replicate_succ, List.replicate_zero, List.set_cons_zero, List.set_cons_succ, List.getElem?_cons_zero, List.getElem?_cons_succ, Option.some.injEq, List.cons.injEq, V.int.injEq, V.ref.injEq, V.bl.injEq, exists_eq_left, exists_eq_left', exists_and_left, true_and, and_true, Option.join_some, Option.join_none, Nat.reduceAdd, Nat.reduceSub, Nat.sub_self, Nat.sub_zero, List.length_map, Int.toNat_natCast, rSlL, rCat, rAppend, rReverse, rClear, rCount, rIndex, tTup, rRep, rIn, tDNewT, tDNotIn, sDPut, iZip, rInLL, rIndexLL, rMaxLL, rSortSet, rLenSet, rRemove, rSortedLL, rGeL, rEqLL, iRngD, rExtend, rPop]
      refine ⟨_, .inl ((s2.trans sm).seq hS), ?_⟩
      rw [List.length_map]
      exact q _ (Same.refl _)
    · simp only [tSeq, tRet, tRetN, tNext, tOp, tUn, tVar, tC, tAsg, gName, tIfS, tTest, tB, tNot, tNotV, tOr, tAnd, tAndV, tOrV, tChain, tCB, tCall, tCons, tNil, tLst, tDrop, tBM, tBM0, tSl, tNoPart, tPart, gSub, rI, rI0, rU, rIxL, cxOf, cxC, rEq, rNe, rEqL, rNeL, scal, L2.start, tComp, iList, iRng1, iRng2, iEnum, tYes, stC, List.map_cons, List.map_nil, List.cons_append, List.nil_append, List.append_nil, List.length_cons, List.length_nil, List.replicate_succ, List.replicate_zero, List.set_cons_zero, List.set_cons_succ, List.getElem?_cons_zero, List.getElem?_cons_succ, Option.some.injEq, List.cons.injEq, V.int.injEq, V.ref.injEq, V.bl.injEq, exists_eq_left, exists_eq_left', exists_and_left, true_and, and_true, Option.join_some, Option.join_none, Nat.reduceAdd, Nat.reduceSub, Nat.sub_self, Nat.sub_zero, List.length_map, Int.toNat_natCast, rSlL, rCat, rAppend, rReverse, rClear, rCount, rIndex, tTup, rRep, rIn, tDNewT, tDNotIn, sDPut, iZip, rInLL, rIndexLL, rMaxLL, rSortSet, rLenSet, rRemove, rSortedLL, rGeL, rEqLL, iRngD, rExtend, rPop]
      have im := (hm i).mp hi
      exact ⟨a, ps, i, rfl, (s2.trans sm).seq hS, by omega, im, by have := st.le im; omega, by have := st.pos i im; omega, fun p H3 hp s3 e3 => q H3 p hp s3 e3⟩
    · have wl : ws.length < 64 := by rw [L3.len, List.length_map]; exact Nat.lt_of_le_of_lt (List.length_filter_le _ _) ul
      refine ⟨D1, rfl, ws, SqL.of e3, _, L3, wl, fun p vs tss hp pm L4 pt so => ?_⟩
      have s5 := (s2.trans s3).put' (o := .lst (vs.map V.ref)) hp
      refine k p _ vs tss ((s2.trans s3).free hp) s5 upd_same (L4.mono (Same.put hp)) ⟨us.filter fun i => decide ((ps.length : Int) - 1 ≤ i), ho.sublist List.filter_sublist, fun x => ?_, pt, so⟩ (by rw [← L4.len, pm.length_eq]; exact wl) fun u hu => ?_
      · rw [List.mem_filter, hm x, decide_eq_true_eq]
      · have z := k3 u (pm.mem_iff.mp hu)
        refine ⟨s2.free z.1, ?_⟩
        obtain ⟨qs, _, eu⟩ := L4.mem hu
        exact ne_of_none eu hp
end
abbrev gU : Nat → Nat → Nat := fun _ i => i + 1
theorem up_perm {f n m : Nat} (h : n < f) : (allBy gU f n m).Perm (dn f n m) :=
  (List.perm_ext_iff_of_nodup (nodup_all goes_up f n m) (by rw [dn_all]; exact nodup_all goes_down f n m)).mpr fun q => by rw [dn_all, mem_all goes_up f n m q h, mem_all goes_down f n m q h]
theorem up_len {f n m : Nat} (h : n < f) : (allBy gU f n m).length ≤ 2 ^ n := by rw [(up_perm h).length_eq]; exact dn_len f n m
theorem pre_mono (f n m : Nat) : ∀ i j, i ≤ j → (allPre gU f n m i).length ≤ (allPre gU f n m j).length
  | i, 0, h => by rw [show i = 0 by omega]; exact Nat.le_refl _
  | i, j + 1, h => by
    rcases Nat.lt_or_ge j i with z | z
    · rw [show i = j + 1 by omega]; exact Nat.le_refl _
    · rw [allPre_succ, List.length_append]
      exact Nat.le_trans (pre_mono f n m i j z) (Nat.le_add_right _ _)
theorem pre_len {f n m i : Nat} (hi : i ≤ min n m) (h : n < f + 1) (n0 : n ≠ 0) : (allPre gU f n m i).length ≤ 2 ^ n := by
  have z := pre_mono f n m i _ hi
  rw [← allBy_eq n0] at z
  exact Nat.le_trans z (up_len h)
def spAll (K : PySem.W.Frag) (f : Nat) : Sp := fun vs H Q _ => ∃ n m : Nat, vs = [.int n, .int m] ∧ n < f ∧ n ≤ 18 ∧ m ≤ 1000 ∧
  ∀ (p : Addr) (H' : Hp) (us : List Addr), H p = none → Same H H' → H' p = some (.lst (us.map V.ref)) → Lists H' us (allBy gU f n m) → (∀ u ∈ us, H u = none ∧ u ≠ p) → Q (.ref p) H'
def wAll1 (f n m : Nat) (fd : Addr) (H : Hp) (i : Nat) (σ : St) (H' : Hp) : Prop := ∃ (us : List Addr) (o o2 : Option V), σ = [some (.int n), some (.int m), some (.ref fd), o, o2] ∧ H fd = none ∧ Same H H' ∧ H' fd = some (.lst (us.map V.ref)) ∧ Lists H' us (allPre gU f n m i) ∧ ∀ u ∈ us, H u = none ∧ u ≠ fd
def wAll2 (f n m i : Nat) (fd : Addr) (H : Hp) (qss : List (List Int)) (j : Nat) (σ : St) (H' : Hp) : Prop := ∃ (us : List Addr) (o2 : Option V), σ = [some (.int n), some (.int m), some (.ref fd), some (.int (i + 1 : Nat)), o2] ∧ Same H H' ∧ H' fd = some (.lst (us.map V.ref)) ∧ Lists H' us (allPre gU f n m i ++ (qss.take j).map (((i + 1 : Nat) : Int) :: ·)) ∧ ∀ u ∈ us, H u = none ∧ u ≠ fd
section
variable {P : Program} {w : World} {K : PySem.W.Frag} {mg : Str → Option Value} {base : Heap} {uM : UM}
theorem d__law_all (D : Dfn K mg "_law_all" s__law_all ["coins", "most"]) (T : Txt K mg uM) : ∀ f, OkD P w K mg base (f + 1) "_law_all" ["coins", "most"] (spAll K f)
  | 0 => Dfn.none D |>.imp fun vs H Q E ⟨n, m, _, h, _⟩ => by omega
  | f + 1 => by
    have D__law_all := d__law_all D T f
    have SC := sc__law_all
    refine D.ok SC (fun vs H Q E h => ?_) (fun f' cdv A outer s H vs Q E hr h => ?_)
    · obtain ⟨n, m, rfl, _⟩ := h; rfl
    · obtain ⟨n, m, rfl, hf, hn, hm, k⟩ := h
      refine ⟨_, (pss_cons (ps_if (pt_cmpR op_eq (pv 0) pe_int (nomark _)) (pss_one (ps_ret (pe_lst (pa_consL (pe_lst pa_nil) pa_nil)))) pss_nil)
      (pss_cons (ps_set (i := 2) SC.nd rfl (Or.inl rfl) (pe_lst pa_nil))
      (pss_cons (ps_for PassesOwn.never rfl (pi_range2 rfl T.n_range (pa_cons pe_int (pa_cons (pe_op op_add (pe_callB (call_min2 rfl) rfl T.n_min PyProof.Rows.boot_min (pa_cons (pv 0) (pa_cons (pv 1) pa_nil))) pe_int) pa_nil))) (pg_name (i := 3) SC.nd rfl (Or.inl rfl))
        (pss_one (ps_for PassesOwn.never rfl (pi_list (pe_callD D__law_all (hr.mono (by first | decide | omega)) rfl (pa_cons (pe_op op_sub (pv 0) (pv 3)) (pa_cons (pv 3) pa_nil)))) (pg_name (i := 4) SC.nd rfl (Or.inl rfl))
          (pss_one (ps_expr (pe_bm PySem.F.plainAttrs_list PySem.F.slot_list_append PySem.F.type_list_append mt_append (pv 2) (pa_cons (pe_op op_cat (pe_lst (pa_cons (pv 3) pa_nil)) (pv 4)) pa_nil)))))))
      (pss_one (ps_ret (pv 2)))))), ?_⟩
      refine cut (fun σ H' => n ≠ 0 ∧ σ = [some (.int n), some (.int m), none, none, none] ∧ H' = H) (fun R hR => ?_) ?_
      · simp only [tSeq, tRet, tRetN, tNext, tOp, tUn, tVar, tC, tAsg, gName, tIfS, tTest, tB, tNot, tNotV, tOr, tAnd, tAndV, tOrV, tChain, tCB, tCall, tCons, tNil, tLst, tDrop, tBM, tBM0, tSl, tNoPart, tPart, gSub, rI, rI0, rU, rIxL, cxOf, cxC, rEq, rNe, rEqL, rNeL, scal, L2.start, tComp, iList, iRng1, iRng2, iEnum, tYes, stC, List.map_cons, List.map_nil, List.cons_append, List.nil_append, List.append_nil, List.length_cons, List.length_nil, List.replicate_succ, List.replicate_zero, List.set_cons_zero, List.set_cons_succ, List.getElem?_cons_zero, List.getElem?_cons_succ, Option.some.injEq, List.cons.injEq, V.int.injEq, V.ref.injEq, V.bl.injEq, exists_eq_left, exists_eq_left', exists_and_left, true_and, and_true, Option.join_some, Option.join_none, Nat.reduceAdd, Nat.reduceSub, Nat.sub_self, Nat.sub_zero, List.length_map, Int.toNat_natCast, rSlL, rCat, rAppend, rReverse, rClear, rCount, rIndex, tTup, rRep, rIn, tDNewT, tDNotIn, sDPut, iZip, rInLL, rIndexLL, rMaxLL, rSortSet, rLenSet, rRemove, rSortedLL, rGeL, rEqLL, iRngD, rExtend, rPop]
        refine ite2 (fun c => ?_) fun c => hR _ _ ⟨fun z => c (by rw [z]; rfl), rfl, rfl⟩
        have c : n = 0 := by simpa using c
        subst c
        refine ⟨by decide, fun p hp => ⟨by decide, fun q hq => ?_⟩⟩
        have s1 := Same.put (o := .lst []) hp
        have np : p ≠ q := ne_of_none upd_same hq
        refine k q _ [p] (s1.free hq) (s1.put' hq) upd_same ?_ fun u hu => ?_
        · exact Lists.snoc (rs := []) (qss := []) Lists.nil (by rw [upd_ne np]; exact upd_same)
        · rw [List.mem_singleton.mp hu]; exact ⟨hp, np⟩
      rintro σ1 H1 ⟨n0, rfl, rfl⟩
      refine cut (fun σ H' => ∃ fd, σ = [some (.int n), some (.int m), some (.ref fd), none, none] ∧ H1 fd = none ∧ Same H1 H' ∧ H' fd = some (.lst [])) (fun R hR => ?_) ?_
      · simp only [tSeq, tRet, tRetN, tNext, tOp, tUn, tVar, tC, tAsg, gName, tIfS, tTest, tB, tNot, tNotV, tOr, tAnd, tAndV, tOrV, tChain, tCB, tCall, tCons, tNil, tLst, tDrop, tBM, tBM0, tSl, tNoPart, tPart, gSub, rI, rI0, rU, rIxL, cxOf, cxC, rEq, rNe, rEqL, rNeL, scal, L2.start, tComp, iList, iRng1, iRng2, iEnum, tYes, stC, List.map_cons, List.map_nil, List.cons_append, List.nil_append, List.append_nil, List.length_cons, List.length_nil, List.replicate_succ, List.replicate_zero, List.set_cons_zero, List.set_cons_succ, List.getElem?_cons_zero, List.getElem?_cons_succ, Option.some.injEq, List.cons.injEq, V.int.injEq, V.ref.injEq, V.bl.injEq, exists_eq_left, exists_eq_left', exists_and_left, true_and, and_true, Option.join_some, Option.join_none, Nat.reduceAdd, Nat.reduceSub, Nat.sub_self, Nat.sub_zero, List.length_map, Int.toNat_natCast, rSlL, rCat, rAppend, rReverse, rClear, rCount, rIndex, tTup, rRep, rIn, tDNewT, tDNotIn, sDPut, iZip, rInLL, rIndexLL, rMaxLL, rSortSet, rLenSet, rRemove, rSortedLL, rGeL, rEqLL, iRngD, rExtend, rPop]
        exact ⟨by decide, fun p hp => hR _ _ ⟨p, rfl, hp, Same.put hp, upd_same⟩⟩
      rintro σ2 H2 ⟨fd, rfl, f2, s2, e2⟩
      have mi : (if (m : Int) < (n : Int) then (m : Int) else (n : Int)) = ((min n m : Nat) : Int) := by
        by_cases c : (m : Int) < (n : Int)
        · rw [if_pos c, Nat.min_eq_right (by omega)]
        · rw [if_neg c, Nat.min_eq_left (by omega)]
      have pl : ∀ i, i ≤ min n m → (allPre gU f n m i).length ≤ 262144 := fun i hi => Nat.le_trans (pre_len hi hf n0) (pow18 hn)
      refine cut (fun σ H' => wAll1 f n m fd H1 (min n m) σ H') (fun R hR => ?_) ?_
      · refine ⟨_, rfl, _, rfl, _, _, rfl, ?_⟩
        rw [mi]
        refine ⟨_, _, rfl, rfl, _, _, rfl, ⟨by omega, by omega, by omega, by omega⟩, for_range (lo := 1) (n := (((min n m : Nat) : Int) + 1 - 1).toNat) (wAll1 f n m fd H1) ⟨[], none, none, rfl, f2, s2, e2, Lists.nil, fun u hu => by simp at hu⟩ ?_ ?_⟩
        · rintro i σ H' hi ⟨us, o, o2, rfl, _, s3, e3, L3, k3⟩
          have hi : i < min n m := by omega
          have ep : (1 : Int) + (i : Int) = ((i + 1 : Nat) : Int) := by omega
          have en : (n : Int) - ((i + 1 : Nat) : Int) = ((n - (i + 1) : Nat) : Int) := by omega
          simp only [tSeq, tRet, tRetN, tNext, tOp, tUn, tVar, tC, tAsg, gName, tIfS, tTest, tB, tNot, tNotV, tOr, tAnd, tAndV, tOrV, tChain, tCB, tCall, tCons, tNil, tLst, tDrop, tBM, tBM0, tSl, tNoPart, tPart, gSub, rI, rI0, rU, rIxL, cxOf, cxC, rEq, rNe, rEqL, rNeL, scal, L2.start, tComp, iList, iRng1, iRng2, iEnum, tYes, stC, List.map_cons, List.map_nil, List.cons_append, List.nil_append, List.append_nil, List.length_cons, List.length_nil, List.replicate_succ, List.replicate_zero, List.set_cons_zero, List.set_cons_succ, List.getElem?_cons_zero, List.getElem?_cons_succ, Option.some.injEq, List.cons.injEq, V.int.injEq, V.ref.injEq, V.bl.injEq, exists_eq_left, exists_eq_left', exists_and_left, true_and, and_true, Option.join_some, Option.join_none, Nat.reduceAdd, Nat.reduceSub, Nat.sub_self, Nat.sub_zero, List.length_map, Int.toNat_natCast, rSlL, rCat, rAppend, rReverse, rClear, rCount, rIndex, tTup, rRep, rIn, tDNewT, tDNotIn, sDPut, iZip, rInLL, rIndexLL, rMaxLL, rSortSet, rLenSet, rRemove, rSortedLL, rGeL, rEqLL, iRngD, rExtend, rPop]
          rw [ep]
          refine ⟨_, rfl, _, rfl, _, _, rfl, rfl, _, rfl, n - (i + 1), i + 1, congrArg (fun z => [V.int z, V.int ((i + 1 : Nat) : Int)]) en, by omega, by omega, by omega, fun q H4 vs hq s4 e4 L4 k4 => ?_⟩
          have vl : vs.length ≤ 262144 := by rw [L4.len]; exact Nat.le_trans (up_len (by omega)) (pow18 (by omega))
          have nq : fd ≠ q := ne_of_none e3 hq
          refine ⟨q, rfl, ⟨_, SqL.of e4⟩, for_list (xs := vs.map V.ref) (fun j σ H' => H' q = some (.lst (vs.map V.ref)) ∧ Lists H' vs (allBy gU f (n - (i + 1)) (i + 1)) ∧ wAll2 f n m i fd H1 (allBy gU f (n - (i + 1)) (i + 1)) j σ H') ⟨e4, L4, us, _, rfl, s3.trans s4, s4 _ _ e3, by simpa using L3.mono s4, k3⟩ (fun j σ H' _ z => SqL.of z.1) ?_ ?_⟩
          · rintro j x σ H5 hx ⟨e5, Lv, ws, o2, rfl, s5, f5, L5, k5⟩
            obtain ⟨jl, rfl⟩ : ∃ h : j < vs.length, x = .ref vs[j] := by
              have h := (List.getElem?_eq_some_iff.mp hx).1
              refine ⟨by simpa using h, ?_⟩
              have h' : j < vs.length := by simpa using h
              simpa [h'] using hx.symm
            have jq : j < (allBy gU f (n - (i + 1)) (i + 1)).length := by rw [← L4.len]; exact jl
            have er := Lv.at_ j vs[j] _ (by simp [jl]) (List.getElem?_eq_getElem jq)
            have il := all_len goes_up _ _ _ _ (by omega) (List.getElem_mem jq)
            simp only [tSeq, tRet, tRetN, tNext, tOp, tUn, tVar, tC, tAsg, gName, tIfS, tTest, tB, tNot, tNotV, tOr, tAnd, tAndV, tOrV, tChain, tCB, tCall, tCons, tNil, tLst, tDrop, tBM, tBM0, tSl, tNoPart, tPart, gSub, rI, rI0, rU, rIxL, cxOf, cxC, rEq, rNe, rEqL, rNeL, scal, L2.start, tComp, iList, iRng1, iRng2, iEnum, tYes, stC, List.map_cons, List.map_nil, List.cons_append, List.nil_append, List.append_nil, List.length_cons, List.length_nil, List.replicate_succ, List.replicate_zero, List.set_cons_zero, List.set_cons_succ, List.getElem?_cons_zero, List.getElem?_cons_succ, Option.some.injEq, List.cons.injEq, V.int.injEq, V.ref.injEq, V.bl.injEq, exists_eq_left, exists_eq_left', exists_and_left, true_and, and_true, Option.join_some, Option.join_none, Nat.reduceAdd, Nat.reduceSub, Nat.sub_self, Nat.sub_zero, List.length_map, Int.toNat_natCast, rSlL, rCat, rAppend, rReverse, rClear, rCount, rIndex, tTup, rRep, rIn, tDNewT, tDNotIn, sDPut, iZip, rInLL, rIndexLL, rMaxLL, rSortSet, rLenSet, rRemove, rSortedLL, rGeL, rEqLL, iRngD, rExtend, rPop]
            have wl : ws.length ≤ 524288 := by
              rw [L5.len, List.length_append, List.length_map]
              have z1 := pl i (by omega)
              have z2 : ((allBy gU f (n - (i + 1)) (i + 1)).take j).length ≤ 262144 := by rw [List.length_take, ← L4.len]; omega
              omega
            refine ⟨.inl ⟨rfl, _, SqL.of f5⟩, by decide, fun a ha => ⟨_, upd_same, _, Same.put ha _ _ er, by rw [List.length_map, sizeLine_eq]; simp only [List.length_cons, List.length_nil]; omega, fun b hb => ?_⟩⟩
            have s6 := (Same.put (o := .lst [V.int ((i + 1 : Nat) : Int)]) ha).put' (o := .lst ([V.int ((i + 1 : Nat) : Int)] ++ ((allBy gU f (n - (i + 1)) (i + 1))[j]).map V.int)) hb
            have nb : b ≠ fd := (ne_of_none (Same.put ha _ _ f5) hb).symm
            have fb : H5 b = none := (Same.put ha).free hb
            refine ⟨_, s6 _ _ f5, by rw [List.length_map, sizeLine_eq]; omega, ?_⟩
            have nqf : q ≠ fd := nq.symm
            refine ⟨by rw [upd_ne nqf]; exact s6 _ _ e5, (Lv.mono s6).off fun r hr1 o e => ?_, ws ++ [b], _, rfl, fun c u e => ?_, by rw [upd_same, List.map_append]; rfl, ?_, fun u hu => ?_⟩
            · have nr : r ≠ fd := fun z => by
                have := (k4 r hr1).1
                rw [z, e3] at this; cases this
              rw [upd_ne nr]; exact e
            · rw [upd_ne (ne_of_none e f2)]; exact s6 _ _ (s5 _ _ e)
            · rw [List.take_add_one, List.getElem?_eq_getElem jq, List.map_append, ← List.append_assoc]
              refine Lists.app ((L5.mono s6).off fun r hr1 o e => ?_) (Lists.snoc (rs := []) (qss := []) Lists.nil ?_)
              · rw [upd_ne (k5 r hr1).2]; exact e
              · rw [upd_ne nb, upd_same, List.map_cons]; rfl
            · rcases List.mem_append.mp hu with z | z
              · exact k5 u z
              · rw [List.mem_singleton.mp z]; exact ⟨s5.free fb, nb⟩
          · rintro σ H5 ⟨e5, Lv, ws, o2, rfl, s5, f5, L5, k5⟩
            refine ⟨ws, _, _, rfl, f2, s5, f5, ?_, k5⟩
            rw [allPre_succ]
            rw [List.take_of_length_le (by rw [List.length_map, L4.len]; exact Nat.le_refl _)] at L5
            exact L5
        · rintro σ H' z
          rw [show (((min n m : Nat) : Int) + 1 - 1).toNat = min n m by omega] at z
          exact hR _ _ z
      rintro σ3 H3 ⟨us, o, o2, rfl, _, s3, e3, L3, k3⟩
      simp only [tSeq, tRet, tRetN, tNext, tOp, tUn, tVar, tC, tAsg, gName, tIfS, tTest, tB, tNot, tNotV, tOr, tAnd, tAndV, tOrV, tChain, tCB, tCall, tCons, tNil, tLst, tDrop, tBM, tBM0, tSl, tNoPart, tPart, gSub, rI, rI0, rU, rIxL, cxOf, cxC, rEq, rNe, rEqL, rNeL, scal, L2.start, tComp, iList, iRng1, iRng2, iEnum, tYes, stC, List.map_cons, List.map_nil, List.cons_append, List.nil_append, List.append_nil, List.length_cons, List.length_nil, List.replicate_succ, List.replicate_zero, List.set_cons_zero, List.set_cons_succ, List.getElem?_cons_zero, List.getElem?_cons_succ, Option.some.injEq, List.cons.injEq, V.int.injEq, V.ref.injEq, V.bl.injEq, exists_eq_left, exists_eq_left', exists_and_left, true_and, and_true, Option.join_some, Option.join_none, Nat.reduceAdd, Nat.reduceSub, Nat.sub_self, Nat.sub_zero, List.length_map, Int.toNat_natCast, rSlL, rCat, rAppend, rReverse, rClear, rCount, rIndex, tTup, rRep, rIn, tDNewT, tDNotIn, sDPut, iZip, rInLL, rIndexLL, rMaxLL, rSortSet, rLenSet, rRemove, rSortedLL, rGeL, rEqLL, iRngD, rExtend, rPop]
      exact k fd H3 us f2 s3 e3 (by rw [allBy_eq n0]; exact L3) k3
end
theorem op_eqLK {X : Cx} {K : PySem.W.Frag} (e : X.K = K) (hu : X.A.units + 64 < cLine) : OpR X (compareOp .Eq) (rEqL K) := by subst e; exact op_eqL hu
/-- what is due: of all settings those whose next one it is, rising -/
theorem due_el {n : Nat} {ps : List Int} {tss uss : List (List Int)} {f : Nat} (hf : n < f) (n0 : 1 ≤ n) (st : Setting n ps) (el : IsEl ps tss) (hp : uss.Perm ((allBy gU f n n).filter fun q => decide (turn q = ps))) (so : uss.Pairwise fun a b => LC.lexLt b a = false) : uss = tss := by
  have nd : uss.Nodup := hp.nodup_iff.mpr ((nodup_all goes_up f n n).sublist List.filter_sublist)
  refine LC.lex_eq (perm_of_mem nd (el.nodup st) fun q => ?_) so el.sorted
  rw [hp.mem_iff, List.mem_filter, mem_all goes_up f n n q hf, Sm.setting, decide_eq_true_eq]
  exact (el.mem st (by omega)).symm
theorem few_due {n : Nat} {ps : List Int} {tss : List (List Int)} {f : Nat} (hf : n < f) (n0 : 1 ≤ n) (st : Setting n ps) (el : IsEl ps tss) : ((allBy gU f n n).filter fun q => decide (turn q = ps)).length = tss.length := by
  have nd : ((allBy gU f n n).filter fun q => decide (turn q = ps)).Nodup := (nodup_all goes_up f n n).sublist List.filter_sublist
  refine (perm_of_mem nd (el.nodup st) fun q => ?_).length_eq
  rw [List.mem_filter, mem_all goes_up f n n q hf, Sm.setting, decide_eq_true_eq]
  exact (el.mem st (by omega)).symm
theorem few_all : ((List.range 10).all fun n => Nat.blt (dn 10 n n).length 64) = true := by decide +kernel
theorem few_dn {n : Nat} (h : n ≤ 9) : (allBy gU 10 n n).length < 64 := by
  rw [(up_perm (show n < 10 by omega)).length_eq]
  have z := List.all_eq_true.mp few_all n (List.mem_range.mpr (by omega))
  exact Nat.le_of_ble_eq_true z
section
variable {P : Program} {w : World} {K : PySem.W.Frag} {mg : Str → Option Value} {base : Heap} {uM : UM}
theorem d_law {f : Addr} {fd : FuncData} (D : Fun K "law" "law" s_law f fd) (T : Txt K mg uM) (D__law_setting : OkD P w K mg base 3 "_law_setting" ["script", "k", "coins"] (spSetting K)) (D__law_cell : OkD P w K mg base 1 "_law_cell" ["script", "k"] (spCell K))
    (D__law_turned : OkD P w K mg base 2 "_law_turned" ["piles"] (spTurned K)) (D_elders_of : OkD P w K mg base 3 "elders_of" ["piles"] (spElders K)) (D__law_all : OkD P w K mg base 11 "_law_all" ["coins", "most"] (spAll K 10))
    (D__law_lists_like : OkD P w K mg base 2 "_law_lists_like" ["found", "due"] (spLike K)) : FnOk P w K mg base CX0 12 f fd ["script"] (spLaw K) := by
  have SC := sc_law
  refine D.ok SC (fun vs H Q E h => ?_) (fun cdv A outer s H vs Q E hr h => ?_)
  · obtain ⟨a, ns, rfl, _⟩ := h; rfl
  · obtain ⟨a, ns, rfl, hS, hl, k⟩ := h
    have hu := hr.units
    have hu65 := hu65_of hr
    refine ⟨_, (pss_cons (ps_set (i := 1) SC.nd rfl (Or.inl rfl) (pe_op op_add pe_int (pe_op op_mod (pe_callD D__law_cell (hr.mono (by first | decide | omega)) rfl (pa_cons (pv 0) (pa_cons pe_int pa_nil))) pe_int)))
      (pss_cons (ps_set (i := 2) SC.nd rfl (Or.inr rfl) (pe_callD D__law_setting (hr.mono (by first | decide | omega)) rfl (pa_cons (pv 0) (pa_cons pe_int (pa_cons (pv 1) pa_nil)))))
      (pss_cons (ps_set (i := 3) SC.nd rfl (Or.inl rfl) (pe_callB (call_sortedLL hu65) rfl T.n_sorted PyProof.Rows.boot_sorted (pa_cons (pe_comp (own := ["one"]) (fr := ["piles"]) (ixs := [2]) rfl ⟨rfl, rfl, rfl, rfl, rfl, rfl, rfl⟩ ⟨fun _ _ _ _ => pg_name (i := 0) (by decide +kernel : (["one", "piles"] : List Str).Nodup) rfl (Or.inl rfl) (.inr rfl), fun _ _ _ _ => pts_one (pt_cmpR (op_eqLK (K := K) rfl hu) (pe_callD D__law_turned (hr.mono (by first | decide | omega)) rfl (pa_cons (pv 0) pa_nil)) (pv 1) (nomark _)), fun _ _ _ _ => (pv 0)⟩ (pi_list (pe_callD D__law_all (hr.mono (by first | decide | omega)) rfl (pa_cons (pv 1) (pa_cons (pv 1) pa_nil))))) pa_nil)))
      (pss_cons (ps_set (i := 4) SC.nd rfl (Or.inl rfl) (pe_callTy call_list_of rfl T.n_list PyProof.Rows.boot_list (pa_cons (pv 2) pa_nil)))
      (pss_cons (ps_set (i := 5) SC.nd rfl (Or.inl rfl) (pe_callD D_elders_of (hr.mono (by first | decide | omega)) rfl (pa_cons (pv 4) pa_nil)))
      (pss_cons (ps_if (PW.pt (pw_or (pt_not (pt_val (pe_callD D__law_lists_like (hr.mono (by first | decide | omega)) rfl (pa_cons (pv 5) (pa_cons (pv 3) pa_nil))))) (pw_or1 (pt_cmpR (op_neL hu) (pv 4) (pv 2) (nomark _))))) (pss_one (ps_ret pe_bl)) pss_nil)
      (pss_cons (ps_expr (pe_bm PySem.F.plainAttrs_list PySem.F.slot_list_append PySem.F.type_list_append mt_append (pv 5) (pa_consL (pe_lst (pa_cons pe_int pa_nil)) pa_nil)))
      (pss_cons (ps_if (pt_cmpR op_gt (pe_callB call_len_seq rfl T.n_len PySem.boot_len (pa_cons (pv 5) pa_nil)) pe_int (nomark _)) (pss_one (ps_expr (pe_bm PySem.F.plainAttrs_list PySem.F.slot_list_append PySem.F.type_list_append mt_append (pe_ix ix_list (pv 5) pe_int (fun _ _ => rfl)) (pa_cons pe_int pa_nil)))) pss_nil)
      (pss_one (ps_ret (pe_callD D__law_lists_like (hr.mono (by first | decide | omega)) rfl (pa_cons (pe_callD D_elders_of (hr.mono (by first | decide | omega)) rfl (pa_cons (pv 4) pa_nil)) (pa_cons (pv 3) pa_nil))))))))))))), ?_⟩
    refine cut (fun σ H' => ∃ n : Nat, σ = [some (.ref a), some (.int n), none, none, none, none] ∧ H' = H ∧ 1 ≤ n ∧ n ≤ 9) (fun R hR => ?_) ?_
    · simp only [tSeq, tRet, tRetN, tNext, tOp, tUn, tVar, tC, tAsg, gName, tIfS, tTest, tB, tNot, tNotV, tOr, tAnd, tAndV, tOrV, tChain, tCB, tCall, tCons, tNil, tLst, tDrop, tBM, tBM0, tSl, tNoPart, tPart, gSub, rI, rI0, rU, rIxL, cxOf, cxC, rEq, rNe, rEqL, rNeL, scal, L2.start, tComp, iList, iRng1, iRng2, iEnum, tYes, stC, List.map_cons, List.map_nil, List.cons_append, List.nil_append, List.append_nil, List.length_cons, List.length_nil, List.replicate_succ, List.replicate_zero, List.set_cons_zero, List.set_cons_succ, List.getElem?_cons_zero, List.getElem?_cons_succ, Option.some.injEq, List.cons.injEq, V.int.injEq, V.ref.injEq, V.bl.injEq, exists_eq_left, exists_eq_left', exists_and_left, true_and, and_true, Option.join_some, Option.join_none, Nat.reduceAdd, Nat.reduceSub, Nat.sub_self, Nat.sub_zero, List.length_map, Int.toNat_natCast, rSlL, rCat, rAppend, rReverse, rClear, rCount, rIndex, tTup, rRep, rIn, tDNewT, tDNotIn, sDPut, iZip, rInLL, rIndexLL, rMaxLL, rSortSet, rLenSet, rRemove, rSortedLL, rGeL, rEqLL, iRngD, rExtend, rPop]
      refine ⟨a, ns, 0, rfl, hS, hl, by decide, by decide, fun v => ⟨_, rfl, by decide, ?_⟩⟩
      have w0 := Int.emod_nonneg v (show (9 : Int) ≠ 0 by decide)
      have w1 := Int.emod_lt_of_pos v (show (0 : Int) < 9 by decide)
      refine hR _ _ ⟨(1 + v % 9).toNat, ?_, rfl, by omega, by omega⟩
      rw [Int.toNat_of_nonneg (by omega)]
    rintro σ0 H0 ⟨n, rfl, rfl, n0, n1⟩
    refine cut (fun σ H' => ∃ p qs, σ = [some (.ref a), some (.int n), some (.ref p), none, none, none] ∧ H' p = some (.lst (qs.map V.int)) ∧ Setting n qs) (fun R hR => ?_) ?_
    · simp only [tSeq, tRet, tRetN, tNext, tOp, tUn, tVar, tC, tAsg, gName, tIfS, tTest, tB, tNot, tNotV, tOr, tAnd, tAndV, tOrV, tChain, tCB, tCall, tCons, tNil, tLst, tDrop, tBM, tBM0, tSl, tNoPart, tPart, gSub, rI, rI0, rU, rIxL, cxOf, cxC, rEq, rNe, rEqL, rNeL, scal, L2.start, tComp, iList, iRng1, iRng2, iEnum, tYes, stC, List.map_cons, List.map_nil, List.cons_append, List.nil_append, List.append_nil, List.length_cons, List.length_nil, List.replicate_succ, List.replicate_zero, List.set_cons_zero, List.set_cons_succ, List.getElem?_cons_zero, List.getElem?_cons_succ, Option.some.injEq, List.cons.injEq, V.int.injEq, V.ref.injEq, V.bl.injEq, exists_eq_left, exists_eq_left', exists_and_left, true_and, and_true, Option.join_some, Option.join_none, Nat.reduceAdd, Nat.reduceSub, Nat.sub_self, Nat.sub_zero, List.length_map, Int.toNat_natCast, rSlL, rCat, rAppend, rReverse, rClear, rCount, rIndex, tTup, rRep, rIn, tDNewT, tDNotIn, sDPut, iZip, rInLL, rIndexLL, rMaxLL, rSortSet, rLenSet, rRemove, rSortedLL, rGeL, rEqLL, iRngD, rExtend, rPop]
      exact ⟨a, ns, 1, n, rfl, hS, hl, by decide, by decide, by omega, by omega, fun p H' qs sm hq st => hR _ _ ⟨p, qs, rfl, hq, st⟩⟩
    rintro σ1 H1 ⟨p, qs, rfl, ep, st⟩
    have ql := st.len
    refine cut (fun σ H' => ∃ du us uss, σ = [some (.ref a), some (.int n), some (.ref p), some (.ref du), none, none] ∧ Same H1 H' ∧ H' du = some (.lst (us.map V.ref)) ∧ Lists H' us uss ∧ uss.Perm ((allBy gU 10 n n).filter fun q => decide (turn q = qs)) ∧ uss.Pairwise fun a b => LC.lexLt b a = false) (fun R hR => ?_) ?_
    · simp only [tSeq, tRet, tRetN, tNext, tOp, tUn, tVar, tC, tAsg, gName, tIfS, tTest, tB, tNot, tNotV, tOr, tAnd, tAndV, tOrV, tChain, tCB, tCall, tCons, tNil, tLst, tDrop, tBM, tBM0, tSl, tNoPart, tPart, gSub, rI, rI0, rU, rIxL, cxOf, cxC, rEq, rNe, rEqL, rNeL, scal, L2.start, tComp, iList, iRng1, iRng2, iEnum, tYes, stC, List.map_cons, List.map_nil, List.cons_append, List.nil_append, List.append_nil, List.length_cons, List.length_nil, List.replicate_succ, List.replicate_zero, List.set_cons_zero, List.set_cons_succ, List.getElem?_cons_zero, List.getElem?_cons_succ, Option.some.injEq, List.cons.injEq, V.int.injEq, V.ref.injEq, V.bl.injEq, exists_eq_left, exists_eq_left', exists_and_left, true_and, and_true, Option.join_some, Option.join_none, Nat.reduceAdd, Nat.reduceSub, Nat.sub_self, Nat.sub_zero, List.length_map, Int.toNat_natCast, rSlL, rCat, rAppend, rReverse, rClear, rCount, rIndex, tTup, rRep, rIn, tDNewT, tDNotIn, sDPut, iZip, rInLL, rIndexLL, rMaxLL, rSortSet, rLenSet, rRemove, rSortedLL, rGeL, rEqLL, iRngD, rExtend, rPop]
      refine ⟨n, n, rfl, by omega, by omega, by omega, fun q H3 vs hq s3 e3 L3 _ => ?_⟩
      refine ⟨q, rfl, ⟨_, SqL.of e3⟩, fun D1 hD1 => ?_⟩
      have vl : vs.length < 64 := by rw [L3.len]; exact few_dn n1
      refine comp_relL (K := K) (vs.map V.ref) (fun x => decide (turn (cont H3 x) = qs)) (fun x v _ => v = x) _ (small1000 (by rw [List.length_map]; omega)) (SqL.of e3) hD1 (fun x hx H' Q' sm _ q => ?_) (fun x hx hp H' Q' sm _ q => ?_) (fun x v H1 H2 e _ => e) fun H4 ws s4 pr e4 => ?_
      · obtain ⟨r, hr1, rfl⟩ := List.mem_map.mp hx
        obtain ⟨t, ht, et⟩ := L3.mem hr1
        have stt : Setting n t := Sm.setting.mp ((mem_all goes_up 10 n n t (by omega)).mp ht)
        simp only [tSeq, tRet, tRetN, tNext, tOp, tUn, tVar, tC, tAsg, gName, tIfS, tTest, tB, tNot, tNotV, tOr, tAnd, tAndV, tOrV, tChain, tCB, tCall, tCons, tNil, tLst, tDrop, tBM, tBM0, tSl, tNoPart, tPart, gSub, rI, rI0, rU, rIxL, cxOf, cxC, rEq, rNe, rEqL, rNeL, scal, L2.start, tComp, iList, iRng1, iRng2, iEnum, tYes, stC, List.map_cons, List.map_nil, List.cons_append, List.nil_append, List.append_nil, List.length_cons, List.length_nil, List.replicate_succ, List.replicate_zero, List.set_cons_zero, List.set_cons_succ, List.getElem?_cons_zero, List.getElem?_cons_succ, Option.some.injEq, List.cons.injEq, V.int.injEq, V.ref.injEq, V.bl.injEq, exists_eq_left, exists_eq_left', exists_and_left, true_and, and_true, Option.join_some, Option.join_none, Nat.reduceAdd, Nat.reduceSub, Nat.sub_self, Nat.sub_zero, List.length_map, Int.toNat_natCast, rSlL, rCat, rAppend, rReverse, rClear, rCount, rIndex, tTup, rRep, rIn, tDNewT, tDNotIn, sDPut, iZip, rInLL, rIndexLL, rMaxLL, rSortSet, rLenSet, rRemove, rSortedLL, rGeL, rEqLL, iRngD, rExtend, rPop]
        rw [cont_of et] at q
        refine ⟨r, t, n, rfl, SqL.of (sm _ _ et), stt, by omega, by omega, fun g H5 hg s5 e5 => ?_⟩
        exact ⟨g, rfl, _, SqL.of e5, qs, SqL.of (s5 _ _ (sm _ _ (s3 _ _ ep))), q _ s5⟩
      · simp only [tSeq, tRet, tRetN, tNext, tOp, tUn, tVar, tC, tAsg, gName, tIfS, tTest, tB, tNot, tNotV, tOr, tAnd, tAndV, tOrV, tChain, tCB, tCall, tCons, tNil, tLst, tDrop, tBM, tBM0, tSl, tNoPart, tPart, gSub, rI, rI0, rU, rIxL, cxOf, cxC, rEq, rNe, rEqL, rNeL, scal, L2.start, tComp, iList, iRng1, iRng2, iEnum, tYes, stC, List.map_cons, List.map_nil, List.cons_append, List.nil_append, List.append_nil, List.length_cons, List.length_nil, List.replicate_succ, List.replicate_zero, List.set_cons_zero, List.set_cons_succ, List.getElem?_cons_zero, List.getElem?_cons_succ, Option.some.injEq, List.cons.injEq, V.int.injEq, V.ref.injEq, V.bl.injEq, exists_eq_left, exists_eq_left', exists_and_left, true_and, and_true, Option.join_some, Option.join_none, Nat.reduceAdd, Nat.reduceSub, Nat.sub_self, Nat.sub_zero, List.length_map, Int.toNat_natCast, rSlL, rCat, rAppend, rReverse, rClear, rCount, rIndex, tTup, rRep, rIn, tDNewT, tDNotIn, sDPut, iZip, rInLL, rIndexLL, rMaxLL, rSortSet, rLenSet, rRemove, rSortedLL, rGeL, rEqLL, iRngD, rExtend, rPop]
        exact q _ _ (Same.refl _) rfl
      · have ew : ws = (vs.map V.ref).filter fun x => decide (turn (cont H3 x) = qs) := by
          have z := paired_eq (f := fun x : V => x) pr
          rw [List.map_id'] at z; exact z
        have fil : ∀ {rs : List Addr} {ts : List (List Int)}, Lists H3 rs ts → ∃ rs', (rs.map V.ref).filter (fun x => decide (turn (cont H3 x) = qs)) = rs'.map V.ref ∧ Lists H3 rs' (ts.filter fun q => decide (turn q = qs)) ∧ rs'.length ≤ rs.length := fun {rs ts} L => by
          induction rs generalizing ts with
          | nil =>
            cases ts with
            | nil => exact ⟨[], rfl, Lists.nil, Nat.le_refl _⟩
            | cons _ _ => have := L.len; simp at this
          | cons r rs ih =>
            cases ts with
            | nil => have := L.len; simp at this
            | cons t ts =>
              obtain ⟨h1, h2⟩ := L.tail
              obtain ⟨rs', a1, a2, a3⟩ := ih h2
              rw [List.map_cons, List.filter_cons, List.filter_cons, cont_of h1, a1]
              by_cases c : turn t = qs
              · rw [if_pos (decide_eq_true c), if_pos (decide_eq_true c)]
                exact ⟨r :: rs', rfl, Lists.cons h1 a2, by simp; exact a3⟩
              · rw [if_neg (by simpa using c), if_neg (by simpa using c)]
                exact ⟨rs', rfl, a2, by simp; omega⟩
        obtain ⟨rs', b1, b2, b3⟩ := fil L3
        rw [ew, b1] at e4
        refine ⟨D1, rfl, rs', SqL.of e4, _, b2.mono s4, by omega, fun g us tss hg pm L5 pt so => hR _ _ ⟨g, us, tss, rfl, (s3.trans s4).put' hg, upd_same, L5.mono (Same.put hg), pt, so⟩⟩
    rintro σ2 H2 ⟨du, us, uss, rfl, s2, e2, L2', pu, so⟩
    have ep2 := s2 _ _ ep
    refine cut (fun σ H' => ∃ h, σ = [some (.ref a), some (.int n), some (.ref p), some (.ref du), some (.ref h), none] ∧ Same H2 H' ∧ H2 h = none ∧ H' h = some (.lst (qs.map V.int))) (fun R hR => ?_) ?_
    · simp only [tSeq, tRet, tRetN, tNext, tOp, tUn, tVar, tC, tAsg, gName, tIfS, tTest, tB, tNot, tNotV, tOr, tAnd, tAndV, tOrV, tChain, tCB, tCall, tCons, tNil, tLst, tDrop, tBM, tBM0, tSl, tNoPart, tPart, gSub, rI, rI0, rU, rIxL, cxOf, cxC, rEq, rNe, rEqL, rNeL, scal, L2.start, tComp, iList, iRng1, iRng2, iEnum, tYes, stC, List.map_cons, List.map_nil, List.cons_append, List.nil_append, List.append_nil, List.length_cons, List.length_nil, List.replicate_succ, List.replicate_zero, List.set_cons_zero, List.set_cons_succ, List.getElem?_cons_zero, List.getElem?_cons_succ, Option.some.injEq, List.cons.injEq, V.int.injEq, V.ref.injEq, V.bl.injEq, exists_eq_left, exists_eq_left', exists_and_left, true_and, and_true, Option.join_some, Option.join_none, Nat.reduceAdd, Nat.reduceSub, Nat.sub_self, Nat.sub_zero, List.length_map, Int.toNat_natCast, rSlL, rCat, rAppend, rReverse, rClear, rCount, rIndex, tTup, rRep, rIn, tDNewT, tDNotIn, sDPut, iZip, rInLL, rIndexLL, rMaxLL, rSortSet, rLenSet, rRemove, rSortedLL, rGeL, rEqLL, iRngD, rExtend, rPop]
      exact ⟨_, .inl (SqL.of ep2), fun h hh => hR _ _ ⟨h, rfl, Same.put hh, hh, upd_same⟩⟩
    rintro σ3 H3 ⟨h, rfl, s3, f3, eh⟩
    have ep3 := s3 _ _ ep2
    have ed3 := s3 _ _ e2
    refine cut (fun σ H' => ∃ f vs tss, σ = [some (.ref a), some (.int n), some (.ref p), some (.ref du), some (.ref h), some (.ref f)] ∧ Same H3 H' ∧ H3 f = none ∧ H' f = some (.lst (vs.map V.ref)) ∧ Lists H' vs tss ∧ IsEl qs tss ∧ tss.length < 64 ∧ ∀ u ∈ vs, H3 u = none ∧ u ≠ f) (fun R hR => ?_) ?_
    · simp only [tSeq, tRet, tRetN, tNext, tOp, tUn, tVar, tC, tAsg, gName, tIfS, tTest, tB, tNot, tNotV, tOr, tAnd, tAndV, tOrV, tChain, tCB, tCall, tCons, tNil, tLst, tDrop, tBM, tBM0, tSl, tNoPart, tPart, gSub, rI, rI0, rU, rIxL, cxOf, cxC, rEq, rNe, rEqL, rNeL, scal, L2.start, tComp, iList, iRng1, iRng2, iEnum, tYes, stC, List.map_cons, List.map_nil, List.cons_append, List.nil_append, List.append_nil, List.length_cons, List.length_nil, List.replicate_succ, List.replicate_zero, List.set_cons_zero, List.set_cons_succ, List.getElem?_cons_zero, List.getElem?_cons_succ, Option.some.injEq, List.cons.injEq, V.int.injEq, V.ref.injEq, V.bl.injEq, exists_eq_left, exists_eq_left', exists_and_left, true_and, and_true, Option.join_some, Option.join_none, Nat.reduceAdd, Nat.reduceSub, Nat.sub_self, Nat.sub_zero, List.length_map, Int.toNat_natCast, rSlL, rCat, rAppend, rReverse, rClear, rCount, rIndex, tTup, rRep, rIn, tDNewT, tDNotIn, sDPut, iZip, rInLL, rIndexLL, rMaxLL, rSortSet, rLenSet, rRemove, rSortedLL, rGeL, rEqLL, iRngD, rExtend, rPop]
      exact ⟨h, qs, n, rfl, SqL.of eh, st, by omega, by omega, fun f H' us tss hf s e L el tl ku => hR _ _ ⟨f, us, tss, rfl, s, hf, e, L, el, tl, ku⟩⟩
    rintro σ4 H4 ⟨f, vs, tss, rfl, s4, f4, e4, L4, el, tl, ku⟩
    have eu := due_el (by omega) n0 st el pu so
    subst eu
    have ed4 := s4 _ _ ed3
    have Ld4 := (L2'.mono s3).mono s4
    have small : ∀ q ∈ uss, q.length ≤ 1000 := fun q hq => by
      have := ((el.mem st (by omega)).mp hq).1.len
      omega
    have vl := L4.len
    refine cut (fun σ H' => σ = [some (.ref a), some (.int n), some (.ref p), some (.ref du), some (.ref h), some (.ref f)] ∧ Same H4 H') (fun R hR => ?_) ?_
    · simp only [tSeq, tRet, tRetN, tNext, tOp, tUn, tVar, tC, tAsg, gName, tIfS, tTest, tB, tNot, tNotV, tOr, tAnd, tAndV, tOrV, tChain, tCB, tCall, tCons, tNil, tLst, tDrop, tBM, tBM0, tSl, tNoPart, tPart, gSub, rI, rI0, rU, rIxL, cxOf, cxC, rEq, rNe, rEqL, rNeL, scal, L2.start, tComp, iList, iRng1, iRng2, iEnum, tYes, stC, List.map_cons, List.map_nil, List.cons_append, List.nil_append, List.append_nil, List.length_cons, List.length_nil, List.replicate_succ, List.replicate_zero, List.set_cons_zero, List.set_cons_succ, List.getElem?_cons_zero, List.getElem?_cons_succ, Option.some.injEq, List.cons.injEq, V.int.injEq, V.ref.injEq, V.bl.injEq, exists_eq_left, exists_eq_left', exists_and_left, true_and, and_true, Option.join_some, Option.join_none, Nat.reduceAdd, Nat.reduceSub, Nat.sub_self, Nat.sub_zero, List.length_map, Int.toNat_natCast, rSlL, rCat, rAppend, rReverse, rClear, rCount, rIndex, tTup, rRep, rIn, tDNewT, tDNotIn, sDPut, iZip, rInLL, rIndexLL, rMaxLL, rSortSet, rLenSet, rRemove, rSortedLL, rGeL, rEqLL, iRngD, rExtend, rPop]
      refine ⟨f, du, vs, us, uss, rfl, e4, ed4, L4, Ld4, small, fun H5 s5 => ⟨true, rfl, ?_⟩⟩
      rw [if_neg (by decide)]
      refine ⟨qs, SqL.of (s5 _ _ (s4 _ _ eh)), qs, SqL.of (s5 _ _ (s4 _ _ ep3)), ?_⟩
      rw [if_neg (by simp)]
      exact hR _ _ ⟨rfl, s5⟩
    rintro σ5 H5 ⟨rfl, s5⟩
    have e5 := s5 _ _ e4
    have L5 := L4.mono s5
    have s35 := s4.trans s5
    -- what was told is changed
    refine cut (fun σ H' => σ = [some (.ref a), some (.int n), some (.ref p), some (.ref du), some (.ref h), some (.ref f)] ∧ Same H3 H' ∧ ∃ z, H' f = some (.lst ((vs ++ [z]).map V.ref)) ∧ ∀ u ∈ vs, ∃ xs, H' u = some (.lst xs) ∧ xs.length ≤ 1000) (fun R hR => ?_) ?_
    · simp only [tSeq, tRet, tRetN, tNext, tOp, tUn, tVar, tC, tAsg, gName, tIfS, tTest, tB, tNot, tNotV, tOr, tAnd, tAndV, tOrV, tChain, tCB, tCall, tCons, tNil, tLst, tDrop, tBM, tBM0, tSl, tNoPart, tPart, gSub, rI, rI0, rU, rIxL, cxOf, cxC, rEq, rNe, rEqL, rNeL, scal, L2.start, tComp, iList, iRng1, iRng2, iEnum, tYes, stC, List.map_cons, List.map_nil, List.cons_append, List.nil_append, List.append_nil, List.length_cons, List.length_nil, List.replicate_succ, List.replicate_zero, List.set_cons_zero, List.set_cons_succ, List.getElem?_cons_zero, List.getElem?_cons_succ, Option.some.injEq, List.cons.injEq, V.int.injEq, V.ref.injEq, V.bl.injEq, exists_eq_left, exists_eq_left', exists_and_left, true_and, and_true, Option.join_some, Option.join_none, Nat.reduceAdd, Nat.reduceSub, Nat.sub_self, Nat.sub_zero, List.length_map, Int.toNat_natCast, rSlL, rCat, rAppend, rReverse, rClear, rCount, rIndex, tTup, rRep, rIn, tDNewT, tDNotIn, sDPut, iZip, rInLL, rIndexLL, rMaxLL, rSortSet, rLenSet, rRemove, rSortedLL, rGeL, rEqLL, iRngD, rExtend, rPop]
      refine ⟨.inl ⟨rfl, _, SqL.of e5⟩, by decide, fun z hz => ⟨_, Same.put hz _ _ e5, by rw [List.length_map, sizeLine_eq]; omega, hR _ _ ⟨rfl, fun b u e => ?_, z, by rw [upd_same, List.map_append]; rfl, fun u hu => ?_⟩⟩⟩
      · rw [upd_ne (ne_of_none e f4)]; exact Same.put hz _ _ (s35 _ _ e)
      · obtain ⟨q, hq, eu⟩ := L5.mem hu
        rw [upd_ne (ku u hu).2]
        exact ⟨_, Same.put hz _ _ eu, by rw [List.length_map]; exact small q hq⟩
    rintro σ6 H6 ⟨rfl, s6, z, e6, x6⟩
    refine cut (fun σ H' => σ = [some (.ref a), some (.int n), some (.ref p), some (.ref du), some (.ref h), some (.ref f)] ∧ Same H3 H') (fun R hR => ?_) ?_
    · simp only [tSeq, tRet, tRetN, tNext, tOp, tUn, tVar, tC, tAsg, gName, tIfS, tTest, tB, tNot, tNotV, tOr, tAnd, tAndV, tOrV, tChain, tCB, tCall, tCons, tNil, tLst, tDrop, tBM, tBM0, tSl, tNoPart, tPart, gSub, rI, rI0, rU, rIxL, cxOf, cxC, rEq, rNe, rEqL, rNeL, scal, L2.start, tComp, iList, iRng1, iRng2, iEnum, tYes, stC, List.map_cons, List.map_nil, List.cons_append, List.nil_append, List.append_nil, List.length_cons, List.length_nil, List.replicate_succ, List.replicate_zero, List.set_cons_zero, List.set_cons_succ, List.getElem?_cons_zero, List.getElem?_cons_succ, Option.some.injEq, List.cons.injEq, V.int.injEq, V.ref.injEq, V.bl.injEq, exists_eq_left, exists_eq_left', exists_and_left, true_and, and_true, Option.join_some, Option.join_none, Nat.reduceAdd, Nat.reduceSub, Nat.sub_self, Nat.sub_zero, List.length_map, Int.toNat_natCast, rSlL, rCat, rAppend, rReverse, rClear, rCount, rIndex, tTup, rRep, rIn, tDNewT, tDNotIn, sDPut, iZip, rInLL, rIndexLL, rMaxLL, rSortSet, rLenSet, rRemove, rSortedLL, rGeL, rEqLL, iRngD, rExtend, rPop]
      refine ⟨_, .inl (SqL.of e6), ite2 (fun c => ?_) fun c => hR _ _ ⟨rfl, s6⟩⟩
      have c : (1 : Int) < (vs.length : Int) + 1 := by simpa using c
      obtain ⟨u0, vr, rfl⟩ : ∃ u0 vr, vs = u0 :: vr := by
        cases vs with
        | nil => simp at c
        | cons x r => exact ⟨x, r, rfl⟩
      obtain ⟨xs, ex, xl⟩ := x6 u0 (by simp)
      refine ⟨_, SqL.of e6, .ref u0, at0_cons _ _, .inl ⟨rfl, _, SqL.of ex⟩, u0, rfl, _, ex, by rw [sizeLine_eq]; omega, hR _ _ ⟨rfl, fun b u e => ?_⟩⟩
      rw [upd_ne (ne_of_none e (ku u0 (by simp)).1)]; exact s6 _ _ e
    rintro σ7 H7 ⟨rfl, s7⟩
    simp only [tSeq, tRet, tRetN, tNext, tOp, tUn, tVar, tC, tAsg, gName, tIfS, tTest, tB, tNot, tNotV, tOr, tAnd, tAndV, tOrV, tChain, tCB, tCall, tCons, tNil, tLst, tDrop, tBM, tBM0, tSl, tNoPart, tPart, gSub, rI, rI0, rU, rIxL, cxOf, cxC, rEq, rNe, rEqL, rNeL, scal, L2.start, tComp, iList, iRng1, iRng2, iEnum, tYes, stC, List.map_cons, List.map_nil, List.cons_append, List.nil_append, List.append_nil, List.length_cons, List.length_nil, List.replicate_succ, List.replicate_zero, List.set_cons_zero, List.set_cons_succ, List.getElem?_cons_zero, List.getElem?_cons_succ, Option.some.injEq, List.cons.injEq, V.int.injEq, V.ref.injEq, V.bl.injEq, exists_eq_left, exists_eq_left', exists_and_left, true_and, and_true, Option.join_some, Option.join_none, Nat.reduceAdd, Nat.reduceSub, Nat.sub_self, Nat.sub_zero, List.length_map, Int.toNat_natCast, rSlL, rCat, rAppend, rReverse, rClear, rCount, rIndex, tTup, rRep, rIn, tDNewT, tDNotIn, sDPut, iZip, rInLL, rIndexLL, rMaxLL, rSortSet, rLenSet, rRemove, rSortedLL, rGeL, rEqLL, iRngD, rExtend, rPop]
    refine ⟨h, qs, n, rfl, SqL.of (s7 _ _ eh), st, by omega, by omega, fun g H8 ws wss hg s8 e8 L8 el8 _ _ => ?_⟩
    rw [el8.uniq el st (by omega)] at L8
    exact ⟨g, du, ws, us, uss, rfl, e8, s8 _ _ (s7 _ _ ed3), L8, ((L2'.mono s3).mono s7).mono s8, small, fun H9 _ => k _⟩
end
theorem all_mk {l : PySem.W.OpenLaw} {w : World} {K : PySem.W.Frag} {h : Heap} {mg : Str → Option Value} {fa : Addr} (X : K.In h) (G : h.Ns mainGlobals mg) (hfa : mg "law" = some (.ref fa))
    {f0 : Addr} {od0 an0 : Option Addr} {sl0 : Array (Option Value)} {oc0 kV0 dc0 pm0 cd0 ct0 : Value} (a0 : PySem.W.nsIn K mainGlobals "is_setting" = some (some (.ref f0))) (l0 : K.lookup f0 = some ⟨oc0, od0, .func (PySem.W.fnOf "is_setting" "is_setting" (defArgs s_is_setting) (defBody s_is_setting) (defScope s_is_setting) .none kV0 dc0 pm0 an0 cd0 ct0), sl0⟩) (c0 : PySem.W.codeIn K cd0 "is_setting" = true) (k0 : PySem.W.keepIn K (.ref f0) = true)
    {f1 : Addr} {od1 an1 : Option Addr} {sl1 : Array (Option Value)} {oc1 kV1 dc1 pm1 cd1 ct1 : Value} (a1 : PySem.W.nsIn K mainGlobals "check_setting" = some (some (.ref f1))) (l1 : K.lookup f1 = some ⟨oc1, od1, .func (PySem.W.fnOf "check_setting" "check_setting" (defArgs s_check_setting) (defBody s_check_setting) (defScope s_check_setting) .none kV1 dc1 pm1 an1 cd1 ct1), sl1⟩) (c1 : PySem.W.codeIn K cd1 "check_setting" = true) (k1 : PySem.W.keepIn K (.ref f1) = true)
    {f2 : Addr} {od2 an2 : Option Addr} {sl2 : Array (Option Value)} {oc2 kV2 dc2 pm2 cd2 ct2 : Value} (a2 : PySem.W.nsIn K mainGlobals "elders_of" = some (some (.ref f2))) (l2 : K.lookup f2 = some ⟨oc2, od2, .func (PySem.W.fnOf "elders_of" "elders_of" (defArgs s_elders_of) (defBody s_elders_of) (defScope s_elders_of) .none kV2 dc2 pm2 an2 cd2 ct2), sl2⟩) (c2 : PySem.W.codeIn K cd2 "elders_of" = true) (k2 : PySem.W.keepIn K (.ref f2) = true)
    {f3 : Addr} {od3 an3 : Option Addr} {sl3 : Array (Option Value)} {oc3 kV3 dc3 pm3 cd3 ct3 : Value} (a3 : PySem.W.nsIn K mainGlobals "elder_by" = some (some (.ref f3))) (l3 : K.lookup f3 = some ⟨oc3, od3, .func (PySem.W.fnOf "elder_by" "elder_by" (defArgs s_elder_by) (defBody s_elder_by) (defScope s_elder_by) .none kV3 dc3 pm3 an3 cd3 ct3), sl3⟩) (c3 : PySem.W.codeIn K cd3 "elder_by" = true) (k3 : PySem.W.keepIn K (.ref f3) = true)
    {f4 : Addr} {od4 an4 : Option Addr} {sl4 : Array (Option Value)} {oc4 kV4 dc4 pm4 cd4 ct4 : Value} (a4 : PySem.W.nsIn K mainGlobals "_law_cell" = some (some (.ref f4))) (l4 : K.lookup f4 = some ⟨oc4, od4, .func (PySem.W.fnOf "_law_cell" "_law_cell" (defArgs s__law_cell) (defBody s__law_cell) (defScope s__law_cell) .none kV4 dc4 pm4 an4 cd4 ct4), sl4⟩) (c4 : PySem.W.codeIn K cd4 "_law_cell" = true) (k4 : PySem.W.keepIn K (.ref f4) = true)
    {f5 : Addr} {od5 an5 : Option Addr} {sl5 : Array (Option Value)} {oc5 kV5 dc5 pm5 cd5 ct5 : Value} (a5 : PySem.W.nsIn K mainGlobals "_law_ints" = some (some (.ref f5))) (l5 : K.lookup f5 = some ⟨oc5, od5, .func (PySem.W.fnOf "_law_ints" "_law_ints" (defArgs s__law_ints) (defBody s__law_ints) (defScope s__law_ints) .none kV5 dc5 pm5 an5 cd5 ct5), sl5⟩) (c5 : PySem.W.codeIn K cd5 "_law_ints" = true) (k5 : PySem.W.keepIn K (.ref f5) = true)
    {f6 : Addr} {od6 an6 : Option Addr} {sl6 : Array (Option Value)} {oc6 kV6 dc6 pm6 cd6 ct6 : Value} (a6 : PySem.W.nsIn K mainGlobals "_law_lists_like" = some (some (.ref f6))) (l6 : K.lookup f6 = some ⟨oc6, od6, .func (PySem.W.fnOf "_law_lists_like" "_law_lists_like" (defArgs s__law_lists_like) (defBody s__law_lists_like) (defScope s__law_lists_like) .none kV6 dc6 pm6 an6 cd6 ct6), sl6⟩) (c6 : PySem.W.codeIn K cd6 "_law_lists_like" = true) (k6 : PySem.W.keepIn K (.ref f6) = true)
    {f7 : Addr} {od7 an7 : Option Addr} {sl7 : Array (Option Value)} {oc7 kV7 dc7 pm7 cd7 ct7 : Value} (a7 : PySem.W.nsIn K mainGlobals "_law_next" = some (some (.ref f7))) (l7 : K.lookup f7 = some ⟨oc7, od7, .func (PySem.W.fnOf "_law_next" "_law_next" (defArgs s__law_next) (defBody s__law_next) (defScope s__law_next) .none kV7 dc7 pm7 an7 cd7 ct7), sl7⟩) (c7 : PySem.W.codeIn K cd7 "_law_next" = true) (k7 : PySem.W.keepIn K (.ref f7) = true)
    {f8 : Addr} {od8 an8 : Option Addr} {sl8 : Array (Option Value)} {oc8 kV8 dc8 pm8 cd8 ct8 : Value} (a8 : PySem.W.nsIn K mainGlobals "_law_fallen" = some (some (.ref f8))) (l8 : K.lookup f8 = some ⟨oc8, od8, .func (PySem.W.fnOf "_law_fallen" "_law_fallen" (defArgs s__law_fallen) (defBody s__law_fallen) (defScope s__law_fallen) .none kV8 dc8 pm8 an8 cd8 ct8), sl8⟩) (c8 : PySem.W.codeIn K cd8 "_law_fallen" = true) (k8 : PySem.W.keepIn K (.ref f8) = true)
    {f9 : Addr} {od9 an9 : Option Addr} {sl9 : Array (Option Value)} {oc9 kV9 dc9 pm9 cd9 ct9 : Value} (a9 : PySem.W.nsIn K mainGlobals "_law_turned" = some (some (.ref f9))) (l9 : K.lookup f9 = some ⟨oc9, od9, .func (PySem.W.fnOf "_law_turned" "_law_turned" (defArgs s__law_turned) (defBody s__law_turned) (defScope s__law_turned) .none kV9 dc9 pm9 an9 cd9 ct9), sl9⟩) (c9 : PySem.W.codeIn K cd9 "_law_turned" = true) (k9 : PySem.W.keepIn K (.ref f9) = true)
    {f10 : Addr} {od10 an10 : Option Addr} {sl10 : Array (Option Value)} {oc10 kV10 dc10 pm10 cd10 ct10 : Value} (a10 : PySem.W.nsIn K mainGlobals "_law_stair" = some (some (.ref f10))) (l10 : K.lookup f10 = some ⟨oc10, od10, .func (PySem.W.fnOf "_law_stair" "_law_stair" (defArgs s__law_stair) (defBody s__law_stair) (defScope s__law_stair) .none kV10 dc10 pm10 an10 cd10 ct10), sl10⟩) (c10 : PySem.W.codeIn K cd10 "_law_stair" = true) (k10 : PySem.W.keepIn K (.ref f10) = true)
    {f11 : Addr} {od11 an11 : Option Addr} {sl11 : Array (Option Value)} {oc11 kV11 dc11 pm11 cd11 ct11 : Value} (a11 : PySem.W.nsIn K mainGlobals "_law_by_marks" = some (some (.ref f11))) (l11 : K.lookup f11 = some ⟨oc11, od11, .func (PySem.W.fnOf "_law_by_marks" "_law_by_marks" (defArgs s__law_by_marks) (defBody s__law_by_marks) (defScope s__law_by_marks) .none kV11 dc11 pm11 an11 cd11 ct11), sl11⟩) (c11 : PySem.W.codeIn K cd11 "_law_by_marks" = true) (k11 : PySem.W.keepIn K (.ref f11) = true)
    {f12 : Addr} {od12 an12 : Option Addr} {sl12 : Array (Option Value)} {oc12 kV12 dc12 pm12 cd12 ct12 : Value} (a12 : PySem.W.nsIn K mainGlobals "_law_drawn_marks" = some (some (.ref f12))) (l12 : K.lookup f12 = some ⟨oc12, od12, .func (PySem.W.fnOf "_law_drawn_marks" "_law_drawn_marks" (defArgs s__law_drawn_marks) (defBody s__law_drawn_marks) (defScope s__law_drawn_marks) .none kV12 dc12 pm12 an12 cd12 ct12), sl12⟩) (c12 : PySem.W.codeIn K cd12 "_law_drawn_marks" = true) (k12 : PySem.W.keepIn K (.ref f12) = true)
    {f13 : Addr} {od13 an13 : Option Addr} {sl13 : Array (Option Value)} {oc13 kV13 dc13 pm13 cd13 ct13 : Value} (a13 : PySem.W.nsIn K mainGlobals "_law_elder" = some (some (.ref f13))) (l13 : K.lookup f13 = some ⟨oc13, od13, .func (PySem.W.fnOf "_law_elder" "_law_elder" (defArgs s__law_elder) (defBody s__law_elder) (defScope s__law_elder) .none kV13 dc13 pm13 an13 cd13 ct13), sl13⟩) (c13 : PySem.W.codeIn K cd13 "_law_elder" = true) (k13 : PySem.W.keepIn K (.ref f13) = true)
    {f14 : Addr} {od14 an14 : Option Addr} {sl14 : Array (Option Value)} {oc14 kV14 dc14 pm14 cd14 ct14 : Value} (a14 : PySem.W.nsIn K mainGlobals "_law_drawn_piles" = some (some (.ref f14))) (l14 : K.lookup f14 = some ⟨oc14, od14, .func (PySem.W.fnOf "_law_drawn_piles" "_law_drawn_piles" (defArgs s__law_drawn_piles) (defBody s__law_drawn_piles) (defScope s__law_drawn_piles) .none kV14 dc14 pm14 an14 cd14 ct14), sl14⟩) (c14 : PySem.W.codeIn K cd14 "_law_drawn_piles" = true) (k14 : PySem.W.keepIn K (.ref f14) = true)
    {f15 : Addr} {od15 an15 : Option Addr} {sl15 : Array (Option Value)} {oc15 kV15 dc15 pm15 cd15 ct15 : Value} (a15 : PySem.W.nsIn K mainGlobals "_law_setting" = some (some (.ref f15))) (l15 : K.lookup f15 = some ⟨oc15, od15, .func (PySem.W.fnOf "_law_setting" "_law_setting" (defArgs s__law_setting) (defBody s__law_setting) (defScope s__law_setting) .none kV15 dc15 pm15 an15 cd15 ct15), sl15⟩) (c15 : PySem.W.codeIn K cd15 "_law_setting" = true) (k15 : PySem.W.keepIn K (.ref f15) = true)
    {f16 : Addr} {od16 an16 : Option Addr} {sl16 : Array (Option Value)} {oc16 kV16 dc16 pm16 cd16 ct16 : Value} (a16 : PySem.W.nsIn K mainGlobals "_law_all" = some (some (.ref f16))) (l16 : K.lookup f16 = some ⟨oc16, od16, .func (PySem.W.fnOf "_law_all" "_law_all" (defArgs s__law_all) (defBody s__law_all) (defScope s__law_all) .none kV16 dc16 pm16 an16 cd16 ct16), sl16⟩) (c16 : PySem.W.codeIn K cd16 "_law_all" = true) (k16 : PySem.W.keepIn K (.ref f16) = true)
    {f17 : Addr} {od17 an17 : Option Addr} {sl17 : Array (Option Value)} {oc17 kV17 dc17 pm17 cd17 ct17 : Value} (a17 : PySem.W.nsIn K mainGlobals "law" = some (some (.ref f17))) (l17 : K.lookup f17 = some ⟨oc17, od17, .func (PySem.W.fnOf "law" "law" (defArgs s_law) (defBody s_law) (defScope s_law) .none kV17 dc17 pm17 an17 cd17 ct17), sl17⟩) (c17 : PySem.W.codeIn K cd17 "law" = true) (k17 : PySem.W.keepIn K (.ref f17) = true)
    (z_len : PySem.W.nsIn K mainGlobals "len" = some none)
    (z_range : PySem.W.nsIn K mainGlobals "range" = some none)
    (z_list : PySem.W.nsIn K mainGlobals "list" = some none)
    (z_reversed : PySem.W.nsIn K mainGlobals "reversed" = some none)
    (z_sorted : PySem.W.nsIn K mainGlobals "sorted" = some none)
    (z_sum : PySem.W.nsIn K mainGlobals "sum" = some none)
    (z_min : PySem.W.nsIn K mainGlobals "min" = some none)
    (z_int : PySem.W.nsIn K mainGlobals "int" = some none)
    (z_isinstance : PySem.W.nsIn K mainGlobals "isinstance" = some none)
    (z_bool : PySem.W.nsIn K mainGlobals "bool" = some none)
    (z_set : PySem.W.nsIn K mainGlobals "set" = some none)
    (z_zip : PySem.W.nsIn K mainGlobals "zip" = some none)
    {tk_MOST_COINS : Tok} (zc_MOST_COINS : PySem.W.nsIn K mainGlobals "MOST_COINS" = some (some (.int 100 tk_MOST_COINS)))
    (kib : PySem.W.kitOne K (.type "int") (.type "bool") = some false) :
    ∃ fd : FuncData, (∀ (s : Shared) (v : Value), BindsTo s fd ⟨[v], []⟩ [("script", v)]) ∧ ∀ base : Heap, K.In base → base.Ns mainGlobals mg → FnOk l.prog w K mg base CX0 12 fa fd ["script"] (spLaw K) := by
  have e : fa = f17 := by
    have e := hfa.symm.trans (PySem.W.mg_of X G a17)
    cases e
    rfl
  have T : Txt K mg (cvOf (.int 100 tk_MOST_COINS) .none .none .none .none .none, fun _ => 0) := ⟨PySem.W.mg_none_of X G z_len, PySem.W.mg_none_of X G z_range, PySem.W.mg_none_of X G z_list, PySem.W.mg_none_of X G z_reversed, PySem.W.mg_none_of X G z_sorted, PySem.W.mg_none_of X G z_sum, PySem.W.mg_none_of X G z_min, PySem.W.mg_none_of X G z_int, PySem.W.mg_none_of X G z_isinstance, PySem.W.mg_none_of X G z_bool, PySem.W.mg_none_of X G z_set, PySem.W.mg_none_of X G z_zip, PySem.W.mg_of X G zc_MOST_COINS, ⟨_, rfl⟩, kib⟩
  have F0 := fun_mk (st := s_is_setting) l0 c0 k0
  have M_is_setting : Dfn K mg "is_setting" s_is_setting ["piles"] := ⟨f0, _, F0, PySem.W.mg_of X G a0, F0.binds (ps := ["piles"]) fun _ _ _ _ _ _ us hl => match us, hl with | [_], _ => rfl⟩
  have F1 := fun_mk (st := s_check_setting) l1 c1 k1
  have M_check_setting : Dfn K mg "check_setting" s_check_setting ["piles"] := ⟨f1, _, F1, PySem.W.mg_of X G a1, F1.binds (ps := ["piles"]) fun _ _ _ _ _ _ us hl => match us, hl with | [_], _ => rfl⟩
  have F2 := fun_mk (st := s_elders_of) l2 c2 k2
  have M_elders_of : Dfn K mg "elders_of" s_elders_of ["piles"] := ⟨f2, _, F2, PySem.W.mg_of X G a2, F2.binds (ps := ["piles"]) fun _ _ _ _ _ _ us hl => match us, hl with | [_], _ => rfl⟩
  have F3 := fun_mk (st := s_elder_by) l3 c3 k3
  have M_elder_by : Dfn K mg "elder_by" s_elder_by ["piles", "new_pile"] := ⟨f3, _, F3, PySem.W.mg_of X G a3, F3.binds (ps := ["piles", "new_pile"]) fun _ _ _ _ _ _ us hl => match us, hl with | [_, _], _ => rfl⟩
  have F4 := fun_mk (st := s__law_cell) l4 c4 k4
  have M__law_cell : Dfn K mg "_law_cell" s__law_cell ["script", "k"] := ⟨f4, _, F4, PySem.W.mg_of X G a4, F4.binds (ps := ["script", "k"]) fun _ _ _ _ _ _ us hl => match us, hl with | [_, _], _ => rfl⟩
  have F5 := fun_mk (st := s__law_ints) l5 c5 k5
  have M__law_ints : Dfn K mg "_law_ints" s__law_ints ["found", "due"] := ⟨f5, _, F5, PySem.W.mg_of X G a5, F5.binds (ps := ["found", "due"]) fun _ _ _ _ _ _ us hl => match us, hl with | [_, _], _ => rfl⟩
  have F6 := fun_mk (st := s__law_lists_like) l6 c6 k6
  have M__law_lists_like : Dfn K mg "_law_lists_like" s__law_lists_like ["found", "due"] := ⟨f6, _, F6, PySem.W.mg_of X G a6, F6.binds (ps := ["found", "due"]) fun _ _ _ _ _ _ us hl => match us, hl with | [_, _], _ => rfl⟩
  have F7 := fun_mk (st := s__law_next) l7 c7 k7
  have M__law_next : Dfn K mg "_law_next" s__law_next ["step"] := ⟨f7, _, F7, PySem.W.mg_of X G a7, F7.binds (ps := ["step"]) fun _ _ _ _ _ _ us hl => match us, hl with | [_], _ => rfl⟩
  have F8 := fun_mk (st := s__law_fallen) l8 c8 k8
  have M__law_fallen : Dfn K mg "_law_fallen" s__law_fallen ["piles"] := ⟨f8, _, F8, PySem.W.mg_of X G a8, F8.binds (ps := ["piles"]) fun _ _ _ _ _ _ us hl => match us, hl with | [_], _ => rfl⟩
  have F9 := fun_mk (st := s__law_turned) l9 c9 k9
  have M__law_turned : Dfn K mg "_law_turned" s__law_turned ["piles"] := ⟨f9, _, F9, PySem.W.mg_of X G a9, F9.binds (ps := ["piles"]) fun _ _ _ _ _ _ us hl => match us, hl with | [_], _ => rfl⟩
  have F10 := fun_mk (st := s__law_stair) l10 c10 k10
  have M__law_stair : Dfn K mg "_law_stair" s__law_stair ["coins"] := ⟨f10, _, F10, PySem.W.mg_of X G a10, F10.binds (ps := ["coins"]) fun _ _ _ _ _ _ us hl => match us, hl with | [_], _ => rfl⟩
  have F11 := fun_mk (st := s__law_by_marks) l11 c11 k11
  have M__law_by_marks : Dfn K mg "_law_by_marks" s__law_by_marks ["marks"] := ⟨f11, _, F11, PySem.W.mg_of X G a11, F11.binds (ps := ["marks"]) fun _ _ _ _ _ _ us hl => match us, hl with | [_], _ => rfl⟩
  have F12 := fun_mk (st := s__law_drawn_marks) l12 c12 k12
  have M__law_drawn_marks : Dfn K mg "_law_drawn_marks" s__law_drawn_marks ["script", "k", "coins"] := ⟨f12, _, F12, PySem.W.mg_of X G a12, F12.binds (ps := ["script", "k", "coins"]) fun _ _ _ _ _ _ us hl => match us, hl with | [_, _, _], _ => rfl⟩
  have F13 := fun_mk (st := s__law_elder) l13 c13 k13
  have M__law_elder : Dfn K mg "_law_elder" s__law_elder ["piles", "number"] := ⟨f13, _, F13, PySem.W.mg_of X G a13, F13.binds (ps := ["piles", "number"]) fun _ _ _ _ _ _ us hl => match us, hl with | [_, _], _ => rfl⟩
  have F14 := fun_mk (st := s__law_drawn_piles) l14 c14 k14
  have M__law_drawn_piles : Dfn K mg "_law_drawn_piles" s__law_drawn_piles ["script", "k", "coins", "cap"] := ⟨f14, _, F14, PySem.W.mg_of X G a14, F14.binds (ps := ["script", "k", "coins", "cap"]) fun _ _ _ _ _ _ us hl => match us, hl with | [_, _, _, _], _ => rfl⟩
  have F15 := fun_mk (st := s__law_setting) l15 c15 k15
  have M__law_setting : Dfn K mg "_law_setting" s__law_setting ["script", "k", "coins"] := ⟨f15, _, F15, PySem.W.mg_of X G a15, F15.binds (ps := ["script", "k", "coins"]) fun _ _ _ _ _ _ us hl => match us, hl with | [_, _, _], _ => rfl⟩
  have F16 := fun_mk (st := s__law_all) l16 c16 k16
  have M__law_all : Dfn K mg "_law_all" s__law_all ["coins", "most"] := ⟨f16, _, F16, PySem.W.mg_of X G a16, F16.binds (ps := ["coins", "most"]) fun _ _ _ _ _ _ us hl => match us, hl with | [_, _], _ => rfl⟩
  have F17 := fun_mk (st := s_law) l17 c17 k17
  have M_law : Dfn K mg "law" s_law ["script"] := ⟨f17, _, F17, PySem.W.mg_of X G a17, F17.binds (ps := ["script"]) fun _ _ _ _ _ _ us hl => match us, hl with | [_], _ => rfl⟩
  refine ⟨PySem.W.fnOf "law" "law" (defArgs s_law) (defBody s_law) (defScope s_law) .none kV17 dc17 pm17 an17 cd17 ct17, fun s v => .of_eq rfl, fun base _ _ => ?_⟩
  have Dnext := d__law_next (P := l.prog) (w := w) (base := base) M__law_next T
  have Dcell := d__law_cell (P := l.prog) (w := w) (base := base) M__law_cell T
  have Dfal := d__law_fallen (P := l.prog) (w := w) (base := base) M__law_fallen T
  have Dst := d__law_stair (P := l.prog) (w := w) (base := base) M__law_stair T
  have Dbm := d__law_by_marks (P := l.prog) (w := w) (base := base) M__law_by_marks T
  have Ddm := d__law_drawn_marks M__law_drawn_marks T Dst Dnext Dcell
  have Del := d__law_elder (P := l.prog) (w := w) (base := base) M__law_elder T
  have Ddp := d__law_drawn_piles M__law_drawn_piles T Dnext Dcell Dfal
  have Dset := d__law_setting M__law_setting T Dnext Dcell Ddp Dbm Ddm Del
  have Dis := d_is_setting (P := l.prog) (w := w) (base := base) M_is_setting T
  have Dck := d_check_setting M_check_setting T Dis
  have Dlt := d__law_turned M__law_turned T Dfal
  have Dli := d__law_ints (P := l.prog) (w := w) (base := base) M__law_ints T
  have Dlk := d__law_lists_like M__law_lists_like T Dli
  have Dal := d__law_all (P := l.prog) (w := w) (base := base) M__law_all T 10
  have Deb := d_elder_by (P := l.prog) (w := w) (base := base) M_elder_by T
  have Deo := d_elders_of M_elders_of T Dck Deb
  rw [e]
  exact d_law F17 T Dset Dcell Dlt Deo Dal Dlk
theorem walk {l : PySem.W.OpenLaw} {q : Program} {loose : List Str} {XP : (Str → Option Value) → Heap → Prop} {YP : World → Heap → Prop} {d : DefRec} {K : Params → PySem.W.Frag} (hn : l.most = some 63) (hdf : d.params.defaults = [])
    (hY : ∀ (w : World) (h : Heap), YP w h → (K w.params).In h)
    (F : ∀ (w : World) (mg : Str → Option Value) (fa : Addr) (h : Heap), (K w.params).In h → h.Ns mainGlobals mg → mg d.name = some (.ref fa) →
      ∃ fd : FuncData, (∀ (s : Shared) (u : Value), BindsTo s fd ⟨[u], []⟩ [("script", u)]) ∧ ∀ base : Heap, (K w.params).In base → base.Ns mainGlobals mg → FnOk l.prog w (K w.params) mg base CX0 12 fa fd ["script"] (spLaw (K w.params))) :
    PySem.W.WalkO q loose XP YP l.row.toRowW d [] (fun f vs => PySem.call f vs) :=
  L2.walk_of (n := 63) (k := 12) (x := "script") (CX := fun _ => CX0) (sp := fun w => spLaw (K w.params)) hn (by decide) hdf ⟨rfl, by decide, by decide⟩ hY F (fun _ _ a ns hl _ hS => ⟨a, ns, rfl, hS, hl, fun _ => rfl⟩) fun _ _ _ _ _ z => z
end My
open PySem PySem.W PyProof.Rows
set_option maxRecDepth 100000 in
set_option maxHeartbeats 0 in
theorem PySem.Challenge.cw_pilewheel_k11_elders_of_few_coins_holds : PySem.Challenge.rw_pilewheel_k11_elders_of_few_coins.Holds := by
  w_on; o_law; k_head; (case hw => w_witness2)
  k_fill
  refine My.walk (l := PySem.Challenge.rw_pilewheel_k11_elders_of_few_coins) rfl rfl (fun w h Y => PySem.W.kIn_of Y) ?F
  case F =>
    intro w mg fa h KX G hmg
    refine' My.all_mk KX G hmg ?a0 ?l0 ?c0 ?k0 ?a1 ?l1 ?c1 ?k1 ?a2 ?l2 ?c2 ?k2 ?a3 ?l3 ?c3 ?k3 ?a4 ?l4 ?c4 ?k4 ?a5 ?l5 ?c5 ?k5 ?a6 ?l6 ?c6 ?k6 ?a7 ?l7 ?c7 ?k7 ?a8 ?l8 ?c8 ?k8 ?a9 ?l9 ?c9 ?k9 ?a10 ?l10 ?c10 ?k10 ?a11 ?l11 ?c11 ?k11 ?a12 ?l12 ?c12 ?k12 ?a13 ?l13 ?c13 ?k13 ?a14 ?l14 ?c14 ?k14 ?a15 ?l15 ?c15 ?k15 ?a16 ?l16 ?c16 ?k16 ?a17 ?l17 ?c17 ?k17 ?z_len ?z_range ?z_list ?z_reversed ?z_sorted ?z_sum ?z_min ?z_int ?z_isinstance ?z_bool ?z_set ?z_zip ?zc_MOST_COINS ?kib
    (case a0 => k_is); (case l0 => k_is); (case c0 => k_is); (case k0 => k_is)
    (case a1 => k_is); (case l1 => k_is); (case c1 => k_is); (case k1 => k_is)
    (case a2 => k_is); (case l2 => k_is); (case c2 => k_is); (case k2 => k_is)
    (case a3 => k_is); (case l3 => k_is); (case c3 => k_is); (case k3 => k_is)
    (case a4 => k_is); (case l4 => k_is); (case c4 => k_is); (case k4 => k_is)
    (case a5 => k_is); (case l5 => k_is); (case c5 => k_is); (case k5 => k_is)
    (case a6 => k_is); (case l6 => k_is); (case c6 => k_is); (case k6 => k_is)
    (case a7 => k_is); (case l7 => k_is); (case c7 => k_is); (case k7 => k_is)
    (case a8 => k_is); (case l8 => k_is); (case c8 => k_is); (case k8 => k_is)
    (case a9 => k_is); (case l9 => k_is); (case c9 => k_is); (case k9 => k_is)
    (case a10 => k_is); (case l10 => k_is); (case c10 => k_is); (case k10 => k_is)
    (case a11 => k_is); (case l11 => k_is); (case c11 => k_is); (case k11 => k_is)
    (case a12 => k_is); (case l12 => k_is); (case c12 => k_is); (case k12 => k_is)
    (case a13 => k_is); (case l13 => k_is); (case c13 => k_is); (case k13 => k_is)
    (case a14 => k_is); (case l14 => k_is); (case c14 => k_is); (case k14 => k_is)
    (case a15 => k_is); (case l15 => k_is); (case c15 => k_is); (case k15 => k_is)
    (case a16 => k_is); (case l16 => k_is); (case c16 => k_is); (case k16 => k_is)
    (case a17 => k_is); (case l17 => k_is); (case c17 => k_is); (case k17 => k_is)
    (case z_len => k_is)
    (case z_range => k_is)
    (case z_list => k_is)
    (case z_reversed => k_is)
    (case z_sorted => k_is)
    (case z_sum => k_is)
    (case z_min => k_is)
    (case z_int => k_is)
    (case z_isinstance => k_is)
    (case z_bool => k_is)
    (case z_set => k_is)
    (case z_zip => k_is)
    (case zc_MOST_COINS => k_is)
    (case kib => kit_is)

