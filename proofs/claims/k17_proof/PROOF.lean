import PyProof.Rows.All
import Wide.All
import OpenK.AllK
import Wide.FinOn
import Lean
import PyProof.EqAt
import PyProof.EqKinds
import PyProof.TupleCall
import PySem.Challenge.RW_pilewheel_k17_numbers_out_of_bounds
set_option Elab.async false
set_option Elab.async false
set_option linter.all false
set_option maxRecDepth 100000
namespace L2
open PySem PySem.Spec PyProof.Rows
abbrev Key := Sum Int Str
def keyIs : Key → Value → Bool
  | .inl k, v => Value.isInt k v
  | .inr x, v => Value.isStrOf x v
def keyH (w : World) : Key → Int
  | .inl k => hashInt k
  | .inr x => hashStr w x
theorem keyIs_shape : ∀ {k : Key} {v : Value}, keyIs k v = true → (∃ i t, k = Sum.inl i ∧ v = Value.int i t) ∨ (∃ x t, k = Sum.inr x ∧ v = Value.str x t)
  | .inl i, v, h => by
    obtain ⟨t, e⟩ := Value.isInt_shape (k := i) (v := v) h
    exact .inl ⟨i, t, rfl, e⟩
  | .inr x, v, h => by
    obtain ⟨t, e⟩ := Value.isStrOf_shape (x := x) (v := v) h
    exact .inr ⟨x, t, rfl, e⟩
theorem keyIs_int (i : Int) (t : Tok) : keyIs (.inl i) (.int i t) = true := by simp [keyIs, Value.isInt]
theorem keyIs_str (x : Str) (t : Tok) : keyIs (.inr x) (.str x t) = true := by simp [keyIs, Value.isStrOf]
theorem key_ll (a b : Int) : decide ((Sum.inl a : Key) = Sum.inl b) = (a == b) := by
  by_cases e : a = b
  · subst e; simp
  · have h : ¬ (Sum.inl a : Key) = Sum.inl b := fun q => e (Sum.inl.inj q)
    rw [decide_eq_false h]
    exact (beq_eq_false_iff_ne.mpr e).symm
theorem key_rr (a b : Str) : decide ((Sum.inr a : Key) = Sum.inr b) = decide (a = b) := by
  by_cases e : a = b
  · subst e; simp
  · have h : ¬ (Sum.inr a : Key) = Sum.inr b := fun q => e (Sum.inr.inj q)
    rw [decide_eq_false h, decide_eq_false e]
theorem key_lr (a : Int) (b : Str) : decide ((Sum.inl a : Key) = Sum.inr b) = false := decide_eq_false (fun q => nomatch q)
theorem key_rl (a : Str) (b : Int) : decide ((Sum.inr a : Key) = Sum.inl b) = false := decide_eq_false (fun q => nomatch q)
def mixKind (prog : Program) (w : World) : PySem.KeyKind prog w Key where
  is := keyIs
  hash := keyH w
  inj := fun v a b ha hb => by
    rcases keyIs_shape ha with ⟨i, t, rfl, rfl⟩ | ⟨x, t, rfl, rfl⟩
    · rcases keyIs_shape hb with ⟨j, u, rfl, e⟩ | ⟨y, u, rfl, e⟩
      · injection e with e1 _; rw [e1]
      · exact nomatch e
    · rcases keyIs_shape hb with ⟨j, u, rfl, e⟩ | ⟨y, u, rfl, e⟩
      · exact nomatch e
      · injection e with e1 _; rw [e1]
  byValue := fun k v h => by
    rcases keyIs_shape h with ⟨i, t, rfl, rfl⟩ | ⟨x, t, rfl, rfl⟩ <;> rfl
  pyHash := fun hv h => by
    rcases keyIs_shape hv with ⟨i, t, rfl, rfl⟩ | ⟨x, t, rfl, rfl⟩
    · exact wpAny_pyHash_int h
    · exact wpAny_pyHash_str h
  eqBool := fun hu hv h => by
    rcases keyIs_shape hu with ⟨i, t, rfl, rfl⟩ | ⟨x, t, rfl, rfl⟩
    · rcases keyIs_shape hv with ⟨j, u, rfl, rfl⟩ | ⟨y, u, rfl, rfl⟩
      · rw [key_ll] at h; exact wpAny_eqBool_int h
      · rw [key_lr] at h; exact SeqAt.EqAt.int_str i t y u _ _ _ _ h
    · rcases keyIs_shape hv with ⟨j, u, rfl, rfl⟩ | ⟨y, u, rfl, rfl⟩
      · rw [key_rl] at h; exact SeqAt.EqAt.str_int x t j u _ _ _ _ h
      · rw [key_rr] at h; exact wpAny_eqBool_str h
  «strs» := fun k x t v h => by
    rcases keyIs_shape h with ⟨i, u, rfl, e⟩ | ⟨y, u, rfl, e⟩
    · exact nomatch e
    · injection e with e1 _
      subst e1
      cases v <;> rfl
theorem mixKind_int (prog : Program) (w : World) (i : Int) (t : Tok) : (mixKind prog w).is (.inl i) (.int i t) = true := keyIs_int i t
theorem mixKind_str (prog : Program) (w : World) (x : Str) (t : Tok) : (mixKind prog w).is (.inr x) (.str x t) = true := keyIs_str x t
end L2
namespace L2
open PySem PySem.Spec PyProof.Rows
inductive V where
  | non | bl (b : Bool) | int (i : Int) | str (x : Str) | byt (b : Array UInt8) | flt (b : UInt64) | ref (a : Addr) | ty (n : String)
  deriving DecidableEq
def RelV : V → Value → Prop
  | .non, u => u = Value.none
  | .bl b, u => u = Value.bool b
  | .int i, u => ∃ t, u = Value.int i t
  | .str x, u => ∃ t, u = Value.str x t
  | .byt b, u => ∃ t, u = Value.bytes b t
  | .flt b, u => ∃ t, u = Value.float b t
  | .ref a, u => u = Value.ref a
  | .ty n, u => u = Value.type n
abbrev Vals : List V → List Value → Prop := Paired RelV
theorem Vals.length {xs : List V} {us : List Value} (r : Vals xs us) : xs.length = us.length := Paired.length r
theorem Vals.get : ∀ {xs : List V} {us : List Value} {i : Nat} {x : V}, Vals xs us → xs[i]? = some x → ∃ u, us[i]? = some u ∧ RelV x u
  | _, _, _, _, .nil, e => by simp at e
  | _, _, 0, _, .cons r _, e => by simp at e; subst e; exact ⟨_, rfl, r⟩
  | _, _, i + 1, x, .cons _ t, e => by
    obtain ⟨u, h1, h2⟩ := Vals.get (i := i) (x := x) t (by simpa using e)
    exact ⟨u, by simpa using h1, h2⟩
theorem Vals.append : ∀ {xs ys : List V} {us ws : List Value}, Vals xs us → Vals ys ws → Vals (xs ++ ys) (us ++ ws)
  | _, _, _, _, .nil, s => s
  | _, _, _, _, .cons r t, s => .cons r (Vals.append t s)
theorem Vals.take : ∀ {xs : List V} {us : List Value} (n : Nat), Vals xs us → Vals (xs.take n) (us.take n)
  | _, _, 0, _ => .nil
  | _, _, _ + 1, .nil => .nil
  | _, _, n + 1, .cons r t => .cons r (Vals.take n t)
theorem Vals.drop : ∀ {xs : List V} {us : List Value} (n : Nat), Vals xs us → Vals (xs.drop n) (us.drop n)
  | _, _, 0, r => r
  | _, _, _ + 1, .nil => .nil
  | _, _, n + 1, .cons _ t => Vals.drop n t
def RelO : Option V → Option Value → Prop
  | some v, some u => RelV v u
  | none, none => True
  | _, _ => False
def KV {κ : Type} : List (κ × V) → List (κ × Value) → Prop := Paired fun (p : κ × V) (q : κ × Value) => p.1 = q.1 ∧ RelV p.2 q.2
def kV : Key → V
  | .inl i => .int i
  | .inr x => .str x
inductive HO where
  | lst (xs : List V)
  | tup (xs : List V)
  | dK (kvs : List (Key × V)) | dT (kvs : List (List Key × V))
  | set (S : Int → Bool) (n : Nat)
  | ins (C dx : Addr) (fs : List (Str × V))
  | own (x : Addr)
  | xd (fs : List (Str × V))
  | met (f x : Addr)
  | rng (lo hi : Int)
  | frz (o : Obj) (u : HO)
  | tbl (ps : Array Value)
  | ext (φ : Heap → Prop)
abbrev Hp := Addr → Option HO
def upd (H : Hp) (a : Addr) (o : HO) : Hp := fun b => if b = a then some o else H b
theorem upd_same {H : Hp} {a : Addr} {o : HO} : upd H a o a = some o := by unfold upd; rw [if_pos rfl]
theorem upd_ne {H : Hp} {a b : Addr} {o : HO} (h : b ≠ a) : upd H a o b = H b := by unfold upd; rw [if_neg h]
theorem upd_upd {H : Hp} {a : Addr} {o u : HO} : upd (upd H a o) a u = upd H a u := by
  funext b; unfold upd; split <;> rfl
theorem ne_of {H : Hp} {a b : Addr} {o u : HO} (h : H a = some o) (h' : H b = some u) (d : o ≠ u) : a ≠ b := by
  intro e; subst e; rw [h] at h'; exact d (Option.some.inj h')
theorem ne_of_none {H : Hp} {a b : Addr} {o : HO} (h : H a = some o) (h' : H b = none) : a ≠ b := by
  intro e; subst e; rw [h] at h'; cases h'
section
variable (P : Program) (w : World)
def ObjOk (H : Hp) (h : Heap) (a : Addr) : HO → Prop
  | .lst xs => xs.length ≤ sizeLine ∧ ∃ (its : List Value) (n : Nat), Vals xs its ∧ h.get? a = some { cls := .type "list", data := .seq its.toArray n }
  | .tup xs => xs.length ≤ sizeLine ∧ ∃ its : List Value, Vals xs its ∧ IsTup h a its.toArray
  | .dK kvs => kvs.length ≤ sizeLine ∧ (a == sysModules) = false ∧ ∃ vs, KV kvs vs ∧ h.DictOf (mixKind P w) a vs
  | .dT kvs => kvs.length ≤ sizeLine ∧ (a == sysModules) = false ∧ ∃ xs : List (List Key × Addr × Value),
      Paired (fun (p : List Key × V) (q : List Key × Addr × Value) => p.1 = q.1 ∧ H q.2.1 = some (.tup (p.1.map kV)) ∧ RelV p.2 q.2.2) kvs xs ∧
      ∃ o es ep, h.get? a = some o ∧ o.ExactDict ∧ o.data = .dict es ep ∧ es.toList = xs.map (entryOfKey (tupleKind (mixKind P w))) ∧ (xs.map (·.1)).Nodup
  | .set S n => h.SetOf (intKind P w) a S n
  | .ins C dx fs => H dx = some (.own a) ∧ fs.length ≤ 1000 ∧ dx ≠ a ∧ h.get? a = some (PySem.W.instObj C dx) ∧
      ∃ mA, h.Ns1 dx mA ∧ (∀ f, RelO (fs.lookup f) (mA f)) ∧ PySem.Within mA (fs.map (·.1))
  | .own _ => ∃ o, h.get? a = some o
  | .xd fs => ∃ mA, h.Ns1 a mA ∧ ∀ f, RelO (fs.lookup f) (mA f)
  | .rng lo hi => ∃ t u v, h.get? a = some { cls := .type "range", data := .fields #[.int lo t, .int hi u, .int 1 v] }
  | .frz o u => h.get? a = some o ∧ ObjOk H h a u
  | .tbl ps => h.get? a = some { cls := .none, data := .fields ps }
  | .met f x => h.get? a = some (PySem.W.methodObj (.ref f) (.ref x))
  | .ext φ => φ h ∧ (∃ o, h.get? a = some o) ∧ ∀ h1 h2 : Heap, φ h1 → (∀ o, h1.get? a = some o → h2.get? a = some o) → φ h2
def HOk (H : Hp) (h : Heap) : Prop := ∀ a o, H a = some o → ObjOk P w H h a o
end
section
variable {P : Program} {w : World} {H H' : Hp} {h h' : Heap} {a : Addr} {o : HO}
theorem ObjOk.lt (x : ObjOk P w H h a o) : a < h.objs.size := by
  cases o with
  | lst xs => obtain ⟨_, _, _, _, e⟩ := x; exact Heap.lt_size e
  | tup xs => obtain ⟨_, _, _, p⟩ := x; exact p.lt
  | dK kvs => obtain ⟨_, _, _, _, o, _, _, e, _⟩ := x; exact Heap.lt_size e
  | dT kvs => obtain ⟨_, _, _, _, o, _, _, e, _⟩ := x; exact Heap.lt_size e
  | set S n => obtain ⟨o, _, _, _, e, _⟩ := x; exact Heap.lt_size e
  | ins C dx fs => obtain ⟨_, _, _, e, _⟩ := x; exact Heap.lt_size e
  | own y => obtain ⟨_, e⟩ := x; exact Heap.lt_size e
  | xd fs => obtain ⟨_, ⟨_, _, _, e, _⟩, _⟩ := x; exact Heap.lt_size e
  | rng lo hi => obtain ⟨_, _, _, e⟩ := x; exact Heap.lt_size e
  | frz ob u => obtain ⟨e, _⟩ := x; exact Heap.lt_size e
  | tbl ps => exact Heap.lt_size (show h.get? a = some _ from x)
  | met f y => exact Heap.lt_size (show h.get? a = some _ from x)
  | ext φ => obtain ⟨_, ⟨_, e⟩, _⟩ := x; exact Heap.lt_size e
theorem Paired.mapP {α β : Type} {F G : α → β → Prop} : ∀ {l₁ : List α} {l₂ : List β}, Paired F l₁ l₂ → (∀ a b, F a b → G a b) → Paired G l₁ l₂
  | _, _, .nil, _ => .nil
  | _, _, .cons r t, f => .cons (f _ _ r) (Paired.mapP t f)
theorem ObjOk.stay (x : ObjOk P w H h a o) (k : ∀ b u, (b = a ∨ H b = some (.own a)) → h.get? b = some u → h'.get? b = some u)
    (ho : ∀ b, H b = some (.own a) → H' b = some (.own a)) (ht : ∀ b xs, H b = some (.tup xs) → H' b = some (.tup xs)) : ObjOk P w H' h' a o := by
  induction o with
  | lst xs => obtain ⟨z, its, n, r, e⟩ := x; exact ⟨z, its, n, r, k _ _ (.inl rfl) e⟩
  | tup xs => obtain ⟨z, its, r, ob, e, c⟩ := x; exact ⟨z, its, r, ob, k _ _ (.inl rfl) e, c⟩
  | dK kvs => obtain ⟨z, y, vs, r, ob, es, ep, e, c⟩ := x; exact ⟨z, y, vs, r, ob, es, ep, k _ _ (.inl rfl) e, c⟩
  | dT kvs =>
    obtain ⟨z, y, xs, r, ob, es, ep, e, c⟩ := x
    exact ⟨z, y, xs, Paired.mapP r fun p q z => ⟨z.1, ht _ _ z.2.1, z.2.2⟩, ob, es, ep, k _ _ (.inl rfl) e, c⟩
  | set S n => obtain ⟨ob, es, ep, t, e, c⟩ := x; exact ⟨ob, es, ep, t, k _ _ (.inl rfl) e, c⟩
  | ins C dx fs =>
    obtain ⟨d, z, ne, e, mA, ⟨od, es, ep, e2, c⟩, r⟩ := x
    exact ⟨ho _ d, z, ne, k _ _ (.inl rfl) e, mA, ⟨od, es, ep, k _ _ (.inr d) e2, c⟩, r⟩
  | own y => obtain ⟨ob, e⟩ := x; exact ⟨ob, k _ _ (.inl rfl) e⟩
  | xd fs => obtain ⟨mA, ⟨od, es, ep, e, c⟩, r⟩ := x; exact ⟨mA, ⟨od, es, ep, k _ _ (.inl rfl) e, c⟩, r⟩
  | rng lo hi => obtain ⟨t, u, v, e⟩ := x; exact ⟨t, u, v, k _ _ (.inl rfl) e⟩
  | frz ob u ih => obtain ⟨e, q⟩ := x; exact ⟨k _ _ (.inl rfl) e, ih q⟩
  | tbl ps =>
    have e : h.get? a = some { cls := .none, data := .fields ps } := x
    show h'.get? a = some { cls := .none, data := .fields ps }
    exact k a _ (.inl rfl) e
  | met f y =>
    have e : h.get? a = some (PySem.W.methodObj (.ref f) (.ref y)) := x
    show h'.get? a = some (PySem.W.methodObj (.ref f) (.ref y))
    exact k a _ (.inl rfl) e
  | ext φ => obtain ⟨p, ⟨o, e⟩, st⟩ := x; exact ⟨st _ _ p fun o q => k _ _ (.inl rfl) q, ⟨o, k _ _ (.inl rfl) e⟩, st⟩
theorem HOk.lt (x : HOk P w H h) (e : H a = some o) : a < h.objs.size := (x a o e).lt
theorem HOk.fresh (x : HOk P w H h) (e : h.objs.size ≤ a) : H a = none := by
  cases q : H a with
  | none => rfl
  | some u => exact absurd (Nat.lt_of_lt_of_le (x.lt q) e) (Nat.lt_irrefl _)
theorem HOk.kept (x : HOk P w H h) (k : ∀ b u, h.get? b = some u → h'.get? b = some u) : HOk P w H h' := fun a o e =>
  (x a o e).stay (fun b u _ q => k b u q) (fun _ q => q) fun _ _ q => q
theorem HOk.laid (x : HOk P w H h) (k : ∀ b u, h.get? b = some u → h'.get? b = some u) (hp : h.objs.size ≤ a) (new : ObjOk P w (upd H a o) h' a o) : HOk P w (upd H a o) h' := fun b u e => by
  have hn := x.fresh hp
  by_cases hb : b = a
  · subst hb; rw [upd_same] at e; cases e; exact new
  · rw [upd_ne hb] at e
    exact (x b u e).stay (fun c v _ q => k c v q) (fun c q => by rw [upd_ne (ne_of_none q hn)]; exact q) fun c xs q => by rw [upd_ne (ne_of_none q hn)]; exact q
end
def Rd (H : Hp) (a : Addr) (u : HO) : Prop := H a = some u ∨ ∃ o, H a = some (.frz o u)
theorem Rd.ok {P : Program} {w : World} {H : Hp} {h : Heap} {a : Addr} {u : HO} (r : Rd H a u) (x : HOk P w H h) : ObjOk P w H h a u := by
  rcases r with r | ⟨o, r⟩
  · exact x a u r
  · obtain ⟨_, q⟩ := x a _ r
    exact q
def Mut : Option HO → Prop
  | some (.lst _) => True
  | some (.dK _) => True
  | some (.dT _) => True
  | some (.set _ _) => True
  | some (.ins _ _ _) => True
  | some (.ext _) => True
  | _ => False
section
variable {P : Program} {w : World} {H : Hp} {h h' : Heap} {x e : Addr} {o' : HO}
theorem HOk.write (ok : HOk P w H h) (mu : Mut (H x)) (he : e = x ∨ H e = some (.own x)) (k : ∀ b u, b ≠ e → h.get? b = some u → h'.get? b = some u) (heo : ∃ u, h'.get? e = some u)
    (new : ObjOk P w (upd H x o') h' x o') : HOk P w (upd H x o') h' := fun b u q => by
  have nown : ∀ c y, H c = some (.own y) → c ≠ x := fun c y r z => by subst z; rw [r] at mu; exact mu
  have ntup : ∀ c xs, H c = some (.tup xs) → c ≠ x := fun c xs r z => by subst z; rw [r] at mu; exact mu
  by_cases hb : b = x
  · subst hb; rw [upd_same] at q; cases q; exact new
  · rw [upd_ne hb] at q
    by_cases hbe : b = e
    · have q' : H b = some (.own x) := by
        rcases he with z | z
        · exact absurd (hbe.trans z) hb
        · rw [hbe]; exact z
      rw [q] at q'; cases q'
      obtain ⟨v, hv⟩ := heo
      exact ⟨v, by rw [hbe]; exact hv⟩
    · refine (ok b u q).stay (fun c v hc r => k c v ?_ r) (fun c r => by rw [upd_ne (nown c b r)]; exact r) fun c xs r => by rw [upd_ne (ntup c xs r)]; exact r
      rcases hc with rfl | hc
      · exact hbe
      · rintro rfl
        rcases he with z | z
        · exact nown c b hc z
        · rw [hc] at z; cases z; exact hb rfl
end
structure Un (fs ex : List Addr) (H H' : Hp) (h h' : Heap) : Prop where
  keep : ∀ b o, h.get? b = some o → H b = none → b ∉ fs → b ∉ ex → h'.get? b = some o
  slot : ∀ b o, h.get? b = some o → H b = none → b ∈ fs → b ∉ ex → ∃ sl, h'.get? b = some { o with slots := sl }
  free : ∀ b o, h.get? b = some o → H b = none → b ∉ ex → H' b = none
  there : ∀ b o, h.get? b = some o → b ∉ ex → ∃ o', h'.get? b = some o'
  tups : ∀ b xs, H b = some (.tup xs) → H' b = some (.tup xs)
  frzs : ∀ b o u, H b = some (.frz o u) → H' b = some (.frz o u)
  tbls : ∀ b ps, H b = some (.tbl ps) → ∃ more, H' b = some (.tbl (ps ++ more))
section
variable {fs fs' ex ex' : List Addr} {H H1 H2 : Hp} {h h1 h2 h' : Heap} {a x e : Addr} {o : HO}
theorem Un.any (u : Un fs ex H H1 h h1) {b : Addr} {ob : Obj} (q : h.get? b = some ob) (n : H b = none) (hx : b ∉ ex) : ∃ sl, h1.get? b = some { ob with slots := sl } := by
  by_cases hb : b ∈ fs
  · exact u.slot b ob q n hb hx
  · exact ⟨ob.slots, u.keep b ob q n hb hx⟩
theorem Un.kept (k : ∀ b u, h.get? b = some u → h'.get? b = some u) : Un fs ex H H h h' :=
  ⟨fun b ob q _ _ _ => k b ob q, fun b ob q _ _ _ => ⟨ob.slots, k b ob q⟩, fun _ _ _ n _ => n, fun b ob q _ => ⟨ob, k b ob q⟩, fun _ _ q => q, fun _ _ _ q => q, fun _ ps q => ⟨#[], by rw [q]; simp⟩⟩
theorem Un.refl : Un fs ex H H h h := Un.kept fun _ _ q => q
theorem Un.laid (k : ∀ b u, h.get? b = some u → h'.get? b = some u) (hp : h.objs.size ≤ a) (hn : H a = none) : Un fs ex H (upd H a o) h h' where
  keep := fun b u q _ _ _ => k b u q
  slot := fun b u q _ _ _ => ⟨u.slots, k b u q⟩
  free := fun b u q n _ => by rw [upd_ne (Nat.ne_of_lt (Nat.lt_of_lt_of_le (Heap.lt_size q) hp))]; exact n
  there := fun b u q _ => ⟨u, k b u q⟩
  tups := fun b xs q => by rw [upd_ne (ne_of_none q hn)]; exact q
  frzs := fun b u xs q => by rw [upd_ne (ne_of_none q hn)]; exact q
  tbls := fun b ps q => ⟨#[], by rw [upd_ne (ne_of_none q hn), q]; simp⟩
theorem Un.write (mu : Mut (H x)) (he : e = x ∨ H e = some (.own x)) (k : ∀ b u, b ≠ e → h.get? b = some u → h'.get? b = some u) (heo : ∃ u, h'.get? e = some u) : Un fs ex H (upd H x o) h h' := by
  have hx : ∀ b, H b = none → b ≠ x := fun b n z => by subst z; rw [n] at mu; exact mu
  have hb : ∀ b, H b = none → b ≠ e := fun b n z => by
    subst z
    rcases he with r | r
    · exact hx b n r
    · rw [n] at r; cases r
  have hm : ∀ b u, H b = some u → ¬ Mut (some u) → b ≠ x := fun b u q nm z => by subst z; rw [q] at mu; exact nm mu
  refine ⟨fun b u q n _ _ => k b u (hb b n) q, fun b u q n _ _ => ⟨u.slots, k b u (hb b n) q⟩, fun b u q n _ => by rw [upd_ne (hx b n)]; exact n, fun b u q _ => ?_,
    fun b xs q => by rw [upd_ne (hm b _ q fun z => z)]; exact q, fun b u xs q => by rw [upd_ne (hm b _ q fun z => z)]; exact q, fun b ps q => ⟨#[], by rw [upd_ne (hm b _ q fun z => z), q]; simp⟩⟩
  by_cases hbe : b = e
  · subst hbe; exact heo
  · exact ⟨u, k b u hbe q⟩
end
def trk (h : Heap) (H : Hp) : List Addr := (List.range h.objs.size).filter fun a => (H a).isSome
def hidT (h : Heap) (H : Hp) : Heap := PySem.W.hideAll h (trk h H)
theorem hidT_size (h : Heap) (H : Hp) : (hidT h H).objs.size = h.objs.size := PySem.W.hideAll_size _ _
theorem hidT_get {h : Heap} {H : Hp} {b : Addr} {o : Obj} (e : h.get? b = some o) (n : H b = none) : (hidT h H).get? b = some o :=
  PySem.W.hideAll_get _ e fun hm => by
    have q : (H b).isSome = true := (List.mem_filter.mp hm).2
    rw [n] at q; simp at q
theorem of_hidT {h : Heap} {H : Hp} {b : Addr} {o : Obj} (e : (hidT h H).get? b = some o) : h.get? b = some o ∧ H b = none := by
  have e' : h.get? b = some o := PySem.W.of_hideAll (trk h H) e
  refine ⟨e', ?_⟩
  cases q : H b with
  | none => rfl
  | some x =>
    have hm : b ∈ trk h H := List.mem_filter.mpr ⟨List.mem_range.mpr (Heap.lt_size e'), by simp [q]⟩
    have z : (hidT h H).get? b = none := PySem.W.hideAll_none (trk h H) hm
    rw [z] at e; cases e
def allNews (g h : Heap) (L : Addr) : List (Addr × Obj) := (List.range h.objs.size).filterMap fun a => if a = L ∨ (g.get? a).isSome = true then none else (h.get? a).map fun o => (a, o)
def rest (g h : Heap) (L d : Addr) : List (Addr × Obj) := (allNews g h L).filter fun p => decide (p.1 ≠ d)
end L2
namespace L2
open PySem PySem.Spec PyProof.Rows
structure Mod (K : PySem.W.Frag) (mg : Str → Option Value) (base : Heap) : Prop where
  kin : K.In base
  glob : base.Ns mainGlobals mg
  blt : ∃ mb, base.Ns builtinsNs mb ∧ ∀ x : Str, x ≠ "__name__" → mb x = bootBuiltins x
  nolimit : base.NoLimit
structure Cx where
  prog : Program
  w : World
  K : PySem.W.Frag
  mg : Str → Option Value
  base : Heap
  A : Around
  N : List Str
  s₀ : Shared
  H₀ : Hp
  env : Env
  outer : List Env
  stack : List Env
  ex : List Addr
  fn : Str → Bool
  calm : Bool
  pn : List (Addr × Obj)
  xe : Value → Shared → Prop
def frs (l : List Env) : List Addr := l.filterMap (·.frame)
abbrev Cx.fs (X : Cx) : List Addr := frs X.outer
def Vis (sc : Scope) (x : Str) : Prop := sc.names.lookup x = some .local ∨ sc.names.lookup x = some .cell ∨ sc.names.lookup x = some .free
def Loc (sc : Scope) (x : Str) : Prop := sc.names.lookup x = some .local ∨ sc.names.lookup x = some .cell
def Look (env : Env) (h : Heap) (m : Str → Option Value) (x : Str) (u : Value) : Prop :=
  (env.kindOf x = some .local ∧ m x = some u) ∨ ((env.kindOf x = some .cell ∨ env.kindOf x = some .free) ∧ ∃ c, env.cells.lookup x = some c ∧ h.IsCell c (some u))
structure Cx.Ok (X : Cx) : Prop where
  mod : Mod X.K X.mg X.base
  kind : X.env.scope.kind = .function
  glob : X.env.globals = mainGlobals
  blt : X.env.builtins = builtinsNs
  above : X.s₀.heap.objs.size ≤ X.env.locals
  inj : ∀ x y c, X.env.cells.lookup x = some c → X.env.cells.lookup y = some c → x = y
  has : ∀ x, (X.env.kindOf x = some .cell ∨ X.env.kindOf x = some .free) → ∃ c, X.env.cells.lookup x = some c
  cab : ∀ x c, X.fn x = true → X.env.cells.lookup x = some c → X.s₀.heap.objs.size ≤ c
  hd : X.calm = true → X.A.handled = none
  frames : X.A.frames = some X.stack
  stk : X.stack = X.outer ∨ (X.stack = X.env :: X.outer ∧ X.env.frame = some X.env.locals)
  exf : ∀ b ∈ X.ex, b ≠ X.env.locals ∧ ∀ x c, X.env.cells.lookup x = some c → c ≠ b
  bs : ∀ b o, X.base.get? b = some o → X.s₀.heap.get? b = some o ∧ X.H₀ b = none
  bsz : X.base.objs.size ≤ X.s₀.heap.objs.size
  noex : ∀ b o, X.base.get? b = some o → b ∉ X.ex
  exfs : ∀ b ∈ X.ex, b ∉ X.fs
  funs : X.s₀.heap.FunFrames X.base X.outer
  frf : ∀ b ∈ X.fs, X.H₀ b = none
structure Inv (X : Cx) (pins : List (Addr × Obj)) (σ : List (Option V)) (H : Hp) (s : Shared) : Prop where
  ok : X.Ok
  os : s.os = X.s₀.os
  bare : AllBare s.gens
  base : Un X.fs X.ex X.H₀ H X.s₀.heap s.heap
  loc : ∃ m, s.heap.Ns X.env.locals m ∧ ∀ (i : Nat) (x : Str) (v : V), X.N[i]? = some x → σ[i]? = some (some v) → Vis X.env.scope x → ∃ u, RelV v u ∧ Look X.env s.heap m x u
  cell : ∀ x c, X.env.cells.lookup x = some c → ∃ v, s.heap.IsCell c v
  free : H X.env.locals = none
  freeC : ∀ x c, X.env.cells.lookup x = some c → H c = none
  pin : ∀ p ∈ X.pn ++ pins, s.heap.get? p.1 = some p.2 ∧ H p.1 = none ∧ p.1 ≠ X.env.locals ∧ p.1 ∉ X.fs ∧ ∀ v, p.2.data ≠ .cell v
  hok : HOk X.prog X.w H s.heap
  len : σ.length = X.N.length
section
variable {X : Cx} {pins : List (Addr × Obj)} {σ : List (Option V)} {H H' : Hp} {s : Shared} {h' : Heap}
theorem Cx.Ok.nofr (ok : X.Ok) {b : Addr} {o : Obj} (e : X.base.get? b = some o) : b ∉ X.fs := fun hb => by
  have := (ok.funs.mem hb).1
  rw [e] at this; cases this
theorem Inv.bs (I : Inv X pins σ H s) : ∀ b o, X.base.get? b = some o → s.heap.get? b = some o ∧ H b = none := fun b o e =>
  ⟨I.base.keep b o (I.ok.bs b o e).1 (I.ok.bs b o e).2 (I.ok.nofr e) (I.ok.noex b o e), I.base.free b o (I.ok.bs b o e).1 (I.ok.bs b o e).2 (I.ok.noex b o e)⟩
theorem Inv.bk (I : Inv X pins σ H s) : ∀ b o, X.base.get? b = some o → s.heap.get? b = some o := fun b o e => (I.bs b o e).1
theorem Inv.mod (I : Inv X pins σ H s) : Mod X.K X.mg X.base := I.ok.mod
theorem Inv.kIn (I : Inv X pins σ H s) : X.K.In s.heap := I.ok.mod.kin.keeps I.bk
theorem Inv.fr (I : Inv X pins σ H s) : ∃ m, Fr X.base X.env.locals s.heap m :=
  let ⟨m, hn, _⟩ := I.loc
  ⟨m, hn, I.bk, Nat.le_trans I.ok.bsz I.ok.above⟩
theorem Inv.lt (I : Inv X pins σ H s) : X.env.locals < s.heap.objs.size := let ⟨_, hn, _⟩ := I.loc; hn.lt
theorem Inv.sz (I : Inv X pins σ H s) : X.s₀.heap.objs.size ≤ s.heap.objs.size := Nat.le_trans I.ok.above (Nat.le_of_lt I.lt)
theorem Inv.nofs (I : Inv X pins σ H s) {a : Addr} (h : s.heap.objs.size ≤ a) : a ∉ X.fs := fun hb => by
  obtain ⟨_, o, ho, _⟩ := I.ok.funs.mem hb
  exact absurd (Nat.lt_of_lt_of_le (Heap.lt_size ho) (Nat.le_trans I.sz h)) (Nat.lt_irrefl _)
theorem Inv.cne (I : Inv X pins σ H s) : ∀ x c, X.env.cells.lookup x = some c → c ≠ X.env.locals := fun x c e z => by
  obtain ⟨v, o, ho, hd⟩ := I.cell x c e
  obtain ⟨m, ⟨o', es, ep, ho', hd', _⟩, _⟩ := I.loc
  rw [z, ho'] at ho; cases ho; rw [hd'] at hd; cases hd
theorem Inv.funs (I : Inv X pins σ H s) : s.heap.FunFrames X.base X.outer := by
  have all : ∀ (l : List Env), (∀ b ∈ frs l, b ∈ X.fs) → X.s₀.heap.FunFrames X.base l → s.heap.FunFrames X.base l := by
    intro l
    induction l with
    | nil => intro _ _; trivial
    | cons env r ih =>
      intro hs hl
      obtain ⟨hk, ⟨L, o, hf, hn, ho, hd⟩, hr⟩ := hl
      have hL : L ∈ X.fs := hs L (by unfold frs; rw [List.filterMap_cons, hf]; exact List.mem_cons_self)
      obtain ⟨sl, e⟩ := I.base.slot L o ho (I.ok.frf L hL) hL fun z => I.ok.exfs L z hL
      exact ⟨hk, ⟨L, _, hf, hn, e, hd⟩, ih (fun b hb => hs b (by unfold frs; rw [List.filterMap_cons, hf]; exact List.mem_cons_of_mem _ hb)) hr⟩
  exact all X.outer (fun _ hb => hb) I.ok.funs
theorem Inv.stack (I : Inv X pins σ H s) : s.heap.FunFrames X.base X.stack := by
  rcases I.ok.stk with e | ⟨e, hf⟩
  · rw [e]; exact I.funs
  · rw [e]
    obtain ⟨m, hn, _⟩ := I.loc
    refine .cons (by rw [I.ok.kind]; decide) hf hn ?_ I.funs
    exact Heap.get?_none_of_le (Nat.le_trans I.ok.bsz I.ok.above)
theorem Inv.stkSub (I : Inv X pins σ H s) : ∀ b ∈ frs X.stack, b ∈ X.env.locals :: X.fs := fun b hb => by
  rcases I.ok.stk with e | ⟨e, hf⟩
  · rw [e] at hb; exact List.mem_cons_of_mem _ hb
  · rw [e] at hb
    unfold frs at hb
    rw [List.filterMap_cons, hf] at hb
    exact hb
theorem Inv.stkFree (I : Inv X pins σ H s) : ∀ b ∈ frs X.stack, H b = none := fun b hb => by
  rcases List.mem_cons.mp (I.stkSub b hb) with e | hb
  · rw [e]; exact I.free
  · obtain ⟨_, o, ho, _⟩ := I.ok.funs.mem hb
    exact I.base.free b o ho (I.ok.frf b hb) fun z => I.ok.exfs b z hb
theorem Inv.step {g' : Array GenState} {t' : Nat} {d' : Drawn} {ch : List Addr} (I : Inv X pins σ H s)
    (hch : ∀ b ∈ ch, (b ∈ X.ex ∨ X.s₀.heap.objs.size ≤ b) ∧ b ≠ X.env.locals ∧ (∀ x c, X.env.cells.lookup x = some c → c ≠ b) ∧ ∀ p ∈ X.pn ++ pins, p.1 ≠ b)
    (keep : ∀ b o, b ≠ X.env.locals → b ∉ X.fs → b ∉ ch → s.heap.get? b = some o → H b = none → h'.get? b = some o)
    (slot : ∀ b o, b ≠ X.env.locals → b ∈ X.fs → b ∉ ch → s.heap.get? b = some o → H b = none → ∃ sl, h'.get? b = some { o with slots := sl }) (free : ∀ b o, b ∉ ch → s.heap.get? b = some o → H b = none → H' b = none)
    (there : ∀ b o, b ∉ ch → s.heap.get? b = some o → ∃ o', h'.get? b = some o')
    (tups : ∀ b xs, H b = some (.tup xs) → H' b = some (.tup xs)) (frzs : ∀ b o u, H b = some (.frz o u) → H' b = some (.frz o u)) (tbls : ∀ b ps, H b = some (.tbl ps) → ∃ more, H' b = some (.tbl (ps ++ more)))
    (ns : ∀ m, s.heap.Ns X.env.locals m → h'.Ns X.env.locals m) (hok : HOk X.prog X.w H' h') (hg : AllBare g') :
    Inv X pins σ H' { s with heap := h', gens := g', drawn := d', toks := t' } := by
  have neL : ∀ b o, X.s₀.heap.get? b = some o → b ≠ X.env.locals := fun b o e => Nat.ne_of_lt (Nat.lt_of_lt_of_le (Heap.lt_size e) I.ok.above)
  have neC : ∀ b o, X.s₀.heap.get? b = some o → b ∉ X.ex → b ∉ ch := fun b o e hx hb => by
    rcases (hch b hb).1 with z | z
    · exact hx z
    · exact absurd (Nat.lt_of_lt_of_le (Heap.lt_size e) z) (Nat.lt_irrefl _)
  have cellK : ∀ x c, X.env.cells.lookup x = some c → ∀ v, s.heap.IsCell c v → h'.IsCell c v := fun x c e v ⟨o, ho, hd⟩ => by
    have nch : c ∉ ch := fun z => (hch c z).2.2.1 x c e rfl
    by_cases hc : c ∈ X.fs
    · obtain ⟨sl, q⟩ := slot c o (I.cne x c e) hc nch ho (I.freeC x c e)
      exact ⟨_, q, hd⟩
    · exact ⟨o, keep c o (I.cne x c e) hc nch ho (I.freeC x c e), hd⟩
  refine ⟨I.ok, I.os, hg, ⟨fun b o e n hb hx => ?_, fun b o e n hb hx => ?_, fun b o e n hx => ?_, fun b o e hx => ?_, fun b xs e => tups b xs (I.base.tups b xs e), fun b o xs e => frzs b o xs (I.base.frzs b o xs e), fun b ps e => ?_⟩, ?_, fun x c e => ?_, ?_, fun x c e => ?_, fun p hp => ?_, hok, I.len⟩
  · exact keep b o (neL b o e) hb (neC b o e hx) (I.base.keep b o e n hb hx) (I.base.free b o e n hx)
  · obtain ⟨sl, e1⟩ := I.base.slot b o e n hb hx
    obtain ⟨sl', e2⟩ := slot b _ (neL b o e) hb (neC b o e hx) e1 (I.base.free b o e n hx)
    exact ⟨sl', e2⟩
  · obtain ⟨o', e1⟩ := I.base.there b o e hx
    exact free b o' (neC b o e hx) e1 (I.base.free b o e n hx)
  · obtain ⟨o', e1⟩ := I.base.there b o e hx
    exact there b o' (neC b o e hx) e1
  · obtain ⟨m1, e1⟩ := I.base.tbls b ps e
    obtain ⟨m2, e2⟩ := tbls b _ e1
    exact ⟨m1 ++ m2, by rw [e2, Array.append_assoc]⟩
  · obtain ⟨m, hn, hl⟩ := I.loc
    refine ⟨m, ns m hn, fun i x v e1 e2 e3 => ?_⟩
    obtain ⟨u, r, l⟩ := hl i x v e1 e2 e3
    refine ⟨u, r, ?_⟩
    rcases l with l | ⟨k, c, e, z⟩
    · exact .inl l
    · exact .inr ⟨k, c, e, cellK x c e _ z⟩
  · obtain ⟨v, z⟩ := I.cell x c e
    exact ⟨v, cellK x c e v z⟩
  · obtain ⟨m, ⟨o, _, _, ho, _⟩, _⟩ := I.loc
    exact free _ o (fun z => (hch _ z).2.1 rfl) ho I.free
  · obtain ⟨v, o, ho, hd⟩ := I.cell x c e
    exact free c o (fun z => (hch c z).2.2.1 x c e rfl) ho (I.freeC x c e)
  · obtain ⟨e, n, ne, nf, d⟩ := I.pin p hp
    have nch : p.1 ∉ ch := fun z => (hch p.1 z).2.2.2 p hp rfl
    exact ⟨keep p.1 p.2 ne nf nch e n, free p.1 p.2 nch e n, ne, nf, d⟩
theorem Inv.un {t' : Nat} (I : Inv X pins σ H s) (u : Un X.fs [] H H' s.heap h') (hok : HOk X.prog X.w H' h') : Inv X pins σ H' { s with heap := h', toks := t' } := by
  obtain ⟨m, ⟨o, es, ep, ho, r⟩, _⟩ := id I.loc
  obtain ⟨sl, hL⟩ := u.any ho I.free (by simp)
  exact I.step (g' := s.gens) (d' := s.drawn) (ch := []) (fun _ z => nomatch z) (fun b o _ hb _ e n => u.keep b o e n hb (by simp)) (fun b o _ hb _ e n => u.slot b o e n hb (by simp)) (fun b o _ e n => u.free b o e n (by simp)) (fun b o _ e => u.there b o e (by simp)) u.tups u.frzs u.tbls (fun m' hm => by
    obtain ⟨o', es', ep', ho', r'⟩ := hm
    rw [ho] at ho'; cases ho'
    exact ⟨_, es', ep', hL, r'⟩) hok I.bare
theorem Inv.call {g' : Array GenState} {t' : Nat} {d' : Drawn} {ch : List Addr} (I : Inv X pins σ H s) (u : Un (frs X.stack) ch H H' s.heap h') (hok : HOk X.prog X.w H' h') (hg : AllBare g')
    (hch : ∀ b ∈ ch, (b ∈ X.ex ∨ X.s₀.heap.objs.size ≤ b) ∧ b ≠ X.env.locals ∧ (∀ x c, X.env.cells.lookup x = some c → c ≠ b) ∧ ∀ p ∈ X.pn ++ pins, p.1 ≠ b) :
    Inv X pins σ H' { s with heap := h', gens := g', drawn := d', toks := t' } := by
  obtain ⟨m, ⟨o, es, ep, ho, r⟩, _⟩ := id I.loc
  obtain ⟨sl, hL⟩ := u.any ho I.free fun z => (hch _ z).2.1 rfl
  exact I.step (ch := ch) hch (fun b o hL hb hc e n => u.keep b o e n (fun z => (List.mem_cons.mp (I.stkSub b z)).elim hL hb) hc) (fun b o _ _ hc e n => u.any e n hc) (fun b o hc e n => u.free b o e n hc) (fun b o hc e => u.there b o e hc) u.tups u.frzs u.tbls (fun m' hm => by
    obtain ⟨o', es', ep', ho', r'⟩ := hm
    rw [ho] at ho'; cases ho'
    exact ⟨_, es', ep', hL, r'⟩) hok hg
theorem Inv.turned {t' : Nat} {it : Addr} (I : Inv X pins σ H s) (k : ∀ b o, b ≠ it → s.heap.get? b = some o → h'.get? b = some o) (hn : H it = none) (hL : it ≠ X.env.locals)
    (h1 : it ∈ X.ex ∨ X.s₀.heap.objs.size ≤ it) (h2 : ∀ x c, X.env.cells.lookup x = some c → c ≠ it) (h3 : ∀ p ∈ X.pn ++ pins, p.1 ≠ it) : Inv X pins σ H { s with heap := h', toks := t' } := by
  have nit : ∀ b u, H b = some u → b ≠ it := fun b u e z => by rw [z, hn] at e; cases e
  refine I.step (g' := s.gens) (d' := s.drawn) (ch := [it]) (fun b hb => ?_) (fun b o _ _ hc e _ => k b o (fun z => hc (by simp [z])) e) (fun b o _ _ hc e _ => ⟨o.slots, k b o (fun z => hc (by simp [z])) e⟩) (fun _ _ _ _ n => n)
    (fun b o hc e => ⟨o, k b o (fun z => hc (by simp [z])) e⟩) (fun _ _ e => e) (fun _ _ _ e => e) (fun b ps e => ⟨#[], by rw [e]; simp⟩) (fun m hm => ?_) (fun b u e => ?_) I.bare
  · have e : b = it := by simpa using hb
    subst e
    exact ⟨h1, hL, h2, h3⟩
  · obtain ⟨o, es, ep, ho, r⟩ := hm
    exact ⟨o, es, ep, k _ o (Ne.symm hL) ho, r⟩
  · refine (I.hok b u e).stay (fun c v hc q => k c v ?_ q) (fun _ q => q) fun _ _ q => q
    rcases hc with z | z
    · rw [z]; exact nit b u e
    · exact nit c _ z
theorem Inv.tok (I : Inv X pins σ H s) (t : Nat) : Inv X pins σ H { s with toks := t } := I.un (h' := s.heap) (t' := t) Un.refl I.hok
theorem Inv.kept {t' : Nat} (I : Inv X pins σ H s) (k : ∀ b u, s.heap.get? b = some u → h'.get? b = some u) : Inv X pins σ H { s with heap := h', toks := t' } := I.un (Un.kept k) (I.hok.kept k)
theorem Inv.laid {a : Addr} {o : HO} {t' : Nat} (I : Inv X pins σ H s) (k : ∀ b u, s.heap.get? b = some u → h'.get? b = some u) (hp : s.heap.objs.size ≤ a) (new : ObjOk X.prog X.w (upd H a o) h' a o) :
    Inv X pins σ (upd H a o) { s with heap := h', toks := t' } := I.un (Un.laid k hp (I.hok.fresh hp)) (I.hok.laid k hp new)
theorem Inv.write {x e : Addr} {o : HO} {t' : Nat} (I : Inv X pins σ H s) (mu : Mut (H x)) (he : e = x ∨ H e = some (.own x)) (k : ∀ b u, b ≠ e → s.heap.get? b = some u → h'.get? b = some u) (heo : ∃ u, h'.get? e = some u)
    (new : ObjOk X.prog X.w (upd H x o) h' x o) : Inv X pins σ (upd H x o) { s with heap := h', toks := t' } := I.un (Un.write mu he k heo) (I.hok.write mu he k heo new)
theorem Inv.pins_of {pins' : List (Addr × Obj)} (I : Inv X pins σ H s) (h : ∀ p ∈ pins', s.heap.get? p.1 = some p.2 ∧ H p.1 = none ∧ p.1 ≠ X.env.locals ∧ p.1 ∉ X.fs ∧ ∀ v, p.2.data ≠ .cell v) : Inv X pins' σ H s :=
  ⟨I.ok, I.os, I.bare, I.base, I.loc, I.cell, I.free, I.freeC, fun p hp => (List.mem_append.mp hp).elim (fun z => I.pin p (List.mem_append_left _ z)) (h p), I.hok, I.len⟩
theorem nodup_ix {N : List Str} (hN : N.Nodup) {i j : Nat} {x : Str} (a : N[i]? = some x) (b : N[j]? = some x) : i = j := by
  obtain ⟨h1, e1⟩ := List.getElem?_eq_some_iff.mp a
  obtain ⟨h2, e2⟩ := List.getElem?_eq_some_iff.mp b
  exact (List.getElem_inj hN).mp (e1.trans e2.symm)
theorem store_ok2 {M : Model} {A : Around} {E : Value → Shared → Prop} {i : Nat} {x : Str} {v : V} {u : Value} {Q : Unit → Shared → Prop} (I : Inv X pins σ H s) (hN : X.N.Nodup) (hi : X.N[i]? = some x) (hx : Loc X.env.scope x) (r : RelV v u)
    (h : ∀ s', Inv X pins (σ.set i (some v)) H s' → (∃ a, Heap.SameBut a s.heap s'.heap ∧ (a = X.env.locals ∨ X.env.cells.lookup x = some a)) → Q () s') (hf : X.fn x = true ∨ X.env.scope.names.lookup x = some .local := by first | exact .inl rfl | exact .inr rfl | assumption) : wpAny M A (storeName X.env x u) Q E s := by
  obtain ⟨m, hn, hl⟩ := id I.loc
  have hcls : (X.env.scope.kind == .class || (X.env.scope.kind == .module && X.env.locals != X.env.globals)) = false := by rw [I.ok.kind]; rfl
  have hiσ : i < σ.length := by rw [I.len]; exact (List.getElem?_eq_some_iff.mp hi).1
  have cne := I.cne
  have tracked : ∀ {a : Addr} {h' : Heap}, (∃ o, s.heap.get? a = some o ∧ H a = none) → Heap.SameBut a s.heap h' → HOk X.prog X.w H h' := fun {a h'} ha hs b ob e => by
    obtain ⟨_, _, hfree⟩ := ha
    refine (I.hok b ob e).stay (fun c w' hc q => (hs.2 c ?_).trans q) (fun _ q => q) fun _ _ q => q
    rintro rfl
    rcases hc with rfl | hc
    · rw [hfree] at e; cases e
    · rw [hfree] at hc; cases hc
  rcases hx with hk | hk
  · refine wpAny_storeName_local hk hn (fun h' hn' hs => ?_) hcls
    obtain ⟨oL, _, _, hoL, _⟩ := id hn
    refine h _ ⟨I.ok, I.os, I.bare, ⟨fun b o e n hb hx => ?_, fun b o e n hb hx => ?_, I.base.free, fun b o e hx => ?_, I.base.tups, I.base.frzs, I.base.tbls⟩, ⟨_, hn', fun j y v' e1 e2 e3 => ?_⟩, fun y c e => ?_, I.free, I.freeC, fun p hp => ?_, tracked ⟨oL, hoL, I.free⟩ hs, by simpa using I.len⟩ ⟨_, hs, .inl rfl⟩
    · exact (hs.2 b (Nat.ne_of_lt (Nat.lt_of_lt_of_le (Heap.lt_size e) I.ok.above))).trans (I.base.keep b o e n hb hx)
    · obtain ⟨sl, e1⟩ := I.base.slot b o e n hb hx
      exact ⟨sl, (hs.2 b (Nat.ne_of_lt (Nat.lt_of_lt_of_le (Heap.lt_size e) I.ok.above))).trans e1⟩
    · obtain ⟨o', e1⟩ := I.base.there b o e hx
      exact ⟨o', (hs.2 b (Nat.ne_of_lt (Nat.lt_of_lt_of_le (Heap.lt_size e) I.ok.above))).trans e1⟩
    · by_cases hj : j = i
      · subst hj
        rw [hi] at e1; cases e1
        rw [List.getElem?_set_self hiσ] at e2
        cases e2
        exact ⟨u, r, .inl ⟨hk, by simp⟩⟩
      · rw [List.getElem?_set_ne (Ne.symm hj)] at e2
        obtain ⟨u', r', q⟩ := hl j y v' e1 e2 e3
        refine ⟨u', r', ?_⟩
        rcases q with ⟨k, e⟩ | ⟨k, c, e, z⟩
        · refine .inl ⟨k, ?_⟩
          have : y ≠ x := fun e => hj (nodup_ix hN e1 (e ▸ hi))
          simp [this, e]
        · exact .inr ⟨k, c, e, z.sameBut hs (cne y c e)⟩
    · obtain ⟨w', z⟩ := I.cell y c e
      exact ⟨w', z.sameBut hs (cne y c e)⟩
    · obtain ⟨e, n, ne, nf, d⟩ := I.pin p hp
      exact ⟨(hs.2 p.1 ne).trans e, n, ne, nf, d⟩
  · have hfn : X.fn x = true := by
      rcases hf with z | z
      · exact z
      · rw [z] at hk; cases hk
    obtain ⟨c, hc⟩ := I.ok.has x (.inl hk)
    obtain ⟨w', z⟩ := I.cell x c hc
    refine wpAny_storeName_cell I.ok.kind hk hc z (fun h' hc' hs => ?_)
    obtain ⟨oc, hoc, hocd⟩ := id z
    refine h { s with heap := h' } ⟨I.ok, I.os, I.bare, ⟨fun b o e n hb hx => ?_, fun b o e n hb hx => ?_, I.base.free, fun b o e hx => ?_, I.base.tups, I.base.frzs, I.base.tbls⟩, ⟨m, hn.sameBut hs (Ne.symm (cne x c hc)), fun j y v' e1 e2 e3 => ?_⟩, fun y c' e => ?_, I.free, I.freeC, fun p hp => ?_, tracked ⟨oc, hoc, I.freeC x c hc⟩ hs, by simpa using I.len⟩ ⟨c, hs, .inr hc⟩
    · exact (hs.2 b (Nat.ne_of_lt (Nat.lt_of_lt_of_le (Heap.lt_size e) (I.ok.cab x c hfn hc)))).trans (I.base.keep b o e n hb hx)
    · obtain ⟨sl, e1⟩ := I.base.slot b o e n hb hx
      exact ⟨sl, (hs.2 b (Nat.ne_of_lt (Nat.lt_of_lt_of_le (Heap.lt_size e) (I.ok.cab x c hfn hc)))).trans e1⟩
    · obtain ⟨o', e1⟩ := I.base.there b o e hx
      exact ⟨o', (hs.2 b (Nat.ne_of_lt (Nat.lt_of_lt_of_le (Heap.lt_size e) (I.ok.cab x c hfn hc)))).trans e1⟩
    · by_cases hj : j = i
      · subst hj
        rw [hi] at e1; cases e1
        rw [List.getElem?_set_self hiσ] at e2
        cases e2
        exact ⟨u, r, .inr ⟨.inl hk, c, hc, hc'⟩⟩
      · rw [List.getElem?_set_ne (Ne.symm hj)] at e2
        obtain ⟨u', r', q⟩ := hl j y v' e1 e2 e3
        refine ⟨u', r', ?_⟩
        rcases q with q | ⟨k, c', e, z'⟩
        · exact .inl q
        · refine .inr ⟨k, c', e, z'.sameBut hs ?_⟩
          rintro rfl
          exact hj (nodup_ix hN e1 (I.ok.inj _ _ _ e hc ▸ hi))
    · by_cases hcc : c' = c
      · subst hcc; exact ⟨_, hc'⟩
      · obtain ⟨w2, z2⟩ := I.cell y c' e
        exact ⟨w2, z2.sameBut hs hcc⟩
    · obtain ⟨e, n, ne, nf, d⟩ := I.pin p hp
      refine ⟨(hs.2 p.1 ?_).trans e, n, ne, nf, d⟩
      intro q
      rw [q, hoc] at e
      have q' : oc = p.2 := Option.some.inj e
      exact d w' (by rw [← q']; exact hocd)
theorem store_ok {M : Model} {A : Around} {E : Value → Shared → Prop} {i : Nat} {x : Str} {v : V} {u : Value} {Q : Unit → Shared → Prop} (I : Inv X pins σ H s) (hN : X.N.Nodup) (hi : X.N[i]? = some x) (hx : Loc X.env.scope x) (r : RelV v u)
    (h : ∀ s', Inv X pins (σ.set i (some v)) H s' → Q () s') (hf : X.fn x = true ∨ X.env.scope.names.lookup x = some .local := by first | exact .inl rfl | exact .inr rfl | assumption) : wpAny M A (storeName X.env x u) Q E s :=
  store_ok2 I hN hi hx r (fun s' I' _ => h s' I') hf
theorem Inv.call' {s' : Shared} {ch : List Addr} (I : Inv X pins σ H s) (ho : s'.os = s.os) (u : Un (frs X.stack) ch H H' s.heap s'.heap) (hok : HOk X.prog X.w H' s'.heap) (hg : AllBare s'.gens)
    (hch : ∀ b ∈ ch, (b ∈ X.ex ∨ X.s₀.heap.objs.size ≤ b) ∧ b ≠ X.env.locals ∧ (∀ x c, X.env.cells.lookup x = some c → c ≠ b) ∧ ∀ p ∈ X.pn ++ pins, p.1 ≠ b) : Inv X pins σ H' s' := by
  obtain ⟨h', g', d', t', o'⟩ := s'
  have e : o' = s.os := ho
  subst e
  exact I.call (g' := g') (t' := t') (d' := d') u hok hg hch
end
abbrev XK := Value → Option Addr → Hp → Prop
abbrev St := List (Option V)
abbrev VK := V → Hp → Prop
abbrev TE := St → Hp → VK → Prop
abbrev TT := St → Hp → (Bool → Hp → Prop) → Prop
abbrev TA := St → Hp → (List V → Hp → Prop) → Prop
structure Ends where
  nx : St → Hp → Prop
  rt : VK
  bk : St → Hp → Prop := fun _ _ => False
  ct : St → Hp → Prop := fun _ _ => False
abbrev TS := Ends → St → Hp → Prop
def EP (X : Cx) (pins : List (Addr × Obj)) (σ : St) (Q : VK) (u : Value) (s' : Shared) : Prop := ∃ v H', Inv X pins σ H' s' ∧ RelV v u ∧ Q v H'
def TP (X : Cx) (pins : List (Addr × Obj)) (σ : St) (Q : Bool → Hp → Prop) (b : Bool) (s' : Shared) : Prop := ∃ H', Inv X pins σ H' s' ∧ Q b H'
def AP (X : Cx) (pins : List (Addr × Obj)) (σ : St) (Q : List V → Hp → Prop) (us : List Value) (s' : Shared) : Prop := ∃ vs H', Inv X pins σ H' s' ∧ Vals vs us ∧ Q vs H'
def SP (X : Cx) (pins : List (Addr × Obj)) (D : Ends) (f : Flow) (s' : Shared) : Prop :=
  match f with
  | .next => ∃ σ' H', Inv X pins σ' H' s' ∧ D.nx σ' H'
  | .brk => ∃ σ' H', Inv X pins σ' H' s' ∧ D.bk σ' H'
  | .cont => ∃ σ' H', Inv X pins σ' H' s' ∧ D.ct σ' H'
  | .ret u => ∃ v σ' H', Inv X pins σ' H' s' ∧ RelV v u ∧ D.rt v H'
def PE (X : Cx) (e : Expr) (t : TE) : Prop :=
  ∀ (pins : List (Addr × Obj)) (s : Shared) (σ : St) (H : Hp) (Q : VK), Inv X pins σ H s → t σ H Q → wpAny (model X.prog X.w) X.A (eval e X.env) (EP X pins σ Q) X.xe s
def PT (X : Cx) (e : Expr) (t : TT) : Prop :=
  ∀ (pins : List (Addr × Obj)) (s : Shared) (σ : St) (H : Hp) (Q : Bool → Hp → Prop), Inv X pins σ H s → t σ H Q → wpAny (model X.prog X.w) X.A (isTrue e X.env (eval e X.env)) (TP X pins σ Q) X.xe s
def PW (X : Cx) (e : Expr) (t : TT) : Prop :=
  ∀ (whole : Sem Value) (pins : List (Addr × Obj)) (s : Shared) (σ : St) (H : Hp) (Q : Bool → Hp → Prop), Inv X pins σ H s → t σ H Q → wpAny (model X.prog X.w) X.A (isTrue e X.env whole) (TP X pins σ Q) X.xe s
theorem PW.pt {X : Cx} {e : Expr} {t : TT} (h : PW X e t) : PT X e t := h _
def PA (X : Cx) (es : List Expr) (t : TA) : Prop :=
  ∀ (pos : Pos) (pins : List (Addr × Obj)) (s : Shared) (σ : St) (H : Hp) (Q : List V → Hp → Prop), Inv X pins σ H s → t σ H Q → wpAny (model X.prog X.w) X.A (spliced (backTo pos (starEach es X.env))) (AP X pins σ Q) X.xe s
def PS (X : Cx) (st : Stmt) (t : TS) : Prop :=
  ∀ (pins : List (Addr × Obj)) (s : Shared) (σ : St) (H : Hp) (D : Ends), Inv X pins σ H s → t D σ H → wpAny (model X.prog X.w) X.A (exec st X.env) (SP X pins D) X.xe s
def PSs (X : Cx) (st : List Stmt) (t : TS) : Prop :=
  ∀ (pins : List (Addr × Obj)) (s : Shared) (σ : St) (H : Hp) (D : Ends), Inv X pins σ H s → t D σ H → wpAny (model X.prog X.w) X.A (execs st X.env) (SP X pins D) X.xe s
theorem thn {α : Type} {t : Sem α} {Q Q' : α → Shared → Prop} {M : Model} {A : Around} {E : Value → Shared → Prop} {s : Shared} (h : wpAny M A t Q E s) (hQ : ∀ a s, Q a s → Q' a s) : wpAny M A t Q' E s := wpAny_mono h hQ fun _ _ x => x
end L2
namespace L2
open PySem PySem.Spec PyProof.Rows
section
variable {X : Cx}
theorem bin {a b : Expr} {ta tb : TE} (ha : PE X a ta) (hb : PE X b tb) {pins : List (Addr × Obj)} {s : Shared} {σ : St} {H : Hp} {R : V → V → Hp → Prop} (I : Inv X pins σ H s) (h : ta σ H fun x H1 => tb σ H1 fun y H2 => R x y H2)
    {α : Type} {Q : α → Shared → Prop} {f : Value → Value → Sem α}
    (hf : ∀ v u s2 x y H2, Inv X pins σ H2 s2 → RelV x v → RelV y u → R x y H2 → wpAny (model X.prog X.w) X.A (f v u) Q X.xe s2) :
    wpAny (model X.prog X.w) X.A (eval a X.env) (fun v s₁ => wpAny (model X.prog X.w) X.A (eval b X.env) (fun u s₂ => wpAny (model X.prog X.w) X.A (f v u) Q X.xe s₂) X.xe s₁) X.xe s := by
  refine thn (ha pins s σ H _ I h) fun v s1 ⟨x, H1, I1, r1, q1⟩ => ?_
  refine thn (hb pins s1 σ H1 _ I1 q1) fun u s2 ⟨y, H2, I2, r2, q2⟩ => ?_
  exact hf v u s2 x y H2 I2 r1 r2 q2
def tVar (i : Nat) : TE := fun σ H Q => ∃ v, σ[i]? = some (some v) ∧ Q v H
def tC (v : V) : TE := fun _ H Q => Q v H
theorem pe_var {i : Nat} {x : Str} {pos : Pos} (hN : X.N[i]? = some x) (hv : Vis X.env.scope x) (hd : (x == ("__debug__" : Str)) = false := by decide) (hcd : (x == ("__classdict__" : Str)) = false := by decide) : PE X (.Name x pos) (tVar i) := by
  intro pins s σ H Q I h
  obtain ⟨v, e, h⟩ := h
  obtain ⟨m, hn, hl⟩ := I.loc
  obtain ⟨u, r, l⟩ := hl i x v hN e hv
  have fin : EP X pins σ Q u s := ⟨v, H, I, r, h⟩
  rcases l with ⟨hk, hm⟩ | ⟨hk, c, hc, hcell⟩
  · exact wpAny_Name (wpAny_loadName_local I.ok.kind hk hn hm fin) hd
  · rcases hk with hk | hk
    · exact wpAny_Name (wpAny_loadName_cell I.ok.kind hk hc hcell fin) hd
    · exact wpAny_Name (wpAny_loadName_free I.ok.kind hk hc hcell fin hcd) hd
theorem pe_int {i j pos} : PE X (.Constant (.int i) j pos) (tC (.int i)) := fun _ _ _ H _ I h => wpAny_Constant_int ⟨.int i, H, I.tok _, ⟨_, rfl⟩, h⟩
theorem pe_bl {b j pos} : PE X (.Constant (.bool b) j pos) (tC (.bl b)) := fun _ _ _ H _ I h => Constant_bool ⟨.bl b, H, I, rfl, h⟩
theorem pe_str {x j pos} : PE X (.Constant (.str x) j pos) (tC (.str x)) := fun _ _ _ H _ I h => Calls.Constant_str ⟨.str x, H, I.tok _, ⟨_, rfl⟩, h⟩
def Gl (X : Cx) (x : Str) : Prop := X.env.kindOf x = some .globalImplicit
theorem ld_glob {E : Value → Shared → Prop} {pins : List (Addr × Obj)} {s : Shared} {σ : St} {H : Hp} {x : Str} {u : Value} {pos : Pos} {Q : Value → Shared → Prop} (I : Inv X pins σ H s) (hg : Gl X x) (hm : X.mg x = some u) (h : Q u s)
    (hd : (x == ("__debug__" : Str)) = false := by decide) : wpAny (model X.prog X.w) X.A (eval (.Name x pos) X.env) Q E s :=
  Calls.Name_function_global I.ok.kind hg (Calls.loadGlobal_global (by rw [I.ok.glob]; exact I.mod.glob.keeps I.bk) hm h) hd
theorem ld_blt {E : Value → Shared → Prop} {pins : List (Addr × Obj)} {s : Shared} {σ : St} {H : Hp} {x : Str} {u : Value} {pos : Pos} {Q : Value → Shared → Prop} (I : Inv X pins σ H s) (hg : Gl X x) (hm : X.mg x = none) (hv : bootBuiltins x = some u) (h : Q u s)
    (hn : x ≠ "__name__" := by decide) (hd : (x == ("__debug__" : Str)) = false := by decide) : wpAny (model X.prog X.w) X.A (eval (.Name x pos) X.env) Q E s := by
  obtain ⟨mb, h1, h2⟩ := I.mod.blt
  exact Calls.Name_function_global I.ok.kind hg (Calls.loadGlobal_builtin (by rw [I.ok.glob]; exact I.mod.glob.keeps I.bk) hm (by rw [I.ok.blt]; exact h1.keeps I.bk) ((h2 x hn).trans hv) h) hd
theorem pe_glob {x : Str} {v : V} {u : Value} {pos : Pos} (hg : Gl X x) (hm : X.mg x = some u) (r : RelV v u) (hd : (x == ("__debug__" : Str)) = false := by decide) : PE X (.Name x pos) (tC v) :=
  fun _ _ _ H _ I h => ld_glob I hg hm ⟨v, H, I, r, h⟩ hd
theorem pe_bltn {x : Str} {v : V} {u : Value} {pos : Pos} (hg : Gl X x) (hm : X.mg x = none) (hv : bootBuiltins x = some u) (r : RelV v u) (hn : x ≠ "__name__" := by decide) (hd : (x == ("__debug__" : Str)) = false := by decide) : PE X (.Name x pos) (tC v) :=
  fun _ _ _ H _ I h => ld_blt I hg hm hv ⟨v, H, I, r, h⟩ hn hd
variable {a b : Expr} {ta tb : TE} {pos : Pos}
def PC (X : Cx) (op : CmpOp) (a b : Expr) (t : TE) : Prop :=
  ∀ (pins : List (Addr × Obj)) (s : Shared) (σ : St) (H : Hp) (Q : VK), Inv X pins σ H s → t σ H Q →
    wpAny (model X.prog X.w) X.A (eval a X.env) (fun v s₁ => wpAny (model X.prog X.w) X.A (eval b X.env) (fun u s₂ => wpAny (model X.prog X.w) X.A (compareOp op v u) (EP X pins σ Q) X.xe s₂) X.xe s₁) X.xe s
def tB (t : TE) : TT := fun σ H Q => t σ H fun x H1 => ∃ c, x = .bl c ∧ Q c H1
theorem pt_cmp {op : CmpOp} {t : TE} (h : PC X op a b t) (h1 : behindInMarks op b = false := by first | exact nobehind _ (by decide) (by decide) | rfl) : PT X (.Compare a [op] [b] pos) (tB t) := by
  intro pins s σ H Q I hw
  refine wpAny_isTrue_Compare1 (thn (h pins s σ H _ I hw) fun v s1 h1 => thn h1 fun u s2 h2 => thn h2 fun c s3 ⟨x, H1, I1, r1, q1⟩ => ?_) h1
  obtain ⟨d, rfl, q⟩ := q1
  cases r1
  exact wpAny_truthy_bool ⟨H1, I1, q⟩
theorem pt_val {e : Expr} {t : TE} (h : PE X e t) (he : ∀ whole, isTrue e X.env whole = (do let v ← whole; standAt e.pos; holding [v] (truthy v)) := by intro _; rfl) : PT X e (tB t) := by
  intro pins s σ H Q I hw
  refine isTrue_plain (thn (h pins s σ H _ I hw) fun v s1 ⟨x, H1, I1, r1, q1⟩ => ?_) (he _)
  obtain ⟨d, rfl, q⟩ := q1
  cases r1
  exact wpAny_truthy_bool ⟨H1, I1, q⟩
variable {tA tB' : TT} {rest : List Expr}
def tAnd (t u : TT) : TT := fun σ H Q => t σ H fun c H1 => if c = true then u σ H1 Q else Q false H1
def tOr (t u : TT) : TT := fun σ H Q => t σ H fun c H1 => if c = true then Q true H1 else u σ H1 Q
def tNot (t : TT) : TT := fun σ H Q => t σ H fun c H1 => Q (!c) H1
theorem pw_and1 (ha : PT X a tA) : PW X (.BoolOp .And [a] pos) tA := by
  intro wh pins s σ H Q I h
  refine isTrue_and (thn (ha pins s σ H Q I h) fun c s1 e => ?_)
  cases c with
  | true => exact isTrue_and_nil e
  | false => exact e
theorem pw_or1 (ha : PT X a tA) : PW X (.BoolOp .Or [a] pos) tA := by
  intro wh pins s σ H Q I h
  refine isTrue_or (thn (ha pins s σ H Q I h) fun c s1 e => ?_)
  cases c with
  | false => exact isTrue_or_nil e
  | true => exact e
theorem pw_and (ha : PT X a tA) (hb : PW X (.BoolOp .And (b :: rest) pos) tB') : PW X (.BoolOp .And (a :: b :: rest) pos) (tAnd tA tB') := by
  intro wh pins s σ H Q I h
  refine isTrue_and (thn (ha pins s σ H _ I h) fun c s1 ⟨H1, I1, q1⟩ => ?_)
  cases c with
  | true => exact hb wh pins s1 σ H1 Q I1 q1
  | false => exact ⟨H1, I1, q1⟩
theorem pw_or (ha : PT X a tA) (hb : PW X (.BoolOp .Or (b :: rest) pos) tB') : PW X (.BoolOp .Or (a :: b :: rest) pos) (tOr tA tB') := by
  intro wh pins s σ H Q I h
  refine isTrue_or (thn (ha pins s σ H _ I h) fun c s1 ⟨H1, I1, q1⟩ => ?_)
  cases c with
  | true => exact ⟨H1, I1, q1⟩
  | false => exact hb wh pins s1 σ H1 Q I1 q1
theorem pt_not (ha : PT X a tA) : PT X (.UnaryOp .Not a pos) (tNot tA) := by
  intro pins s σ H Q I h
  exact isTrue_not (ha pins s σ H (fun c H1 => Q (!c) H1) I h)
def tAndV (ta tb : TE) : TE := fun σ H Q => ta σ H fun x H1 => ∃ c, x = .bl c ∧ if c = true then tb σ H1 Q else Q (.bl false) H1
def tOrV (ta tb : TE) : TE := fun σ H Q => ta σ H fun x H1 => ∃ c, x = .bl c ∧ if c = true then Q (.bl true) H1 else tb σ H1 Q
def tNotV (ta : TE) : TE := fun σ H Q => ta σ H fun x H1 => ∃ c, x = .bl c ∧ Q (.bl (!c)) H1
theorem pe_one {op} {t : TE} (h : PE X a t) : PE X (.BoolOp op [a] pos) t := fun pins s σ H Q I hw => BoolOp_one (h pins s σ H Q I hw)
theorem pe_and (ha : PE X a ta) (hb : PE X (.BoolOp .And (b :: rest) pos) tb) : PE X (.BoolOp .And (a :: b :: rest) pos) (tAndV ta tb) := by
  intro pins s σ H Q I h
  refine BoolOp_and (thn (ha pins s σ H _ I h) fun v s1 ⟨x, H1, I1, r1, q1⟩ => ?_)
  obtain ⟨c, rfl, q1⟩ := q1
  cases r1
  refine wpAny_truthy_bool ?_
  cases c with
  | true => exact hb pins s1 σ H1 Q I1 q1
  | false => exact ⟨.bl false, H1, I1, rfl, q1⟩
end
end L2
namespace L2
open PySem PySem.Spec PyProof.Rows
def SqL (K : PySem.W.Frag) (H : Hp) (a : Addr) (xs : List V) : Prop :=
  Rd H a (.lst xs) ∨
    ∃ (o : Obj) (its : Array Value) (n : Nat), K.lookup a = some o ∧ o.cls = .type "list" ∧ o.dict = none ∧ o.data = .seq its n ∧ its.size ≤ sizeLine ∧ Vals xs its.toList
def SqT (K : PySem.W.Frag) (H : Hp) (a : Addr) (xs : List V) : Prop :=
  Rd H a (.tup xs) ∨
    ∃ (o : Obj) (its : Array Value) (n : Nat), K.lookup a = some o ∧ o.cls = .type "tuple" ∧ o.data = .seq its n ∧ its.size ≤ sizeLine ∧ Vals xs its.toList
def absV : Value → Option V
  | .none => some .non
  | .bool b => some (.bl b)
  | .int i _ => some (.int i)
  | .str x _ => some (.str x)
  | .bytes b _ => some (.byt b)
  | .float b _ => some (.flt b)
  | .ref a => some (.ref a)
  | .type n => some (.ty n)
  | _ => none
theorem RelV.abs {x : V} {u : Value} (r : RelV x u) : absV u = some x := by
  cases x with
  | non => cases r; rfl
  | bl _ => cases r; rfl
  | int _ => obtain ⟨t, rfl⟩ := r; rfl
  | str _ => obtain ⟨t, rfl⟩ := r; rfl
  | byt _ => obtain ⟨t, rfl⟩ := r; rfl
  | flt _ => obtain ⟨t, rfl⟩ := r; rfl
  | ref _ => cases r; rfl
  | ty _ => cases r; rfl
theorem RelV.inj {x y : V} {u : Value} (r : RelV x u) (q : RelV y u) : x = y := Option.some.inj (r.abs.symm.trans q.abs)
theorem Vals.inj : ∀ {xs ys : List V} {us : List Value}, Vals xs us → Vals ys us → xs = ys
  | _, _, _, .nil, .nil => rfl
  | _, _, _, .cons r t, .cons r' t' => by rw [r.inj r', Vals.inj t t']
section
variable {X : Cx} {pins : List (Addr × Obj)} {σ : St} {H : Hp} {s : Shared} {a : Addr} {xs ys : List V}
theorem SqL.of {K : PySem.W.Frag} (h : H a = some (.lst xs)) : SqL K H a xs := .inl (.inl h)
theorem SqT.of {K : PySem.W.Frag} (h : H a = some (.tup xs)) : SqT K H a xs := .inl (.inl h)
theorem Inv.list (I : Inv X pins σ H s) (h : SqL X.K H a xs) : ∃ its : List Value, Vals xs its ∧ PlainL s.heap a its.toArray ∧ xs.length ≤ sizeLine := by
  rcases h with h | ⟨o, its, n, hk, hc, hd, hs, hz, r⟩
  · obtain ⟨z, its, n, r, e⟩ := h.ok I.hok
    exact ⟨its, r, ⟨_, n, e, rfl, rfl, rfl⟩, z⟩
  · refine ⟨its.toList, r, ⟨o, n, I.kIn a o hk, hc, hd, by simpa using hs⟩, ?_⟩
    have e := r.length
    simp only [Array.length_toList] at e
    omega
theorem Inv.tuple (I : Inv X pins σ H s) (h : SqT X.K H a xs) : ∃ its : List Value, Vals xs its ∧ IsTup s.heap a its.toArray ∧ xs.length ≤ sizeLine := by
  rcases h with h | ⟨o, its, n, hk, hc, hs, hz, r⟩
  · obtain ⟨z, its, r, p⟩ := h.ok I.hok
    exact ⟨its, r, p, z⟩
  · refine ⟨its.toList, r, ⟨o, I.kIn a o hk, hc, n, by simpa using hs⟩, ?_⟩
    have e := r.length
    simp only [Array.length_toList] at e
    omega
theorem Inv.list_inj (I : Inv X pins σ H s) (h : SqL X.K H a xs) (h' : SqL X.K H a ys) : xs = ys := by
  obtain ⟨its, r, ⟨o, n, e, _, _, d⟩, _⟩ := I.list h
  obtain ⟨its', r', ⟨o', n', e', _, _, d'⟩, _⟩ := I.list h'
  rw [e] at e'; cases e'
  rw [d] at d'
  injection d' with d1 _
  have : its = its' := by simpa using congrArg Array.toList d1
  subst this
  exact r.inj r'
end
abbrev Cx.wish (X : Cx) (E : Value → Shared → Prop) : Cx := { X with xe := E }
abbrev Cx.nox (X : Cx) : Cx := X.wish fun _ _ => False
theorem Cx.Ok.wish {X : Cx} (ok : X.Ok) (E : Value → Shared → Prop) : (X.wish E).Ok :=
  ⟨ok.mod, ok.kind, ok.glob, ok.blt, ok.above, ok.inj, ok.has, ok.cab, ok.hd, ok.frames, ok.stk, ok.exf, ok.bs, ok.bsz, ok.noex, ok.exfs, ok.funs, ok.frf⟩
theorem Cx.Ok.unwish {X : Cx} {E : Value → Shared → Prop} (ok : (X.wish E).Ok) : X.Ok :=
  ⟨ok.mod, ok.kind, ok.glob, ok.blt, ok.above, ok.inj, ok.has, ok.cab, ok.hd, ok.frames, ok.stk, ok.exf, ok.bs, ok.bsz, ok.noex, ok.exfs, ok.funs, ok.frf⟩
section
variable {X : Cx} {pins : List (Addr × Obj)} {σ : St} {H : Hp} {s : Shared} {E : Value → Shared → Prop}
theorem Inv.wish (I : Inv X pins σ H s) (E : Value → Shared → Prop) : Inv (X.wish E) pins σ H s := ⟨I.ok.wish E, I.os, I.bare, I.base, I.loc, I.cell, I.free, I.freeC, I.pin, I.hok, I.len⟩
theorem Inv.unwish (I : Inv (X.wish E) pins σ H s) : Inv X pins σ H s := ⟨I.ok.unwish, I.os, I.bare, I.base, I.loc, I.cell, I.free, I.freeC, I.pin, I.hok, I.len⟩
theorem SP.unwish {D : Ends} {f : Flow} {s' : Shared} (h : SP (X.wish E) pins D f s') : SP X pins D f s' := by
  cases f with
  | next => obtain ⟨σ', H', I, q⟩ := h; exact ⟨σ', H', I.unwish, q⟩
  | brk => obtain ⟨σ', H', I, q⟩ := h; exact ⟨σ', H', I.unwish, q⟩
  | cont => obtain ⟨σ', H', I, q⟩ := h; exact ⟨σ', H', I.unwish, q⟩
  | ret u => obtain ⟨v, σ', H', I, r, q⟩ := h; exact ⟨v, σ', H', I.unwish, r, q⟩
theorem PSs.nox {st : List Stmt} {t : TS} (h : PSs X.nox st t) : PSs X st t := fun pins s σ H D I hw =>
  wpAny_mono (h pins s σ H D (I.wish _) hw) (fun _ _ q => q.unwish) fun _ _ z => False.elim z
end
section
variable {X : Cx} {st : Stmt} {rest : List Stmt} {t u : TS} {e : Expr} {te : TE} {pos : Pos}
def tNext : TS := fun D σ H => D.nx σ H
def tSeq (t u : TS) : TS := fun D σ H => t { D with nx := u D } σ H
theorem pss_nil : PSs X [] tNext := fun _ _ σ H _ I h => wpAny_execs_nil ⟨σ, H, I, h⟩
theorem pss_cons (h1 : PS X st t) (h2 : PSs X rest u) : PSs X (st :: rest) (tSeq t u) := by
  intro pins s σ H D I h
  refine wpAny_execs_cons (thn (h1 pins s σ H { D with nx := u D } I h) fun f s1 q => ?_)
  cases f with
  | next =>
    obtain ⟨σ', H', I', q⟩ := q
    exact h2 pins s1 σ' H' D I' q
  | ret v => exact q
  | brk => exact q
  | cont => exact q
theorem pss_one (h1 : PS X st t) : PSs X [st] t := by
  intro pins s σ H D I h
  refine wpAny_execs_cons (thn (h1 pins s σ H D I h) fun f s1 q => ?_)
  cases f with
  | next => exact wpAny_execs_nil q
  | ret v => exact q
  | brk => exact q
  | cont => exact q
theorem Inv.quiet {pins : List (Addr × Obj)} {σ : St} {H : Hp} {s : Shared} (I : Inv X pins σ H s) : interactive X.env = false := by simp [interactive, I.ok.kind]
def tDrop (te : TE) : TS := fun D σ H => te σ H fun _ H1 => D.nx σ H1
theorem ps_expr (he : PE X e te) (hs : swapsWith e none pos.line X.env = pure false := by rfl) : PS X (.Expr e pos) (tDrop te) := by
  intro pins s σ H D I h
  exact wpAny_Expr_any (thn (he pins s σ H _ I h) fun v s1 ⟨x, H1, I1, r1, q1⟩ => ⟨σ, H1, I1, q1⟩) I.quiet hs
def tRet (te : TE) : TS := fun D σ H => te σ H D.rt
theorem ps_ret (he : PE X e te) : PS X (.Return (some e) pos) (tRet te) := by
  intro pins s σ H D I h
  exact wpAny_Return_some (thn (he pins s σ H _ I h) fun v s1 ⟨x, H1, I1, r1, q1⟩ => ⟨x, σ, H1, I1, r1, q1⟩)
def tRetN : TS := fun D _ H => D.rt .non H
def tIfS (c : TT) (t u : TS) : TS := fun D σ H => c σ H fun b H1 => if b = true then t D σ H1 else u D σ H1
theorem ps_if {c : Expr} {a b : List Stmt} {tc : TT} (hc : PT X c tc) (ha : PSs X a t) (hb : PSs X b u) : PS X (.If c a b pos) (tIfS tc t u) := by
  intro pins s σ H D I h
  refine wpAny_If (thn (hc pins s σ H _ I h) fun d s1 ⟨H1, I1, q1⟩ => ?_)
  cases d with
  | true => exact ha pins s1 σ H1 D I1 q1
  | false => exact hb pins s1 σ H1 D I1 q1
def tNever : TS := fun _ _ _ => False
theorem ps_never : PS X st tNever := fun _ _ _ _ _ _ h => h.elim
theorem pss_never {sts : List Stmt} : PSs X sts tNever := fun _ _ _ _ _ _ h => h.elim
end
abbrev TG := V → St → Hp → (St → Hp → Prop) → Prop
abbrev TGs := List V → St → Hp → (St → Hp → Prop) → Prop
def PG (X : Cx) (target : Expr) (t : TG) : Prop :=
  ∀ (pins : List (Addr × Obj)) (s : Shared) (σ : St) (H : Hp) (v : V) (u : Value) (Q : St → Hp → Prop), Inv X pins σ H s → RelV v u → t v σ H Q →
    wpAny (model X.prog X.w) X.A (assign target X.env u) (fun _ s' => ∃ σ' H', Inv X pins σ' H' s' ∧ Q σ' H') X.xe s
def PGs (X : Cx) (ts : List Expr) (t : TGs) : Prop :=
  ∀ (pins : List (Addr × Obj)) (s : Shared) (σ : St) (H : Hp) (vs : List V) (us : List Value) (Q : St → Hp → Prop), Inv X pins σ H s → Vals vs us → t vs σ H Q →
    wpAny (model X.prog X.w) X.A (assignInOrder ((assignEach ts X.env).map (·.2)) us) (fun _ s' => ∃ σ' H', Inv X pins σ' H' s' ∧ Q σ' H') X.xe s
abbrev TSet := V → V → V → Hp → (Hp → Prop) → Prop
abbrev TIp := V → V → Hp → VK → Prop
def PIp (X : Cx) (op : Operator) (t : TIp) : Prop :=
  ∀ (pins : List (Addr × Obj)) (s : Shared) (σ : St) (H : Hp) (x y : V) (v u : Value) (Q : VK), Inv X pins σ H s → RelV x v → RelV y u → t x y H Q →
    wpAny (model X.prog X.w) X.A (inplaceOp op v u) (EP X pins σ Q) X.xe s
section
variable {X : Cx} {pos : Pos}
def gName (i : Nat) : TG := fun v σ H Q => Q (σ.set i (some v)) H
theorem pg_name {i : Nat} {x : Str} (hN : X.N.Nodup) (hi : X.N[i]? = some x) (hx : Loc X.env.scope x) (hf : X.fn x = true ∨ X.env.scope.names.lookup x = some .local := by first | exact .inl rfl | exact .inr rfl | assumption) : PG X (.Name x pos) (gName i) := by
  intro pins s σ H v u Q I r h
  exact wpAny_assign_Name (store_ok I hN hi hx r (fun s' I' => ⟨_, H, I', h⟩) hf)
def gNil : TGs := fun vs σ H Q => vs = [] ∧ Q σ H
def gCons (t : TG) (u : TGs) : TGs := fun vs σ H Q => ∃ v r, vs = v :: r ∧ t v σ H fun σ' H' => u r σ' H' Q
theorem pgs_nil : PGs X [] gNil := by
  intro pins s σ H vs us Q I r h
  obtain ⟨e, h⟩ := h
  subst e
  cases r
  exact assignInOrder_nil ⟨σ, H, I, h⟩
theorem pgs_cons {e : Expr} {es : List Expr} {t : TG} {u : TGs} (h1 : PG X e t) (h2 : PGs X es u)
    (hs : (assignEach (e :: es) X.env).map (·.2) = assign e X.env :: (assignEach es X.env).map (·.2) := by rfl) : PGs X (e :: es) (gCons t u) := by
  intro pins s σ H vs us Q I r h
  obtain ⟨v, vr, e1, h⟩ := h
  subst e1
  cases r with
  | cons r rr =>
    rw [hs]
    refine assignInOrder_cons (thn (h1 pins s σ H _ _ _ I r h) fun _ s1 ⟨σ1, H1, I1, q1⟩ => ?_)
    exact h2 pins s1 σ1 H1 _ _ Q I1 rr q1
def gTup (K : PySem.W.Frag) (n : Nat) (t : TGs) : TG := fun v σ H Q => ∃ a xs, v = .ref a ∧ SqT K H a xs ∧ xs.length = n ∧ t xs σ H Q
theorem pg_tup {es : List Expr} {k : Nat} {t : TGs} {n : Nat} (hc : X.calm = true) (h : PGs X es t)
    (hn : (assignEach es X.env).length = n := by rfl) (hst : (assignEach es X.env).findIdx? (·.1) = none := by rfl) : PG X (.Tuple es k pos) (gTup X.K n t) := by
  intro pins s σ H v u Q I r hw
  obtain ⟨a, xs, e1, hq, hl, hw⟩ := hw
  subst e1
  cases r
  obtain ⟨its, rv, ht, hz⟩ := I.tuple hq
  refine assign_Tuple_tuple (I.ok.hd hc) ht (by simp [hn, ← hl, rv.length]) hst fun h' hx => ?_
  have I1 : Inv X pins σ H { s with heap := h' } := I.kept (t' := s.toks) fun b o e => hx b o (Nat.ne_of_lt (Heap.lt_size e)) e
  exact h pins _ σ H xs _ Q I1 (by simpa using rv) hw
def gSub (to ti : TE) (t : TSet) : TG := fun v σ H Q => to σ H fun o H1 => ti σ H1 fun i H2 => t o i v H2 fun H3 => Q σ H3
def tAsg (te : TE) (g : TG) : TS := fun D σ H => te σ H fun x H1 => g x σ H1 D.nx
theorem ps_set {i : Nat} {x : Str} {e : Expr} {te : TE} {pos' : Pos} (hN : X.N.Nodup) (hi : X.N[i]? = some x) (hx : Loc X.env.scope x) (he : PE X e te) (hs : swapsWith e (some (.Name x pos')) pos.line X.env = pure false := by rfl) (hf : X.fn x = true ∨ X.env.scope.names.lookup x = some .local := by first | exact .inl rfl | exact .inr rfl | assumption) :
    PS X (.Assign [.Name x pos'] e pos) (tAsg te (gName i)) := by
  intro pins s σ H D I h
  refine wpAny_Assign_Name (thn (he pins s σ H _ I h) fun v s1 ⟨y, H1, I1, r1, q1⟩ => ?_) hs
  exact store_ok I1 hN hi hx r1 (fun s2 I2 => ⟨_, H1, I2, q1⟩) hf
def tAug (i : Nat) (te : TE) (ti : TIp) : TS := fun D σ H => ∃ x, σ[i]? = some (some x) ∧ te σ H fun y H1 => ti x y H1 fun z H2 => D.nx (σ.set i (some z)) H2
theorem ps_aug {i : Nat} {x : Str} {e : Expr} {te : TE} {op : Operator} {ti : TIp} {pos' : Pos} (hN : X.N.Nodup) (hi : X.N[i]? = some x) (hx : Loc X.env.scope x) (he : PE X e te) (ho : PIp X op ti) (hf : X.fn x = true ∨ X.env.scope.names.lookup x = some .local := by first | exact .inl rfl | exact .inr rfl | assumption) :
    PS X (.AugAssign (.Name x pos') op e pos) (tAug i te ti) := by
  intro pins s σ H D I h
  obtain ⟨v, e1, h⟩ := h
  obtain ⟨m, hn, hl⟩ := I.loc
  have vis : Vis X.env.scope x := by rcases hx with k | k; exact .inl k; exact .inr (.inl k)
  obtain ⟨u, r, l⟩ := hl i x v hi e1 vis
  refine wpAny_AugAssign_Name ?_
  have go : wpAny (model X.prog X.w) X.A (eval e X.env) (fun w s₂ => wpAny (model X.prog X.w) X.A (inplaceOp op u w) (fun r s₃ => wpAny (model X.prog X.w) X.A (storeName X.env x r) (fun _ => SP X pins D .next) X.xe s₃) X.xe s₂) X.xe s := by
    refine thn (he pins s σ H _ I h) fun w s1 ⟨y, H1, I1, r1, q1⟩ => ?_
    refine thn (ho pins s1 σ H1 v y u w _ I1 r r1 q1) fun z s2 ⟨zv, H2, I2, r2, q2⟩ => ?_
    exact store_ok I2 hN hi hx r2 (fun s3 I3 => ⟨_, H2, I3, q2⟩) hf
  rcases l with ⟨hk, hm⟩ | ⟨hk, c, hc, hcell⟩
  · exact wpAny_loadName_local I.ok.kind hk hn hm go
  · rcases hk with hk | hk
    · exact wpAny_loadName_cell I.ok.kind hk hc hcell go
    · rcases hx with k | k
      · have : X.env.scope.names.lookup x = some .free := hk
        rw [k] at this; cases this
      · have : X.env.scope.names.lookup x = some .free := hk
        rw [k] at this; cases this
def ipI (f : Int → Int → Int) : TIp := fun x y H Q => ∃ i j, x = .int i ∧ y = .int j ∧ Q (.int (f i j)) H
theorem ip_add : PIp X .Add (ipI fun i j => i + j) := by
  intro pins s σ H x y v u Q I r1 r2 h
  obtain ⟨i, j, e1, e2, q⟩ := h
  subst e1; subst e2
  obtain ⟨t, rfl⟩ := r1
  obtain ⟨t', rfl⟩ := r2
  exact iadd_int ⟨.int _, H, I.tok _, ⟨_, rfl⟩, q⟩
end
section
variable {X : Cx} {pos : Pos}
def tWhile (c : TT) (tb : TS) : TS := fun D σ H => ∃ W : Nat → St → Hp → Prop, (∃ m, W m σ H) ∧ ∀ m σ H, W m σ H →
  c σ H fun b H1 => if b = true then ∃ N : St → Hp → Prop, (∀ σ' H', N σ' H' → ∃ m', m' < m ∧ W m' σ' H') ∧ tb { D with nx := N, ct := N, bk := D.nx } σ H1 else D.nx σ H1
theorem ps_while {c : Expr} {body : List Stmt} {tc : TT} {tb : TS} (hp : PassesOwn (model X.prog X.w) X.A X.env X.xe) (hc : PT X c tc) (hb : PSs X body tb) : PS X (.While c body [] pos) (tWhile tc tb) := by
  intro pins s σ H D I h
  obtain ⟨W, ⟨m0, w0⟩, turn⟩ := h
  refine wpAny_While (codeAny_whileLoop (fun n s' => ∃ σ' H', Inv X pins σ' H' s' ∧ W n σ' H') ?_ m0 ⟨σ, H, I, w0⟩)
  rintro n s1 ⟨σ1, H1, I1, w1⟩
  refine wpAny_passesOwn hp (thn (hc pins s1 σ1 H1 _ I1 (turn n σ1 H1 w1)) fun b s2 ⟨H2, I2, q2⟩ => ?_)
  cases b with
  | true =>
    obtain ⟨N, hN, q2⟩ := q2
    rw [if_pos rfl]
    refine wpAny_passesOwn hp (thn (hb pins s2 σ1 H2 _ I2 q2) fun f s3 q3 => ?_)
    cases f with
    | next =>
      obtain ⟨σ3, H3, I3, n3⟩ := q3
      obtain ⟨m', hm, w3⟩ := hN σ3 H3 n3
      exact ⟨m', hm, σ3, H3, I3, w3⟩
    | cont =>
      obtain ⟨σ3, H3, I3, n3⟩ := q3
      obtain ⟨m', hm, w3⟩ := hN σ3 H3 n3
      exact ⟨m', hm, σ3, H3, I3, w3⟩
    | brk => exact q3
    | ret v => exact q3
  | false =>
    rw [if_neg Bool.false_ne_true]
    exact wpAny_execs_nil ⟨σ1, H2, I2, q2⟩
end
structure It where
  go : Nat → Hp → Prop
  yld : Nat → Hp → V → Hp → Prop
  stop : Nat → Hp → Prop
def FpOk (X : Cx) (pins : List (Addr × Obj)) (H : Hp) (b : Addr) : Prop :=
  H b = none ∧ b ≠ X.env.locals ∧ b ∉ X.fs ∧ (b ∈ X.ex ∨ X.s₀.heap.objs.size ≤ b) ∧ (∀ x c, X.env.cells.lookup x = some c → c ≠ b) ∧ ∀ p ∈ X.pn ++ pins, p.1 ≠ b
theorem Inv.fpOk {X : Cx} {pins : List (Addr × Obj)} {σ : St} {H H' : Hp} {s : Shared} {b : Addr} (I : Inv X pins σ H s) (hb : s.heap.objs.size ≤ b) (hn : H' b = none) : FpOk X pins H' b := by
  refine ⟨hn, Nat.ne_of_gt (Nat.lt_of_lt_of_le I.lt hb), I.nofs hb, .inr (Nat.le_trans I.sz hb), fun x c e z => ?_, fun p hp z => ?_⟩
  · obtain ⟨v, q⟩ := I.cell x c e
    exact absurd (Nat.lt_of_lt_of_le q.lt (by rw [z]; exact hb)) (Nat.lt_irrefl _)
  · exact absurd (Nat.lt_of_lt_of_le (Heap.lt_size (I.pin p hp).1) (by rw [z]; exact hb)) (Nat.lt_irrefl _)
structure Turn (P : Program) (w : World) (K : PySem.W.Frag) (tg : Expr) (J : It) (fp : List Addr) (it : Addr) (tn : Nat → Heap → Prop) : Prop where
  mem : it ∈ fp
  obj : ∀ i h, tn i h → ∀ b ∈ fp, ∃ o, h.get? b = some o ∧ ∀ v, o.data ≠ .cell v
  keep : ∀ i h h', tn i h → (∀ b ∈ fp, ∀ o, h.get? b = some o → h'.get? b = some o) → tn i h'
  item : ∀ (X : Cx), X.prog = P → X.w = w → X.K = K → X.calm = true → ∀ (i : Nat) (pins : List (Addr × Obj)) (s : Shared) (σ : St) (H : Hp) (E : Value → Shared → Prop), Inv X pins σ H s → (∀ b ∈ fp, FpOk X pins H b) → tn i s.heap → J.go i H →
    wpAny (model P w) X.A (pyNext (.ref it)) (fun r s1 => ∃ u, r = some u ∧
      wpAny (model P w) X.A (letOwnedTupleGo tg (.ref it) u) (fun _ s2 => ∃ x H', Inv X pins σ H' s2 ∧ RelV x u ∧ J.yld i H x H' ∧ tn (i + 1) s2.heap ∧ ∀ b ∈ fp, H' b = none) E s1) E s
  done : ∀ (X : Cx), X.prog = P → X.w = w → X.K = K → X.calm = true → ∀ (i : Nat) (pins : List (Addr × Obj)) (s : Shared) (σ : St) (H : Hp) (E : Value → Shared → Prop), Inv X pins σ H s → (∀ b ∈ fp, FpOk X pins H b) → tn i s.heap → J.stop i H →
    wpAny (model P w) X.A (pyNext (.ref it)) (fun r s1 => r = none ∧ Inv X pins σ H s1) E s
  self : ∀ (A : Around) (i : Nat) (s : Shared) (Q : Value → Shared → Prop) (E : Value → Shared → Prop), tn i s.heap → Q (.ref it) s → wpAny (model P w) A (pyIter (.ref it)) Q E s
abbrev TI := St → Hp → (It → Hp → Prop) → Prop
def PIE (X : Cx) (pins : List (Addr × Obj)) (σ : St) (tg : Expr) (R : It → Hp → Prop) (itv : Value) (s2 : Shared) : Prop :=
  ∃ (it : Addr) (fp : List Addr) (tn : Nat → Heap → Prop) (J : It) (H' : Hp), itv = .ref it ∧ Inv X pins σ H' s2 ∧ Turn X.prog X.w X.K tg J fp it tn ∧ tn 0 s2.heap ∧ (∀ b ∈ fp, FpOk X pins H' b) ∧ R J H'
def PI (X : Cx) (tg iter : Expr) (wi : TI) : Prop :=
  ∀ (pins : List (Addr × Obj)) (s : Shared) (σ : St) (H : Hp) (R : It → Hp → Prop), Inv X pins σ H s → wi σ H R →
    wpAny (model X.prog X.w) X.A (eval iter X.env) (fun v s1 => wpAny (model X.prog X.w) X.A (pyIter v) (PIE X pins σ tg R) X.xe s1) X.xe s
theorem go_of {M : Model} {A : Around} {E : Value → Shared → Prop} {s : Shared} {tg : Expr} {it : Addr} {u : Value} {o : Obj} {n : String} {vs : Array Value} {Q : Unit → Shared → Prop} (ho : s.heap.get? it = some o) (hc : o.cls = .type n) (hd : o.data = .fields vs)
    (hn : ["enumerate", "zip", "dict_itemiterator", "dict_reverseitemiterator", "odict_iterator", "itertools.zip_longest", "itertools.pairwise"].contains n = false) (hQ : Q () s) : wpAny M A (letOwnedTupleGo tg (.ref it) u) Q E s := by
  unfold letOwnedTupleGo
  cases tg <;> first
    | exact wpAny_pure hQ
    | (cases u <;> first
        | exact wpAny_pure hQ
        | (refine wpAny_bind (wpAny_load ho ?_)
           rw [hc, hd]
           show wpAny M A (if (["enumerate", "zip", "dict_itemiterator", "dict_reverseitemiterator", "odict_iterator", "itertools.zip_longest", "itertools.pairwise"].contains n && vs[0]? == some (rawInt _)) = true then _ else _) Q E s
           rw [if_neg (by intro h; rw [hn, Bool.false_and] at h; cases h)]
           exact wpAny_pure hQ))
def Itl (K : PySem.W.Frag) (a : Addr) : It :=
  ⟨fun i H => ∃ xs x, SqL K H a xs ∧ xs[i]? = some x, fun i H x H' => H' = H ∧ ∀ xs, SqL K H a xs → xs[i]? = some x, fun i H => ∃ xs, SqL K H a xs ∧ xs.length ≤ i⟩
def Itr (lo : Int) (n : Nat) : It := ⟨fun i _ => i < n, fun i H x H' => H' = H ∧ x = .int (lo + i), fun i _ => n ≤ i⟩
theorem turn_list {P : Program} {w : World} {K : PySem.W.Frag} {tg : Expr} (a it : Addr) : Turn P w K tg (Itl K a) [it] it (fun i h => h.IsListIter it a i) where
  mem := by simp
  obj := fun i h st b hb => by
    have e : b = it := by simpa using hb
    subst e
    obtain ⟨o, e, c, d⟩ := st
    exact ⟨o, e, fun v z => by rw [d] at z; cases z⟩
  keep := fun i h h' st k => st.at fun o e => k it (by simp) o e
  item := by
    intro X hP hw hK hc i pins s σ H E I hf st hg
    subst hP hw hK
    obtain ⟨xs, x, hq, hx⟩ := hg
    obtain ⟨its, rv, p, hz⟩ := I.list hq
    obtain ⟨u, hu, ru⟩ := rv.get hx
    obtain ⟨f0, f1, f2, f3, f4, f5⟩ := hf it (by simp)
    refine wpAny_pyNext_list_item st p.isList (x := u) (by simpa using hu) fun h' st' sb => ?_
    have I1 : Inv X pins σ H { s with heap := h' } := I.turned (t' := s.toks) (fun b o hb e => (sb.2 b hb).trans e) f0 f1 f3 f4 f5
    obtain ⟨o, e, c, d⟩ := id st'
    exact ⟨u, rfl, go_of (s := { s with heap := h' }) e c d (by decide) ⟨x, H, I1, ru, ⟨rfl, fun ys hy => by rw [I.list_inj hy hq]; exact hx⟩, st', fun b hb => (hf b hb).1⟩⟩
  done := by
    intro X hP hw hK hc i pins s σ H E I hf st hg
    subst hP hw hK
    obtain ⟨xs, hq, hx⟩ := hg
    obtain ⟨its, rv, p, hz⟩ := I.list hq
    obtain ⟨f0, f1, f2, f3, f4, f5⟩ := hf it (by simp)
    have hl := rv.length
    exact wpAny_pyNext_list_end (I.ok.hd hc) st p.isList (by simp; omega) fun h' eb => ⟨rfl, I.turned (t' := s.toks) (fun b o hb e => eb b o hb e) f0 f1 f3 f4 f5⟩
  self := fun _ _ _ _ _ st h => wpAny_pyIter_listiter st h
theorem turn_range {P : Program} {w : World} {K : PySem.W.Frag} {tg : Expr} (it : Addr) (lo : Int) (n : Nat) : Turn P w K tg (Itr lo n) [it] it (fun i h => IsRangeIter h it (lo + (i : Nat) * 1) ((n : Int) - (i : Nat)) 1) where
  mem := by simp
  obj := fun i h st b hb => by
    have e : b = it := by simpa using hb
    subst e
    exact ⟨_, st, fun v z => by
      have z' : Data.fields _ = Data.cell v := z
      cases z'⟩
  keep := fun i h h' st k => k it (by simp) _ st
  item := by
    intro X hP hw hK hc i pins s σ H E I hf st hg
    subst hP hw hK
    obtain ⟨f0, f1, f2, f3, f4, f5⟩ := hf it (by simp)
    have W := Walks.range (prog := X.prog) (w := X.w) (I.ok.hd hc) it lo 1 n
    refine W.item i s _ _ hg st fun v h' tk hv st' kk => ?_
    obtain ⟨t, rfl⟩ := hv
    have I1 : Inv X pins σ H { s with heap := h', toks := tk } := I.turned (fun b o hb e => kk b o (by simpa using hb) e) f0 f1 f3 f4 f5
    refine ⟨_, rfl, go_of (s := { s with heap := h', toks := tk }) (n := "range_iterator") st' rfl rfl (by decide) ⟨.int (lo + i), H, I1, ⟨t, ?_⟩, ⟨rfl, rfl⟩, st', fun b hb => (hf b hb).1⟩⟩
    rw [Int.mul_one]
  done := by
    intro X hP hw hK hc i pins s σ H E I hf st hg
    subst hP hw hK
    obtain ⟨f0, f1, f2, f3, f4, f5⟩ := hf it (by simp)
    exact wpAny_pyNext_range_end (I.ok.hd hc) st (by have : n ≤ i := hg; omega) fun h' eb => ⟨rfl, I.turned (t' := s.toks) (fun b o hb e => eb b o hb e) f0 f1 f3 f4 f5⟩
  self := fun _ _ _ _ _ st h => wpAny_pyIter_rangeiter st h
end L2
namespace L2
open PySem PySem.Spec PyProof.Rows
section
variable {X : Cx} {tg : Expr}
def iList (K : PySem.W.Frag) (tl : TE) : TI := fun σ H R => tl σ H fun x H1 => ∃ a, x = .ref a ∧ (∃ xs, SqL K H1 a xs) ∧ R (Itl K a) H1
theorem pi_list {l : Expr} {tl : TE} (hl : PE X l tl) : PI X tg l (iList X.K tl) := by
  intro pins s σ H R I h
  refine thn (hl pins s σ H _ I h) fun v s1 ⟨x, H1, I1, r1, q1⟩ => ?_
  obtain ⟨a, e, ⟨xs, hq⟩, q⟩ := q1
  subst e
  cases r1
  obtain ⟨its, rv, p, hz⟩ := I1.list hq
  refine wpAny_pyIter_list p.isList ?_
  refine ⟨s1.heap.objs.size, [s1.heap.objs.size], _, _, H1, rfl, I1.kept (t' := s1.toks) fun b o e => Heap.get?_push_of_some _ e, turn_list a _, ⟨_, Heap.get?_push_size _ rfl, rfl, rfl⟩, fun b hb => ?_, q⟩
  have e : b = s1.heap.objs.size := by simpa using hb
  subst e
  exact I1.fpOk (Nat.le_refl _) (I1.hok.fresh (Nat.le_refl _))
theorem range_it {pins : List (Addr × Obj)} {σ : St} {H : Hp} {s : Shared} {R : It → Hp → Prop} {E : Value → Shared → Prop} {lo hi : Int} {t u v : Tok} {tk : Nat} (I : Inv X pins σ H s) (h1 : -(2 ^ 62) ≤ lo) (h2 : lo < 2 ^ 62) (h3 : -(2 ^ 62) ≤ hi) (h4 : hi < 2 ^ 62)
    (q : R (Itr lo (hi - lo).toNat) H) : wpAny (model X.prog X.w) X.A (pyIter (.ref s.heap.objs.size)) (PIE X pins σ tg R) E { s with heap := s.heap.push { cls := .type "range", data := .fields #[.int lo t, .int hi u, .int 1 v] }, toks := tk } := by
  refine wpAny_pyIter_range (IsRange.new ..) (small_one h1 h2 h3 h4) ?_
  have I1 : Inv X pins σ H { s with heap := s.heap.push { cls := .type "range", data := .fields #[.int lo t, .int hi u, .int 1 v] }, toks := tk } := I.kept fun b o e => Heap.get?_push_of_some _ e
  refine ⟨(s.heap.push { cls := .type "range", data := .fields #[.int lo t, .int hi u, .int 1 v] }).objs.size, [(s.heap.push { cls := .type "range", data := .fields #[.int lo t, .int hi u, .int 1 v] }).objs.size], _, _, H, rfl,
    I1.kept (t' := tk) fun b o e => Heap.get?_push_of_some _ e, turn_range _ lo (hi - lo).toNat, ?_, fun b hb => ?_, q⟩
  · have e1 : lo + ((0 : Nat) : Int) * 1 = lo := by simp
    have e2 : (((hi - lo).toNat : Nat) : Int) - ((0 : Nat) : Int) = Builtin.Range.rangeSize lo hi 1 := by rw [rangeSize_one]; split <;> omega
    show IsRangeIter _ _ (lo + ((0 : Nat) : Int) * 1) ((((hi - lo).toNat : Nat) : Int) - ((0 : Nat) : Int)) 1
    rw [e1, e2]
    exact Heap.get?_push_size _ rfl
  · have e : b = (s.heap.push { cls := .type "range", data := .fields #[.int lo t, .int hi u, .int 1 v] }).objs.size := by simpa using hb
    subst e
    exact I1.fpOk (Nat.le_refl _) (I1.hok.fresh (Nat.le_refl _))
def iRng1 (ta : TA) : TI := fun σ H R => ta σ H fun vs H1 => ∃ j : Int, vs = [.int j] ∧ -(2 ^ 62) ≤ j ∧ j < 2 ^ 62 ∧ R (Itr 0 j.toNat) H1
def iRng2 (ta : TA) : TI := fun σ H R => ta σ H fun vs H1 => ∃ i j : Int, vs = [.int i, .int j] ∧ (-(2 ^ 62) ≤ i ∧ i < 2 ^ 62 ∧ -(2 ^ 62) ≤ j ∧ j < 2 ^ 62) ∧ R (Itr i (j - i).toNat) H1
theorem pi_range1 {a : Expr} {ta : TA} {p pos : Pos} (hg : Gl X "range") (hm : X.mg "range" = none) (ha : PA X [a] ta) (hs : starEach [a] X.env = [(false, eval a X.env)] := by rfl) : PI X tg (.Call (.Name "range" p) [a] [] pos) (iRng1 ta) := by
  intro pins s σ H R I h
  refine Call_ (ld_blt I hg hm boot_range (PyProof.Rows.callWith_type1 (thn (ha pos pins s σ H _ I h) fun us s1 ⟨vs, H1, I1, r1, q1⟩ => ?_) hs rfl))
  obtain ⟨j, e, q1, q2, q⟩ := q1
  subst e
  cases r1 with
  | cons r rr =>
    cases rr
    obtain ⟨t, rfl⟩ := r
    exact call_range_1 (range_it I1 (by omega) (by omega) q1 q2 (by simpa using q))
theorem pi_range2 {a b : Expr} {ta : TA} {p pos : Pos} (hg : Gl X "range") (hm : X.mg "range" = none) (ha : PA X [a, b] ta) (hs : starEach [a, b] X.env = [(false, eval a X.env), (false, eval b X.env)] := by rfl) (hs2 : starEach [b] X.env = [(false, eval b X.env)] := by rfl) :
    PI X tg (.Call (.Name "range" p) [a, b] [] pos) (iRng2 ta) := by
  intro pins s σ H R I h
  refine Call_ (ld_blt I hg hm boot_range (PyProof.Rows.callWith_type1 (thn (ha pos pins s σ H _ I h) fun us s1 ⟨vs, H1, I1, r1, q1⟩ => ?_) (by rw [hs, hs2]) (by rw [hs2]; rfl)))
  obtain ⟨i, j, e, ⟨q1, q2, q3, q4⟩, q⟩ := q1
  subst e
  cases r1 with
  | cons r rr =>
    cases rr with
    | cons r' rr =>
      cases rr
      obtain ⟨t, rfl⟩ := r
      obtain ⟨t', rfl⟩ := r'
      exact call_range_2 (range_it I1 q1 q2 q3 q4 q)
def tFor (wi : TI) (g : TG) (tb : TS) : TS := fun D σ H => wi σ H fun J H1 => ∃ W : Nat → Nat → St → Hp → Prop, (∃ m, W 0 m σ H1) ∧ ∀ i m σ H, W i m σ H →
  (J.stop i H ∧ D.nx σ H) ∨ (J.go i H ∧ ∃ N : St → Hp → Prop, (∀ σ' H', N σ' H' → ∃ m', m' < m ∧ W (i + 1) m' σ' H') ∧ ∀ x H', J.yld i H x H' → g x σ H' fun σ2 H2 => tb { D with nx := N, ct := N, bk := D.nx } σ2 H2)
def pinsAt (fp : List Addr) (h : Heap) : List (Addr × Obj) := fp.filterMap fun b => (h.get? b).map fun o => (b, o)
theorem mem_pinsAt {fp : List Addr} {h : Heap} {b : Addr} {o : Obj} (hb : b ∈ fp) (e : h.get? b = some o) : (b, o) ∈ pinsAt fp h := List.mem_filterMap.mpr ⟨b, hb, by rw [e]; rfl⟩
theorem of_pinsAt {fp : List Addr} {h : Heap} {p : Addr × Obj} (hp : p ∈ pinsAt fp h) : p.1 ∈ fp ∧ h.get? p.1 = some p.2 := by
  obtain ⟨b, hb, e⟩ := List.mem_filterMap.mp hp
  cases q : h.get? b with
  | none => rw [q] at e; cases e
  | some o =>
    rw [q] at e
    have e' : (b, o) = p := Option.some.inj e
    subst e'
    exact ⟨hb, q⟩
theorem Inv.pinned {pins : List (Addr × Obj)} {σ : St} {H : Hp} {s : Shared} {fp : List Addr} (I : Inv X pins σ H s) (hf : ∀ b ∈ fp, FpOk X pins H b) (ho : ∀ b ∈ fp, ∃ o, s.heap.get? b = some o ∧ ∀ v, o.data ≠ .cell v) : Inv X (pins ++ pinsAt fp s.heap) σ H s :=
  I.pins_of fun p hp => (List.mem_append.mp hp).elim (fun z => I.pin p (List.mem_append_right _ z)) fun z => by
    obtain ⟨hb, e⟩ := of_pinsAt z
    obtain ⟨f0, f1, f2, _⟩ := hf p.1 hb
    obtain ⟨o, e', d⟩ := ho p.1 hb
    rw [e] at e'; cases e'
    exact ⟨e, f0, f1, f2, d⟩
theorem Inv.unpinned {pins pl : List (Addr × Obj)} {σ : St} {H : Hp} {s : Shared} (I : Inv X (pins ++ pl) σ H s) : Inv X pins σ H s := I.pins_of fun p hp => I.pin p (List.mem_append_right _ (List.mem_append_left _ hp))
theorem ps_for {iter : Expr} {body : List Stmt} {wi : TI} {g : TG} {tb : TS} {pos : Pos} (hp : PassesOwn (model X.prog X.w) X.A X.env X.xe) (hc : X.calm = true) (hi : PI X tg iter wi) (hg : PG X tg g) (hb : PSs X body tb)
    (hs : ∀ x, foldedSetIterable iter X.env x = pure x := by intro _; rfl) : PS X (.For tg iter body [] pos) (tFor wi g tb) := by
  intro pins s σ H D I h
  refine wpAny_For (thn (hi pins s σ H _ I h) fun v s1 h1 => thn h1 fun itv s2 h2 => ?_) hs
  obtain ⟨it, fp, tn, J, H2, e, I2, T, st2, f2, W, ⟨m0, w0⟩, turn⟩ := h2
  subst e
  have stat : ∀ {H' : Hp}, (∀ b ∈ fp, H' b = none) → ∀ b ∈ fp, FpOk X pins H' b := fun hn b hb => ⟨hn b hb, (f2 b hb).2⟩
  refine codeAny_forLoop_any (fun n s' => ∃ i σ' H', Inv X pins σ' H' s' ∧ tn i s'.heap ∧ (∀ b ∈ fp, H' b = none) ∧ W i n σ' H') ?_ m0 ⟨0, σ, H2, I2, st2, fun b hb => (f2 b hb).1, w0⟩
  rintro n s3 ⟨i, σ3, H3, I3, st3, fr3, w3⟩
  rcases turn i n σ3 H3 w3 with ⟨stop, qn⟩ | ⟨go, N, hN, step⟩
  · refine wpAny_passesOwn hp (thn (T.done X rfl rfl rfl hc i pins s3 σ3 H3 X.xe I3 (stat fr3) st3 stop) fun r s4 ⟨hr, I4⟩ => ?_)
    subst hr
    exact wpAny_execs_nil ⟨σ3, H3, I4, qn⟩
  · refine wpAny_passesOwn hp (thn (T.item X rfl rfl rfl hc i pins s3 σ3 H3 X.xe I3 (stat fr3) st3 go) fun r s4 ⟨u, hr, h4⟩ => ?_)
    subst hr
    refine wpAny_passesOwn hp (thn h4 fun _ s5 ⟨x, H5, I5, r5, y5, st5, fr5⟩ => ?_)
    have I5' := I5.pinned (stat fr5) (T.obj _ _ st5)
    refine wpAny_passesOwn hp (thn (hg _ s5 σ3 H5 x u _ I5' r5 (step x H5 y5)) fun _ s6 ⟨σ6, H6, I6, q6⟩ => ?_)
    refine wpAny_passesOwn hp (thn (hb _ s6 σ6 H6 _ I6 q6) fun f s7 q7 => ?_)
    have again : ∀ {σ7 : St} {H7 : Hp}, Inv X (pins ++ pinsAt fp s5.heap) σ7 H7 s7 → N σ7 H7 → ∃ m, m < n ∧ ∃ i σ' H', Inv X pins σ' H' s7 ∧ tn i s7.heap ∧ (∀ b ∈ fp, H' b = none) ∧ W i m σ' H' := fun {σ7 H7} I7 n7 => by
      obtain ⟨m', hm, w7⟩ := hN σ7 H7 n7
      refine ⟨m', hm, i + 1, σ7, H7, I7.unpinned, T.keep _ _ _ st5 fun b hb o e => (I7.pin (b, o) (List.mem_append_right _ (List.mem_append_right _ (mem_pinsAt hb e)))).1, fun b hb => ?_, w7⟩
      obtain ⟨o, e, d⟩ := T.obj _ _ st5 b hb
      exact (I7.pin (b, o) (List.mem_append_right _ (List.mem_append_right _ (mem_pinsAt hb e)))).2.1
    cases f with
    | next => obtain ⟨σ7, H7, I7, n7⟩ := q7; exact again I7 n7
    | cont => obtain ⟨σ7, H7, I7, n7⟩ := q7; exact again I7 n7
    | brk => obtain ⟨σ7, H7, I7, q7⟩ := q7; exact ⟨σ7, H7, I7.unpinned, q7⟩
    | ret v => obtain ⟨x7, σ7, H7, I7, r7, q7⟩ := q7; exact ⟨x7, σ7, H7, I7.unpinned, r7, q7⟩
end
theorem for_list {K : PySem.W.Frag} {a : Addr} {xs : List V} {g : TG} {tb : TS} {D : Ends} {σ : St} {H : Hp} (Pv : Nat → St → Hp → Prop) (h0 : Pv 0 σ H) (hl : ∀ i σ H, i ≤ xs.length → Pv i σ H → SqL K H a xs)
    (hs : ∀ i x σ H, xs[i]? = some x → Pv i σ H → g x σ H fun σ2 H2 => tb { D with nx := Pv (i + 1), ct := Pv (i + 1), bk := D.nx } σ2 H2) (hd : ∀ σ H, Pv xs.length σ H → D.nx σ H) :
    ∃ W : Nat → Nat → St → Hp → Prop, (∃ m, W 0 m σ H) ∧ ∀ i m σ H, W i m σ H →
      ((Itl K a).stop i H ∧ D.nx σ H) ∨ ((Itl K a).go i H ∧ ∃ N : St → Hp → Prop, (∀ σ' H', N σ' H' → ∃ m', m' < m ∧ W (i + 1) m' σ' H') ∧ ∀ x H', (Itl K a).yld i H x H' → g x σ H' fun σ2 H2 => tb { D with nx := N, ct := N, bk := D.nx } σ2 H2) := by
  refine ⟨fun i m σ H => m = xs.length - i ∧ i ≤ xs.length ∧ Pv i σ H, ⟨xs.length, by simp, Nat.zero_le _, h0⟩, ?_⟩
  rintro i m σ H ⟨rfl, hi, p⟩
  have q := hl i σ H hi p
  by_cases hlt : i < xs.length
  · refine .inr ⟨⟨xs, xs[i], q, by simp [hlt]⟩, Pv (i + 1), fun σ' H' p' => ⟨xs.length - (i + 1), by omega, rfl, hlt, p'⟩, fun x H' y => ?_⟩
    obtain ⟨e, y⟩ := y
    subst e
    exact hs i x σ _ (y xs q) p
  · have e : i = xs.length := by omega
    subst e
    exact .inl ⟨⟨xs, q, Nat.le_refl _⟩, hd σ H p⟩
theorem for_range {lo : Int} {n : Nat} {g : TG} {tb : TS} {D : Ends} {σ : St} {H : Hp} (Pv : Nat → St → Hp → Prop) (h0 : Pv 0 σ H)
    (hs : ∀ i σ H, i < n → Pv i σ H → g (.int (lo + i)) σ H fun σ2 H2 => tb { D with nx := Pv (i + 1), ct := Pv (i + 1), bk := D.nx } σ2 H2) (hd : ∀ σ H, Pv n σ H → D.nx σ H) :
    ∃ W : Nat → Nat → St → Hp → Prop, (∃ m, W 0 m σ H) ∧ ∀ i m σ H, W i m σ H →
      ((Itr lo n).stop i H ∧ D.nx σ H) ∨ ((Itr lo n).go i H ∧ ∃ N : St → Hp → Prop, (∀ σ' H', N σ' H' → ∃ m', m' < m ∧ W (i + 1) m' σ' H') ∧ ∀ x H', (Itr lo n).yld i H x H' → g x σ H' fun σ2 H2 => tb { D with nx := N, ct := N, bk := D.nx } σ2 H2) := by
  refine ⟨fun i m σ H => m = n - i ∧ i ≤ n ∧ Pv i σ H, ⟨n, by simp, Nat.zero_le _, h0⟩, ?_⟩
  rintro i m σ H ⟨rfl, hi, p⟩
  by_cases hlt : i < n
  · refine .inr ⟨hlt, Pv (i + 1), fun σ' H' p' => ⟨n - (i + 1), by omega, rfl, hlt, p'⟩, fun x H' y => ?_⟩
    obtain ⟨e, y⟩ := y
    subst e y
    exact hs i σ _ hlt p
  · have e : i = n := by omega
    subst e
    exact .inl ⟨Nat.le_refl _, hd σ H p⟩
end L2
namespace L2
open PySem PySem.Spec PyProof.Rows
abbrev R2 := V → V → Hp → VK → Prop
def OpR (X : Cx) (f : Value → Value → Sem Value) (r : R2) : Prop :=
  ∀ (pins : List (Addr × Obj)) (s : Shared) (σ : St) (H : Hp) (x y : V) (v u : Value) (Q : VK), Inv X pins σ H s → RelV x v → RelV y u → r x y H Q →
    wpAny (model X.prog X.w) X.A (f v u) (EP X pins σ Q) X.xe s
def UnR (X : Cx) (f : Value → Sem Value) (r : V → Hp → VK → Prop) : Prop :=
  ∀ (pins : List (Addr × Obj)) (s : Shared) (σ : St) (H : Hp) (x : V) (v : Value) (Q : VK), Inv X pins σ H s → RelV x v → r x H Q →
    wpAny (model X.prog X.w) X.A (f v) (EP X pins σ Q) X.xe s
def CallR (X : Cx) (f : Value) (r : List V → Hp → VK → Prop) : Prop :=
  ∀ (pins : List (Addr × Obj)) (s : Shared) (σ : St) (H : Hp) (xs : List V) (us : List Value) (Q : VK), Inv X pins σ H s → Vals xs us → r xs H Q →
    wpAny (model X.prog X.w) X.A (call f us) (EP X pins σ Q) X.xe s
def tOp (r : R2) (ta tb : TE) : TE := fun σ H Q => ta σ H fun x H1 => tb σ H1 fun y H2 => r x y H2 Q
def tUn (r : V → Hp → VK → Prop) (ta : TE) : TE := fun σ H Q => ta σ H fun x H1 => r x H1 Q
def rI (C : Int → Int → Prop) (g : Int → Int → V) : R2 := fun x y H Q => ∃ i j, x = .int i ∧ y = .int j ∧ C i j ∧ Q (g i j) H
def rI0 (g : Int → Int → V) : R2 := fun x y H Q => ∃ i j, x = .int i ∧ y = .int j ∧ Q (g i j) H
def rU (g : Int → V) : V → Hp → VK → Prop := fun x H Q => ∃ i, x = .int i ∧ Q (g i) H
section
variable {X : Cx} {a b c : Expr} {ta tb tc : TE} {pos : Pos}
theorem binT (ha : PE X a ta) (hb : PE X b tb) {pins : List (Addr × Obj)} {s : Shared} {σ : St} {H : Hp} {R : V → V → Hp → Prop} (I : Inv X pins σ H s)
    (h : ta σ H fun x H1 => tb σ H1 fun y H2 => R x y H2) {Q : Value → Shared → Prop} {f : Value → Value → Sem Value}
    (hf : ∀ v u s2 x y H2, Inv X pins σ H2 s2 → RelV x v → RelV y u → R x y H2 → wpAny (model X.prog X.w) X.A (f v u) Q X.xe s2) :
    wpAny (model X.prog X.w) X.A (eval a X.env) (fun v s₁ => wpAny (model X.prog X.w) X.A (eval b X.env) (fun u s₂ => wpAny (model X.prog X.w) X.A (f v u) Q X.xe s₂) X.xe s₁) X.xe s := by
  refine thn (ha pins s σ H _ I h) fun v s1 ⟨x, H1, I1, r1, q1⟩ => ?_
  refine thn (hb pins s1 σ H1 _ I1 q1) fun u s2 ⟨y, H2, I2, r2, q2⟩ => ?_
  exact hf v u s2 x y H2 I2 r1 r2 q2
theorem pe_op {op : Operator} {r : R2} (ho : OpR X (binaryOp op) r) (ha : PE X a ta) (hb : PE X b tb) : PE X (.BinOp a op b pos) (tOp r ta tb) := by
  intro pins s σ H Q I h
  exact wpAny_BinOp (binT ha hb I h fun v u s2 x y H2 I2 rx ry q => ho pins s2 σ H2 x y v u Q I2 rx ry q)
theorem pe_un {op : UnaryOp} {r : V → Hp → VK → Prop} (ho : UnR X (unaryOp op) r) (ha : PE X a ta) : PE X (.UnaryOp op a pos) (tUn r ta) := by
  intro pins s σ H Q I h
  exact UnaryOp_ (thn (ha pins s σ H _ I h) fun v s1 ⟨x, H1, I1, r1, q1⟩ => ho pins s1 σ H1 x v Q I1 r1 q1)
theorem opI {f : Value → Value → Sem Value} {C : Int → Int → Prop} {g : Int → Int → Int}
    (rule : ∀ (i j : Int) (t u : Tok) (s : Shared) (Q : Value → Shared → Prop) (E : Value → Shared → Prop), C i j → Q (.int (g i j) s.toks) { s with toks := s.toks + 1 } → wpAny (model X.prog X.w) X.A (f (.int i t) (.int j u)) Q E s) :
    OpR X f (rI C fun i j => .int (g i j)) := by
  intro pins s σ H x y v u Q I rx ry h
  obtain ⟨i, j, rfl, rfl, hc, q⟩ := h
  obtain ⟨t, rfl⟩ := rx
  obtain ⟨t', rfl⟩ := ry
  exact rule i j t t' s _ _ hc ⟨.int (g i j), H, I.tok _, ⟨_, rfl⟩, q⟩
theorem opI0 {f : Value → Value → Sem Value} {g : Int → Int → Int}
    (rule : ∀ (i j : Int) (t u : Tok) (s : Shared) (Q : Value → Shared → Prop) (E : Value → Shared → Prop), Q (.int (g i j) s.toks) { s with toks := s.toks + 1 } → wpAny (model X.prog X.w) X.A (f (.int i t) (.int j u)) Q E s) :
    OpR X f (rI0 fun i j => .int (g i j)) := by
  intro pins s σ H x y v u Q I rx ry h
  obtain ⟨i, j, rfl, rfl, q⟩ := h
  obtain ⟨t, rfl⟩ := rx
  obtain ⟨t', rfl⟩ := ry
  exact rule i j t t' s _ _ ⟨.int (g i j), H, I.tok _, ⟨_, rfl⟩, q⟩
theorem opB0 {f : Value → Value → Sem Value} {g : Int → Int → Bool}
    (rule : ∀ (i j : Int) (t u : Tok) (s : Shared) (Q : Value → Shared → Prop) (E : Value → Shared → Prop), Q (.bool (g i j)) s → wpAny (model X.prog X.w) X.A (f (.int i t) (.int j u)) Q E s) :
    OpR X f (rI0 fun i j => .bl (g i j)) := by
  intro pins s σ H x y v u Q I rx ry h
  obtain ⟨i, j, rfl, rfl, q⟩ := h
  obtain ⟨t, rfl⟩ := rx
  obtain ⟨t', rfl⟩ := ry
  exact rule i j t t' s _ _ ⟨.bl (g i j), H, I, rfl, q⟩
def CDiv (i j : Int) : Prop := 0 < j ∧ j < 1073741824
def CPow (i j : Int) : Prop := 0 ≤ j ∧ j ≤ 1000000 ∧ i.natAbs < 2 ^ 64
def CMul (i j : Int) : Prop := (-(2 ^ 64) < i ∧ i < 2 ^ 64) ∨ (-(2 ^ 64) < j ∧ j < 2 ^ 64)
theorem CMul.ok {i j : Int} (h : CMul i j) : IntMulOk i j := by
  rcases h with ⟨h1, h2⟩ | ⟨h1, h2⟩
  · exact .of_left (intBits_le_64 h1 h2)
  · exact .of_right (intBits_le_64 h1 h2)
theorem op_add : OpR X (binaryOp .Add) (rI0 fun i j => .int (i + j)) := opI0 fun _ _ _ _ _ _ _ q => add_int q
theorem op_sub : OpR X (binaryOp .Sub) (rI0 fun i j => .int (i - j)) := opI0 fun _ _ _ _ _ _ _ q => sub_int q
theorem op_mul : OpR X (binaryOp .Mult) (rI CMul fun i j => .int (i * j)) := opI fun _ _ _ _ _ _ _ hc q => mul_int q hc.ok
theorem op_fdiv : OpR X (binaryOp .FloorDiv) (rI CDiv fun i j => .int (i / j)) := opI fun i j _ _ _ _ _ hc q => by
  have h1 : (0 : Int) < j := hc.1
  have h2 : j < 1073741824 := hc.2
  exact floordiv_int (by omega) (by rw [Int.fdiv_eq_ediv_of_nonneg i (by omega)]; exact q) (.inl (PyProof.noPylong_small (by omega)))
theorem op_mod : OpR X (binaryOp .Mod) (rI (fun _ j => 0 < j) fun i j => .int (i % j)) := opI fun i j _ _ _ _ _ hc q => by
  have h1 : (0 : Int) < j := hc
  exact mod_int' (by omega) (by rw [Int.fmod_eq_emod_of_nonneg i (by omega)]; exact q)
theorem op_pow : OpR X (binaryOp .Pow) (rI CPow fun i j => .int (i ^ j.toNat)) := opI fun _ _ _ _ _ _ _ hc q => pow_int_small hc.1 hc.2.1 hc.2.2 q
theorem unI {f : Value → Sem Value} {g : Int → Int}
    (rule : ∀ (i : Int) (t : Tok) (s : Shared) (Q : Value → Shared → Prop) (E : Value → Shared → Prop), Q (.int (g i) s.toks) { s with toks := s.toks + 1 } → wpAny (model X.prog X.w) X.A (f (.int i t)) Q E s) :
    UnR X f (rU fun i => .int (g i)) := by
  intro pins s σ H x v Q I rx h
  obtain ⟨i, rfl, q⟩ := h
  obtain ⟨t, rfl⟩ := rx
  exact rule i t s _ _ ⟨.int (g i), H, I.tok _, ⟨_, rfl⟩, q⟩
theorem un_neg : UnR X (unaryOp .USub) (rU fun i => .int (-i)) := unI fun _ _ _ _ _ q => neg_int q
end
def scal : V → V → Bool
  | .non, .non => true | .non, .int _ => true | .int _, .non => true | .non, .bl _ => true | .bl _, .non => true | .non, .str _ => true | .str _, .non => true
  | .int _, .int _ => true | .bl _, .bl _ => true | .str _, .str _ => true | .byt _, .byt _ => true
  | .int _, .str _ => true | .str _, .int _ => true | .bl _, .str _ => true | .str _, .bl _ => true
  | _, _ => false
def rEq : R2 := fun x y H Q => scal x y = true ∧ Q (.bl (decide (x = y))) H
def rNe : R2 := fun x y H Q => scal x y = true ∧ Q (.bl (!decide (x = y))) H
theorem dec_int {i j : Int} : decide (V.int i = V.int j) = (i == j) := by
  rw [Bool.eq_iff_iff]
  simp
theorem dec_bl {i j : Bool} : decide (V.bl i = V.bl j) = (i == j) := by
  rw [Bool.eq_iff_iff]
  simp
theorem dec_str {i j : Str} : decide (V.str i = V.str j) = (i == j) := by
  rw [Bool.eq_iff_iff]
  simp
theorem dec_byt {i j : Array UInt8} : decide (V.byt i = V.byt j) = (i.toList == j.toList) := by
  rw [Bool.eq_iff_iff]
  cases i
  cases j
  simp
section
variable {X : Cx} {a b c : Expr} {ta tb tc : TE} {pos : Pos}
theorem fin_bl {pins : List (Addr × Obj)} {σ : St} {H : Hp} {s : Shared} {Q : VK} {k k' : Bool} (I : Inv X pins σ H s) (q : Q (.bl k) H) (e : k = k') : EP X pins σ Q (.bool k') s := by
  subst e
  exact ⟨.bl k, H, I, rfl, q⟩
theorem op_eq : OpR X (compareOp .Eq) rEq := by
  intro pins s σ H x y v u Q I rx ry h
  obtain ⟨hs, q⟩ := h
  cases x with
  | non =>
    cases rx
    cases y with
    | non => cases ry; exact PySem.EqNone.eq_none_none (fin_bl I q (by simp))
    | bl j => cases ry; exact PySem.EqNone.eq_none_bool (fin_bl I q (by simp))
    | int j => obtain ⟨t', rfl⟩ := ry; exact PySem.EqNone.eq_none_int (fin_bl I q (by simp))
    | str j => obtain ⟨t', rfl⟩ := ry; exact PySem.EqNone.eq_none_str (fin_bl I q (by simp))
    | _ => exact absurd (show false = true from hs) Bool.false_ne_true
  | bl i =>
    cases rx
    cases y with
    | non => cases ry; exact PySem.EqNone.eq_bool_none (fin_bl I q (by simp))
    | bl j => cases ry; exact eq_bool (fin_bl I q dec_bl)
    | str j => obtain ⟨t', rfl⟩ := ry; exact PySem.EqMixed.eq_bool_str (fin_bl I q (by simp))
    | _ => exact absurd (show false = true from hs) Bool.false_ne_true
  | int i =>
    obtain ⟨t, rfl⟩ := rx
    cases y with
    | non => cases ry; exact PySem.EqNone.eq_int_none (fin_bl I q (by simp))
    | int j => obtain ⟨t', rfl⟩ := ry; exact eq_int (fin_bl I q dec_int)
    | str j => obtain ⟨t', rfl⟩ := ry; exact PySem.EqMixed.eq_int_str (fin_bl I q (by simp))
    | _ => exact absurd (show false = true from hs) Bool.false_ne_true
  | str i =>
    obtain ⟨t, rfl⟩ := rx
    cases y with
    | non => cases ry; exact PySem.EqNone.eq_str_none (fin_bl I q (by simp))
    | bl j => cases ry; exact PySem.EqMixed.eq_str_bool (fin_bl I q (by simp))
    | int j => obtain ⟨t', rfl⟩ := ry; exact PySem.EqMixed.eq_str_int (fin_bl I q (by simp))
    | str j => obtain ⟨t', rfl⟩ := ry; exact eq_str (fin_bl I q dec_str)
    | _ => exact absurd (show false = true from hs) Bool.false_ne_true
  | byt i =>
    obtain ⟨t, rfl⟩ := rx
    cases y with
    | byt j => obtain ⟨t', rfl⟩ := ry; exact PySem.W.eq_bytes (fin_bl I q dec_byt)
    | _ => exact absurd (show false = true from hs) Bool.false_ne_true
  | _ => cases y <;> exact absurd (show false = true from hs) Bool.false_ne_true
theorem op_ne : OpR X (compareOp .NotEq) rNe := by
  intro pins s σ H x y v u Q I rx ry h
  obtain ⟨hs, q⟩ := h
  cases x with
  | non =>
    cases rx
    cases y with
    | non => cases ry; exact PySem.EqNone.ne_none_none (fin_bl I q (by simp))
    | bl j => cases ry; exact PySem.EqNone.ne_none_bool (fin_bl I q (by simp))
    | int j => obtain ⟨t', rfl⟩ := ry; exact PySem.EqNone.ne_none_int (fin_bl I q (by simp))
    | str j => obtain ⟨t', rfl⟩ := ry; exact PySem.EqNone.ne_none_str (fin_bl I q (by simp))
    | _ => exact absurd (show false = true from hs) Bool.false_ne_true
  | bl i =>
    cases rx
    cases y with
    | non => cases ry; exact PySem.EqNone.ne_bool_none (fin_bl I q (by simp))
    | bl j => cases ry; exact ne_bool (fin_bl I q (congrArg not dec_bl))
    | str j => obtain ⟨t', rfl⟩ := ry; exact PySem.EqMixed.ne_bool_str (fin_bl I q (by simp))
    | _ => exact absurd (show false = true from hs) Bool.false_ne_true
  | int i =>
    obtain ⟨t, rfl⟩ := rx
    cases y with
    | non => cases ry; exact PySem.EqNone.ne_int_none (fin_bl I q (by simp))
    | int j => obtain ⟨t', rfl⟩ := ry; exact ne_int (fin_bl I q (congrArg not dec_int))
    | str j => obtain ⟨t', rfl⟩ := ry; exact PySem.EqMixed.ne_int_str (fin_bl I q (by simp))
    | _ => exact absurd (show false = true from hs) Bool.false_ne_true
  | str i =>
    obtain ⟨t, rfl⟩ := rx
    cases y with
    | non => cases ry; exact PySem.EqNone.ne_str_none (fin_bl I q (by simp))
    | bl j => cases ry; exact PySem.EqMixed.ne_str_bool (fin_bl I q (by simp))
    | int j => obtain ⟨t', rfl⟩ := ry; exact PySem.EqMixed.ne_str_int (fin_bl I q (by simp))
    | str j => obtain ⟨t', rfl⟩ := ry; exact ne_str (fin_bl I q (congrArg not dec_str))
    | _ => exact absurd (show false = true from hs) Bool.false_ne_true
  | byt i =>
    obtain ⟨t, rfl⟩ := rx
    cases y with
    | byt j => obtain ⟨t', rfl⟩ := ry; exact PySem.W.ne_bytes (fin_bl I q (congrArg not dec_byt))
    | _ => exact absurd (show false = true from hs) Bool.false_ne_true
  | _ => cases y <;> exact absurd (show false = true from hs) Bool.false_ne_true
theorem op_lt : OpR X (compareOp .Lt) (rI0 fun i j => .bl (decide (i < j))) := opB0 fun _ _ _ _ _ _ _ q => lt_int q
theorem op_le : OpR X (compareOp .LtE) (rI0 fun i j => .bl (decide (i ≤ j))) := opB0 fun _ _ _ _ _ _ _ q => le_int q
theorem op_gt : OpR X (compareOp .Gt) (rI0 fun i j => .bl (decide (j < i))) := opB0 fun _ _ _ _ _ _ _ q => gt_int q
theorem op_ge : OpR X (compareOp .GtE) (rI0 fun i j => .bl (decide (j ≤ i))) := opB0 fun _ _ _ _ _ _ _ q => ge_int q
theorem nomark (b : Expr) {op : CmpOp} (h : op ≠ .In := by decide) (h2 : op ≠ .NotIn := by decide) : behindInMarks op b = false := by
  have e1 : (op == CmpOp.In) = false := by cases op <;> first | rfl | exact absurd rfl h
  have e2 : (op == CmpOp.NotIn) = false := by cases op <;> first | rfl | exact absurd rfl h2
  cases b <;> simp [behindInMarks, e1, e2]
theorem pe_cmpR {op : CmpOp} {r : R2} (ho : OpR X (compareOp op) r) (ha : PE X a ta) (hb : PE X b tb) (hm : behindInMarks op b = false) : PE X (.Compare a [op] [b] pos) (tOp r ta tb) := by
  intro pins s σ H Q I h
  exact wpAny_Compare1 (binT ha hb I h fun v u s2 x y H2 I2 rx ry q => ho pins s2 σ H2 x y v u Q I2 rx ry q) hm
def tTest (t : TE) : TT := fun σ H Q => t σ H fun x H' => ∃ k, x = .bl k ∧ Q k H'
theorem pt_cmpR {op : CmpOp} {r : R2} (ho : OpR X (compareOp op) r) (ha : PE X a ta) (hb : PE X b tb) (hm : behindInMarks op b = false) : PT X (.Compare a [op] [b] pos) (tTest (tOp r ta tb)) := by
  intro pins s σ H Q I h
  refine wpAny_isTrue_Compare1 (thn (ha pins s σ H _ I h) fun v s1 ⟨x, H1, I1, r1, q1⟩ => thn (hb pins s1 σ H1 _ I1 q1) fun u s2 ⟨y, H2, I2, r2, q2⟩ =>
    thn (ho pins s2 σ H2 x y v u _ I2 r1 r2 q2) fun c s3 ⟨z, H3, I3, r3, k, e, q3⟩ => ?_) hm
  subst e
  cases r3
  exact wpAny_truthy_bool ⟨H3, I3, q3⟩
def tChain (r r' : R2) (ta tb tc : TE) : TE := fun σ H Q => ta σ H fun x H1 => tb σ H1 fun y H2 => r x y H2 fun z H3 => ∃ k, z = .bl k ∧
  (if k = true then tc σ H3 fun w' H4 => r' y w' H4 Q else Q (.bl false) H3)
theorem pe_chain {op op' : CmpOp} {r r' : R2} (ho : OpR X (compareOp op) r) (ho' : OpR X (compareOp op') r') (ha : PE X a ta) (hb : PE X b tb) (hc : PE X c tc)
    (hm : lastMarks [op, op'] [b, c] = false := by with_unfolding_all rfl) : PE X (.Compare a [op, op'] [b, c] pos) (tChain r r' ta tb tc) := by
  intro pins s σ H Q I h
  refine Compare_chain (thn (ha pins s σ H _ I h) fun v s1 ⟨x, H1, I1, r1, q1⟩ => chain_link (thn (hb pins s1 σ H1 _ I1 q1) fun u s2 ⟨y, H2, I2, r2, q2⟩ =>
    thn (ho pins s2 σ H2 x y v u _ I2 r1 r2 q2) fun d s3 ⟨z, H3, I3, r3, k, e, q3⟩ => ?_)) hm
  subst e
  cases r3
  refine wpAny_truthy_bool ?_
  cases k with
  | false => exact ite_ff ⟨.bl false, H3, I3, rfl, q3⟩
  | true => exact ite_tt (chain_last (thn (hc pins s3 σ H3 _ I3 q3) fun w' s4 ⟨z', H4, I4, r4, q4⟩ => ho' pins s4 σ H4 y z' u w' Q I4 r2 r4 q4))
theorem line63 : (sizeLine : Nat) < 2 ^ 63 := by rw [sizeLine_eq]; decide
theorem vals1 {x : V} {us : List Value} (r : Vals [x] us) : ∃ u, us = [u] ∧ RelV x u := by
  cases r with
  | cons r1 r2 => cases r2; exact ⟨_, rfl, r1⟩
theorem vals2 {x y : V} {us : List Value} (r : Vals [x, y] us) : ∃ u w', us = [u, w'] ∧ RelV x u ∧ RelV y w' := by
  cases r with
  | cons r1 r2 =>
    cases r2 with
    | cons r3 r4 => cases r4; exact ⟨_, _, rfl, r1, r3⟩
theorem call_min2 (hc : X.calm = true) : CallR X (.builtin "min") (fun xs H Q => ∃ i j, xs = [.int i, .int j] ∧ Q (.int (if j < i then j else i)) H) := by
  intro pins s σ H xs us Q I r h
  obtain ⟨i, j, rfl, q⟩ := h
  obtain ⟨u, w', rfl, ⟨t, rfl⟩, ⟨t', rfl⟩⟩ := vals2 r
  refine min_two_ints (I.ok.hd hc) fun h' tk k => ⟨_, H, I.kept k, ?_, q⟩
  by_cases hj : j < i
  · rw [if_pos hj, if_pos hj]; exact ⟨_, rfl⟩
  · rw [if_neg hj, if_neg hj]; exact ⟨_, rfl⟩
theorem call_int1 : CallR X (.type "int") (fun xs H Q => (∃ i, xs = [.int i] ∧ Q (.int i) H) ∨ ∃ k, xs = [.bl k] ∧ Q (.int (if k then 1 else 0)) H) := by
  intro pins s σ H xs us Q I r h
  rcases h with ⟨i, rfl, q⟩ | ⟨k, rfl, q⟩
  · obtain ⟨u, rfl, t, rfl⟩ := vals1 r
    exact call_int_int ⟨.int i, H, I, ⟨_, rfl⟩, q⟩
  · obtain ⟨u, rfl, r1⟩ := vals1 r
    cases r1
    exact call_int_bool ⟨.int (if k then 1 else 0), H, I.tok _, ⟨_, rfl⟩, q⟩
end
end L2
namespace L2
open PySem PySem.Spec PyProof.Rows
section
variable {prog : Program} {w : World} {A : Around} {E : Value → Shared → Prop} {s : Shared} {K : PySem.W.Frag} {x dx C f : Addr} {mA : Str → Option Value} {name : Str} {v : Value}
end
section
variable {P : Program} {w : World} {H H' : Hp} {h h' : Heap} {a C dx : Addr} {fs fs' : List (Str × V)}
end
structure Cls (K : PySem.W.Frag) (C : Addr) : Prop where
  pg : PySem.W.plainGet K C Str.empty = true
  hd : PySem.W.hasDictIn K C = true
  po : PySem.W.plainOver K C = true
  sa : PySem.W.findIn K (.ref C) "__setattr__" = some (some (.builtin "object.__setattr__"))
section
variable {X : Cx} {pins : List (Addr × Obj)} {σ : St} {H : Hp} {s : Shared} {a C dx : Addr} {fs : List (Str × V)} {f : Str} {v : V} {A : Around} {E : Value → Shared → Prop}
end
section
variable {X : Cx} {o e value : Expr} {f : Str} {pos pos' tpos : Pos} {ta tv : TE}
end
section
variable {X : Cx} {pins : List (Addr × Obj)} {σ : St} {H : Hp} {s : Shared} {A : Around} {E : Value → Shared → Prop} {Q : Value → Shared → Prop} {c : Value} {b : Bool}
end
end L2
namespace L2
open PySem PySem.Spec PyProof.Rows
structure Room (k : Nat) (A : Around) : Prop where
  hd : A.handled = none
  dp : A.depth + 3 * k + 5 < recursionLimit
  un : A.units + 16 * k + 200 < cLine
theorem Room.mono {j k : Nat} {A : Around} (r : Room k A) (h : j ≤ k) : Room j A := ⟨r.hd, by have := r.dp; omega, by have := r.un; omega⟩
theorem Room.deeper {k : Nat} {A : Around} (r : Room (k + 1) A) (env : Env) : Room k (A.deeper env) :=
  ⟨r.hd, by have := r.dp; show A.depth + 1 + 3 * k + 5 < _; omega, by have := r.un; show A.units + 3 + 16 * k + 200 < _; omega⟩
theorem Room.depth {k : Nat} {A : Around} (r : Room k A) : A.depth < recursionLimit := by have := r.dp; omega
theorem Room.units {k : Nat} {A : Around} (r : Room k A) : A.units + 64 < cLine := by have := r.un; omega
def tNil : TA := fun _ H Q => Q [] H
def tCons (ta : TE) (tr : TA) : TA := fun σ H Q => ta σ H fun x H1 => tr σ H1 fun xs H2 => Q (x :: xs) H2
section
variable {X : Cx} {e : Expr} {es : List Expr} {te : TE} {t : TA} {pos : Pos}
theorem pa_nil : PA X [] tNil := fun _ _ _ _ H Q I h => Calls.spliced_nil ⟨[], H, I, .nil, h⟩
theorem pa_cons (ha : PE X e te) (hr : PA X es t) (hs : starEach (e :: es) X.env = (false, eval e X.env) :: starEach es X.env := by rfl) : PA X (e :: es) (tCons te t) := by
  intro pos pins s σ H Q I h
  rw [hs]
  show wpAny _ _ (spliced ((false, eval e X.env) :: backTo pos (starEach es X.env))) _ _ s
  refine Calls.spliced_cons (thn (ha pins s σ H _ I h) fun u s1 ⟨x, H1, I1, r1, q1⟩ => ?_)
  exact thn (hr pos pins s1 σ H1 _ I1 q1) fun us s2 ⟨xs, H2, I2, r2, q2⟩ => ⟨x :: xs, H2, I2, .cons r1 r2, q2⟩
def tTup (t : TA) : TE := fun σ H Q => t σ H fun xs H1 => xs.length ≤ sizeLine ∧ ∀ p, H1 p = none → Q (.ref p) (upd H1 p (.tup xs))
def tLst (t : TA) : TE := fun σ H Q => t σ H fun xs H1 => xs.length ≤ sizeLine ∧ ∀ p, H1 p = none → Q (.ref p) (upd H1 p (.lst xs))
theorem pe_tup {x1} (h : PA X es t) : PE X (.Tuple es x1 pos) (tTup t) := by
  intro pins s σ H Q I hq
  refine wpAny_Tuple_spliced (thn (h pos pins s σ H _ I hq) fun us s1 ⟨xs, H1, I1, r, z, q⟩ => ⟨by rw [← r.length]; exact z, ?_⟩)
  have hf : H1 s1.heap.objs.size = none := I1.hok.fresh (Nat.le_refl _)
  refine ⟨.ref s1.heap.objs.size, upd H1 s1.heap.objs.size (.tup xs), I1.laid (t' := s1.toks) (fun b u e => Heap.get?_push_of_some _ e) (Nat.le_refl _) ?_, rfl, q _ hf⟩
  exact ⟨z, us, r, ⟨_, Heap.get?_push_size _ rfl, rfl, _, rfl⟩⟩
theorem pe_lst (h : PA X es t) : PE X (.List es pos) (tLst t) := by
  intro pins s σ H Q I hq
  refine wpAny_List_spliced (thn (h pos pins s σ H _ I hq) fun us s1 ⟨xs, H1, I1, r, z, q⟩ => ⟨by rw [← r.length]; exact z, ?_⟩)
  have hf : H1 s1.heap.objs.size = none := I1.hok.fresh (Nat.le_refl _)
  refine ⟨.ref s1.heap.objs.size, upd H1 s1.heap.objs.size (.lst xs), I1.laid (t' := s1.toks) (fun b u e => Heap.get?_push_of_some _ e) (Nat.le_refl _) ?_, rfl, q _ hf⟩
  exact ⟨z, us, 0, r, Heap.get?_push_size _ rfl⟩
end
abbrev Sp := List V → Hp → VK → XK → Prop
abbrev CXT := List Env → Hp → Shared → XK → Value → Shared → Prop
structure Env0 (P : Program) (w : World) (K : PySem.W.Frag) (mg : Str → Option Value) (base : Heap) (A : Around) (outer : List Env) (s : Shared) (H : Hp) : Prop where
  frames : A.frames = some outer
  mod : Mod K mg base
  bs : ∀ b o, base.get? b = some o → s.heap.get? b = some o ∧ H b = none
  bsz : base.objs.size ≤ s.heap.objs.size
  funs : s.heap.FunFrames base outer
  frf : ∀ b ∈ frs outer, H b = none
  hok : HOk P w H s.heap
  bare : AllBare s.gens
def CE (outer : List Env) (P : Program) (w : World) (H : Hp) (s : Shared) (Q : VK) (u : Value) (s' : Shared) : Prop :=
  ∃ v H', s'.os = s.os ∧ AllBare s'.gens ∧ Un (frs outer) [] H H' s.heap s'.heap ∧ HOk P w H' s'.heap ∧ RelV v u ∧ Q v H'
def CR (CX : CXT) (outer : List Env) (P : Program) (w : World) (H : Hp) (s : Shared) (Q : VK) (E : XK) (r : Result) (s' : Shared) : Prop :=
  match r with
  | .ok (.ret u) => CE outer P w H s Q u s'
  | .ok _ => False
  | .error e => CX outer H s E e s'
structure FnOk (P : Program) (w : World) (K : PySem.W.Frag) (mg : Str → Option Value) (base : Heap) (CX : CXT) (k : Nat) (f : Addr) (fd : FuncData) (ps : List Str) (sp : Sp) : Prop where
  len : ∀ vs H Q E, sp vs H Q E → vs.length = ps.length
  run : ∀ (A : Around) (outer : List Env) (s : Shared) (H : Hp) (args : Args) (us : List Value) (vs : List V) (Q : VK) (E : XK), Room k A → Env0 P w K mg base A outer s H → BindsTo s fd args (ps.zip us) → Vals vs us → sp vs H Q E →
    codeAny (model P w) A (.call (.ref f) args) (CR CX outer P w H s Q E) s
theorem FnOk.imp {P : Program} {w : World} {K : PySem.W.Frag} {mg : Str → Option Value} {base : Heap} {CX : CXT} {k : Nat} {f : Addr} {fd : FuncData} {ps : List Str} {sp sp' : Sp} (F : FnOk P w K mg base CX k f fd ps sp)
    (h : ∀ vs H Q E, sp' vs H Q E → sp vs H Q E) : FnOk P w K mg base CX k f fd ps sp' :=
  ⟨fun vs H Q E q => F.len vs H Q E (h _ _ _ _ q), fun A outer s H args us vs Q E hr he hb hv hs => F.run A outer s H args us vs Q E hr he hb hv (h _ _ _ _ hs)⟩
section
variable {X : Cx} {pins : List (Addr × Obj)} {σ : St} {H : Hp} {s s' : Shared}
theorem Inv.env0 (I : Inv X pins σ H s) : Env0 X.prog X.w X.K X.mg X.base X.A X.stack s H :=
  ⟨I.ok.frames, I.ok.mod, I.bs, Nat.le_trans I.ok.bsz I.sz, I.stack, I.stkFree, I.hok, I.bare⟩
theorem Inv.after {Q : VK} {u : Value} (I : Inv X pins σ H s) (h : CE X.stack X.prog X.w H s Q u s') : EP X pins σ Q u s' := by
  obtain ⟨v, H', os, bare, un, hok, r, q⟩ := h
  obtain ⟨hh, g, d, t, os'⟩ := s'
  obtain rfl : os' = s.os := os
  exact ⟨v, H', I.call (h' := hh) (g' := g) (d' := d) (t' := t) (ch := []) un hok bare (fun b z => absurd z (by simp)), r, q⟩
end
def tCall (sp : Sp) (dvs : List V) (E : XK) (t : TA) : TE := fun σ H Q => t σ H fun vs H1 => sp (vs ++ dvs) H1 Q E
def Binds (K : PySem.W.Frag) (fd : FuncData) (ps : List Str) (ds : List Value) : Prop :=
  ∀ (s : Shared) (us : List Value), K.In s.heap → (us ++ ds).length = ps.length → BindsTo s fd ⟨us, []⟩ (ps.zip (us ++ ds))
theorem Binds.all {K : PySem.W.Frag} {fd : FuncData} {ps : List Str} (h : ∀ us : List Value, us.length = ps.length → bindArgs fd ⟨us, []⟩ = pure (ps.zip us)) : Binds K fd ps [] := fun s us _ hl => by
  rw [List.append_nil] at hl ⊢
  exact .of_eq (h us hl)
def Passes (CX : CXT) (X : Cx) (E : XK) : Prop := ∀ (pins : List (Addr × Obj)) (σ : St) (H : Hp) (s : Shared) (e : Value) (s' : Shared), Inv X pins σ H s → CX X.stack H s E e s' → X.xe e s'
section
variable {X : Cx} {CX : CXT} {k : Nat} {f C : Addr} {fd : FuncData} {ps : List Str} {sp : Sp} {dvs : List V} {ds : List Value} {E : XK} {x m : Str} {p pos apos : Pos} {e o : Expr} {es : List Expr} {ta : TE} {t : TA}
theorem run_fn {pins : List (Addr × Obj)} {σ : St} {H : Hp} {s : Shared} {Q : VK} {us : List Value} {vs : List V} (F : FnOk X.prog X.w X.K X.mg X.base CX k f fd ps sp) (hr : Room k X.A) (hb : Binds X.K fd ps ds) (hd : Vals dvs ds) (hx : Passes CX X E)
    (I : Inv X pins σ H s) (r : Vals vs us) (h : sp (vs ++ dvs) H Q E) : wpAny (model X.prog X.w) X.A (call (.ref f) us) (EP X pins σ Q) X.xe s := by
  have r2 : Vals (vs ++ dvs) (us ++ ds) := r.append hd
  have hl : (us ++ ds).length = ps.length := by rw [← r2.length]; exact F.len _ _ _ _ h
  refine wpAny_call (codeAny_mono (F.run X.A X.stack s H ⟨us, []⟩ (us ++ ds) (vs ++ dvs) Q E hr I.env0 (hb s us I.kIn hl) r2 h) fun r s' hq => ?_)
  cases r with
  | error e => exact hx pins σ H s e s' I hq
  | ok fl =>
    cases fl with
    | ret u => exact I.after hq
    | next => exact False.elim hq
    | brk => exact False.elim hq
    | cont => exact False.elim hq
theorem pe_call (F : FnOk X.prog X.w X.K X.mg X.base CX k f fd ps sp) (hr : Room k X.A) (hg : Gl X x) (hm : X.mg x = some (.ref f)) (hk : PySem.W.keepIn X.K (.ref f) = true) (hb : Binds X.K fd ps ds) (hd : Vals dvs ds) (hx : Passes CX X E)
    (ha : PA X (e :: es) t) (hdb : (x == ("__debug__" : Str)) = false := by decide) (he : starEach (e :: es) X.env = (false, eval e X.env) :: starEach es X.env := by rfl) (hpl : (backTo pos (starEach es X.env)).any (·.1) = false := by rfl) :
    PE X (.Call (.Name x p) (e :: es) [] pos) (tCall sp dvs E t) := by
  intro pins s σ H Q I h
  refine wpAny_Call_Name_kw (ld_glob I hg hm ?_ hdb)
  refine PySem.W.callWith_K (h₀ := X.base) I.ok.mod.kin hk (thn (ha pos pins s σ H _ I h) fun us s1 ⟨vs, H1, I1, r, q⟩ => ⟨I1.kIn, ?_⟩) he hpl
  exact run_fn F hr hb hd hx I1 r q
end
section
variable {X : Cx} {CX : CXT} {k : Nat} {f C : Addr} {fd : FuncData} {ps ks : List Str} {sp : Sp} {E : XK} {x m : Str} {p pos apos kpos : Pos} {e o : Expr} {es : List Expr} {kws : List Keyword} {te ta : TE} {t tk : TA} {nm : Option Str}
structure KBinds (K : PySem.W.Frag) (fd : FuncData) (ps ks : List Str) (g : List Value → List Value → List Value) (gV : List V → List V → List V) : Prop where
  to : ∀ (s : Shared) (us ws : List Value), K.In s.heap → (g us ws).length = ps.length → BindsTo s fd ⟨us, ks.zip ws⟩ (ps.zip (g us ws))
  rel : ∀ {vs : List V} {us : List Value} {zs : List V} {ws : List Value}, Vals vs us → Vals zs ws → Vals (gV vs zs) (g us ws)
variable {g : List Value → List Value → List Value} {gV : List V → List V → List V}
end
structure FnScope (N P : List Str) (sc : Scope) : Prop where
  kind : sc.kind = .function
  co : sc.isCoroutine = false
  gen : sc.isGenerator = false
  nd : N.Nodup
  pre : N.take P.length = P
  par : ∀ x ∈ P, sc.names.lookup x = some .local ∨ sc.names.lookup x = some .cell
  nofree : ∀ y ∈ sc.names, y.2 ≠ .free
theorem bindL_out {kindOf : Str → Option NameKind} {x : Str} : ∀ {binds : List (Str × Value)} {m : Str → Option Value}, (∀ v, (x, v) ∉ binds) → bindL kindOf binds m x = m x
  | [], _, _ => rfl
  | (n, v) :: r, m, h => by
    unfold bindL
    rw [bindL_out fun w hw => h w (List.mem_cons_of_mem _ hw)]
    split
    · have : x ≠ n := by rintro rfl; exact h v List.mem_cons_self
      simp [this]
    · rfl
theorem bindC_out {kindOf : Str → Option NameKind} {x : Str} : ∀ {binds : List (Str × Value)} {m : Str → Option Value}, (∀ v, (x, v) ∉ binds) → bindC kindOf binds m x = m x
  | [], _, _ => rfl
  | (n, v) :: r, m, h => by
    unfold bindC
    rw [bindC_out fun w hw => h w (List.mem_cons_of_mem _ hw)]
    split
    · rfl
    · have : x ≠ n := by rintro rfl; exact h v List.mem_cons_self
      simp [this]
theorem bindL_get {kindOf : Str → Option NameKind} {x : Str} {v : Value} : ∀ {P : List Str} {vs : List Value} {i : Nat} {m : Str → Option Value}, P.Nodup → P[i]? = some x → vs[i]? = some v → kindOf x = some .local →
    bindL kindOf (P.zip vs) m x = some v
  | [], _, _, _, _, h, _, _ => by simp at h
  | _ :: _, [], _, _, _, _, h, _ => by simp at h
  | p :: P, w :: vs, 0, m, nd, h1, h2, hk => by
    simp at h1 h2; subst h1; subst h2
    show bindL kindOf ((p, w) :: P.zip vs) m p = _
    unfold bindL
    rw [bindL_out fun v hv => (List.nodup_cons.mp nd).1 (List.of_mem_zip hv).1, if_pos hk]
    simp
  | p :: P, w :: vs, i + 1, m, nd, h1, h2, hk => by
    show bindL kindOf ((p, w) :: P.zip vs) m x = _
    unfold bindL
    exact bindL_get (i := i) (List.nodup_cons.mp nd).2 (by simpa using h1) (by simpa using h2) hk
theorem bindC_get {kindOf : Str → Option NameKind} {x : Str} {v : Value} : ∀ {P : List Str} {vs : List Value} {i : Nat} {m : Str → Option Value}, P.Nodup → P[i]? = some x → vs[i]? = some v → kindOf x ≠ some .local →
    bindC kindOf (P.zip vs) m x = some v
  | [], _, _, _, _, h, _, _ => by simp at h
  | _ :: _, [], _, _, _, _, h, _ => by simp at h
  | p :: P, w :: vs, 0, m, nd, h1, h2, hk => by
    simp at h1 h2; subst h1; subst h2
    show bindC kindOf ((p, w) :: P.zip vs) m p = _
    unfold bindC
    rw [bindC_out fun v hv => (List.nodup_cons.mp nd).1 (List.of_mem_zip hv).1, if_neg hk]
    simp
  | p :: P, w :: vs, i + 1, m, nd, h1, h2, hk => by
    show bindC kindOf ((p, w) :: P.zip vs) m x = _
    unfold bindC
    exact bindC_get (i := i) (List.nodup_cons.mp nd).2 (by simpa using h1) (by simpa using h2) hk
def start (N : List Str) (vs : List V) : St := vs.map some ++ List.replicate (N.length - vs.length) none
def cxOf (CX : CXT) (P : Program) (w : World) (K : PySem.W.Frag) (mg : Str → Option Value) (base : Heap) (N : List Str) (qual : Str) (scope : Scope) (f : Addr) (cd : Value) (A : Around) (outer : List Env) (s : Shared) (H : Hp) (E : XK) : Cx where
  prog := P
  w := w
  K := K
  mg := mg
  base := base
  A := A.deeper (envOfC qual scope s.heap.objs.size f cd)
  N := N
  s₀ := s
  H₀ := H
  env := envOfC qual scope s.heap.objs.size f cd
  outer := outer
  stack := envOfC qual scope s.heap.objs.size f cd :: outer
  ex := []
  calm := true
  fn := fun _ => true
  pn := []
  xe := fun e s' => wpAny (model P w) (A.deeper (envOfC qual scope s.heap.objs.size f cd)) (leaving (envOfC qual scope s.heap.objs.size f cd) e) (fun _ s'' => CX outer H s E e s'') (fun e' s'' => CX outer H s E e' s'') s'
theorem cell_has {sc : Scope} {n : Nat} {x : Str} (h : sc.names.lookup x = some .cell) : ∃ c, (cellsFrom n sc.names []).lookup x = some c := by
  have q := PySem.W.cellsFrom_some sc.names n [] (.inl h)
  exact Option.isSome_iff_exists.mp q
theorem inv_start {CX : CXT} {P : Program} {w : World} {K : PySem.W.Frag} {mg : Str → Option Value} {base : Heap} {N ps : List Str} {qual : Str} {scope : Scope} {f : Addr} {cd : Value} {A : Around} {outer : List Env} {s s1 : Shared} {H : Hp} {E : XK} {us : List Value} {vs : List V}
    (S : FnScope N ps scope) (hd : A.handled = none) (e0 : Env0 P w K mg base A outer s H) (hl : vs.length = ps.length) (r : Vals vs us)
    (x : InCallC s s.heap.objs.size (bindL (envOfC qual scope s.heap.objs.size f cd).kindOf (ps.zip us) fun _ => none) (cellsFrom (s.heap.objs.size + 1) scope.names []) (bindC (envOfC qual scope s.heap.objs.size f cd).kindOf (ps.zip us) fun _ => none) s1) :
    Inv (cxOf CX P w K mg base N qual scope f cd A outer s H E) [] (start N vs) H s1 := by
  have hpl : ps.length ≤ N.length := by have := congrArg List.length S.pre; rw [List.length_take] at this; omega
  obtain ⟨h1, tk, rfl, hk⟩ := x.done
  have noA : ∀ b : Addr, b ∉ (cxOf CX P w K mg base N qual scope f cd A outer s H E).ex := fun b z => absurd (show b ∈ ([] : List Addr) from z) (by simp)
  refine ⟨⟨e0.mod, S.kind, rfl, rfl, Nat.le_refl _, fun y z c h1 h2 => ?_, fun y hy => ?_, fun y c _ h => ?_, fun _ => hd, Around.frames_deeper e0.frames, .inr ⟨rfl, rfl⟩, fun b z => absurd z (noA b), e0.bs, e0.bsz, fun b _ _ => noA b, fun b z => absurd z (noA b), e0.funs, e0.frf⟩,
    rfl, e0.bare, Un.kept hk, ⟨_, x.toInCall.ns, fun i y v h1 h2 h3 => ?_⟩, fun y c h => ⟨_, x.cell y c h⟩, e0.hok.fresh (Nat.le_refl _), fun y c h => ?_, fun p hp => absurd (show p ∈ ([] : List (Addr × Obj)) from hp) (by simp), e0.hok.kept hk, ?_⟩
  · exact name_of_addr x.apart (PySem.mem_of_lookup h1) (PySem.mem_of_lookup h2)
  · have hy : scope.names.lookup y = some .cell ∨ scope.names.lookup y = some .free := hy
    rcases hy with hy | hy
    · exact cell_has hy
    · exact absurd rfl (S.nofree _ (PySem.mem_of_lookup hy))
  · exact Nat.le_of_lt (x.above y c (PySem.mem_of_lookup h))
  · have hi : i < vs.length := by
      unfold start at h2
      by_cases hi : i < vs.length
      · exact hi
      · rw [List.getElem?_append_right (by simpa using hi)] at h2
        rw [List.getElem?_replicate] at h2
        split at h2 <;> cases h2
    have ha : vs[i]? = some v := by
      unfold start at h2
      rw [List.getElem?_append_left (by simpa using hi), List.getElem?_map] at h2
      cases e : vs[i]? with
      | none => rw [e] at h2; cases h2
      | some a => rw [e] at h2; cases h2; rfl
    obtain ⟨u, hu, rv⟩ := r.get ha
    have hp : ps[i]? = some y := by
      rw [← S.pre, List.getElem?_take_of_lt (by omega)]; exact h1
    have ndP : ps.Nodup := by rw [← S.pre]; exact S.nd.sublist (List.take_sublist _ _)
    refine ⟨u, rv, ?_⟩
    rcases S.par y (List.mem_of_getElem? hp) with k | k
    · exact .inl ⟨k, bindL_get ndP hp hu k⟩
    · obtain ⟨c, e⟩ := cell_has (n := s.heap.objs.size + 1) k
      refine .inr ⟨.inl k, c, e, ?_⟩
      have q := x.cell y c e
      rw [bindC_get ndP hp hu (by show scope.names.lookup y ≠ _; rw [k]; decide)] at q
      exact q
  · exact e0.hok.fresh (Nat.le_of_lt (x.above y c (PySem.mem_of_lookup h)))
  · unfold start
    show _ = N.length
    rw [List.length_append, List.length_map, List.length_replicate]
    omega
theorem fn_of {CX : CXT} {P : Program} {w : World} {K : PySem.W.Frag} {mg : Str → Option Value} {base : Heap} {k : Nat} {f : Addr} {name qual : Str} {params : Arguments} {body : List Stmt} {scope : Scope} {dV kV doc pm cdv ct oc : Value} {an od : Option Addr}
    {osl : Array (Option Value)} {N ps : List Str} {sp : Sp} (lk : K.lookup f = some ⟨oc, od, .func (PySem.W.fnOf name qual params body scope dV kV doc pm an cdv ct), osl⟩) (hcd : PySem.W.codeIn K cdv qual = true) (S : FnScope N ps scope)
    (len : ∀ vs H Q E, sp vs H Q E → vs.length = ps.length)
    (hbody : ∀ (A : Around) (outer : List Env) (s : Shared) (H : Hp) (vs : List V) (Q : VK) (E : XK), Room k (A.deeper (envOfC qual scope s.heap.objs.size f cdv)) → sp vs H Q E →
      ∃ t, PSs (cxOf CX P w K mg base N qual scope f cdv A outer s H E) body t ∧ t { nx := fun _ H' => Q .non H', rt := Q } (start N vs) H) :
    FnOk P w K mg base CX (k + 1) f (PySem.W.fnOf name qual params body scope dV kV doc pm an cdv ct) ps sp := by
  refine ⟨len, fun A outer s H args us vs Q E hr e0 hb r hsp => ?_⟩
  have hl := len _ _ _ _ hsp
  have KX : K.In s.heap := e0.mod.kin.keeps fun b o e => (e0.bs b o e).1
  have lim : s.heap.NoLimit := e0.mod.nolimit.keeps fun b o e => (e0.bs b o e).1
  have hkind : ∀ y ∈ ps.zip us, scope.names.lookup y.1 = some .local ∨ (scope.names.lookup y.1 = some .cell ∧ ((cellsFrom (s.heap.objs.size + 1) scope.names []).lookup y.1).isSome = true) := fun ⟨n, v⟩ hy => by
    rcases S.par n (List.of_mem_zip hy).1 with q | q
    · exact .inl q
    · exact .inr ⟨q, PySem.W.cellsFrom_some _ _ _ (.inl q)⟩
  refine codeAny_call_function hr.depth (KX _ _ lk) rfl S.co S.gen rfl (PySem.W.codeRec_of KX hcd) (hb _ _ _ _ ?_)
  refine wpAny_newFunctionEnv_cells S.kind hkind fun env he s1 x => ?_
  subst he
  refine ⟨lim.keeps x.toInCall.keep, codeAny_func ?_⟩
  obtain ⟨t, ht, hq⟩ := hbody A outer s H vs Q E (hr.deeper _) hsp
  have I : Inv (cxOf CX P w K mg base N qual scope f cdv A outer s H E) [] (start N vs) H s1 := inv_start S hr.hd e0 hl r x
  refine wpAny_mono (ht [] s1 (start N vs) H _ I hq) (fun fl s' hs => ?_) fun e s' hs => hs
  have fin : ∀ {σ' : St} {H' : Hp} {v : V} {u : Value}, Inv (cxOf CX P w K mg base N qual scope f cdv A outer s H E) [] σ' H' s' → RelV v u → Q v H' → CE outer P w H s Q u s' :=
    fun {σ' H' v u} J rv q => ⟨v, H', J.os, J.bare, J.base, J.hok, rv, q⟩
  cases fl with
  | ret u =>
    obtain ⟨v, σ', H', J, rv, q⟩ := hs
    exact fin J rv q
  | next =>
    obtain ⟨σ', H', J, q⟩ := hs
    exact fin (v := V.non) (u := Value.none) J rfl q
  | brk =>
    obtain ⟨_, _, _, q⟩ := hs
    exact False.elim q
  | cont =>
    obtain ⟨_, _, _, q⟩ := hs
    exact False.elim q
end L2
namespace L2
open PySem PySem.Spec PyProof.Rows
section
variable {X : Cx} {x : Str} {p pos : Pos} {e : Expr} {es : List Expr} {t : TA} {id T : String} {r : List V → Hp → VK → Prop}
def tCB (r : List V → Hp → VK → Prop) (t : TA) : TE := fun σ H Q => t σ H fun vs H1 => r vs H1 Q
theorem pe_callB (hc : CallR X (.builtin id) r) (hg : Gl X x) (hm : X.mg x = none) (hv : bootBuiltins x = some (.builtin id)) (ha : PA X (e :: es) t) (hn : x ≠ "__name__" := by decide) (hdb : (x == ("__debug__" : Str)) = false := by decide)
    (he : starEach (e :: es) X.env = (false, eval e X.env) :: starEach es X.env := by rfl) (hpl : (backTo pos (starEach es X.env)).any (·.1) = false := by rfl) : PE X (.Call (.Name x p) (e :: es) [] pos) (tCB r t) := by
  intro pins s σ H Q I h
  refine wpAny_Call_Name_kw (ld_blt I hg hm hv ?_ hn hdb)
  exact PyProof.Rows.callWith_builtin1 (thn (ha pos pins s σ H _ I h) fun us s1 ⟨vs, H1, I1, r1, q1⟩ => hc pins s1 σ H1 vs us Q I1 r1 q1) he hpl
theorem pe_callTy (hc : CallR X (.type T) r) (hg : Gl X x) (hm : X.mg x = none) (hv : bootBuiltins x = some (.type T)) (ha : PA X (e :: es) t) (hn : x ≠ "__name__" := by decide) (hdb : (x == ("__debug__" : Str)) = false := by decide)
    (he : starEach (e :: es) X.env = (false, eval e X.env) :: starEach es X.env := by rfl) (hpl : (backTo pos (starEach es X.env)).any (·.1) = false := by rfl) : PE X (.Call (.Name x p) (e :: es) [] pos) (tCB r t) := by
  intro pins s σ H Q I h
  refine wpAny_Call_Name_kw (ld_blt I hg hm hv ?_ hn hdb)
  exact PyProof.Rows.callWith_type1 (thn (ha pos pins s σ H _ I h) fun us s1 ⟨vs, H1, I1, r1, q1⟩ => hc pins s1 σ H1 vs us Q I1 r1 q1) he hpl
end
end L2
namespace HT
open PySem PyProof.Rows
def lexLt : List Int → List Int → Bool
  | [], [] => false
  | [], _ :: _ => true
  | _ :: _, [] => false
  | x :: xs, y :: ys => if x = y then lexLt xs ys else decide (x < y)
section
open PySem.SeqAt
open PySem.AutoSeq1 (wpAny_loadPart')
open PySem.MeetsSeq PySem.MeetsSeq2 PySem.MeetsSeq3
end
section
variable {prog : Program} {w : World} {A : Around} {E : Value → Shared → Prop} {s : Shared}
def sIx (n d : Nat) : Option Int → Nat
  | none => d
  | some v => if v < 0 then (v + (n : Int)).toNat else min v.toNat n
theorem sIx_none (n d : Nat) : sIx n d none = d := rfl
theorem sIx_nat (n d k : Nat) : sIx n d (some (k : Int)) = min k n := by
  show (if (k : Int) < 0 then ((k : Int) + (n : Int)).toNat else min (k : Int).toNat n) = min k n
  rw [if_neg (by omega), Int.toNat_natCast]
end
end HT
namespace L2
open PySem PySem.Spec PyProof.Rows
abbrev TO := St → Hp → (Option Int → Hp → Prop) → Prop
def PO (X : Cx) (e : Option Expr) (t : TO) : Prop :=
  ∀ (pins : List (Addr × Obj)) (s : Shared) (σ : St) (H : Hp) (Q : Option Int → Hp → Prop), Inv X pins σ H s → t σ H Q →
    wpAny (model X.prog X.w) X.A (evalPart e X.env) (fun u s' => ∃ o H', Inv X pins σ H' s' ∧ IsPart u o ∧ Q o H') X.xe s
def tNoPart : TO := fun _ H Q => Q none H
def tPart (t : TE) : TO := fun σ H Q => t σ H fun x H1 => ∃ i, x = .int i ∧ Q (some i) H1
theorem intsAre_of {ns : List Int} : ∀ {us : List Value}, Vals (ns.map V.int) us → IntsAre us ns := by
  induction ns with
  | nil => intro us r; rw [List.map_nil] at r; cases r; exact .nil
  | cons n ns ih =>
    intro us r
    rw [List.map_cons] at r
    cases r with
    | cons r1 r2 =>
      obtain ⟨t, e⟩ := r1
      subst e
      exact .cons n t (ih r2)
section
variable {X : Cx} {e : Expr} {te : TE} {lo hi : Option Expr} {tl th : TO} {pos p2 : Pos}
theorem po_none : PO X none tNoPart := by
  intro pins s σ H Q I h
  rw [evalPart_none]
  exact wpAny_pure ⟨none, H, I, .none, h⟩
theorem po_some (h : PE X e te) : PO X (some e) (tPart te) := by
  intro pins s σ H Q I hw
  rw [evalPart_some]
  refine thn (h pins s σ H _ I hw) fun u s1 ⟨x, H1, I1, r1, q1⟩ => ?_
  obtain ⟨i, rfl, q⟩ := q1
  obtain ⟨t, rfl⟩ := r1
  exact ⟨some i, H1, I1, .int i t, q⟩
def SlR (X : Cx) (r : V → Option Int → Option Int → Hp → VK → Prop) : Prop :=
  ∀ (pins : List (Addr × Obj)) (s : Shared) (σ : St) (H : Hp) (x : V) (v vl vu : Value) (lo hi : Option Int) (sl : Addr) (Q : VK), Inv X pins σ H s → RelV x v → s.heap.IsSliceOf sl vl vu .none → IsPart vl lo → IsPart vu hi → r x lo hi H Q →
    ∃ T id, typeLookup (.type T) "__getitem__" = pure (some (.builtin id)) ∧ s.TypeIs v T ∧ wpAny (model X.prog X.w) X.A (getItem v (.ref sl)) (EP X pins σ Q) X.xe s
def tSl (r : V → Option Int → Option Int → Hp → VK → Prop) (te : TE) (tl th : TO) : TE := fun σ H Q => te σ H fun x H1 => tl σ H1 fun l H2 => th σ H2 fun u H3 => r x l u H3 Q
theorem pe_slice {r : V → Option Int → Option Int → Hp → VK → Prop} (hr : SlR X r) (he : PE X e te) (hl : PO X lo tl) (hu : PO X hi th) : PE X (.Subscript e (.Slice lo hi none p2) pos) (tSl r te tl th) := by
  intro pins s σ H Q I h
  refine Subscript_ (thn (he pins s σ H _ I h) fun v s1 ⟨x, H1, I1, r1, q1⟩ => ?_)
  refine wpAny_Slice (thn (hl pins s1 σ H1 _ I1 q1) fun vl s2 ⟨l, H2, I2, pl, q2⟩ => thn (hu pins s2 σ H2 _ I2 q2) fun vu s3 ⟨u, H3, I3, pu, q3⟩ => ?_)
  rw [evalPart_none]
  refine wpAny_pure ?_
  have I4 : Inv X pins σ H3 { s3 with heap := s3.heap.push { cls := .type "slice", data := .fields #[vl, vu, .none] } } := I3.kept (t' := s3.toks) fun b ob q => Heap.get?_push_of_some _ q
  obtain ⟨T, id, hT, ht, hg⟩ := hr pins { s3 with heap := s3.heap.push { cls := .type "slice", data := .fields #[vl, vu, .none] } } σ H3 x v vl vu l u s3.heap.objs.size Q I4 r1 (Heap.IsSliceOf.new ..) pl pu q3
  show wpAny (model X.prog X.w) X.A (subscriptTail e (.Slice lo hi none p2) v (.ref s3.heap.objs.size)) (EP X pins σ Q) X.xe { s3 with heap := s3.heap.push { cls := .type "slice", data := .fields #[vl, vu, .none] } }
  exact tail_any (ops := [.ref s3.heap.objs.size, v]) ht hT hg (by with_unfolding_all rfl)
def cutV (xs : List V) (lo hi : Option Int) : List V := (xs.drop (HT.sIx xs.length 0 lo)).take (HT.sIx xs.length xs.length hi - HT.sIx xs.length 0 lo)
theorem cutV_length (xs : List V) (lo hi : Option Int) : (cutV xs lo hi).length ≤ xs.length := by
  unfold cutV
  rw [List.length_take, List.length_drop]
  omega
end
end L2
namespace L2
open PySem PySem.Spec PyProof.Rows
def ixN (n : Nat) (i : Int) : Option Nat := if 0 ≤ i then (if i < n then some i.toNat else none) else if -(n : Int) ≤ i then some (i + n).toNat else none
def atI {α : Type} (xs : List α) (i : Int) : Option α := (ixN xs.length i).bind fun j => xs[j]?
theorem ixN_seq {n : Nat} {i : Int} {j : Nat} (h : ixN n i = some j) : seqIndex? i n = some j ∧ j < n ∧ -(n : Int) ≤ i ∧ i < n := by
  unfold ixN at h
  by_cases h0 : 0 ≤ i
  · rw [if_pos h0] at h
    by_cases h1 : i < n
    · rw [if_pos h1] at h
      have e : i.toNat = j := Option.some.inj h
      exact ⟨by rw [seqIndex_of h0 h1, e], by omega, by omega, h1⟩
    · rw [if_neg h1] at h; cases h
  · rw [if_neg h0] at h
    by_cases h1 : -(n : Int) ≤ i
    · rw [if_pos h1] at h
      have e : (i + n).toNat = j := Option.some.inj h
      exact ⟨by rw [seqIndex_neg (by omega) h1, e], by omega, h1, by omega⟩
    · rw [if_neg h1] at h; cases h
theorem atI_get {α : Type} {xs : List α} {i : Int} {v : α} (h : atI xs i = some v) : ∃ j, seqIndex? i xs.length = some j ∧ xs[j]? = some v ∧ j < xs.length ∧ -(xs.length : Int) ≤ i ∧ i < xs.length := by
  unfold atI at h
  cases e : ixN xs.length i with
  | none => rw [e] at h; cases h
  | some j =>
    rw [e] at h
    obtain ⟨h1, h2, h3, h4⟩ := ixN_seq e
    exact ⟨j, h1, h, h2, h3, h4⟩
theorem atI_nat {α : Type} {xs : List α} {j : Nat} {v : α} (h : xs[j]? = some v) : atI xs (j : Int) = some v := by
  have hj : j < xs.length := (List.getElem?_eq_some_iff.mp h).1
  have e : ixN xs.length (j : Int) = some j := by
    unfold ixN
    rw [if_pos (by omega), if_pos (by omega)]; simp
  unfold atI; rw [e]; exact h
theorem atI_last {α : Type} (xs : List α) (v : α) : atI (xs ++ [v]) (-1) = some v := by
  have hl : (xs ++ [v]).length = xs.length + 1 := by simp
  have e : ixN (xs ++ [v]).length (-1) = some xs.length := by
    unfold ixN
    rw [hl, if_neg (by decide), if_pos (by omega)]
    congr 1
    omega
  unfold atI
  rw [e]
  show (xs ++ [v])[xs.length]? = some v
  simp
def PlainIx (b : Expr) : Prop := ∀ o i, subscripted b false o i = operate [o, i] (getItem o i)
def IxR (X : Cx) (r : R2) : Prop :=
  ∀ (value slice : Expr) (pins : List (Addr × Obj)) (s : Shared) (σ : St) (H : Hp) (x y : V) (v u : Value) (Q : VK), Inv X pins σ H s → RelV x v → RelV y u → r x y H Q →
    subscripted slice false v u = operate [v, u] (getItem v u) → wpAny (model X.prog X.w) X.A (subscriptTail value slice v u) (EP X pins σ Q) X.xe s
def MtR (X : Cx) (id : String) (r : V → List V → Hp → VK → Prop) : Prop :=
  ∀ (pins : List (Addr × Obj)) (s : Shared) (σ : St) (H : Hp) (x : V) (xs : List V) (v : Value) (us : List Value) (Q : VK), Inv X pins σ H s → RelV x v → Vals xs us → r x xs H Q →
    wpAny (model X.prog X.w) X.A (call (.builtin id) (v :: us)) (EP X pins σ Q) X.xe s
section
variable {X : Cx} {a b : Expr} {ta tb : TE} {pos : Pos}
theorem pe_ix {r : R2} (hr : IxR X r) (ha : PE X a ta) (hb : PE X b tb) (hs : PlainIx b) : PE X (.Subscript a b pos) (tOp r ta tb) := by
  intro pins s σ H Q I h
  exact Subscript_ (binT ha hb I h fun v u s2 x y H2 I2 rx ry q => hr a b pins s2 σ H2 x y v u Q I2 rx ry q (hs _ _))
def rIxL (K : PySem.W.Frag) : R2 := fun x y H Q => ∃ p xs i v, x = .ref p ∧ y = .int i ∧ SqL K H p xs ∧ atI xs i = some v ∧ Q v H
theorem ix_list : IxR X (rIxL X.K) := by
  intro value slice pins s σ H x y v u Q I rx ry h hs
  obtain ⟨p, xs, i, z, rfl, rfl, hq, he, q⟩ := h
  cases rx
  obtain ⟨t, rfl⟩ := ry
  obtain ⟨its, r, pl, hz⟩ := I.list hq
  obtain ⟨j, h1, h2, h3, h4, h5⟩ := atI_get he
  obtain ⟨w, ew, rw'⟩ := r.get h2
  have hl := r.length
  have hn := line63
  have fin : EP X pins σ Q w s := ⟨z, H, I, rw', q⟩
  by_cases h0 : 0 ≤ i
  · have hj : i.toNat = j := by
      rw [seqIndex_of h0 h5] at h1
      exact Option.some.inj h1
    exact item_listR pl.isList h0 (by omega) (by rw [hj]; simpa using ew) fin hs
  · have hj : (i + (its.toArray.size : Int)).toNat = j := by
      rw [seqIndex_neg (by omega) h4] at h1
      rw [List.size_toArray, ← hl]
      exact Option.some.inj h1
    exact subscriptTail_builtinR (x := w) pl.isList.typeIs slot_list_getitem.lookup
      (wpAny_getItem_list_neg (Q := fun r s' => r = w ∧ EP X pins σ Q r s') pl.isList (by omega) (by rw [List.size_toArray] <;> omega) (by omega) (by rw [hj]; simpa using ew) ⟨rfl, fin⟩) hs
theorem slice_bounds (lo hi : Option Int) (n : Nat) : (sliceBounds lo hi none n).1 = ((HT.sIx n 0 lo : Nat) : Int) ∧ (sliceBounds lo hi none n).2.1 = ((HT.sIx n n hi : Nat) : Int) ∧ (sliceBounds lo hi none n).2.2 = 1 := by
  refine ⟨?_, ?_, rfl⟩
  · cases lo with
    | none => simp [sliceBounds, HT.sIx]
    | some i =>
      simp only [sliceBounds, HT.sIx, Option.getD_none, show (1 : Int) > 0 by decide, if_true]
      by_cases h : i < 0
      · simp only [h, if_true] <;> omega
      · simp only [h, if_false] <;> omega
  · cases hi with
    | none => simp [sliceBounds, HT.sIx]
    | some i =>
      simp only [sliceBounds, HT.sIx, Option.getD_none, show (1 : Int) > 0 by decide, if_true]
      by_cases h : i < 0
      · simp only [h, if_true] <;> omega
      · simp only [h, if_false] <;> omega
theorem slicePick_cut (its : List Value) (lo hi : Option Int) : slicePick its.toArray lo hi none = ((its.drop (HT.sIx its.length 0 lo)).take (HT.sIx its.length its.length hi - HT.sIx its.length 0 lo)).toArray := by
  obtain ⟨h1, h2, h3⟩ := slice_bounds lo hi its.toArray.size
  unfold slicePick
  rw [h1, h2, h3]
  simp only [sliceRange_one, pick_run, List.size_toArray] <;> rfl
def rSlL (K : PySem.W.Frag) : V → Option Int → Option Int → Hp → VK → Prop := fun x lo hi H Q => ∃ a xs, x = .ref a ∧ SqL K H a xs ∧ ∀ p, H p = none → Q (.ref p) (upd H p (.lst (cutV xs lo hi)))
theorem sl_list : SlR X (rSlL X.K) := by
  intro pins s σ H x v vl vu lo hi sl Q I rx hs pl pu h
  obtain ⟨a, xs, rfl, hx, q⟩ := h
  cases rx
  obtain ⟨its, r, ht, hz⟩ := I.list hx
  have hlen := r.length
  refine ⟨"list", _, slot_list_getitem.lookup, ht.isList.typeIs, ?_⟩
  refine wpAny_getItem_list_slice ht.isList hs pl pu .none (by simp) ?_ (by rw [List.size_toArray] <;> omega)
  rw [slicePick_cut, ← hlen]
  refine ⟨.ref s.heap.objs.size, _, I.laid (t' := s.toks) (o := .lst (cutV xs lo hi)) (fun b ob q => Heap.get?_push_of_some _ q) (Nat.le_refl _) ?_, rfl, q _ (I.hok.fresh (Nat.le_refl _))⟩
  exact ⟨Nat.le_trans (cutV_length xs lo hi) hz, _, 0, (r.drop (HT.sIx xs.length 0 lo)).take (HT.sIx xs.length xs.length hi - HT.sIx xs.length 0 lo), Heap.get?_push_size _ rfl⟩
def flatV : V → Bool
  | .non => true
  | .bl _ => true
  | .int _ => true
  | .str _ => true
  | _ => false
def eqV : V → V → Bool
  | .non, .non => true
  | .bl a, .bl b => a == b
  | .bl a, .int b => (if a then 1 else 0) == b
  | .int a, .bl b => a == (if b then 1 else 0)
  | .int a, .int b => a == b
  | .str a, .str b => a == b
  | _, _ => false
theorem eqAt_V {A : Around} {s : Shared} {y x : V} {u v : Value} (ry : RelV y u) (rx : RelV x v) (fy : flatV y = true) (fx : flatV x = true) : SeqAt.EqAt A s u v (eqV y x) := by
  cases y with
  | non =>
    cases ry
    cases x with
    | non => cases rx; exact SeqAt.EqAt.same _
    | bl b => cases rx; exact SeqAt.EqAt.none_bool b
    | int b => obtain ⟨t, rfl⟩ := rx; exact SeqAt.EqAt.none_int b t
    | str b => obtain ⟨t, rfl⟩ := rx; exact SeqAt.EqAt.none_str b t
    | _ => exact absurd (show false = true from fx) Bool.false_ne_true
  | bl a =>
    cases ry
    cases x with
    | non => cases rx; exact SeqAt.EqAt.bool_none a
    | bl b => cases rx; exact SeqAt.EqAt.bool_bool a b
    | int b => obtain ⟨t, rfl⟩ := rx; exact SeqAt.EqAt.bool_int a b t
    | str b => obtain ⟨t, rfl⟩ := rx; exact SeqAt.EqAt.bool_str a b t
    | _ => exact absurd (show false = true from fx) Bool.false_ne_true
  | int a =>
    obtain ⟨t', rfl⟩ := ry
    cases x with
    | non => cases rx; exact SeqAt.EqAt.int_none a t'
    | bl b => cases rx; exact SeqAt.EqAt.int_bool a t' b
    | int b => obtain ⟨t, rfl⟩ := rx; exact SeqAt.EqAt.int_int a t' b t
    | str b => obtain ⟨t, rfl⟩ := rx; exact SeqAt.EqAt.int_str a t' b t
    | _ => exact absurd (show false = true from fx) Bool.false_ne_true
  | str a =>
    obtain ⟨t', rfl⟩ := ry
    cases x with
    | non => cases rx; exact SeqAt.EqAt.str_none a t'
    | bl b => cases rx; exact SeqAt.EqAt.str_bool a t' b
    | int b => obtain ⟨t, rfl⟩ := rx; exact SeqAt.EqAt.str_int a t' b t
    | str b => obtain ⟨t, rfl⟩ := rx; exact SeqAt.EqAt.str_str a t' b t
    | _ => exact absurd (show false = true from fx) Bool.false_ne_true
  | _ => exact absurd (show false = true from fy) Bool.false_ne_true
def eqU (x : V) (u : Value) : Bool := match u with
  | .none => eqV .non x
  | .bool b => eqV (.bl b) x
  | .int i _ => eqV (.int i) x
  | .str z _ => eqV (.str z) x
  | _ => false
theorem eqU_of {x y : V} {u : Value} (r : RelV y u) (f : flatV y = true) : eqU x u = eqV y x := by
  cases y with
  | non => cases r; rfl
  | bl b => cases r; rfl
  | int i => obtain ⟨t, rfl⟩ := r; rfl
  | str z => obtain ⟨t, rfl⟩ := r; rfl
  | _ => exact absurd (show false = true from f) Bool.false_ne_true
theorem any_eqU {x : V} : ∀ {xs : List V} {us : List Value}, Vals xs us → xs.all flatV = true → us.any (eqU x) = xs.any fun y => eqV y x
  | _, _, .nil, _ => rfl
  | y :: xs, u :: us, .cons r t, f => by
    rw [List.all_cons, Bool.and_eq_true] at f
    rw [List.any_cons, List.any_cons, eqU_of r f.1, any_eqU t f.2]
theorem mem_eqAt {A : Around} {s : Shared} {x : V} {v : Value} (rx : RelV x v) (fx : flatV x = true) : ∀ {xs : List V} {us : List Value}, Vals xs us → xs.all flatV = true → ∀ u ∈ us, SeqAt.EqAt A s u v (eqU x u)
  | _, _, .nil, _ => fun u hu => by cases hu
  | y :: xs, u :: us, .cons r t, f => fun u' hu => by
    rw [List.all_cons, Bool.and_eq_true] at f
    rcases List.mem_cons.mp hu with rfl | hu
    · rw [eqU_of r f.1]; exact eqAt_V r rx f.1 fx
    · exact mem_eqAt rx fx t f.2 u' hu
def inV (x : V) (xs : List V) : Bool := xs.any fun y => eqV y x
def rIn (K : PySem.W.Frag) (neg : Bool) : R2 := fun x y H Q => ∃ p xs, y = .ref p ∧ (SqL K H p xs ∨ SqT K H p xs) ∧ flatV x = true ∧ xs.all flatV = true ∧ Q (.bl (if neg then !inV x xs else inV x xs)) H
theorem op_in_seq : OpR X (compareOp .In) (rIn X.K false) := by
  intro pins s σ H x y v u Q I rx ry h
  obtain ⟨p, xs, rfl, hq, fx, fs, q⟩ := h
  cases ry
  rcases hq with hq | hq
  · obtain ⟨its, r, pl, hz⟩ := I.list hq
    refine SeqAt.in_listAt (eqU x) pl.isList (fun w hw => mem_eqAt rx fx r fs w (by simpa using hw)) ⟨.bl _, H, I, rfl, ?_⟩
    rw [show its.toArray.any (eqU x) = its.any (eqU x) by simp, any_eqU r fs]
    exact q
  · obtain ⟨its, r, pl, hz⟩ := I.tuple hq
    refine SeqAt.in_tupleAt (eqU x) pl (fun w hw => mem_eqAt rx fx r fs w (by simpa using hw)) ⟨.bl _, H, I, rfl, ?_⟩
    rw [show its.toArray.any (eqU x) = its.any (eqU x) by simp, any_eqU r fs]
    exact q
theorem op_notIn_seq : OpR X (compareOp .NotIn) (rIn X.K true) := by
  intro pins s σ H x y v u Q I rx ry h
  obtain ⟨p, xs, rfl, hq, fx, fs, q⟩ := h
  cases ry
  rcases hq with hq | hq
  · obtain ⟨its, r, pl, hz⟩ := I.list hq
    refine SeqAt.notIn_listAt (eqU x) pl.isList (fun w hw => mem_eqAt rx fx r fs w (by simpa using hw)) ⟨.bl _, H, I, rfl, ?_⟩
    rw [show its.toArray.any (eqU x) = its.any (eqU x) by simp, any_eqU r fs]
    exact q
  · obtain ⟨its, r, pl, hz⟩ := I.tuple hq
    refine SeqAt.notIn_tupleAt (eqU x) pl (fun w hw => mem_eqAt rx fx r fs w (by simpa using hw)) ⟨.bl _, H, I, rfl, ?_⟩
    rw [show its.toArray.any (eqU x) = its.any (eqU x) by simp, any_eqU r fs]
    exact q
theorem call_len_seq : CallR X (.builtin "len") (fun xs H Q => ∃ p ys, xs = [.ref p] ∧ (SqL X.K H p ys ∨ SqT X.K H p ys) ∧ Q (.int ys.length) H) := by
  intro pins s σ H xs us Q I r h
  obtain ⟨p, ys, rfl, hq, q⟩ := h
  obtain ⟨u, rfl, rx⟩ := vals1 r
  cases rx
  have hn := line63
  rcases hq with hq | hq
  · obtain ⟨its, r', pl, hz⟩ := I.list hq
    have hlen := r'.length
    exact Calls.call_len_list pl.isList (by simp only [List.size_toArray] <;> omega) ⟨.int ys.length, H, I.tok _, ⟨s.toks + 1, by rw [List.size_toArray, hlen]⟩, q⟩
  · obtain ⟨its, r', pl, hz⟩ := I.tuple hq
    have hlen := r'.length
    exact len_tuple pl (by simp only [List.size_toArray] <;> omega) ⟨.int ys.length, H, I.tok _, ⟨s.toks + 1, by rw [List.size_toArray, hlen]⟩, q⟩
theorem call_list_of : CallR X (.type "list") (fun xs H Q => ∃ p ys, xs = [.ref p] ∧ (SqL X.K H p ys ∨ SqT X.K H p ys) ∧ ∀ l, H l = none → Q (.ref l) (upd H l (.lst ys))) := by
  intro pins s σ H xs us Q I r h
  obtain ⟨p, ys, rfl, hq, q⟩ := h
  obtain ⟨u, rfl, rx⟩ := vals1 r
  cases rx
  have fin : ∀ (its : List Value), Vals ys its → ys.length ≤ sizeLine → ∀ (h' : Heap) (c' : Nat), (∀ b o', s.heap.get? b = some o' → h'.get? b = some o') →
      h'.get? s.heap.objs.size = some { cls := .type "list", dict := none, data := .seq its.toArray c', slots := #[] } → EP X pins σ Q (.ref s.heap.objs.size) { s with heap := h' } := fun its r' hz h' c' kp e =>
    ⟨.ref s.heap.objs.size, _, I.laid (t' := s.toks) kp (Nat.le_refl _) (show ObjOk X.prog X.w _ h' _ (.lst ys) from ⟨hz, its, c', r', e⟩), rfl, q _ (I.hok.fresh (Nat.le_refl _))⟩
  rcases hq with hq | hq
  · obtain ⟨its, r', pl, hz⟩ := I.list hq
    have hlen := r'.length
    obtain ⟨o, ho, hc, n, hd⟩ := pl.isList
    exact call_list_seq p (.inl rfl) ho hc hd (fun h' c' kp e => fin its r' hz h' c' kp e) (by simp only [List.size_toArray] <;> omega)
  · obtain ⟨its, r', pl, hz⟩ := I.tuple hq
    have hlen := r'.length
    obtain ⟨o, ho, hc, n, hd⟩ := pl
    exact call_list_seq p (.inr rfl) ho hc hd (fun h' c' kp e => fin its r' hz h' c' kp e) (by simp only [List.size_toArray] <;> omega)
theorem call_tuple_of : CallR X (.type "tuple") (fun xs H Q => ∃ p ys, xs = [.ref p] ∧ ((SqL X.K H p ys ∧ ∀ l, H l = none → Q (.ref l) (upd H l (.tup ys))) ∨ (SqT X.K H p ys ∧ Q (.ref p) H))) := by
  intro pins s σ H xs us Q I r h
  obtain ⟨p, ys, rfl, h⟩ := h
  obtain ⟨u, rfl, rx⟩ := vals1 r
  cases rx
  rcases h with ⟨hq, q⟩ | ⟨hq, q⟩
  · obtain ⟨its, r', pl, hz⟩ := I.list hq
    have hlen := r'.length
    refine call_tuple_list pl.isList (fun h' kp => ?_) (by simp only [List.size_toArray] <;> omega)
    have I1 : Inv X pins σ H { s with heap := h' } := I.kept (t' := s.toks) kp
    have I2 : Inv X pins σ (upd H h'.objs.size (.tup ys)) { s with heap := h'.push { cls := .type "tuple", data := .seq its.toArray } } :=
      I1.laid (t' := s.toks) (fun b o e => Heap.get?_push_of_some _ e) (Nat.le_refl _) (show ObjOk X.prog X.w _ _ _ (.tup ys) from ⟨hz, its, r', IsTup.new _ _⟩)
    exact ⟨.ref h'.objs.size, _, I2, rfl, q _ (I1.hok.fresh (Nat.le_refl _))⟩
  · obtain ⟨its, r', pl, hz⟩ := I.tuple hq
    exact call_tuple_same pl ⟨.ref p, H, I, rfl, q⟩
def tyV (K : PySem.W.Frag) (T : String) (x : V) (H : Hp) : Prop := match x with
  | .str _ => T = "str"
  | .int _ => T = "int"
  | .ref p => (T = "list" ∧ ∃ xs, SqL K H p xs) ∨ (T = "tuple" ∧ ∃ o, K.lookup p = some o ∧ o.cls = .type "tuple" ∧ o.dict = none) ∨
      (T = "dict" ∧ ((∃ kvs, H p = some (.dK kvs)) ∨ ∃ kvs, H p = some (.dT kvs))) ∨ (T = "set" ∧ ∃ S n, H p = some (.set S n))
  | _ => False
theorem tyV_is {pins : List (Addr × Obj)} {σ : St} {H : Hp} {s : Shared} {T : String} {x : V} {v : Value} (I : Inv X pins σ H s) (r : RelV x v) (ty : tyV X.K T x H) :
    s.TypeIs v T ∧ ∀ a, v = .ref a → ∃ ob, s.heap.get? a = some ob ∧ ob.dict = none := by
  cases x with
  | str z =>
    obtain ⟨t, rfl⟩ := r
    cases (show T = "str" from ty)
    exact ⟨typeIs_str s z t, fun _ e => nomatch e⟩
  | int i =>
    obtain ⟨t, rfl⟩ := r
    cases (show T = "int" from ty)
    exact ⟨typeIs_int s i t, fun _ e => nomatch e⟩
  | ref p =>
    cases r
    rcases ty with ⟨rfl, xs, hq⟩ | ⟨rfl, o, hk, hc, hd⟩ | ⟨rfl, hk⟩ | ⟨rfl, S, n, hk⟩
    · obtain ⟨its, _, pl, _⟩ := I.list hq
      refine ⟨pl.isList.typeIs, fun a e => ?_⟩
      cases e
      obtain ⟨o, n, e, c, hd, _⟩ := pl
      exact ⟨o, e, hd⟩
    · refine ⟨⟨o, I.kIn p o hk, hc⟩, fun a e => ?_⟩
      cases e
      exact ⟨o, I.kIn _ o hk, hd⟩
    · have z : ∃ o, s.heap.get? p = some o ∧ o.ExactDict := by
        rcases hk with ⟨kvs, hk⟩ | ⟨kvs, hk⟩
        · obtain ⟨_, _, _, _, o, _, _, e, ex, _⟩ := I.hok p _ hk
          exact ⟨o, e, ex⟩
        · obtain ⟨_, _, _, _, o, _, _, e, ex, _⟩ := I.hok p _ hk
          exact ⟨o, e, ex⟩
      obtain ⟨o, e, ex⟩ := z
      refine ⟨⟨o, e, ex.1⟩, fun a e2 => ?_⟩
      cases e2
      exact ⟨o, e, ex.2.1⟩
    · obtain ⟨o, _, _, _, e, ex, _⟩ := I.hok p _ hk
      refine ⟨⟨o, e, ex.1⟩, fun a e2 => ?_⟩
      cases e2
      exact ⟨o, e, ex.2.1⟩
  | _ => exact False.elim ty
def tBM0 (K : PySem.W.Frag) (T : String) (r : V → List V → Hp → VK → Prop) (to : TE) : TE := fun σ H Q => to σ H fun x H1 => tyV K T x H1 ∧ r x [] H1 Q
def tBM (K : PySem.W.Frag) (T : String) (r : V → List V → Hp → VK → Prop) (to : TE) (t : TA) : TE := fun σ H Q => to σ H fun x H1 => tyV K T x H1 ∧ t σ H1 fun xs H2 => r x xs H2 Q
variable {o e : Expr} {es : List Expr} {to : TE} {t : TA} {name : Str} {apos cpos : Pos} {T id : String} {r : V → List V → Hp → VK → Prop}
theorem pe_bm (pa : PlainAttrs T) (slot : Slot T name id) (hty : typeOf (.builtin id) = pure (.type "method_descriptor")) (hm : MtR X id r) (ho : PE X o to) (ha : PA X (e :: es) t)
    (hbase : attributeBase o name X.env (eval o X.env) = eval o X.env := by rfl)
    (hfew : ((backTo cpos (starEach (e :: es) X.env)).all (fun x => !x.1) && (backToKw cpos (keywordEach [] X.env)).all (fun x => x.1.isSome)
      && decide ((e :: es).length + ([] : List Keyword).length + (if ([] : List Keyword).isEmpty then 0 else 1) < 30)) = true := by rfl)
    (hline : (apos.endLine == cpos.line) = true := by rfl) (hs : starEach (e :: es) X.env = (false, eval e X.env) :: starEach es X.env := by rfl) (hplain : (backTo cpos (starEach es X.env)).any (·.1) = false := by rfl) :
    PE X (.Call (.Attribute o name apos) (e :: es) [] cpos) (tBM X.K T r to t) := by
  intro pins s σ H Q I h
  refine wpAny_Call_method_late hbase hfew hline rfl (thn (ho pins s σ H _ I h) fun v s1 ⟨x, H1, I1, r1, ty, q1⟩ => ?_)
  obtain ⟨h1, h2⟩ := tyV_is I1 r1 ty
  refine ⟨T, id, pa, slot, hty, h1, h2, ?_⟩
  have hA := ha cpos pins s1 σ H1 _ I1 q1
  rw [hs] at hA ⊢
  refine Calls.callWith_builtin (by show (false || (backTo cpos (starEach es X.env)).any (·.1)) = false; rw [hplain] <;> rfl) (Calls.evalArgs_plain ?_)
  exact thn hA fun us s2 ⟨vs, H2, I2, r2, q2⟩ => hm pins s2 σ H2 x vs v us Q I2 r1 r2 q2
end
end L2
namespace L2
open PySem PySem.Spec PyProof.Rows
def MtM (X : Cx) (id : String) (r : V → List V → Hp → VK → Prop) : Prop :=
  ∀ (pins : List (Addr × Obj)) (s : Shared) (σ : St) (H : Hp) (x : V) (xs : List V) (v : Value) (us : List Value) (Q : VK), Inv X pins σ H s → RelV x v → Vals xs us → r x xs H Q →
    wpAny (model X.prog X.w) X.A (call (.builtin id) (v :: us)) (EP X pins σ Q) X.xe s
theorem Vals.one : ∀ {x : V} {us : List Value}, Vals [x] us → ∃ u, us = [u] ∧ RelV x u
  | _, _, .cons r .nil => ⟨_, rfl, r⟩
theorem Vals.two : ∀ {x y : V} {us : List Value}, Vals [x, y] us → ∃ u v, us = [u, v] ∧ RelV x u ∧ RelV y v
  | _, _, _, .cons r (.cons q .nil) => ⟨_, _, rfl, r, q⟩
theorem Vals.reverse {xs : List V} {us : List Value} (h : Vals xs us) : Vals xs.reverse us.reverse := by
  induction h with
  | nil => exact .nil
  | cons r t ih => rw [List.reverse_cons, List.reverse_cons]; exact Vals.append ih (.cons r .nil)
theorem Vals.rep {xs : List V} {us : List Value} (h : Vals xs us) : ∀ k : Nat, Vals (List.replicate k xs).flatten (List.replicate k us).flatten
  | 0 => .nil
  | k + 1 => by
    rw [List.replicate_succ, List.replicate_succ, List.flatten_cons, List.flatten_cons]
    exact Vals.append h (Vals.rep h k)
theorem foldl_rep (its : List Value) : ∀ (k : Nat) (acc : List Value),
    List.foldl (fun x1 x2 => x1 ++ x2) acc.toArray (List.replicate k its.toArray) = (acc ++ (List.replicate k its).flatten).toArray
  | 0, acc => by simp
  | k + 1, acc => by
    have e : acc.toArray ++ its.toArray = (acc ++ its).toArray := by simp
    have e2 : (acc ++ its) ++ (List.replicate k its).flatten = acc ++ (List.replicate (k + 1) its).flatten := by
      rw [List.replicate_succ, List.flatten_cons, List.append_assoc]
    rw [← e2, ← foldl_rep its k (acc ++ its), ← e, List.replicate_succ, List.foldl_cons]
section
variable {X : Cx} {pins : List (Addr × Obj)} {σ : St} {H : Hp} {s : Shared} {l b : Addr} {xs ys zs : List V}
theorem Inv.lset {its its' : List Value} {n : Nat} {f : Array Value → Array Value} {t' : Nat} (I : Inv X pins σ H s) (hH : H l = some (.lst xs))
    (e : s.heap.get? l = some { cls := .type "list", data := .seq its.toArray n }) (hf : f its.toArray = its'.toArray) (hv : Vals ys its') (hz : ys.length ≤ sizeLine) :
    Inv X pins σ (upd H l (.lst ys)) { s with heap := s.heap.update l (Obj.mapSeq f), toks := t' } := by
  have q := PySem.IsL.update e f
  rw [hf] at q
  refine I.write (x := l) (e := l) (by rw [hH]; exact trivial) (.inl rfl) (fun b' u hb hu => (Heap.get?_update_other s.heap (Obj.mapSeq f) (Ne.symm hb)).trans hu) ⟨_, q⟩ ?_
  exact ⟨hz, its', _, hv, q⟩
theorem Inv.lnew {its : List Value} {t' : Nat} (I : Inv X pins σ H s) (hv : Vals ys its) (hz : ys.length ≤ sizeLine) :
    Inv X pins σ (upd H s.heap.objs.size (.lst ys)) { s with heap := s.heap.push { cls := .type "list", data := .seq its.toArray }, toks := t' } :=
  I.laid (fun _ _ q => Heap.get?_push_of_some _ q) (Nat.le_refl _) ⟨hz, its, 0, hv, Heap.get?_push_size _ rfl⟩
theorem Inv.fresh (I : Inv X pins σ H s) : H s.heap.objs.size = none := I.hok.fresh (Nat.le_refl _)
theorem Inv.lstM (I : Inv X pins σ H s) (hH : H l = some (.lst xs)) : xs.length ≤ sizeLine ∧ ∃ (its : List Value) (n : Nat), Vals xs its ∧ xs.length = its.length ∧ s.heap.get? l = some { cls := .type "list", data := .seq its.toArray n } := by
  obtain ⟨z, its, n, r, e⟩ := I.hok l _ hH
  exact ⟨z, its, n, r, r.length, e⟩
theorem notLongL {n : Nat} (h : n ≤ sizeLine) : Builtin.List.listTooLong n = false := by
  unfold Builtin.List.listTooLong
  exact decide_eq_false (by omega)
end
section
variable {X : Cx}
def rAppend : V → List V → Hp → VK → Prop := fun x vs H Q => ∃ l xs y, x = .ref l ∧ vs = [y] ∧ H l = some (.lst xs) ∧ xs.length < sizeLine ∧ Q .non (upd H l (.lst (xs ++ [y])))
theorem mt_append : MtM X "list.append" rAppend := by
  intro pins s σ H x vs v us Q I rx rv h
  obtain ⟨l, xs, y, rfl, rfl, hH, hz, q⟩ := h
  cases rx
  obtain ⟨u, rfl, ru⟩ := rv.one
  obtain ⟨z, its, n, r, hl, e⟩ := I.lstM hH
  refine call_meets F.slot_list_append ⟨_, e, rfl⟩ F.entry_list_append (F.args_list_append_2 _ _) (PySem.list_append l its.toArray n u (by rw [List.size_toArray]; omega)) ⟨e, ?_⟩
  refine ⟨.non, _, I.lset (its' := its ++ [u]) hH e (by simp) (r.append (.cons ru .nil)) ?_, rfl, q⟩
  rw [List.length_append, List.length_singleton]
  omega
def rExtend : V → List V → Hp → VK → Prop := fun x vs H Q => ∃ l b xs zs, x = .ref l ∧ vs = [.ref b] ∧ H l = some (.lst xs) ∧ H b = some (.lst zs) ∧ xs.length + zs.length ≤ sizeLine ∧ Q .non (upd H l (.lst (xs ++ zs)))
theorem mt_extend : MtM X "list.extend" rExtend := by
  intro pins s σ H x vs v us Q I rx rv h
  obtain ⟨l, b, xs, zs, rfl, rfl, hH, hB, hz, q⟩ := h
  cases rx
  obtain ⟨u, rfl, ru⟩ := rv.one
  cases ru
  obtain ⟨z, its, n, r, hl, e⟩ := I.lstM hH
  obtain ⟨z2, its2, n2, r2, hl2, e2⟩ := I.lstM hB
  have hsz : its.toArray.size + its2.toArray.size ≤ sizeLine := by rw [List.size_toArray, List.size_toArray]; omega
  have hlong : ¬ (!its.toArray.isEmpty && Builtin.List.listTooLong (its.toArray.size + its2.toArray.size)) = true := by
    rw [notLongL hsz, Bool.and_false]
    exact Bool.false_ne_true
  refine call_meets F.slot_list_extend ⟨_, e, rfl⟩ F.entry_list_extend (F.args_list_extend_2 _ _)
    (AutoSeq1.list_extend_list_list_0 l its.toArray n b its2.toArray n2 hlong (by rw [List.size_toArray]; omega) (by omega)) ⟨e, e2, ?_⟩
  refine ⟨.non, _, I.lset (its' := its ++ its2) hH e (by simp) (r.append r2) ?_, rfl, q⟩
  rw [List.length_append]
  omega
def rPop : V → List V → Hp → VK → Prop := fun x vs H Q => ∃ l xs y, x = .ref l ∧ vs = [] ∧ H l = some (.lst xs) ∧ xs[xs.length - 1]? = some y ∧ Q y (upd H l (.lst xs.dropLast))
def rReverse : V → List V → Hp → VK → Prop := fun x vs H Q => ∃ l xs, x = .ref l ∧ vs = [] ∧ H l = some (.lst xs) ∧ Q .non (upd H l (.lst xs.reverse))
def rClear : V → List V → Hp → VK → Prop := fun x vs H Q => ∃ l xs, x = .ref l ∧ vs = [] ∧ H l = some (.lst xs) ∧ Q .non (upd H l (.lst []))
def rCat : R2 := fun x y H Q => ∃ l b xs zs, x = .ref l ∧ y = .ref b ∧ H l = some (.lst xs) ∧ H b = some (.lst zs) ∧ xs.length + zs.length ≤ sizeLine ∧ ∀ p, H p = none → Q (.ref p) (upd H p (.lst (xs ++ zs)))
theorem op_cat : OpR X (binaryOp .Add) rCat := by
  intro pins s σ H x y v u Q I rx ry h
  obtain ⟨l, b, xs, zs, rfl, rfl, hH, hB, hz, q⟩ := h
  cases rx
  cases ry
  obtain ⟨z, its, n, r, hl, e⟩ := I.lstM hH
  obtain ⟨z2, its2, n2, r2, hl2, e2⟩ := I.lstM hB
  refine PySem.P.add_list e e2 ?_ (by rw [List.size_toArray, List.size_toArray]; omega)
  have ea : its.toArray ++ its2.toArray = (its ++ its2).toArray := by simp
  rw [ea]
  exact ⟨.ref _, _, I.lnew (t' := s.toks) (r.append r2) (by rw [List.length_append]; omega), rfl, q _ I.fresh⟩
def rRep : R2 := fun x y H Q => ∃ l k xs, x = .ref l ∧ y = .int k ∧ H l = some (.lst xs) ∧ -(2 ^ 63) ≤ k ∧ k < 2 ^ 63 ∧ xs.length * k.toNat ≤ sizeLine ∧
  ∀ p, H p = none → Q (.ref p) (upd H p (.lst (List.replicate k.toNat xs).flatten))
theorem len_rep {α : Type} (xs : List α) (k : Nat) : (List.replicate k xs).flatten.length = k * xs.length := by
  induction k with
  | zero => simp
  | succ k ih => rw [List.replicate_succ, List.flatten_cons, List.length_append, ih, Nat.succ_mul, Nat.add_comm]
theorem op_rep : OpR X (binaryOp .Mult) rRep := by
  intro pins s σ H x y v u Q I rx ry h
  obtain ⟨l, k, xs, rfl, rfl, hH, h1, h2, hz, q⟩ := h
  cases rx
  obtain ⟨t, rfl⟩ := ry
  obtain ⟨z, its, n, r, hl, e⟩ := I.lstM hH
  have hlen : its.toArray.size * k.toNat ≤ sizeLine := by rw [List.size_toArray, ← hl]; exact hz
  have hcap : ¬ its.toArray.size * k.toNat > (2 ^ 63 - 1) / 8 := by
    have : (sizeLine : Nat) ≤ (2 ^ 63 - 1) / 8 := by decide
    omega
  have hfit : ¬ (!Builtin.List.listFitsIndex k) = true := by
    rw [fitsIndex_both h1 h2]
    exact Bool.false_ne_true
  have hlong : ¬ Builtin.List.listTooLong (its.toArray.size * k.toNat) = true := by
    rw [notLongL hlen]
    exact Bool.false_ne_true
  have hnew : List.foldl (fun x1 x2 => x1 ++ x2) #[] (List.replicate (if its.toArray.isEmpty = true then 0 else k.toNat) its.toArray) = (List.replicate k.toNat its).flatten.toArray := by
    have f0 : ∀ m : Nat, List.foldl (fun x1 x2 => x1 ++ x2) #[] (List.replicate m its.toArray) = (List.replicate m its).flatten.toArray := fun m => by
      have := foldl_rep its m []
      rw [List.nil_append] at this
      exact this
    rw [f0]
    cases its with
    | nil => simp
    | cons a r' => rw [if_neg (by simp)]
  refine wpAny_binaryOp_repeat_ref (T := "list") (U := "int") (by decide) ⟨_, e, rfl⟩ (fun s' => typeIs_int s' k t) noFill_list_mul F.fills_int_mul F.slot_int_rmul repeat_list F.slot_int_index.lookup
    (call_meets F.slot_int_rmul (typeIs_int s k t) F.entry_int_rmul (F.args_int_rmul_2 _ _) (int___rmul___int_list k t l its.toArray n)
      ⟨e, rfl, ⟨_, e, rfl⟩, call_meets F.slot_list_mul ⟨_, e, rfl⟩ F.entry_list_mul (F.args_list_mul_2 _ _) (AutoListH.list___mul___list_int_3 l its.toArray n k t hfit hcap hlong) ⟨e, ?_⟩⟩)
  rw [hnew]
  exact ⟨.ref _, _, I.lnew (t' := s.toks) (r.rep k.toNat) (by rw [len_rep, Nat.mul_comm]; exact hz), rfl, q _ I.fresh⟩
end
section
variable {prog : Program} {w : World} {A : Around} {E : Value → Shared → Prop} {s : Shared}
end
section
variable {X : Cx}
end
end L2
namespace Att
open PySem PySem.W PySem.Calls PyProof.Rows
theorem ints_of_wellAll {P : Params} {h : Heap} : ∀ (ns : List Int) (vs : List Value), WellAll P h vs (ns.map WData.int) → IntsAre vs ns := by
  intro ns
  induction ns with
  | nil =>
    intro vs w
    rw [List.map_nil] at w
    cases w
    exact .nil
  | cons n ns ih =>
    intro vs w
    rw [List.map_cons] at w
    cases w with
    | cons a b =>
      cases a
      exact .cons _ _ (ih _ b)
theorem script_of {l : OpenLaw} {n : Nat} (hn : l.most = some n) {P : Params} {h : Heap} {args : List WData} {vals : List Value}
    (hpre : l.row.toRowW.claim.pre args = true) (hwl : WellAll P h vals args) :
    ∃ a vs ns, vals = [Value.ref a] ∧ args = [WData.list (ns.map WData.int)] ∧ h.get? a = some { cls := .type "list", data := .seq vs.toArray } ∧ IntsAre vs ns ∧ ns.length ≤ n := by
  have hsh : WShape.hasAll [] args [.list .int] = true := (pre_splitW hpre).1
  have hc : l.pre.holds [] { args := args } = true := (pre_splitW hpre).2
  obtain ⟨d, r, rfl, h1, h2⟩ := hasAllW_cons hsh
  obtain rfl := hasAllW_nil h2
  obtain ⟨xs, rfl, h3⟩ := hasW_list h1
  obtain ⟨ns, rfl⟩ := items_int h3
  have hlen : ns.length ≤ n := by
    unfold OpenLaw.pre at hc
    have h4 : (WTm.not (.lt (.lit (.int (n : Int))) (.len (.arg 0)))).holds [] { args := [.list (ns.map .int)] } = true := by
      have h4 := (holds_andW hc).1
      rw [hn] at h4
      exact h4
    have h5 := condW_of h4 (w_not (w_lt w_lit (w_len_list (w_arg rfl))))
    rw [List.length_map] at h5
    refine Nat.le_of_not_lt fun q => ?_
    have q' : (n : Int) < ((ns.length : Nat) : Int) := by omega
    first
      | (rw [decide_eq_true q'] at h5; exact absurd h5 (by decide))
      | (simp at h5; omega)
  cases hwl with
  | cons w1 w2 =>
    cases w2
    cases w1 with
    | list ho hall => exact ⟨_, _, ns, rfl, rfl, ho, ints_of_wellAll ns _ hall, hlen⟩
theorem post_true (l : OpenLaw) (args : List WData) : l.row.toRowW.claim.post args (.bool true) args = true :=
  postW_of (r := l.row.toRowW) (X := (true == true))
    (show WShape.has [] (.bool true) .bool = true by first | rfl | decide | simp [WShape.has, WShape.arms, WShape.armsAll])
    (show (WTm.eq .res (.lit (.bool true))).value [] { args := args, res := some (.bool true), after := args } = some (.bool (true == true)) from w_eq_bool (w_res rfl) w_lit) rfl
theorem attach_call {l : OpenLaw} {n : Nat} {q : Program} {loose : List Str} {XP : (Str → Option Value) → Heap → Prop} {YP : World → Heap → Prop} {d : DefRec}
    (hn : l.most = some n) (hdf : d.params.defaults = [])
    (call : ∀ (w : World) (s₀ s₁ : Shared) (mg mb : Str → Option Value) (fa : Addr) (o : Obj) (pm cd doc : Value) (a : Addr) (vs : List Value) (ns : List Int),
      Ground q loose [] XP w s₀ mg mb s₁.heap → YP w s₁.heap →
      s₁.heap.get? fa = some o → o.data = .func (docDef d.name d.params d.body d.scope pm cd doc) → s₁.heap.CodeRec cd d.name → mg d.name = some (.ref fa) →
      s₁.heap.get? a = some { cls := .type "list", data := .seq vs.toArray } → IntsAre vs ns → ns.length ≤ n → s₁.gens = #[] →
      codeAny (model l.prog w) callerA (.call (.ref fa) ⟨[.ref a], []⟩) (fun r s' => r = .ok (.ret (.bool true)) ∧ OldK s₁.heap s'.heap ∧ s'.os = s₁.os ∧ AllBare s'.gens) s₁) :
    WalkO q loose XP YP l.row.toRowW d [] (fun f vs => PySem.call f vs) := by
  intro w s₀ s₁ mg mb G Y fa o pm cd doc dV kV ho hd hcd hD hmg hg args vals as hpre hlay hrd hwl hlo
  obtain rfl : dV = .none := Dflts.none hD hdf
  obtain rfl : kV = .none := Dflts.noKw hD
  obtain ⟨a, vs, ns, rfl, rfl, hobj, hints, hlen⟩ := script_of hn hpre hwl
  refine enter_call (codeAny_mono (call w s₀ s₁ mg mb fa o pm cd doc a vs ns G Y ho (fd_plain hd) hcd hmg hobj hints hlen hg) fun r s' hq => ?_)
  obtain ⟨rfl, h2, h3, h4⟩ := hq
  exact ⟨.inl ⟨.bool true, .bool true, [], rfl, fun _ => rfl, .bool true, post_true l _, fun _ => ⟨List.Pairwise.nil, fun _ hm => (nomatch hm)⟩⟩, h2, h3, h4⟩
section
variable {prog : Program} {w : World} {A : Around} {E : Value → Shared → Prop} {s : Shared} {K : Frag}
end
end Att
namespace L2
open PySem PySem.Spec PyProof.Rows
theorem vals_ints : ∀ {vs : List Value} {ns : List Int}, IntsAre vs ns → Vals (ns.map V.int) vs
  | _, _, .nil => .nil
  | _, _, .cons n t h => .cons ⟨t, rfl⟩ (vals_ints h)
def Only (H : Hp) : Prop := ∀ b, H b = none ∨ ∃ o xs, H b = some (.frz o (.lst xs))
theorem law_call {P : Program} {w : World} {K : PySem.W.Frag} {mg mb : Str → Option Value} {CX : CXT} {k : Nat} {fa a : Addr} {fd : FuncData} {x : Str} {sp : Sp} {s₁ : Shared} {vs : List Value} {ns : List Int}
    (KX : K.In s₁.heap) (hns : s₁.heap.Ns mainGlobals mg) (hb : s₁.heap.Ns builtinsNs mb) (hbb : ∀ x : Str, x ≠ "__name__" → mb x = bootBuiltins x) (hlim : s₁.heap.NoLimit) (hg : s₁.gens = #[])
    (ha : s₁.heap.get? a = some { cls := .type "list", data := .seq vs.toArray }) (hi : IntsAre vs ns) (hl : ns.length ≤ sizeLine) (hr : Room k callerA)
    (F : ∀ base : Heap, K.In base → base.Ns mainGlobals mg → FnOk P w K mg base CX k fa fd [x] sp) (hbind : ∀ (s : Shared) (u : Value), BindsTo s fd ⟨[u], []⟩ [(x, u)])
    (hsp : ∀ H : Hp, Only H → SqL K H a (ns.map V.int) → sp [.ref a] H (fun v _ => v = .bl true) fun _ _ _ => False)
    (hCX : ∀ H e s', CX [] H s₁ (fun _ _ _ => False) e s' → False) :
    codeAny (model P w) callerA (.call (.ref fa) ⟨[.ref a], []⟩) (fun r s' => r = .ok (.ret (.bool true)) ∧ OldK s₁.heap s'.heap ∧ s'.os = s₁.os ∧ AllBare s'.gens) s₁ := by
  have rv := vals_ints hi
  have lenV := hi.length
  have core : ∀ H : Hp, Only H → SqL K H a (ns.map V.int) → HOk P w H s₁.heap → (∀ b, H b ≠ none → b = a) → (H a ≠ none → K.lookup a = none) →
      codeAny (model P w) callerA (.call (.ref fa) ⟨[.ref a], []⟩) (fun r s' => r = .ok (.ret (.bool true)) ∧ OldK s₁.heap s'.heap ∧ s'.os = s₁.os ∧ AllBare s'.gens) s₁ := by
    intro H hO hS hok hA hK
    have base_of : ∀ {b : Addr} {o : Obj}, s₁.heap.get? b = some o → H b = none → (hidT s₁.heap H).get? b = some o := fun e n => hidT_get e n
    have noA : ∀ {b : Addr} {o : Obj} {es : Array DictEntry} {ep : Nat}, s₁.heap.get? b = some o → o.data = .dict es ep → H b = none := fun {b o es ep} e d => by
      cases q : H b with
      | none => rfl
      | some u =>
        have e' : b = a := hA b (by rw [q]; simp)
        subst e'
        rw [ha] at e; cases e
        have d' : Data.seq vs.toArray _ = Data.dict es ep := d
        cases d'
    have nsK : ∀ {b : Addr} {m : Str → Option Value}, s₁.heap.Ns b m → (hidT s₁.heap H).Ns b m := fun {b m} ⟨o, es, ep, e, d, r⟩ => ⟨o, es, ep, base_of e (noA e d), d, r⟩
    have hKb : K.In (hidT s₁.heap H) := fun b o e => base_of (KX b o e) (by
      cases q : H b with
      | none => rfl
      | some u =>
        have e' : b = a := hA b (by rw [q]; simp)
        subst e'
        rw [hK (by rw [q]; simp)] at e; cases e)
    have hM : Mod K mg (hidT s₁.heap H) := ⟨hKb, nsK hns, ⟨mb, nsK hb, hbb⟩, let ⟨mc, h1, h2⟩ := hlim; ⟨mc, nsK h1, h2⟩⟩
    have e0 : Env0 P w K mg (hidT s₁.heap H) callerA [] s₁ H := ⟨rfl, hM, fun b o e => of_hidT e, Nat.le_of_eq (hidT_size _ _), trivial, fun b hb => absurd (show b ∈ ([] : List Addr) from hb) (by simp), hok, .of_eq hg⟩
    refine codeAny_mono ((F _ hKb (nsK hns)).run callerA [] s₁ H ⟨[.ref a], []⟩ [.ref a] [.ref a] _ _ hr e0 (hbind s₁ (.ref a)) (.cons rfl .nil) (hsp H hO hS)) fun r s' h => ?_
    cases r with
    | error e => exact (hCX H e s' h).elim
    | ok fl =>
      cases fl with
      | next => exact False.elim h
      | brk => exact False.elim h
      | cont => exact False.elim h
      | ret u =>
        obtain ⟨v, H', os, bare, un, hok', r', q⟩ := h
        have q' : v = .bl true := q
        subst q'
        obtain rfl : u = Value.bool true := r'
        refine ⟨rfl, OldK.of_keep fun b o e => ?_, os, bare⟩
        cases q : H b with
        | none => exact un.keep b o e q (by intro z; exact absurd (show b ∈ ([] : List Addr) from z) (by simp)) (by simp)
        | some u =>
          rcases hO b with z | ⟨ob, xs, z⟩
          · rw [q] at z; cases z
          · have z2 := un.frzs b ob _ z
            obtain ⟨e1, _⟩ := hok b _ z
            obtain ⟨e2, _⟩ := hok' b _ z2
            rw [e] at e1; cases e1
            exact e2
  cases hk : K.lookup a with
  | some o =>
    have e := KX a o hk
    rw [ha] at e
    cases e
    refine core (fun _ => none) (fun _ => .inl rfl) (.inr ⟨_, vs.toArray, _, hk, rfl, rfl, rfl, by rw [List.size_toArray, lenV]; exact hl, by simpa using rv⟩) (fun b u z => by have z' : (none : Option HO) = some u := z; cases z') (fun b z => absurd rfl z) fun z => absurd rfl z
  | none =>
    refine core (fun b => if b = a then some (.frz { cls := .type "list", data := .seq vs.toArray } (.lst (ns.map V.int))) else none) (fun b => ?_) (.inl (.inr ⟨{ cls := .type "list", data := .seq vs.toArray }, if_pos rfl⟩)) (fun b u z => ?_) (fun b z => ?_) fun _ => hk
    · by_cases hb : b = a
      · exact .inr ⟨_, _, if_pos hb⟩
      · exact .inl (if_neg hb)
    · by_cases hb : b = a
      · have z' := (if_pos hb).symm.trans z
        cases z'
        subst hb
        exact ⟨ha, by rw [List.length_map]; exact hl, vs, _, rv, ha⟩
      · have z' := (if_neg hb).symm.trans z
        cases z'
    · by_cases hb : b = a
      · exact hb
      · exact absurd (if_neg hb) z
end L2
namespace L2
open PySem PySem.Spec PyProof.Rows
theorem walk_of {l : PySem.W.OpenLaw} {n k : Nat} {q : Program} {loose : List Str} {XP : (Str → Option Value) → Heap → Prop} {YP : World → Heap → Prop} {d : DefRec} {K : Params → PySem.W.Frag} {CX : World → CXT} {sp : World → Sp} {x : Str}
    (hn : l.most = some n) (hn2 : n ≤ sizeLine) (hdf : d.params.defaults = []) (hr : Room k callerA)
    (hY : ∀ (w : World) (h : Heap), YP w h → (K w.params).In h)
    (F : ∀ (w : World) (mg : Str → Option Value) (fa : Addr) (h : Heap), (K w.params).In h → h.Ns mainGlobals mg → mg d.name = some (.ref fa) →
      ∃ fd : FuncData, (∀ (s : Shared) (u : Value), BindsTo s fd ⟨[u], []⟩ [(x, u)]) ∧
        ∀ base : Heap, (K w.params).In base → base.Ns mainGlobals mg → FnOk l.prog w (K w.params) mg base (CX w) k fa fd [x] (sp w))
    (hsp : ∀ (w : World) (H : Hp) (a : Addr) (ns : List Int), ns.length ≤ n → Only H → SqL (K w.params) H a (ns.map V.int) → sp w [.ref a] H (fun v _ => v = .bl true) fun _ _ _ => False)
    (hCX : ∀ (w : World) (H : Hp) (s : Shared) (e : Value) (s' : Shared), CX w [] H s (fun _ _ _ => False) e s' → False) :
    PySem.W.WalkO q loose XP YP l.row.toRowW d [] (fun f vs => PySem.call f vs) := by
  refine Att.attach_call hn hdf fun w s₀ s₁ mg mb fa o pm cd doc a vs ns G Y ho hd hcd hmg hobj hints hlen hg => ?_
  have KX := hY w _ Y
  obtain ⟨fd, hb, hF⟩ := F w mg fa _ KX G.T.g hmg
  exact law_call KX G.T.g G.T.b G.T.builtins G.T.nolimit hg hobj hints (Nat.le_trans hlen hn2) hr hF hb (fun H hO hS => hsp w H a ns hlen hO hS) fun H e s' => hCX w H s₁ e s'
end L2
namespace L2
open PySem PySem.Spec PyProof.Rows
def defArgs (s : Stmt) : Arguments := match s with
  | .FunctionDef _ a _ _ _ _ _ _ _ _ => a
  | _ => { posonlyargs := [], args := [], vararg := none, kwonlyargs := [], kw_defaults := [], kwarg := none, defaults := [] }
def defBody (s : Stmt) : List Stmt := match s with
  | .FunctionDef _ _ b _ _ _ _ _ _ _ => b
  | _ => []
def defScope (s : Stmt) : Scope := match s with
  | .FunctionDef _ _ _ _ _ _ sc _ _ _ => sc
  | _ => { kind := .function, names := [], isGenerator := false, isCoroutine := false }
abbrev CX0 : CXT := fun _ _ _ _ _ _ => False
abbrev E0 : XK := fun _ _ _ => False
theorem pass0 {X : Cx} : Passes CX0 X E0 := fun _ _ _ _ _ _ _ h => h.elim
structure Fun (K : PySem.W.Frag) (x qual : Str) (st : Stmt) (f : Addr) (fd : FuncData) : Prop where
  ex : ∃ (oc : Value) (od : Option Addr) (kV doc pm : Value) (an : Option Addr) (cdv ct : Value) (osl : Array (Option Value)),
    fd = PySem.W.fnOf x qual (defArgs st) (defBody st) (defScope st) .none kV doc pm an cdv ct ∧ K.lookup f = some ⟨oc, od, .func fd, osl⟩ ∧ PySem.W.codeIn K cdv qual = true
  kp : PySem.W.keepIn K (.ref f) = true
section
variable {P : Program} {w : World} {K : PySem.W.Frag} {mg : Str → Option Value} {base : Heap}
theorem Fun.ok {x qual : Str} {st : Stmt} {f : Addr} {fd : FuncData} {N ps : List Str} {k : Nat} {sp : Sp} (F : Fun K x qual st f fd) (S : FnScope N ps (defScope st)) (len : ∀ vs H Q E, sp vs H Q E → vs.length = ps.length)
    (hbody : ∀ (cdv : Value) (A : Around) (outer : List Env) (s : Shared) (H : Hp) (vs : List V) (Q : VK) (E : XK), Room k (A.deeper (envOfC qual (defScope st) s.heap.objs.size f cdv)) → sp vs H Q E →
      ∃ t, PSs (cxOf CX0 P w K mg base N qual (defScope st) f cdv A outer s H E).nox (defBody st) t ∧ t { nx := fun _ H' => Q .non H', rt := Q } (start N vs) H) : FnOk P w K mg base CX0 (k + 1) f fd ps sp := by
  obtain ⟨oc, od, kV, doc, pm, an, cdv, ct, osl, rfl, lk, hcd⟩ := F.ex
  refine fn_of lk hcd S len fun A outer s H vs Q E hr hsp => ?_
  obtain ⟨t, h, q⟩ := hbody cdv A outer s H vs Q E hr hsp
  exact ⟨t, h.nox, q⟩
theorem Fun.binds {x qual : Str} {st : Stmt} {f : Addr} {fd : FuncData} {ps : List Str} (F : Fun K x qual st f fd)
    (h : ∀ (kV doc pm : Value) (an : Option Addr) (cdv ct : Value) (us : List Value), us.length = ps.length → bindArgs (PySem.W.fnOf x qual (defArgs st) (defBody st) (defScope st) .none kV doc pm an cdv ct) ⟨us, []⟩ = pure (ps.zip us)) : Binds K fd ps [] := by
  obtain ⟨oc, od, kV, doc, pm, an, cdv, ct, osl, rfl, lk, hcd⟩ := F.ex
  exact .all (h kV doc pm an cdv ct)
theorem fun_mk {x qual : Str} {st : Stmt} {f : Addr} {oc : Value} {od an : Option Addr} {osl : Array (Option Value)} {kV doc pm cdv ct : Value} (l : K.lookup f = some ⟨oc, od, .func (PySem.W.fnOf x qual (defArgs st) (defBody st) (defScope st) .none kV doc pm an cdv ct), osl⟩)
    (c : PySem.W.codeIn K cdv qual = true) (k : PySem.W.keepIn K (.ref f) = true) : Fun K x qual st f (PySem.W.fnOf x qual (defArgs st) (defBody st) (defScope st) .none kV doc pm an cdv ct) := ⟨⟨oc, od, kV, doc, pm, an, cdv, ct, osl, rfl, l, c⟩, k⟩
end
theorem hu_of {A : Around} {k : Nat} (hr : Room k A) : A.units + 1 < cLine := Nat.lt_of_le_of_lt (Nat.add_le_add_left (by decide : 1 ≤ 64) _) hr.units
theorem small1000 {n : Nat} (h : n ≤ 1000) : n < sizeLine := Nat.lt_of_le_of_lt h (by decide)
section
variable {X : Cx}
theorem pv (i : Nat) {x : Str} {pos : Pos} (hN : X.N[i]? = some x := by rfl) (hv : Vis X.env.scope x := by first | exact Or.inl rfl | exact Or.inr (Or.inl rfl) | exact Or.inr (Or.inr rfl)) (hd : (x == ("__debug__" : Str)) = false := by decide)
    (hcd : (x == ("__classdict__" : Str)) = false := by decide) : PE X (.Name x pos) (tVar i) := pe_var hN hv hd hcd
end
theorem ite2 {c A B : Prop} [Decidable c] (h1 : c → A) (h2 : ¬ c → B) : if c then A else B := by
  by_cases h : c
  · rw [if_pos h]
    exact h1 h
  · rw [if_neg h]
    exact h2 h
def Same (H H' : Hp) : Prop := ∀ b o, H b = some o → H' b = some o
theorem Same.refl (H : Hp) : Same H H := fun _ _ h => h
theorem Same.trans {H H1 H2 : Hp} (a : Same H H1) (b : Same H1 H2) : Same H H2 := fun c o h => b c o (a c o h)
theorem Same.free {H H' : Hp} (e : Same H H') {l : Addr} (h : H' l = Option.none) : H l = Option.none := by
  cases q : H l with
  | none => rfl
  | some o =>
    rw [e l o q] at h
    cases h
theorem Same.seq {K : PySem.W.Frag} {H H' : Hp} {a : Addr} {xs : List V} (e : Same H H') (h : SqL K H a xs) : SqL K H' a xs := by
  rcases h with (h | ⟨o, h⟩) | h
  · exact .inl (.inl (e _ _ h))
  · exact .inl (.inr ⟨o, e _ _ h⟩)
  · exact .inr h
end L2
section
set_option maxHeartbeats 2000000
set_option maxRecDepth 100000
set_option linter.unusedVariables false
set_option linter.unusedSimpArgs false
namespace Tim
open PySem PyProof.Rows
abbrev Pend := Array (Nat × Nat × Nat)
structure TB (a₀ : Array Keyed) (p : Pend) (st : SortSt) : Prop where
  perm : (arrOf st).Perm a₀
  kd : kindOf st = oneType'
  ff : failedOf st = none
  pd : pendingOf st = p
def IntK (x : Keyed) : Prop := ∃ n t, x.1 = .int n t
def kv (x : Keyed) : Int := numOf x.1
def Seg (xs : Array Keyed) (lo hi : Nat) : Prop := ∀ i j, lo ≤ i → i ≤ j → j < hi → K xs i ≤ K xs j
def Dsc (xs : Array Keyed) (lo hi : Nat) : Prop := ∀ i j, lo ≤ i → i ≤ j → j < hi → K xs j ≤ K xs i
def Low (xs ys : Array Keyed) (lo : Nat) : Prop := ∀ i, i < lo → K xs i = K ys i
theorem Low.refl (xs : Array Keyed) (lo : Nat) : Low xs xs lo := fun _ _ => rfl
theorem Low.trans {xs ys zs : Array Keyed} {lo : Nat} (a : Low xs ys lo) (b : Low ys zs lo) : Low xs zs lo := fun i h => (a i h).trans (b i h)
section
variable {prog : Program} {w : World} {A : Around} {E : Value → Shared → Prop} {s : Shared} {a₀ : Array Keyed} {p : Pend} {st : SortSt}
theorem TB.size (h : TB a₀ p st) : (arrOf st).size = a₀.size := h.perm.size_eq
theorem TB.arr (h : TB a₀ p st) {xs : Array Keyed} (hp : xs.Perm (arrOf st)) : TB a₀ p (setArr st xs) := ⟨hp.trans h.perm, h.kd, h.ff, h.pd⟩
theorem TB.get (h : TB a₀ p st) (h0 : IntKeys a₀) {i : Nat} (hi : i < a₀.size) : ∃ x, (arrOf st)[i]? = some x ∧ IntK x ∧ kv x = K (arrOf st) i := by
  have B : SBase a₀ (setPending st #[]) := ⟨h.perm, h.kd, h.ff, rfl⟩
  obtain ⟨t, q, e⟩ := B.at h0 hi
  exact ⟨_, e, ⟨_, _, rfl⟩, rfl⟩
theorem w_lt {x y : Keyed} {Q : Option Bool → SortSt → Prop} (hk : kindOf st = oneType') (hx : IntK x) (hy : IntK y) (h : Q (some (decide (kv x < kv y))) st) :
    wpS (model prog w) A E s (lt' x y) Q st := by
  obtain ⟨x1, x2⟩ := x
  obtain ⟨y1, y2⟩ := y
  obtain ⟨a, t, e1⟩ := hx
  obtain ⟨b, u, e2⟩ := hy
  dsimp only at e1 e2
  subst e1 e2
  rw [lt'_eq]
  refine wpS_bind (wpS_get ?_)
  rw [hk]
  dsimp only
  rw [keyLt'_oneType]
  exact wpS_bind (wpS_lift (wpAny_attempt (oneLt_int ⟨rfl, wpS_pure h⟩)))
theorem w_elem {arr : Array Keyed} {i : Nat} {x : Keyed} {Q : Keyed → SortSt → Prop} (e : arr[i]? = some x) (h : Q x st) : wpS (model prog w) A E s (elem' arr i) Q st := by
  rw [elem'_eq, e]
  exact wpS_pure h
theorem w_at {i j : Nat} {Q : Option Bool → SortSt → Prop} (B : TB a₀ p st) (h0 : IntKeys a₀) (hi : i < a₀.size) (hj : j < a₀.size)
    (h : Q (some (decide (K (arrOf st) i < K (arrOf st) j))) st) : wpS (model prog w) A E s (ltAt' i j) Q st := by
  obtain ⟨x, e1, k1, v1⟩ := B.get h0 hi
  obtain ⟨y, e2, k2, v2⟩ := B.get h0 hj
  rw [ltAt'_eq]
  refine wpS_bind (wpS_get (wpS_bind (w_elem e1 (wpS_bind (w_elem e2 (w_lt B.kd k1 k2 ?_))))))
  rw [v1, v2]
  exact h
theorem w_rev {i j : Nat} {Q : Unit → SortSt → Prop} (h : Q () (setArr st (mirror (arrOf st) i j ((j - i) / 2)))) : wpS (model prog w) A E s (reverseSlice' i j) Q st := by
  rw [reverseSlice'_eq]
  exact wpS_modify h
theorem w_bin {lo n ok : Nat} {Q : Bool → SortSt → Prop} (h0 : IntKeys a₀) (hn : lo + n ≤ a₀.size) (hok : ok ≤ n) (B : TB a₀ p st) (hs : Seg (arrOf st) lo (lo + ok))
    (h : ∀ st', TB a₀ p st' → Seg (arrOf st') lo (lo + n) → Low (arrOf st') (arrOf st) lo → Q true st') : wpS (model prog w) A E s (binarySort' lo n ok) Q st := by
  rw [binarySort'_eq]
  refine wpS_bind (wpS_mono (wpS_forRange (I := fun k c st' => c = (none, ()) ∧ TB a₀ p st' ∧ Seg (arrOf st') lo (lo + min k n) ∧ Low (arrOf st') (arrOf st) lo)
    (Q := fun c st' => c = (none, ()) ∧ TB a₀ p st' ∧ Seg (arrOf st') lo (lo + n) ∧ Low (arrOf st') (arrOf st) lo) ?turn ?fin ?beg) ?post)
  case post =>
    rintro c st' ⟨rfl, B', s', l'⟩
    exact wpS_pure (h st' B' s' l')
  case beg =>
    refine ⟨rfl, B, fun i j h1 h2 h3 => ?_, Low.refl _ _⟩
    by_cases z : ok = 0
    · have e : i = j := by omega
      rw [e]
      exact Int.le_refl _
    · exact hs i j h1 h2 (by omega)
  case fin =>
    rintro c st' ⟨hc, B', s', l'⟩
    refine ⟨hc, B', ?_, l'⟩
    rwa [show min (max (max ok 1) n) n = n from by omega] at s'
  case turn =>
    rintro k c st' hk1 hk2 ⟨rfl, B', s', l'⟩
    rw [show min k n = k from by omega] at s'
    have hk : lo + k < a₀.size := by omega
    refine wpS_bind (wpS_mono (wpS_forRange (I := fun x c st'' => st'' = st' ∧ ∃ l r, c = (none, l, r) ∧ l ≤ r ∧ r ≤ k ∧ r - l ≤ k - x ∧
        (∀ i, i < l → K (arrOf st') (lo + i) ≤ K (arrOf st') (lo + k)) ∧ (∀ i, r ≤ i → i < k → K (arrOf st') (lo + k) < K (arrOf st') (lo + i)))
      (Q := fun c st'' => st'' = st' ∧ ∃ l r, c = (none, l, r) ∧ l ≤ k ∧
        (∀ i, i < l → K (arrOf st') (lo + i) ≤ K (arrOf st') (lo + k)) ∧ (∀ i, l ≤ i → i < k → K (arrOf st') (lo + k) < K (arrOf st') (lo + i))) ?t2 ?f2 ?b2) ?p2)
    case b2 => exact ⟨rfl, 0, k, rfl, by omega, by omega, by omega, fun i z => by omega, fun i y z => by omega⟩
    case f2 =>
      rintro c st'' ⟨rfl, l, r, rfl, x1, x2, x3, x4, x5⟩
      have e : l = r := by omega
      subst e
      exact ⟨rfl, l, l, rfl, x2, x4, x5⟩
    case t2 =>
      rintro x c st'' _ hx ⟨rfl, l, r, rfl, x1, x2, x3, x4, x5⟩
      dsimp only
      by_cases hge : l ≥ r
      · rw [if_pos hge]
        have e : l = r := by omega
        subst e
        exact wpS_pure ⟨rfl, l, l, rfl, x2, x4, x5⟩
      · rw [if_neg hge]
        refine wpS_bind (w_at B' h0 hk (by omega) ?_)
        by_cases hl : K (arrOf st'') (lo + k) < K (arrOf st'') (lo + (l + r) / 2)
        · simp only [hl, decide_true, if_true]
          refine wpS_pure ⟨rfl, l, (l + r) / 2, rfl, by omega, by omega, by omega, x4, fun i y z => ?_⟩
          exact Int.lt_of_lt_of_le hl (s' _ _ (by omega) (by omega) (by omega))
        · simp only [hl, decide_false, Bool.false_eq_true, if_false]
          refine wpS_pure ⟨rfl, (l + r) / 2 + 1, r, rfl, by omega, by omega, by omega, fun i y => ?_, x5⟩
          exact Int.le_trans (s' (lo + i) (lo + (l + r) / 2) (by omega) (by omega) (by omega)) (Int.not_lt.mp hl)
    case p2 =>
      rintro c st'' ⟨rfl, l, r, rfl, x2, x4, x5⟩
      show wpS _ _ _ _ (do moveDown' (lo + k) (lo + l); pure (ForInStep.yield (none, ()))) _ _
      rw [moveDown'_eq]
      have hks : lo + k < (arrOf st'').size := by rw [B'.size]; exact hk
      have kb : ∀ z, K (bubble (arrOf st'') (lo + k) (lo + k - (lo + l))) z = if z = lo + l then K (arrOf st'') (lo + k) else if lo + l < z ∧ z ≤ lo + k then K (arrOf st'') (z - 1) else K (arrOf st'') z := fun z => by
        rw [K_bubble hks (by omega), show lo + k - (lo + k - (lo + l)) = lo + l from by omega]
      refine wpS_bind (wpS_modify (wpS_pure ⟨rfl, B'.arr (bubble_perm _ _ _), ?_, ?_⟩))
      · rw [show min (k + 1) n = k + 1 from by omega]
        intro i j y1 y2 y3
        show K (bubble (arrOf st'') (lo + k) (lo + k - (lo + l))) i ≤ K (bubble (arrOf st'') (lo + k) (lo + k - (lo + l))) j
        have x4' : ∀ i, lo ≤ i → i < lo + l → K (arrOf st'') i ≤ K (arrOf st'') (lo + k) := fun i u v => by
          have z := x4 (i - lo) (by omega)
          rwa [show lo + (i - lo) = i from by omega] at z
        have x5' : ∀ i, lo + l ≤ i → i < lo + k → K (arrOf st'') (lo + k) < K (arrOf st'') i := fun i u v => by
          have z := x5 (i - lo) (by omega) (by omega)
          rwa [show lo + (i - lo) = i from by omega] at z
        rw [kb, kb]
        repeat' split
        all_goals first
          | (exfalso; omega)
          | exact Int.le_refl _
          | exact x4' _ (by omega) (by omega)
          | exact Int.le_of_lt (x5' _ (by omega) (by omega))
          | exact s' _ _ (by omega) (by omega) (by omega)
      · refine Low.trans (fun i hi => ?_) l'
        show K (bubble (arrOf st'') (lo + k) (lo + k - (lo + l))) i = _
        rw [kb, if_neg (by omega), if_neg (by omega)]
end
end Tim
end
section
set_option maxHeartbeats 2000000
set_option maxRecDepth 100000
set_option linter.unusedVariables false
set_option linter.unusedSimpArgs false
namespace Tim
open PySem PyProof.Rows
theorem K_mir {xs : Array Keyed} {i j : Nat} (hj : j ≤ xs.size) (k : Nat) : K (mirror xs i j ((j - i) / 2)) k = if i ≤ k ∧ k < j then K xs (i + j - 1 - k) else K xs k := K_mirror hj k
theorem K_mir_eq {xs : Array Keyed} {i j : Nat} (hj : j ≤ xs.size) (he : ∀ k, i ≤ k → k < j → K xs k = K xs (j - 1)) (k : Nat) : K (mirror xs i j ((j - i) / 2)) k = K xs k := K_mirror_equal hj he k
def up (lo a nrem : Nat) : StateT SortSt Sem (Option (Option Nat) × Nat) :=
  forIn [a:nrem] ((none, a) : Option (Option Nat) × Nat) fun _ c => do
    let x ← ltAt' (lo + c.2) (lo + c.2 - 1)
    match x with
    | some b => if b = true then pure (.done (none, c.2)) else pure (.yield (none, c.2 + 1))
    | _ => pure (.done (some none, c.2))
def fin3 (lo n nrem : Nat) : StateT SortSt Sem (Option Nat) := do
  reverseSlice' lo (lo + n)
  let c ← up lo n nrem
  match c.1 with
  | some r => pure r
  | none => pure (some c.2)
def down (lo n nrem : Nat) : StateT SortSt Sem (Option (Option Nat) × Nat × Nat) :=
  forIn [n:nrem] ((none, n, 0) : Option (Option Nat) × Nat × Nat) fun _ c => do
    let x ← ltAt' (lo + c.2.1) (lo + c.2.1 - 1)
    match x with
    | some b =>
      if b = true then
        if c.2.2 > 0 then do
          reverseSlice' (lo + c.2.1 - (c.2.2 + 1)) (lo + c.2.1)
          pure (.yield (none, c.2.1 + 1, 0))
        else pure (.yield (none, c.2.1 + 1, 0))
      else do
        let y ← ltAt' (lo + c.2.1 - 1) (lo + c.2.1)
        match y with
        | some d => if d = true then pure (.done (none, c.2.1, c.2.2)) else pure (.yield (none, c.2.1 + 1, c.2.2 + 1))
        | _ => pure (.done (some none, c.2.1, c.2.2))
    | _ => pure (.done (some none, c.2.1, c.2.2))
def dpart (lo n nrem : Nat) : StateT SortSt Sem (Option Nat) := do
  liftM (rule "list.sort.descending-run")
  let c ← down lo (n + 1) nrem
  match c.1 with
  | some r => pure r
  | none => if c.2.2 > 0 then do reverseSlice' (lo + c.2.1 - (c.2.2 + 1)) (lo + c.2.1); fin3 lo c.2.1 nrem else fin3 lo c.2.1 nrem
theorem run_eq (lo nrem : Nat) : countRun' lo nrem = (do
    let c ← up lo 1 nrem
    match c.1 with
    | some r => pure r
    | none =>
      if (c.2 == nrem) = true then pure (some c.2)
      else if c.2 > 1 then do
        let x ← ltAt' lo (lo + c.2 - 1)
        match x with
        | some b => if b = true then pure (some c.2) else do reverseSlice' lo (lo + c.2); dpart lo c.2 nrem
        | _ => pure none
      else dpart lo c.2 nrem) := by
  have tl : ∀ n, (fin3 lo n nrem) = (do
      reverseSlice' lo (lo + n)
      let mut n := n
      for _ in [n:nrem] do
        let some smaller ← ltAt' (lo + n) (lo + n - 1) | return none
        if smaller then break
        n := n + 1
      return some n) := fun n => by
    unfold fin3 up
    congr 1; funext _; congr 1; funext c; obtain ⟨r, m⟩ := c; cases r <;> rfl
  have dp : ∀ n, dpart lo n nrem = (do
      rule "list.sort.descending-run"
      let mut n := n + 1
      let mut neq := 0
      for _ in [n:nrem] do
        let some smaller ← ltAt' (lo + n) (lo + n - 1) | return none
        if smaller then
          if neq > 0 then reverseSlice' (lo + n - (neq + 1)) (lo + n)
          neq := 0
        else
          let some larger ← ltAt' (lo + n - 1) (lo + n) | return none
          if larger then break
          neq := neq + 1
        n := n + 1
      if neq > 0 then reverseSlice' (lo + n - (neq + 1)) (lo + n)
      fin3 lo n nrem) := fun n => by
    unfold dpart down
    congr 1; funext _; congr 1; funext c; obtain ⟨r, m, q⟩ := c; cases r <;> rfl
  simp only [dp, tl]
  rw [countRun'_eq]
  unfold up
  dsimp only
  congr 1; funext c; obtain ⟨r, n⟩ := c
  cases r with
  | some r => rfl
  | none =>
    dsimp only
    split
    · rfl
    · split
      · congr 1
      · rfl
section
variable {prog : Program} {w : World} {A : Around} {E : Value → Shared → Prop} {s : Shared} {a₀ : Array Keyed} {p : Pend} {st : SortSt}
theorem w_up {lo a nrem : Nat} {Q : Option (Option Nat) × Nat → SortSt → Prop} (h0 : IntKeys a₀) (hn : lo + nrem ≤ a₀.size) (ha : 1 ≤ a) (han : a ≤ nrem) (B : TB a₀ p st) (hs : Seg (arrOf st) lo (lo + a))
    (h : ∀ n, a ≤ n → n ≤ nrem → Seg (arrOf st) lo (lo + n) → (n = nrem ∨ K (arrOf st) (lo + n) < K (arrOf st) (lo + n - 1)) → Q (none, n) st) : wpS (model prog w) A E s (up lo a nrem) Q st := by
  unfold up
  refine wpS_forRange (I := fun x c st' => st' = st ∧ c = (none, x) ∧ Seg (arrOf st) lo (lo + x)) ?turn ?fin ⟨rfl, rfl, hs⟩
  case fin =>
    rintro c st' ⟨rfl, rfl, s'⟩
    rw [show max a nrem = nrem from by omega] at s' ⊢
    exact h nrem han (Nat.le_refl _) s' (.inl rfl)
  case turn =>
    rintro x c st' h1 h2 ⟨rfl, rfl, s'⟩
    dsimp only
    refine wpS_bind (w_at B h0 (by omega) (by omega) ?_)
    by_cases hl : K (arrOf st') (lo + x) < K (arrOf st') (lo + x - 1)
    · simp only [hl, decide_true, if_true]
      exact wpS_pure (h x h1 (by omega) s' (.inr hl))
    · simp only [hl, decide_false, Bool.false_eq_true, if_false]
      refine wpS_pure ⟨rfl, rfl, fun i j y1 y2 y3 => ?_⟩
      by_cases z : j < lo + x
      · exact s' i j y1 y2 z
      · have e : j = lo + x := by omega
        subst e
        by_cases e : i = lo + x
        · rw [e]; exact Int.le_refl _
        · exact Int.le_trans (s' i (lo + x - 1) y1 (by omega) (by omega)) (Int.not_lt.mp hl)
theorem w_fin3 {lo n nrem : Nat} {Q : Option Nat → SortSt → Prop} (h0 : IntKeys a₀) (hn : lo + nrem ≤ a₀.size) (h1 : 1 ≤ n) (hnn : n ≤ nrem) (B : TB a₀ p st) (hs : Dsc (arrOf st) lo (lo + n))
    (h : ∀ m st', TB a₀ p st' → 1 ≤ m → m ≤ nrem → Seg (arrOf st') lo (lo + m) → Low (arrOf st') (arrOf st) lo → Q (some m) st') : wpS (model prog w) A E s (fin3 lo n nrem) Q st := by
  unfold fin3
  have hz : lo + n ≤ (arrOf st).size := by rw [B.size]; omega
  have km := K_mir (i := lo) hz
  refine wpS_bind (w_rev ?_)
  have B' : TB a₀ p (setArr st (mirror (arrOf st) lo (lo + n) ((lo + n - lo) / 2))) := B.arr (mirror_perm _ _ _ _)
  refine wpS_bind (w_up h0 hn h1 hnn B' (fun i j y1 y2 y3 => ?_) fun m z1 z2 z3 _ => wpS_pure (h m _ B' (by omega) z2 z3 fun i hi => ?_))
  · show K (mirror (arrOf st) lo (lo + n) ((lo + n - lo) / 2)) i ≤ K (mirror (arrOf st) lo (lo + n) ((lo + n - lo) / 2)) j
    rw [km, km, if_pos (by omega), if_pos (by omega)]
    exact hs _ _ (by omega) (by omega) (by omega)
  · show K (mirror (arrOf st) lo (lo + n) ((lo + n - lo) / 2)) i = _
    rw [km, if_neg (by omega)]
theorem w_down {lo n nrem : Nat} {Q : Option (Option Nat) × Nat × Nat → SortSt → Prop} (h0 : IntKeys a₀) (hn : lo + nrem ≤ a₀.size) (h1 : 1 ≤ n) (hnn : n ≤ nrem) (B : TB a₀ p st) (hs : Dsc (arrOf st) lo (lo + n))
    (h : ∀ m q st', TB a₀ p st' → n ≤ m → m ≤ nrem → Dsc (arrOf st') lo (lo + m) → q + 1 ≤ m → (∀ i, lo + m - (q + 1) ≤ i → i < lo + m → K (arrOf st') i = K (arrOf st') (lo + m - 1)) → Low (arrOf st') (arrOf st) lo → Q (none, m, q) st') :
    wpS (model prog w) A E s (down lo n nrem) Q st := by
  unfold down
  refine wpS_forRange (I := fun x c st' => ∃ q, c = (none, x, q) ∧ TB a₀ p st' ∧ Dsc (arrOf st') lo (lo + x) ∧ q + 1 ≤ x ∧
      (∀ i, lo + x - (q + 1) ≤ i → i < lo + x → K (arrOf st') i = K (arrOf st') (lo + x - 1)) ∧ Low (arrOf st') (arrOf st) lo) ?turn ?fin ⟨0, rfl, B, hs, by omega, fun i y z => by congr 1; omega, Low.refl _ _⟩
  case fin =>
    rintro c st' ⟨q, rfl, B', s', x1, x2, x3⟩
    rw [show max n nrem = nrem from by omega] at s' x1 x2 ⊢
    exact h nrem q st' B' hnn (Nat.le_refl _) s' x1 x2 x3
  case turn =>
    rintro x c st' y1 y2 ⟨q, rfl, B', s', x1, x2, x3⟩
    dsimp only
    have hz : lo + x ≤ (arrOf st').size := by rw [B'.size]; omega
    refine wpS_bind (w_at B' h0 (by omega) (by omega) ?_)
    by_cases hl : K (arrOf st') (lo + x) < K (arrOf st') (lo + x - 1)
    · simp only [hl, decide_true, if_true]
      have more : ∀ xs : Array Keyed, (∀ k, K xs k = K (arrOf st') k) → Dsc xs lo (lo + (x + 1)) := fun xs hk i j u1 u2 u3 => by
        rw [hk, hk]
        by_cases z : j < lo + x
        · exact s' i j u1 u2 z
        · have e : j = lo + x := by omega
          subst e
          by_cases e : i = lo + x
          · rw [e]; exact Int.le_refl _
          · exact Int.le_trans (Int.le_of_lt hl) (s' i (lo + x - 1) u1 (by omega) (by omega))
      by_cases hq : q > 0
      · rw [if_pos hq]
        have km := K_mir_eq hz x2
        refine wpS_bind (w_rev (wpS_pure ⟨0, rfl, B'.arr (mirror_perm _ _ _ _), more _ km, by omega, fun i u v => by congr 1; omega, fun i hi => ?_⟩))
        exact (km i).trans (x3 i hi)
      · rw [if_neg hq]
        exact wpS_pure ⟨0, rfl, B', more _ (fun _ => rfl), by omega, fun i u v => by congr 1; omega, x3⟩
    · simp only [hl, decide_false, Bool.false_eq_true, if_false]
      refine wpS_bind (w_at B' h0 (by omega) (by omega) ?_)
      by_cases hg : K (arrOf st') (lo + x - 1) < K (arrOf st') (lo + x)
      · simp only [hg, decide_true, if_true]
        exact wpS_pure (h x q st' B' y1 (by omega) s' x1 x2 x3)
      · simp only [hg, decide_false, Bool.false_eq_true, if_false]
        have ex : K (arrOf st') (lo + x) = K (arrOf st') (lo + x - 1) := by omega
        refine wpS_pure ⟨q + 1, rfl, B', fun i j u1 u2 u3 => ?_, by omega, fun i u v => ?_, x3⟩
        · by_cases z : j < lo + x
          · exact s' i j u1 u2 z
          · have e : j = lo + x := by omega
            subst e
            by_cases e : i = lo + x
            · rw [e]; exact Int.le_refl _
            · rw [ex]; exact s' i (lo + x - 1) u1 (by omega) (by omega)
        · rw [show lo + (x + 1) - 1 = lo + x from by omega]
          by_cases e : i = lo + x
          · rw [e]
          · rw [ex]; exact x2 i (by omega) (by omega)
theorem w_dpart {lo n nrem : Nat} {Q : Option Nat → SortSt → Prop} (h0 : IntKeys a₀) (hn : lo + nrem ≤ a₀.size) (hnn : n + 1 ≤ nrem) (B : TB a₀ p st) (hs : Dsc (arrOf st) lo (lo + (n + 1)))
    (h : ∀ m st', TB a₀ p st' → 1 ≤ m → m ≤ nrem → Seg (arrOf st') lo (lo + m) → Low (arrOf st') (arrOf st) lo → Q (some m) st') : wpS (model prog w) A E s (dpart lo n nrem) Q st := by
  unfold dpart
  refine wpS_bind (wpS_lift (wpAny_rule ⟨rfl, ?_⟩))
  refine wpS_bind (w_down h0 hn (by omega) hnn B hs fun m q st' B' z1 z2 s' x1 x2 x3 => ?_)
  dsimp only
  have hz : lo + m ≤ (arrOf st').size := by rw [B'.size]; omega
  by_cases hq : q > 0
  · rw [if_pos hq]
    have km := K_mir_eq hz x2
    refine wpS_bind (w_rev (w_fin3 h0 hn (by omega) z2 (B'.arr (mirror_perm _ _ _ _)) (fun i j u1 u2 u3 => ?_) fun k st2 a b c d e => h k st2 a b c d (e.trans (Low.trans (fun i hi => km i) x3))))
    show K (mirror (arrOf st') _ _ _) j ≤ K (mirror (arrOf st') _ _ _) i
    rw [km, km]
    exact s' i j u1 u2 u3
  · rw [if_neg hq]
    exact w_fin3 h0 hn (by omega) z2 B' s' fun k st2 a b c d e => h k st2 a b c d (e.trans x3)
theorem w_run {lo nrem : Nat} {Q : Option Nat → SortSt → Prop} (h0 : IntKeys a₀) (hn : lo + nrem ≤ a₀.size) (h1 : 1 ≤ nrem) (B : TB a₀ p st)
    (h : ∀ m st', TB a₀ p st' → 1 ≤ m → m ≤ nrem → Seg (arrOf st') lo (lo + m) → Low (arrOf st') (arrOf st) lo → Q (some m) st') : wpS (model prog w) A E s (countRun' lo nrem) Q st := by
  rw [run_eq]
  refine wpS_bind (w_up h0 hn (Nat.le_refl 1) h1 B (fun i j u1 u2 u3 => by rw [show i = j from by omega]; exact Int.le_refl _) fun n z1 z2 z3 z4 => ?_)
  dsimp only
  by_cases e : n = nrem
  · rw [if_pos (by simpa using e)]
    exact wpS_pure (h n st B z1 z2 z3 (Low.refl _ _))
  · rw [if_neg (by simpa using e)]
    have hl := z4.resolve_left e
    by_cases g : n > 1
    · rw [if_pos g]
      refine wpS_bind (w_at B h0 (by omega) (by omega) ?_)
      by_cases hr : K (arrOf st) lo < K (arrOf st) (lo + n - 1)
      · simp only [hr, decide_true, if_true]
        exact wpS_pure (h n st B z1 z2 z3 (Low.refl _ _))
      · simp only [hr, decide_false, Bool.false_eq_true, if_false]
        have hz : lo + n ≤ (arrOf st).size := by rw [B.size]; omega
        have al : ∀ k, lo ≤ k → k < lo + n → K (arrOf st) k = K (arrOf st) (lo + n - 1) := fun k u v => by
          have a1 := z3 lo k (by omega) u v
          have a2 := z3 k (lo + n - 1) u (by omega) (by omega)
          omega
        have km := K_mir_eq hz al
        refine wpS_bind (w_rev (w_dpart h0 hn (by omega) (B.arr (mirror_perm _ _ _ _)) (fun i j u1 u2 u3 => ?_) fun k st2 a b c d e => h k st2 a b c d (e.trans fun i hi => km i)))
        show K (mirror (arrOf st) _ _ _) j ≤ K (mirror (arrOf st) _ _ _) i
        rw [km, km]
        by_cases z : j < lo + n
        · rw [al i (by omega) (by omega), al j (by omega) z]; exact Int.le_refl _
        · rw [show j = lo + n from by omega]
          by_cases e : i = lo + n
          · rw [e]; exact Int.le_refl _
          · rw [al i (by omega) (by omega)]; exact Int.le_of_lt hl
    · rw [if_neg g]
      have e1 : n = 1 := by omega
      subst e1
      refine w_dpart h0 hn (by omega) B (fun i j u1 u2 u3 => ?_) h
      by_cases e : i = j
      · rw [e]; exact Int.le_refl _
      · rw [show i = lo + 1 - 1 from by omega, show j = lo + 1 from by omega]
        exact Int.le_of_lt hl
end
end Tim
end
section
set_option maxHeartbeats 2000000
set_option maxRecDepth 100000
set_option linter.unusedVariables false
set_option linter.unusedSimpArgs false
namespace Tim
open PySem PyProof.Rows
def gal : Bool → Keyed → Array Keyed → Nat → Nat → Nat → StateT SortSt Sem (Option Nat) := sortPriv% PySem.Builtin.gallop
def beyond (left : Bool) (key : Keyed) (arr : Array Keyed) (base i : Nat) : StateT SortSt Sem (Option Bool) := do
  let x ← elem' arr (base + i)
  if left then lt' x key else return (← lt' key x).map (!·)
theorem gal_eq (left : Bool) (key : Keyed) (arr : Array Keyed) (base n hint : Nat) : gal left key arr base n hint = (do
    let mut lastofs := 0
    let mut ofs := 1
    let mut lo := 0
    let mut hi := 0
    let some right ← beyond left key arr base hint | return none
    if right then
      let maxofs := n - hint
      for _ in [0:n] do
        if ofs ≥ maxofs then break
        let some more ← beyond left key arr base (hint + ofs) | return none
        if !more then break
        lastofs := ofs
        ofs := 2 * ofs + 1
      lo := hint + lastofs + 1
      hi := hint + min ofs maxofs
    else
      let maxofs := hint + 1
      for _ in [0:n] do
        if ofs ≥ maxofs then break
        let some found ← beyond left key arr base (hint - ofs) | return none
        if found then break
        lastofs := ofs
        ofs := 2 * ofs + 1
      lo := hint + 1 - min ofs maxofs
      hi := hint - lastofs
    for _ in [0:n] do
      if lo ≥ hi then break
      let m := lo + (hi - lo) / 2
      let some more ← beyond left key arr base m | return none
      if more then lo := m + 1 else hi := m
    return some hi) := rfl
def Bey (left : Bool) (key : Keyed) (arr : Array Keyed) (base i : Nat) : Prop := if left then K arr (base + i) < kv key else K arr (base + i) ≤ kv key
instance (left : Bool) (key : Keyed) (arr : Array Keyed) (base i : Nat) : Decidable (Bey left key arr base i) := by unfold Bey; infer_instance
def Ints (arr : Array Keyed) : Prop := ∀ (i : Nat) (x : Keyed), arr[i]? = some x → IntK x
section
variable {prog : Program} {w : World} {A : Around} {E : Value → Shared → Prop} {s : Shared} {st : SortSt}
theorem get_some {arr : Array Keyed} {i : Nat} (h : i < arr.size) : ∃ x, arr[i]? = some x ∧ kv x = K arr i := ⟨arr[i], getElem?_pos arr i h, by unfold K; rw [getElem?_pos arr i h]; rfl⟩
theorem w_beyond {left : Bool} {key : Keyed} {arr : Array Keyed} {base i : Nat} {Q : Option Bool → SortSt → Prop} (hk : kindOf st = oneType') (hkey : IntK key) (ha : Ints arr) (hi : base + i < arr.size)
    (h : Q (some (decide (Bey left key arr base i))) st) : wpS (model prog w) A E s (beyond left key arr base i) Q st := by
  obtain ⟨x, e, v⟩ := get_some hi
  unfold beyond
  refine wpS_bind (w_elem e ?_)
  unfold Bey at h
  cases left with
  | true =>
    simp only [if_true] at h ⊢
    refine w_lt hk (ha _ _ e) hkey ?_
    rw [v]; exact h
  | false =>
    simp only [Bool.false_eq_true, if_false] at h ⊢
    refine wpS_bind (w_lt hk hkey (ha _ _ e) (wpS_pure ?_))
    rw [v]
    have z : (Option.map (fun x => !x) (some (decide (kv key < K arr (base + i))))) = some (decide (K arr (base + i) ≤ kv key)) := by
      simp only [Option.map_some, Option.some.injEq]
      by_cases q : kv key < K arr (base + i)
      · simp [q]
      · simp [q]; omega
    rw [z]; exact h
theorem w_gal {left : Bool} {key : Keyed} {arr : Array Keyed} {base n hint : Nat} {Q : Option Nat → SortSt → Prop} (hk : kindOf st = oneType') (hkey : IntK key) (ha : Ints arr) (hz : base + n ≤ arr.size)
    (hh : hint < n) (hs : Seg arr base (base + n))
    (h : ∀ k, k ≤ n → (∀ i, i < k → Bey left key arr base i) → (∀ i, k ≤ i → i < n → ¬ Bey left key arr base i) → Q (some k) st) : wpS (model prog w) A E s (gal left key arr base n hint) Q st := by
  have mono : ∀ i j, i ≤ j → j < n → Bey left key arr base j → Bey left key arr base i := fun i j h1 h2 b => by
    have z := hs (base + i) (base + j) (by omega) (by omega) (by omega)
    unfold Bey at b ⊢
    cases left
    · simp only [Bool.false_eq_true, if_false] at b ⊢; omega
    · simp only [if_true] at b ⊢; omega
  have bin : ∀ lo hi : Nat, lo ≤ hi → hi ≤ n → (∀ i, i < lo → Bey left key arr base i) → (∀ i, hi ≤ i → i < n → ¬ Bey left key arr base i) →
      wpS (model prog w) A E s (do
        let mut lo := lo
        let mut hi := hi
        for _ in [0:n] do
          if lo ≥ hi then break
          let m := lo + (hi - lo) / 2
          let some more ← beyond left key arr base m | return none
          if more then lo := m + 1 else hi := m
        return some hi) Q st := fun lo hi h1 h2 h3 h4 => by
    refine wpS_bind (wpS_mono (wpS_forRange (I := fun x c st' => st' = st ∧ ∃ l r, c = (none, l, r) ∧ l ≤ r ∧ r ≤ n ∧ r - l ≤ n - x ∧ (∀ i, i < l → Bey left key arr base i) ∧ (∀ i, r ≤ i → i < n → ¬ Bey left key arr base i))
      (Q := fun c st' => st' = st ∧ ∃ l r, c = (none, l, r) ∧ r ≤ n ∧ (∀ i, i < r → Bey left key arr base i) ∧ (∀ i, r ≤ i → i < n → ¬ Bey left key arr base i)) ?turn ?fin ⟨rfl, lo, hi, rfl, h1, h2, by omega, h3, h4⟩) ?post)
    case post =>
      rintro c st' ⟨rfl, l, r, rfl, x1, x2, x3⟩
      exact wpS_pure (h r x1 x2 x3)
    case fin =>
      rintro c st' ⟨rfl, l, r, rfl, x1, x2, x3, x4, x5⟩
      have e : l = r := by omega
      subst e
      exact ⟨rfl, l, l, rfl, x2, x4, x5⟩
    case turn =>
      rintro x c st' _ y2 ⟨rfl, l, r, rfl, x1, x2, x3, x4, x5⟩
      dsimp only
      by_cases g : l ≥ r
      · rw [if_pos g]
        have e : l = r := by omega
        subst e
        exact wpS_pure ⟨rfl, l, l, rfl, x2, x4, x5⟩
      · rw [if_neg g]
        refine wpS_bind (w_beyond hk hkey ha (by omega) ?_)
        by_cases b : Bey left key arr base (l + (r - l) / 2)
        · simp only [b, decide_true, if_true]
          exact wpS_pure ⟨rfl, l + (r - l) / 2 + 1, r, rfl, by omega, by omega, by omega, fun i z => mono _ _ (Nat.le_of_lt_succ z) (by omega) b, x5⟩
        · simp only [b, decide_false, Bool.false_eq_true, if_false]
          exact wpS_pure ⟨rfl, l, l + (r - l) / 2, rfl, by omega, by omega, by omega, x4, fun i z1 z2 z3 => b (mono _ _ z1 z2 z3)⟩
  rw [gal_eq]
  dsimp only
  refine wpS_bind (w_beyond hk hkey ha (by omega) ?_)
  by_cases b : Bey left key arr base hint
  · simp only [b, decide_true, if_true]
    refine wpS_bind (wpS_mono (wpS_forRange (I := fun x c st' => st' = st ∧ ∃ l o, c = (none, l, o) ∧ l < o ∧ hint + l < n ∧ x + 1 ≤ o ∧ Bey left key arr base (hint + l))
      (Q := fun c st' => st' = st ∧ ∃ l o, c = (none, l, o) ∧ l < o ∧ hint + l < n ∧ Bey left key arr base (hint + l) ∧ (o ≥ n - hint ∨ ¬ Bey left key arr base (hint + o))) ?turn ?fin ⟨rfl, 0, 1, rfl, by omega, by omega, by omega, b⟩) ?post)
    case post =>
      rintro c st' ⟨rfl, l, o, rfl, x1, x2, x3, x4⟩
      refine bin (hint + l + 1) (hint + min o (n - hint)) (by omega) (by omega) (fun i z => mono _ _ (Nat.le_of_lt_succ z) x2 x3) fun i z1 z2 z3 => ?_
      rcases x4 with x4 | x4
      · omega
      · exact x4 (mono _ _ (by omega) z2 z3)
    case fin =>
      rintro c st' ⟨rfl, l, o, rfl, x1, x2, x3, x4⟩
      exact ⟨rfl, l, o, rfl, x1, x2, x4, .inl (by omega)⟩
    case turn =>
      rintro x c st' _ y2 ⟨rfl, l, o, rfl, x1, x2, x3, x4⟩
      dsimp only
      by_cases g : o ≥ n - hint
      · rw [if_pos g]
        exact wpS_pure ⟨rfl, l, o, rfl, x1, x2, x4, .inl g⟩
      · rw [if_neg g]
        refine wpS_bind (w_beyond hk hkey ha (by omega) ?_)
        by_cases b2 : Bey left key arr base (hint + o)
        · simp only [b2, decide_true, Bool.not_true, Bool.false_eq_true, if_false]
          exact wpS_pure ⟨rfl, o, 2 * o + 1, rfl, by omega, by omega, by omega, b2⟩
        · simp only [b2, decide_false, Bool.not_false, if_true]
          exact wpS_pure ⟨rfl, l, o, rfl, x1, x2, x4, .inr b2⟩
  · simp only [b, decide_false, Bool.false_eq_true, if_false]
    refine wpS_bind (wpS_mono (wpS_forRange (I := fun x c st' => st' = st ∧ ∃ l o, c = (none, l, o) ∧ l < o ∧ l ≤ hint ∧ x + 1 ≤ o ∧ ¬ Bey left key arr base (hint - l))
      (Q := fun c st' => st' = st ∧ ∃ l o, c = (none, l, o) ∧ l < o ∧ l ≤ hint ∧ ¬ Bey left key arr base (hint - l) ∧ (o ≥ hint + 1 ∨ (o ≤ hint ∧ Bey left key arr base (hint - o)))) ?turn2 ?fin2 ⟨rfl, 0, 1, rfl, by omega, by omega, by omega, b⟩) ?post2)
    case post2 =>
      rintro c st' ⟨rfl, l, o, rfl, x1, x2, x3, x4⟩
      refine bin (hint + 1 - min o (hint + 1)) (hint - l) (by omega) (by omega) (fun i z => ?_) fun i z1 z2 z3 => x3 (mono _ _ z1 z2 z3)
      rcases x4 with x4 | ⟨x4, x5⟩
      · omega
      · exact mono _ _ (by omega) (by omega) x5
    case fin2 =>
      rintro c st' ⟨rfl, l, o, rfl, x1, x2, x3, x4⟩
      exact ⟨rfl, l, o, rfl, x1, x2, x4, .inl (by omega)⟩
    case turn2 =>
      rintro x c st' _ y2 ⟨rfl, l, o, rfl, x1, x2, x3, x4⟩
      dsimp only
      by_cases g : o ≥ hint + 1
      · rw [if_pos g]
        exact wpS_pure ⟨rfl, l, o, rfl, x1, x2, x4, .inl g⟩
      · rw [if_neg g]
        refine wpS_bind (w_beyond hk hkey ha (by omega) ?_)
        by_cases b2 : Bey left key arr base (hint - o)
        · simp only [b2, decide_true, if_true]
          exact wpS_pure ⟨rfl, l, o, rfl, x1, x2, x4, .inr ⟨by omega, b2⟩⟩
        · simp only [b2, decide_false, Bool.false_eq_true, if_false]
          exact wpS_pure ⟨rfl, o, 2 * o + 1, rfl, by omega, by omega, by omega, b2⟩
end
end Tim
end
section
set_option maxHeartbeats 2000000
set_option maxRecDepth 100000
set_option linter.unusedVariables false
set_option linter.unusedSimpArgs false
namespace Tim
open PySem PyProof.Rows
def setG : Nat → StateT SortSt Sem Unit := sortPriv% PySem.Builtin.setMinGallop
def mLo : Array Keyed → Array Keyed → StateT SortSt Sem (Array Keyed) := sortPriv% PySem.Builtin.mergeLo
abbrev C5 := Option (Array Keyed) × Array Keyed × Nat × Nat × Nat
abbrev C6 := Option (Array Keyed) × Array Keyed × Nat × Nat × Nat × Nat
abbrev C7 := Option (Array Keyed) × Array Keyed × Nat × Nat × Nat × Nat × Nat
section
variable (a b : Array Keyed)
abbrev dn (out : Array Keyed) (ia ib : Nat) : Array Keyed := out ++ a.extract ia a.size ++ b.extract ib b.size
abbrev la (out : Array Keyed) (ia ib : Nat) : Array Keyed := out ++ b.extract ib b.size ++ a.extract ia a.size
def q1 (mg : Nat) (out : Array Keyed) (ia ib ac bc : Nat) : StateT SortSt Sem (ForInStep C6) := do
  let y ← elem' b ib
  let x ← elem' a ia
  let r ← lt' y x
  match r with
  | some bw =>
    if bw = true then do
      let z ← elem' b ib
      if (ib + 1 == b.size) = true then pure (.done (some (dn a b (out.push z) ia (ib + 1)), out.push z, ia, ib + 1, 0, bc + 1))
      else if bc + 1 ≥ mg then pure (.done (none, out.push z, ia, ib + 1, 0, bc + 1))
      else pure (.yield (none, out.push z, ia, ib + 1, 0, bc + 1))
    else do
      let z ← elem' a ia
      if (ia + 1 + 1 == a.size) = true then pure (.done (some (la a b (out.push z) (ia + 1) ib), out.push z, ia + 1, ib, ac + 1, 0))
      else if ac + 1 ≥ mg then pure (.done (none, out.push z, ia + 1, ib, ac + 1, 0))
      else pure (.yield (none, out.push z, ia + 1, ib, ac + 1, 0))
  | _ => pure (.done (some (dn a b out ia ib), out, ia, ib, ac, bc))
def p3 (out : Array Keyed) (ia ib mg ac bc : Nat) : StateT SortSt Sem (ForInStep C7) := do
  let z ← elem' a ia
  if (ia + 1 + 1 == a.size) = true then pure (.done (some (la a b (out.push z) (ia + 1) ib), out.push z, ia + 1, ib, mg, ac, bc))
  else if (decide (ac < 7) && decide (bc < 7)) = true then pure (.done (none, out.push z, ia + 1, ib, mg, ac, bc))
  else pure (.yield (none, out.push z, ia + 1, ib, mg, ac, bc))
def p2 (out : Array Keyed) (ia ib mg ac bc : Nat) : StateT SortSt Sem (ForInStep C7) := do
  let z ← elem' b ib
  if (ib + 1 == b.size) = true then pure (.done (some (dn a b (out.push z) ia (ib + 1)), out.push z, ia, ib + 1, mg, ac, bc))
  else do
    let x ← elem' a ia
    let r ← gal true x b (ib + 1) (b.size - (ib + 1)) 0
    match r with
    | some k =>
      if k > 0 then
        if (ib + 1 + k == b.size) = true then pure (.done (some (dn a b (out.push z ++ b.extract (ib + 1) (ib + 1 + k)) ia (ib + 1 + k)), out.push z ++ b.extract (ib + 1) (ib + 1 + k), ia, ib + 1 + k, mg, ac, k))
        else p3 a b (out.push z ++ b.extract (ib + 1) (ib + 1 + k)) ia (ib + 1 + k) mg ac k
      else p3 a b (out.push z) ia (ib + 1) mg ac k
    | _ => pure (.done (some (dn a b (out.push z) ia (ib + 1)), out.push z, ia, ib + 1, mg, ac, bc))
def p1 (out : Array Keyed) (ia ib mg ac bc : Nat) : StateT SortSt Sem (ForInStep C7) := do
  setG mg
  let y ← elem' b ib
  let r ← gal false y a ia (a.size - ia) 0
  match r with
  | some k =>
    if k > 0 then
      if (ia + k + 1 == a.size) = true then pure (.done (some (la a b (out ++ a.extract ia (ia + k)) (ia + k) ib), out ++ a.extract ia (ia + k), ia + k, ib, mg, k, bc))
      else if (ia + k == a.size) = true then pure (.done (some (dn a b (out ++ a.extract ia (ia + k)) (ia + k) ib), out ++ a.extract ia (ia + k), ia + k, ib, mg, k, bc))
      else p2 a b (out ++ a.extract ia (ia + k)) (ia + k) ib mg k bc
    else p2 a b out ia ib mg k bc
  | _ => pure (.done (some (dn a b out ia ib), out, ia, ib, mg, ac, bc))
def q2 (c : C7) : StateT SortSt Sem (ForInStep C7) :=
  if c.2.2.2.2.1 > 1 then p1 a b c.2.1 c.2.2.1 c.2.2.2.1 (c.2.2.2.2.1 - 1) c.2.2.2.2.2.1 c.2.2.2.2.2.2 else p1 a b c.2.1 c.2.2.1 c.2.2.2.1 c.2.2.2.2.1 c.2.2.2.2.2.1 c.2.2.2.2.2.2
def q3 (c : C5) : StateT SortSt Sem (ForInStep C5) := do
  let d ← forIn [:a.size + b.size] ((none, c.2.1, c.2.2.1, c.2.2.2.1, 0, 0) : C6) fun _ d => q1 a b c.2.2.2.2 d.2.1 d.2.2.1 d.2.2.2.1 d.2.2.2.2.1 d.2.2.2.2.2
  match d.1 with
  | some r => pure (.done (some r, d.2.1, d.2.2.1, d.2.2.2.1, c.2.2.2.2))
  | none => do
    liftM (rule "list.sort.gallop")
    let e ← forIn [:a.size + b.size] ((none, d.2.1, d.2.2.1, d.2.2.2.1, c.2.2.2.2 + 1, d.2.2.2.2.1, d.2.2.2.2.2) : C7) fun _ e => q2 a b e
    match e.1 with
    | some r => pure (.done (some r, e.2.1, e.2.2.1, e.2.2.2.1, e.2.2.2.2.1))
    | none => do
      setG (e.2.2.2.2.1 + 1)
      pure (.yield (none, e.2.1, e.2.2.1, e.2.2.2.1, e.2.2.2.2.1 + 1))
theorem mLo_eq : mLo a b = (do
    liftM (rule "list.sort.merge-lo")
    let z ← elem' b 0
    if (1 == b.size) = true then pure (dn a b #[z] 0 1)
    else if (0 + 1 == a.size) = true then pure (la a b #[z] 0 1)
    else do
      let g ← get
      let c ← forIn [:a.size + b.size] ((none, #[z], 0, 1, gallopOf g) : C5) fun _ c => q3 a b c
      match c.1 with
      | some r => pure r
      | none => unsupported "internal:list.sort.merge-bound") := by kernel_rfl
end
end Tim
end
section
set_option maxHeartbeats 2000000
set_option maxRecDepth 100000
set_option linter.unusedVariables false
set_option linter.unusedSimpArgs false
namespace Tim
open PySem PyProof.Rows
def SL (l : List Keyed) : Prop := l.Pairwise fun x y => kv x ≤ kv y
theorem SL.app {l r : List Keyed} : SL (l ++ r) ↔ SL l ∧ SL r ∧ ∀ x ∈ l, ∀ y ∈ r, kv x ≤ kv y := List.pairwise_append
theorem SL.move {o c r q : List Keyed} (h1 : SL (o ++ (c ++ r))) (h2 : SL (o ++ q)) (h : ∀ x ∈ c, ∀ y ∈ q, kv x ≤ kv y) : SL ((o ++ c) ++ r) ∧ SL ((o ++ c) ++ q) := by
  rw [← List.append_assoc] at h1
  refine ⟨h1, ?_⟩
  obtain ⟨a1, _, _⟩ := SL.app.mp h1
  obtain ⟨_, b2, b3⟩ := SL.app.mp h2
  refine SL.app.mpr ⟨a1, b2, fun x hx y hy => ?_⟩
  rcases List.mem_append.mp hx with z | z
  · exact b3 x z y hy
  · exact h x z y hy
theorem SL.moveR {o c r q : List Keyed} (h1 : SL ((r ++ c) ++ o)) (h2 : SL (q ++ o)) (h : ∀ x ∈ q, ∀ y ∈ c, kv x ≤ kv y) : SL (r ++ (c ++ o)) ∧ SL (q ++ (c ++ o)) := by
  rw [List.append_assoc] at h1
  refine ⟨h1, ?_⟩
  obtain ⟨_, a1, _⟩ := SL.app.mp h1
  obtain ⟨b1, _, b3⟩ := SL.app.mp h2
  refine SL.app.mpr ⟨b1, a1, fun x hx y hy => ?_⟩
  rcases List.mem_append.mp hy with z | z
  · exact h x hx y z
  · exact b3 x hx y z
theorem K_list {a : Array Keyed} {i : Nat} {x : Keyed} (h : a.toList[i]? = some x) : K a i = kv x := by
  have e : a[i]? = some x := by rw [← Array.getElem?_toList]; exact h
  unfold K; rw [e]; rfl
theorem seg_of {a : Array Keyed} {k : Nat} (h : SL (a.toList.drop k)) : Seg a k a.size := fun i j h1 h2 h3 => by
  by_cases e : i = j
  · rw [e]; exact Int.le_refl _
  have e1 : a.toList[i]? = some a[i] := by rw [Array.getElem?_toList]; exact getElem?_pos a i (by omega)
  have e2 : a.toList[j]? = some a[j] := by rw [Array.getElem?_toList]; exact getElem?_pos a j (by omega)
  rw [K_list e1, K_list e2]
  have d1 : (a.toList.drop k)[i - k]? = some a[i] := by rw [List.getElem?_drop, show k + (i - k) = i from by omega]; exact e1
  have d2 : (a.toList.drop k)[j - k]? = some a[j] := by rw [List.getElem?_drop, show k + (j - k) = j from by omega]; exact e2
  obtain ⟨l1, f1⟩ := List.getElem?_eq_some_iff.mp d1
  obtain ⟨l2, f2⟩ := List.getElem?_eq_some_iff.mp d2
  have z := (List.pairwise_iff_getElem.mp h) (i - k) (j - k) l1 l2 (by omega)
  rw [f1, f2] at z
  exact z
theorem mem_drop {l : List Keyed} {k : Nat} {x : Keyed} (h : x ∈ l.drop k) : ∃ i, k ≤ i ∧ l[i]? = some x := by
  obtain ⟨i, hi⟩ := List.mem_iff_getElem?.mp h
  rw [List.getElem?_drop] at hi
  exact ⟨k + i, by omega, hi⟩
theorem mem_ext {a : Array Keyed} {i j : Nat} {x : Keyed} (h : x ∈ (a.toList.drop i).take (j - i)) : ∃ k, i ≤ k ∧ k < j ∧ a.toList[k]? = some x := by
  obtain ⟨k, hk⟩ := List.mem_iff_getElem?.mp h
  rw [List.getElem?_take] at hk
  split at hk
  · rw [List.getElem?_drop] at hk
    exact ⟨i + k, by omega, by omega, hk⟩
  · cases hk
theorem drop_cons {l : List Keyed} {i : Nat} {x : Keyed} (h : l[i]? = some x) : l.drop i = x :: l.drop (i + 1) := by
  obtain ⟨hi, e⟩ := List.getElem?_eq_some_iff.mp h
  rw [List.drop_eq_getElem_cons hi, e]
theorem drop_split {l : List Keyed} {i j : Nat} (h : i ≤ j) : l.drop i = (l.drop i).take (j - i) ++ l.drop j := by
  have e : l.drop j = (l.drop i).drop (j - i) := by rw [List.drop_drop, show i + (j - i) = j from by omega]
  rw [e, List.take_append_drop]
structure MW (a b out : Array Keyed) (ia ib : Nat) : Prop where
  pm : (out.toList ++ (a.toList.drop ia ++ b.toList.drop ib)).Perm (a.toList ++ b.toList)
  sa : SL (out.toList ++ a.toList.drop ia)
  sb : SL (out.toList ++ b.toList.drop ib)
  n : out.size = ia + ib
structure Good (a b r : Array Keyed) : Prop where
  pm : r.toList.Perm (a.toList ++ b.toList)
  so : SL r.toList
theorem ext_list (a : Array Keyed) (i : Nat) : (a.extract i a.size).toList = a.toList.drop i := by
  rw [Array.toList_extract, List.extract_eq_take_drop, List.take_of_length_le]
  rw [List.length_drop, Array.length_toList]
  exact Nat.le_refl _
theorem ext_list2 (a : Array Keyed) (i j : Nat) : (a.extract i j).toList = (a.toList.drop i).take (j - i) := by
  rw [Array.toList_extract, List.extract_eq_take_drop]
section
variable {a b out : Array Keyed} {ia ib : Nat}
theorem MW.dn (m : MW a b out ia ib) (h : ib = b.size ∨ ia = a.size) : Good a b (dn a b out ia ib) := by
  have e : (Tim.dn a b out ia ib).toList = out.toList ++ (a.toList.drop ia ++ b.toList.drop ib) := by
    show (out ++ a.extract ia a.size ++ b.extract ib b.size).toList = _
    rw [Array.toList_append, Array.toList_append, ext_list, ext_list, List.append_assoc]
  refine ⟨by rw [e]; exact m.pm, ?_⟩
  rw [e]
  rcases h with h | h
  · have z : b.toList.drop ib = [] := List.drop_of_length_le (by rw [Array.length_toList, h]; exact Nat.le_refl _)
    rw [z, List.append_nil]; exact m.sa
  · have z : a.toList.drop ia = [] := List.drop_of_length_le (by rw [Array.length_toList, h]; exact Nat.le_refl _)
    rw [z, List.nil_append]; exact m.sb
theorem MW.la (m : MW a b out ia ib) (h : ia + 1 = a.size) (hl : ∀ (i j : Nat) (x y : Keyed), a.toList[i]? = some x → i + 1 = a.size → b.toList[j]? = some y → kv y ≤ kv x) : Good a b (la a b out ia ib) := by
  have e : (Tim.la a b out ia ib).toList = out.toList ++ (b.toList.drop ib ++ a.toList.drop ia) := by
    show (out ++ b.extract ib b.size ++ a.extract ia a.size).toList = _
    rw [Array.toList_append, Array.toList_append, ext_list, ext_list, List.append_assoc]
  refine ⟨?_, ?_⟩
  · rw [e]; exact ((List.perm_append_comm).append_left _).trans m.pm
  · rw [e, ← List.append_assoc]
    obtain ⟨_, c2, c3⟩ := SL.app.mp m.sa
    refine SL.app.mpr ⟨m.sb, c2, fun x hx y hy => ?_⟩
    rcases List.mem_append.mp hx with z | z
    · exact c3 x z y hy
    · obtain ⟨i, hi, ei⟩ := mem_drop hy
      obtain ⟨j, _, ej⟩ := mem_drop z
      have := (List.getElem?_eq_some_iff.mp ei).1
      rw [Array.length_toList] at this
      exact hl i j y x ei (by omega) ej
theorem MW.stepA (m : MW a b out ia ib) {k : Nat} (hk : ia + k ≤ a.size) (h : ∀ (i j : Nat) (x y : Keyed), ia ≤ i → i < ia + k → ib ≤ j → a.toList[i]? = some x → b.toList[j]? = some y → kv x ≤ kv y) : MW a b (out ++ a.extract ia (ia + k)) (ia + k) ib := by
  have sp := drop_split (l := a.toList) (i := ia) (j := ia + k) (by omega)
  have pm := m.pm
  have sa := m.sa
  rw [sp] at pm sa
  have mv := SL.move sa m.sb fun x hx y hy => by
    obtain ⟨i, h1, h2, e1⟩ := mem_ext hx
    obtain ⟨j, h3, e2⟩ := mem_drop hy
    exact h i j x y h1 h2 h3 e1 e2
  refine ⟨?_, ?_, ?_, ?_⟩
  · rw [Array.toList_append, ext_list2, List.append_assoc, ← List.append_assoc _ _ (b.toList.drop ib)]; exact pm
  · rw [Array.toList_append, ext_list2]; exact mv.1
  · rw [Array.toList_append, ext_list2]; exact mv.2
  · rw [Array.size_append, Array.size_extract, m.n]; omega
theorem MW.stepB (m : MW a b out ia ib) {k : Nat} (hk : ib + k ≤ b.size) (h : ∀ (i j : Nat) (x y : Keyed), ia ≤ i → ib ≤ j → j < ib + k → a.toList[i]? = some x → b.toList[j]? = some y → kv y ≤ kv x) : MW a b (out ++ b.extract ib (ib + k)) ia (ib + k) := by
  have sp := drop_split (l := b.toList) (i := ib) (j := ib + k) (by omega)
  have pm := m.pm
  have sb := m.sb
  rw [sp] at pm sb
  have mv := SL.move sb m.sa fun x hx y hy => by
    obtain ⟨i, h1, h2, e1⟩ := mem_ext hx
    obtain ⟨j, h3, e2⟩ := mem_drop hy
    exact h j i y x h3 h1 h2 e2 e1
  refine ⟨?_, ?_, ?_, ?_⟩
  · rw [Array.toList_append, ext_list2, List.append_assoc]
    refine List.Perm.trans (List.Perm.append_left _ ?_) pm
    rw [← List.append_assoc, ← List.append_assoc]
    exact List.Perm.append_right _ List.perm_append_comm
  · rw [Array.toList_append, ext_list2]; exact mv.2
  · rw [Array.toList_append, ext_list2]; exact mv.1
  · rw [Array.size_append, Array.size_extract, m.n]; omega
theorem ext_one {a : Array Keyed} {i : Nat} {x : Keyed} (h : a[i]? = some x) (out : Array Keyed) : out.push x = out ++ a.extract i (i + 1) := by
  apply Array.ext'
  rw [Array.toList_push, Array.toList_append, ext_list2, show i + 1 - i = 1 from by omega, drop_cons (by rw [Array.getElem?_toList]; exact h)]
  rfl
end
end Tim
end
section
set_option maxHeartbeats 2000000
set_option maxRecDepth 100000
set_option linter.unusedVariables false
set_option linter.unusedSimpArgs false
namespace Tim
open PySem PyProof.Rows
structure Two (a b : Array Keyed) : Prop where
  ia : Ints a
  ib : Ints b
  la : ∀ (i j : Nat) (x y : Keyed), a.toList[i]? = some x → i + 1 = a.size → b.toList[j]? = some y → kv y ≤ kv x
  fb : ∀ (i : Nat) (x y : Keyed), a.toList[i]? = some x → b.toList[0]? = some y → kv y ≤ kv x
  sa : SL a.toList
  sb : SL b.toList
structure MI (a b out : Array Keyed) (ia ib : Nat) : Prop extends MW a b out ia ib where
  ha : ia + 1 < a.size
  hb : ib < b.size
structure SameG (st st' : SortSt) : Prop where
  ar : arrOf st' = arrOf st
  kd : kindOf st' = kindOf st
  pd : pendingOf st' = pendingOf st
  ff : failedOf st' = failedOf st
theorem SameG.refl (st : SortSt) : SameG st st := ⟨rfl, rfl, rfl, rfl⟩
theorem SameG.trans {x y z : SortSt} (a : SameG x y) (b : SameG y z) : SameG x z := ⟨b.ar.trans a.ar, b.kd.trans a.kd, b.pd.trans a.pd, b.ff.trans a.ff⟩
abbrev withG (st : SortSt) (g : Nat) : SortSt := SortSt.mk' (kindOf st) (arrOf st) (pendingOf st) g (failedOf st)
theorem setG_eq (g : Nat) : setG g = modify fun st => withG st g := rfl
theorem li {a : Array Keyed} {i : Nat} {x : Keyed} (h : a[i]? = some x) : a.toList[i]? = some x := by rw [Array.getElem?_toList]; exact h
theorem il {a : Array Keyed} {i : Nat} {x : Keyed} (h : a.toList[i]? = some x) : a[i]? = some x := by rw [← Array.getElem?_toList]; exact h
theorem SL.at {l : List Keyed} (h : SL l) {i j : Nat} {x y : Keyed} (hij : i ≤ j) (ei : l[i]? = some x) (ej : l[j]? = some y) : kv x ≤ kv y := by
  by_cases e : i = j
  · subst e; rw [ei] at ej; cases ej; exact Int.le_refl _
  · obtain ⟨l1, f1⟩ := List.getElem?_eq_some_iff.mp ei
    obtain ⟨l2, f2⟩ := List.getElem?_eq_some_iff.mp ej
    have z := (List.pairwise_iff_getElem.mp h) i j l1 l2 (by omega)
    rw [f1, f2] at z
    exact z
section
variable {prog : Program} {w : World} {A : Around} {E : Value → Shared → Prop} {s : Shared} {st : SortSt} {a b : Array Keyed}
def O6 (a b : Array Keyed) (o : Nat) (c : C6) : Prop := (∃ g, c.1 = some g ∧ Good a b g) ∨ (c.1 = none ∧ MI a b c.2.1 c.2.2.1 c.2.2.2.1 ∧ o < c.2.1.size)
def O7 (a b : Array Keyed) (o : Nat) (c : C7) : Prop := (∃ g, c.1 = some g ∧ Good a b g) ∨ (c.1 = none ∧ MI a b c.2.1 c.2.2.1 c.2.2.2.1 ∧ o < c.2.1.size)
theorem w_q1 {mg : Nat} {out : Array Keyed} {ia ib ac bc : Nat} {Q : ForInStep C6 → SortSt → Prop} (T : Two a b) (hk : kindOf st = oneType') (m : MI a b out ia ib)
    (hd : ∀ c, O6 a b out.size c → Q (.done c) st) (hy : ∀ c, c.1 = none → MI a b c.2.1 c.2.2.1 c.2.2.2.1 → out.size < c.2.1.size → Q (.yield c) st) : wpS (model prog w) A E s (q1 a b mg out ia ib ac bc) Q st := by
  obtain ⟨y, ey, vy⟩ := get_some m.hb
  obtain ⟨x, ex, vx⟩ := get_some (show ia < a.size by have := m.ha; omega)
  have ha := m.ha
  have hb := m.hb
  unfold q1
  refine wpS_bind (w_elem ey (wpS_bind (w_elem ex (wpS_bind (w_lt hk (T.ib _ _ ey) (T.ia _ _ ex) ?_)))))
  by_cases l : kv y < kv x
  · simp only [l, decide_true, if_true]
    refine wpS_bind (w_elem ey ?_)
    have m2 : MW a b (out.push y) ia (ib + 1) := by
      rw [ext_one ey]
      exact m.toMW.stepB (k := 1) (by omega) fun i j x' y' h1 h2 h3 e1 e2 => by
        have e : j = ib := by omega
        subst e
        rw [li ey] at e2; cases e2
        exact Int.le_trans (Int.le_of_lt l) (T.sa.at h1 (li ex) e1)
    have sz : (out.push y).size = out.size + 1 := Array.size_push ..
    by_cases e : ib + 1 = b.size
    · rw [if_pos (by simpa using e)]
      exact wpS_pure (hd _ (.inl ⟨_, rfl, m2.dn (.inl e)⟩))
    · rw [if_neg (by simpa using e)]
      have m3 : MI a b (out.push y) ia (ib + 1) := ⟨m2, ha, by omega⟩
      split
      · exact wpS_pure (hd _ (.inr ⟨rfl, m3, by show out.size < (out.push y).size; omega⟩))
      · exact wpS_pure (hy _ rfl m3 (by show out.size < (out.push y).size; omega))
  · simp only [l, decide_false, Bool.false_eq_true, if_false]
    refine wpS_bind (w_elem ex ?_)
    have m2 : MW a b (out.push x) (ia + 1) ib := by
      rw [ext_one ex]
      exact m.toMW.stepA (k := 1) (by omega) fun i j x' y' h1 h2 h3 e1 e2 => by
        have e : i = ia := by omega
        subst e
        rw [li ex] at e1; cases e1
        exact Int.le_trans (Int.not_lt.mp l) (T.sb.at h3 (li ey) e2)
    have sz : (out.push x).size = out.size + 1 := Array.size_push ..
    by_cases e : ia + 1 + 1 = a.size
    · rw [if_pos (by simpa using e)]
      exact wpS_pure (hd _ (.inl ⟨_, rfl, m2.la e T.la⟩))
    · rw [if_neg (by simpa using e)]
      have m3 : MI a b (out.push x) (ia + 1) ib := ⟨m2, by omega, hb⟩
      split
      · exact wpS_pure (hd _ (.inr ⟨rfl, m3, by show out.size < (out.push x).size; omega⟩))
      · exact wpS_pure (hy _ rfl m3 (by show out.size < (out.push x).size; omega))
structure Fin7 (a b : Array Keyed) (o : Nat) (st : SortSt) (Q : ForInStep C7 → SortSt → Prop) : Prop where
  dn : ∀ c, O7 a b o c → Q (.done c) st
  yl : ∀ c, c.1 = none → MI a b c.2.1 c.2.2.1 c.2.2.2.1 → o < c.2.1.size → Q (.yield c) st
theorem w_p3 {out : Array Keyed} {ia ib mg ac bc o : Nat} {Q : ForInStep C7 → SortSt → Prop} (T : Two a b) (m : MI a b out ia ib) (ho : o ≤ out.size) (F : Fin7 a b o st Q)
    (hx : ∀ (x y : Keyed) (j : Nat), a.toList[ia]? = some x → ib ≤ j → b.toList[j]? = some y → kv x ≤ kv y) : wpS (model prog w) A E s (p3 a b out ia ib mg ac bc) Q st := by
  have ha := m.ha
  have hb := m.hb
  obtain ⟨x, ex, vx⟩ := get_some (show ia < a.size by omega)
  unfold p3
  refine wpS_bind (w_elem ex ?_)
  have m2 : MW a b (out.push x) (ia + 1) ib := by
    rw [ext_one ex]
    exact m.toMW.stepA (k := 1) (by omega) fun i j x' y' h1 h2 h3 e1 e2 => by
      have e : i = ia := by omega
      subst e
      exact hx x' y' j e1 h3 e2
  have sz : (out.push x).size = out.size + 1 := Array.size_push ..
  by_cases e : ia + 1 + 1 = a.size
  · rw [if_pos (by simpa using e)]
    exact wpS_pure (F.dn _ (.inl ⟨_, rfl, m2.la e T.la⟩))
  · rw [if_neg (by simpa using e)]
    have m3 : MI a b (out.push x) (ia + 1) ib := ⟨m2, by omega, hb⟩
    split
    · exact wpS_pure (F.dn _ (.inr ⟨rfl, m3, by show o < (out.push x).size; omega⟩))
    · exact wpS_pure (F.yl _ rfl m3 (by show o < (out.push x).size; omega))
theorem w_p2 {out : Array Keyed} {ia ib mg ac bc o : Nat} {Q : ForInStep C7 → SortSt → Prop} (T : Two a b) (hk : kindOf st = oneType') (m : MI a b out ia ib) (ho : o ≤ out.size) (F : Fin7 a b o st Q)
    (hx : ∀ (x y : Keyed) (i : Nat), ia ≤ i → a.toList[i]? = some x → b.toList[ib]? = some y → kv y ≤ kv x) : wpS (model prog w) A E s (p2 a b out ia ib mg ac bc) Q st := by
  have ha := m.ha
  have hb := m.hb
  obtain ⟨y, ey, vy⟩ := get_some hb
  obtain ⟨x, ex, vx⟩ := get_some (show ia < a.size by omega)
  unfold p2
  refine wpS_bind (w_elem ey ?_)
  have m2 : MW a b (out.push y) ia (ib + 1) := by
    rw [ext_one ey]
    exact m.toMW.stepB (k := 1) (by omega) fun i j x' y' h1 h2 h3 e1 e2 => by
      have e : j = ib := by omega
      subst e
      exact hx x' y' i h1 e1 e2
  have sz : (out.push y).size = out.size + 1 := Array.size_push ..
  by_cases e : ib + 1 = b.size
  · rw [if_pos (by simpa using e)]
    exact wpS_pure (F.dn _ (.inl ⟨_, rfl, m2.dn (.inl e)⟩))
  · rw [if_neg (by simpa using e)]
    refine wpS_bind (w_elem ex (wpS_bind (w_gal hk (T.ia _ _ ex) T.ib (by omega) (by omega) ?_ fun k k1 k2 k3 => ?_)))
    · rw [show ib + 1 + (b.size - (ib + 1)) = b.size from by omega]
      exact seg_of (T.sb.sublist (List.drop_sublist _ _))
    · dsimp only
      have low : ∀ j y', ib + 1 ≤ j → j < ib + 1 + k → b.toList[j]? = some y' → kv y' < kv x := fun j y' h1 h2 e2 => by
        have z := k2 (j - (ib + 1)) (by omega)
        unfold Bey at z
        rw [if_pos rfl, show ib + 1 + (j - (ib + 1)) = j from by omega, K_list e2] at z
        exact z
      have high : ∀ j y', ib + 1 + k ≤ j → b.toList[j]? = some y' → kv x ≤ kv y' := fun j y' h1 e2 => by
        have hj := (List.getElem?_eq_some_iff.mp e2).1
        rw [Array.length_toList] at hj
        have z := k3 (j - (ib + 1)) (by omega) (by omega)
        unfold Bey at z
        rw [if_pos rfl, show ib + 1 + (j - (ib + 1)) = j from by omega, K_list e2] at z
        omega
      by_cases hk0 : k > 0
      · rw [if_pos hk0]
        have m3 : MW a b (out.push y ++ b.extract (ib + 1) (ib + 1 + k)) ia (ib + 1 + k) := m2.stepB (by omega) fun i j x' y' h1 h2 h3 e1 e2 =>
          Int.le_trans (Int.le_of_lt (low j y' h2 h3 e2)) (T.sa.at h1 (li ex) e1)
        by_cases e2 : ib + 1 + k = b.size
        · rw [if_pos (by simpa using e2)]
          exact wpS_pure (F.dn _ (.inl ⟨_, rfl, m3.dn (.inl e2)⟩))
        · rw [if_neg (by simpa using e2)]
          exact w_p3 T ⟨m3, ha, by omega⟩ (by rw [Array.size_append]; omega) F fun x' y' j e1 h e2 => by
            rw [li ex] at e1; cases e1
            exact high j y' h e2
      · rw [if_neg hk0]
        have k0 : k = 0 := by omega
        subst k0
        exact w_p3 T ⟨m2, ha, by omega⟩ (by omega) F fun x' y' j e1 h e2 => by
          rw [li ex] at e1; cases e1
          exact high j y' h e2
theorem w_p1 {out : Array Keyed} {ia ib mg ac bc o : Nat} {Q : ForInStep C7 → SortSt → Prop} (T : Two a b) (hk : kindOf st = oneType') (m : MI a b out ia ib) (ho : o ≤ out.size) (F : Fin7 a b o (withG st mg) Q) :
    wpS (model prog w) A E s (p1 a b out ia ib mg ac bc) Q st := by
  have ha := m.ha
  have hb := m.hb
  obtain ⟨y, ey, vy⟩ := get_some hb
  unfold p1
  rw [setG_eq]
  refine wpS_bind (wpS_modify (wpS_bind (w_elem ey (wpS_bind (w_gal (show kindOf (withG st mg) = oneType' from hk) (T.ib _ _ ey) T.ia (by omega) (by omega) ?_ fun k k1 k2 k3 => ?_)))))
  · rw [show ia + (a.size - ia) = a.size from by omega]
    exact seg_of (T.sa.sublist (List.drop_sublist _ _))
  · dsimp only
    have low : ∀ i x', ia ≤ i → i < ia + k → a.toList[i]? = some x' → kv x' ≤ kv y := fun i x' h1 h2 e2 => by
      have z := k2 (i - ia) (by omega)
      unfold Bey at z
      rw [if_neg Bool.false_ne_true, show ia + (i - ia) = i from by omega, K_list e2] at z
      exact z
    have high : ∀ i x', ia + k ≤ i → a.toList[i]? = some x' → kv y ≤ kv x' := fun i x' h1 e2 => by
      have hj := (List.getElem?_eq_some_iff.mp e2).1
      rw [Array.length_toList] at hj
      have z := k3 (i - ia) (by omega) (by omega)
      unfold Bey at z
      rw [if_neg Bool.false_ne_true, show ia + (i - ia) = i from by omega, K_list e2] at z
      omega
    by_cases hk0 : k > 0
    · rw [if_pos hk0]
      have m3 : MW a b (out ++ a.extract ia (ia + k)) (ia + k) ib := m.toMW.stepA (by omega) fun i j x' y' h1 h2 h3 e1 e2 =>
        Int.le_trans (low i x' h1 h2 e1) (T.sb.at h3 (li ey) e2)
      by_cases e1 : ia + k + 1 = a.size
      · rw [if_pos (by simpa using e1)]
        exact wpS_pure (F.dn _ (.inl ⟨_, rfl, m3.la e1 T.la⟩))
      · rw [if_neg (by simpa using e1)]
        by_cases e2 : ia + k = a.size
        · rw [if_pos (by simpa using e2)]
          exact wpS_pure (F.dn _ (.inl ⟨_, rfl, m3.dn (.inr e2)⟩))
        · rw [if_neg (by simpa using e2)]
          exact w_p2 T hk ⟨m3, by omega, hb⟩ (by rw [Array.size_append]; omega) F fun x' y' i h e1 e2 => by
            rw [li ey] at e2; cases e2
            exact high i x' h e1
    · rw [if_neg hk0]
      have k0 : k = 0 := by omega
      subst k0
      exact w_p2 T hk m ho F fun x' y' i h e1 e2 => by
        rw [li ey] at e2; cases e2
        exact high i x' h e1
theorem w_q2 {c : C7} {o : Nat} {Q : ForInStep C7 → SortSt → Prop} (T : Two a b) (hk : kindOf st = oneType') (m : MI a b c.2.1 c.2.2.1 c.2.2.2.1) (ho : o ≤ c.2.1.size) (F : ∀ g, Fin7 a b o (withG st g) Q) :
    wpS (model prog w) A E s (q2 a b c) Q st := by
  unfold q2
  split
  · exact w_p1 T hk m ho (F _)
  · exact w_p1 T hk m ho (F _)
theorem w_q3 {c : C5} {Q : ForInStep C5 → SortSt → Prop} (T : Two a b) (hk : kindOf st = oneType') (m : MI a b c.2.1 c.2.2.1 c.2.2.2.1)
    (hd : ∀ st' d g, SameG st st' → d.1 = some g → Good a b g → Q (.done d) st') (hy : ∀ st' d, SameG st st' → d.1 = none → MI a b d.2.1 d.2.2.1 d.2.2.2.1 → c.2.1.size < d.2.1.size → Q (.yield d) st') :
    wpS (model prog w) A E s (q3 a b c) Q st := by
  have ha := m.ha
  unfold q3
  refine wpS_bind (wpS_mono (wpS_forRange (I := fun x d st' => st' = st ∧ d.1 = none ∧ MI a b d.2.1 d.2.2.1 d.2.2.2.1 ∧ c.2.1.size ≤ d.2.1.size ∧ (0 < x → c.2.1.size < d.2.1.size)) (Q := fun d st' => st' = st ∧ O6 a b c.2.1.size d) ?t ?f ⟨rfl, rfl, m, Nat.le_refl _, fun z => absurd z (by omega)⟩) ?p)
  case t =>
    rintro x d st' _ hx ⟨rfl, e, m', h1, h2⟩
    refine w_q1 T hk m' (fun c' o6 => ⟨rfl, ?_⟩) fun c' e' m2 l => ⟨rfl, e', m2, by omega, fun _ => by omega⟩
    rcases o6 with z | ⟨z1, z2, z3⟩
    · exact .inl z
    · exact .inr ⟨z1, z2, by omega⟩
  case f =>
    rintro d st' ⟨rfl, e, m', h1, h2⟩
    exact ⟨rfl, .inr ⟨e, m', h2 (by omega)⟩⟩
  case p =>
    rintro d st' ⟨rfl, o6⟩
    rcases o6 with ⟨g, e, gd⟩ | ⟨e, m', h1⟩
    · rw [e]
      exact wpS_pure (hd _ _ g (SameG.refl _) rfl gd)
    · rw [e]
      refine wpS_bind (wpS_lift (wpAny_rule ⟨rfl, ?_⟩))
      refine wpS_bind (wpS_mono (wpS_forRange (I := fun x f st2 => SameG st' st2 ∧ f.1 = none ∧ MI a b f.2.1 f.2.2.1 f.2.2.2.1 ∧ d.2.1.size ≤ f.2.1.size) (Q := fun f st2 => SameG st' st2 ∧ ((∃ g, f.1 = some g ∧ Good a b g) ∨ (f.1 = none ∧ MI a b f.2.1 f.2.2.1 f.2.2.2.1 ∧ d.2.1.size ≤ f.2.1.size))) ?t2 ?f2 ⟨SameG.refl _, rfl, m', Nat.le_refl _⟩) ?p2)
      case t2 =>
        rintro x f st2 _ _ ⟨sg, e2, m2, h2⟩
        have sg2 : ∀ g, SameG st' (withG st2 g) := fun g => sg.trans ⟨rfl, rfl, rfl, rfl⟩
        refine w_q2 T (sg.kd.trans hk) m2 h2 fun g => ⟨fun c' o7 => ⟨sg2 g, ?_⟩, fun c' e' m3 l => ⟨sg2 g, e', m3, by omega⟩⟩
        rcases o7 with z | ⟨z1, z2, z3⟩
        · exact .inl z
        · exact .inr ⟨z1, z2, by omega⟩
      case f2 =>
        rintro f st2 ⟨sg, e2, m2, h2⟩
        exact ⟨sg, .inr ⟨e2, m2, h2⟩⟩
      case p2 =>
        rintro f st2 ⟨sg, o7⟩
        rcases o7 with ⟨g, e2, gd⟩ | ⟨e2, m2, h2⟩
        · rw [e2]
          exact wpS_pure (hd _ _ g sg rfl gd)
        · rw [e2]
          dsimp only
          rw [setG_eq]
          exact wpS_bind (wpS_modify (wpS_pure (hy _ _ (sg.trans ⟨rfl, rfl, rfl, rfl⟩) rfl m2 (by show c.2.1.size < f.2.1.size; omega))))
theorem w_mLo {Q : Array Keyed → SortSt → Prop} (T : Two a b) (hk : kindOf st = oneType') (ha : 0 < a.size) (hb : 0 < b.size) (h : ∀ st' r, SameG st st' → Good a b r → Q r st') : wpS (model prog w) A E s (mLo a b) Q st := by
  obtain ⟨y, ey, vy⟩ := get_some hb
  rw [mLo_eq]
  refine wpS_bind (wpS_lift (wpAny_rule ⟨rfl, ?_⟩))
  refine wpS_bind (w_elem ey ?_)
  have m0 : MW a b #[] 0 0 := ⟨by simp, by simpa using T.sa, by simpa using T.sb, rfl⟩
  have m1 : MW a b #[y] 0 1 := by
    have z := m0.stepB (k := 1) (by omega) fun i j x' y' h1 h2 h3 e1 e2 => by
      have e : j = 0 := by omega
      subst e
      exact T.fb i x' y' e1 e2
    rw [show 0 + 1 = 1 from rfl, ← ext_one ey] at z
    exact z
  by_cases e : 1 = b.size
  · rw [if_pos (by simpa using e)]
    exact wpS_pure (h _ _ (SameG.refl _) (m1.dn (.inl e)))
  · rw [if_neg (by simpa using e)]
    by_cases e2 : 0 + 1 = a.size
    · rw [if_pos (by simpa using e2)]
      exact wpS_pure (h _ _ (SameG.refl _) (m1.la e2 T.la))
    · rw [if_neg (by simpa using e2)]
      refine wpS_bind (wpS_get ?_)
      refine wpS_bind (wpS_mono (wpS_forRange (I := fun x c st' => SameG st st' ∧ c.1 = none ∧ MI a b c.2.1 c.2.2.1 c.2.2.2.1 ∧ x < c.2.1.size) (Q := fun c st' => SameG st st' ∧ ∃ g, c.1 = some g ∧ Good a b g) ?turn ?fin ⟨SameG.refl _, rfl, ⟨m1, (by show 0 + 1 < a.size; omega), (by show 1 < b.size; omega)⟩, (by show 0 < 1; omega)⟩) ?post)
      case turn =>
        rintro x c st' _ _ ⟨sg, e3, m, hx⟩
        exact w_q3 T (sg.kd.trans hk) m (fun st2 d g sg2 ed gd => ⟨sg.trans sg2, g, ed, gd⟩) fun st2 d sg2 ed md l => ⟨sg.trans sg2, ed, md, by omega⟩
      case fin =>
        rintro c st' ⟨sg, e3, m, hx⟩
        have h1 := m.ha
        have h2 := m.hb
        have h3 := m.n
        omega
      case post =>
        rintro c st' ⟨sg, g, e3, gd⟩
        rw [e3]
        exact wpS_pure (h _ _ sg gd)
end
end Tim
end
section
set_option maxHeartbeats 2000000
set_option maxRecDepth 100000
set_option linter.unusedVariables false
set_option linter.unusedSimpArgs false
namespace Tim
open PySem PyProof.Rows
def mHi : Array Keyed → Array Keyed → StateT SortSt Sem (Array Keyed) := sortPriv% PySem.Builtin.mergeHi
abbrev D5 := Option (Array Keyed) × Nat × Nat × Array Keyed × Nat
abbrev D6 := Option (Array Keyed) × Nat × Nat × Array Keyed × Nat × Nat
abbrev D7 := Option (Array Keyed) × Nat × Nat × Array Keyed × Nat × Nat × Nat
section
variable (a b : Array Keyed)
abbrev dh (out : Array Keyed) (na nb : Nat) : Array Keyed := a.extract 0 na ++ b.extract 0 nb ++ out.reverse
abbrev fh (out : Array Keyed) (na nb : Nat) : Array Keyed := b.extract 0 nb ++ a.extract 0 na ++ out.reverse
def r1 (mg : Nat) (na nb : Nat) (out : Array Keyed) (ac bc : Nat) : StateT SortSt Sem (ForInStep D6) := do
  let y ← elem' b (nb - 1)
  let x ← elem' a (na - 1)
  let r ← lt' y x
  match r with
  | some aw =>
    if aw = true then do
      let z ← elem' a (na - 1)
      if (na - 1 == 0) = true then pure (.done (some (dh a b (out.push z) (na - 1) nb), na - 1, nb, out.push z, ac + 1, 0))
      else if ac + 1 ≥ mg then pure (.done (none, na - 1, nb, out.push z, ac + 1, 0))
      else pure (.yield (none, na - 1, nb, out.push z, ac + 1, 0))
    else do
      let z ← elem' b (nb - 1)
      if (nb - 1 == 1) = true then pure (.done (some (fh a b (out.push z) na (nb - 1)), na, nb - 1, out.push z, 0, bc + 1))
      else if bc + 1 ≥ mg then pure (.done (none, na, nb - 1, out.push z, 0, bc + 1))
      else pure (.yield (none, na, nb - 1, out.push z, 0, bc + 1))
  | _ => pure (.done (some (dh a b out na nb), na, nb, out, ac, bc))
def s3 (na nb : Nat) (out : Array Keyed) (mg ac bc : Nat) : StateT SortSt Sem (ForInStep D7) := do
  let z ← elem' a (na - 1)
  if (na - 1 == 0) = true then pure (.done (some (dh a b (out.push z) (na - 1) nb), na - 1, nb, out.push z, mg, ac, bc))
  else if (decide (ac < 7) && decide (bc < 7)) = true then pure (.done (none, na - 1, nb, out.push z, mg, ac, bc))
  else pure (.yield (none, na - 1, nb, out.push z, mg, ac, bc))
def s2 (na nb : Nat) (out : Array Keyed) (mg ac bc : Nat) : StateT SortSt Sem (ForInStep D7) := do
  let z ← elem' b (nb - 1)
  if (nb - 1 == 1) = true then pure (.done (some (fh a b (out.push z) na (nb - 1)), na, nb - 1, out.push z, mg, ac, bc))
  else do
    let x ← elem' a (na - 1)
    let r ← gal true x b 0 (nb - 1) (nb - 1 - 1)
    match r with
    | some t =>
      if nb - 1 - t > 0 then
        if (t == 1) = true then pure (.done (some (fh a b (out.push z ++ (b.extract t (nb - 1)).reverse) na t), na, t, out.push z ++ (b.extract t (nb - 1)).reverse, mg, ac, nb - 1 - t))
        else if (t == 0) = true then pure (.done (some (dh a b (out.push z ++ (b.extract t (nb - 1)).reverse) na t), na, t, out.push z ++ (b.extract t (nb - 1)).reverse, mg, ac, nb - 1 - t))
        else s3 a b na t (out.push z ++ (b.extract t (nb - 1)).reverse) mg ac (nb - 1 - t)
      else s3 a b na (nb - 1) (out.push z) mg ac (nb - 1 - t)
    | _ => pure (.done (some (dh a b (out.push z) na (nb - 1)), na, nb - 1, out.push z, mg, ac, bc))
def s1 (na nb : Nat) (out : Array Keyed) (mg ac bc : Nat) : StateT SortSt Sem (ForInStep D7) := do
  setG mg
  let y ← elem' b (nb - 1)
  let r ← gal false y a 0 na (na - 1)
  match r with
  | some t =>
    if na - t > 0 then
      if (t == 0) = true then pure (.done (some (dh a b (out ++ (a.extract t na).reverse) t nb), t, nb, out ++ (a.extract t na).reverse, mg, na - t, bc))
      else s2 a b t nb (out ++ (a.extract t na).reverse) mg (na - t) bc
    else s2 a b na nb out mg (na - t) bc
  | _ => pure (.done (some (dh a b out na nb), na, nb, out, mg, ac, bc))
def r2 (c : D7) : StateT SortSt Sem (ForInStep D7) :=
  if c.2.2.2.2.1 > 1 then s1 a b c.2.1 c.2.2.1 c.2.2.2.1 (c.2.2.2.2.1 - 1) c.2.2.2.2.2.1 c.2.2.2.2.2.2 else s1 a b c.2.1 c.2.2.1 c.2.2.2.1 c.2.2.2.2.1 c.2.2.2.2.2.1 c.2.2.2.2.2.2
def r3 (c : D5) : StateT SortSt Sem (ForInStep D5) := do
  let d ← forIn [:a.size + b.size] ((none, c.2.1, c.2.2.1, c.2.2.2.1, 0, 0) : D6) fun _ d => r1 a b c.2.2.2.2 d.2.1 d.2.2.1 d.2.2.2.1 d.2.2.2.2.1 d.2.2.2.2.2
  match d.1 with
  | some r => pure (.done (some r, d.2.1, d.2.2.1, d.2.2.2.1, c.2.2.2.2))
  | none => do
    liftM (rule "list.sort.gallop")
    let e ← forIn [:a.size + b.size] ((none, d.2.1, d.2.2.1, d.2.2.2.1, c.2.2.2.2 + 1, d.2.2.2.2.1, d.2.2.2.2.2) : D7) fun _ e => r2 a b e
    match e.1 with
    | some r => pure (.done (some r, e.2.1, e.2.2.1, e.2.2.2.1, e.2.2.2.2.1))
    | none => do
      setG (e.2.2.2.2.1 + 1)
      pure (.yield (none, e.2.1, e.2.2.1, e.2.2.2.1, e.2.2.2.2.1 + 1))
theorem mHi_eq : mHi a b = (do
    liftM (rule "list.sort.merge-hi")
    let z ← elem' a (a.size - 1)
    if (a.size - 1 == 0) = true then pure (dh a b #[z] (a.size - 1) b.size)
    else if (b.size == 1) = true then pure (fh a b #[z] (a.size - 1) b.size)
    else do
      let g ← get
      let c ← forIn [:a.size + b.size] ((none, a.size - 1, b.size, #[z], gallopOf g) : D5) fun _ c => r3 a b c
      match c.1 with
      | some r => pure r
      | none => unsupported "internal:list.sort.merge-bound") := by kernel_rfl
end
theorem take_split {l : List Keyed} {i j : Nat} (h : i ≤ j) : l.take j = l.take i ++ (l.drop i).take (j - i) := by
  rw [← List.take_add, show i + (j - i) = j from by omega]
theorem mem_take {l : List Keyed} {k : Nat} {x : Keyed} (h : x ∈ l.take k) : ∃ i, i < k ∧ l[i]? = some x := by
  obtain ⟨i, hi⟩ := List.mem_iff_getElem?.mp h
  rw [List.getElem?_take] at hi
  split at hi
  · exact ⟨i, by omega, hi⟩
  · cases hi
structure HW (a b out : Array Keyed) (na nb : Nat) : Prop where
  pm : ((a.toList.take na ++ b.toList.take nb) ++ out.toList.reverse).Perm (a.toList ++ b.toList)
  sa : SL (a.toList.take na ++ out.toList.reverse)
  sb : SL (b.toList.take nb ++ out.toList.reverse)
  n : na + nb + out.size = a.size + b.size
  xa : na ≤ a.size
  xb : nb ≤ b.size
structure HI (a b out : Array Keyed) (na nb : Nat) : Prop extends HW a b out na nb where
  ha : 0 < na
  hb : 1 < nb
theorem ext0 (a : Array Keyed) (i : Nat) : (a.extract 0 i).toList = a.toList.take i := by
  rw [ext_list2, List.drop_zero, Nat.sub_zero]
section
variable {a b out : Array Keyed} {na nb : Nat}
theorem HW.dn (m : HW a b out na nb) (h : na = 0 ∨ nb = 0) : Good a b (dh a b out na nb) := by
  have e : (dh a b out na nb).toList = (a.toList.take na ++ b.toList.take nb) ++ out.toList.reverse := by
    show (a.extract 0 na ++ b.extract 0 nb ++ out.reverse).toList = _
    rw [Array.toList_append, Array.toList_append, ext0, ext0, Array.toList_reverse]
  refine ⟨by rw [e]; exact m.pm, ?_⟩
  rw [e]
  rcases h with h | h
  · rw [h, List.take_zero, List.nil_append]; exact m.sb
  · rw [h, List.take_zero, List.append_nil]; exact m.sa
theorem HW.fh (m : HW a b out na nb) (h : nb = 1) (hf : ∀ (i : Nat) (x y : Keyed), a.toList[i]? = some x → b.toList[0]? = some y → kv y ≤ kv x) : Good a b (fh a b out na nb) := by
  have e : (Tim.fh a b out na nb).toList = b.toList.take nb ++ (a.toList.take na ++ out.toList.reverse) := by
    show (b.extract 0 nb ++ a.extract 0 na ++ out.reverse).toList = _
    rw [Array.toList_append, Array.toList_append, ext0, ext0, Array.toList_reverse, List.append_assoc]
  refine ⟨?_, ?_⟩
  · rw [e, ← List.append_assoc]; exact (List.perm_append_comm.append_right _).trans m.pm
  · rw [e]
    obtain ⟨c1, _, c3⟩ := SL.app.mp m.sb
    refine SL.app.mpr ⟨c1, m.sa, fun x hx y hy => ?_⟩
    rcases List.mem_append.mp hy with z | z
    · obtain ⟨i, hi, ei⟩ := mem_take hx
      obtain ⟨j, _, ej⟩ := mem_take z
      have i0 : i = 0 := by omega
      subst i0
      exact hf j y x ej ei
    · exact c3 x hx y z
theorem HW.stepA (m : HW a b out na nb) {t : Nat} (ht : t ≤ na) (h : ∀ (i j : Nat) (x y : Keyed), t ≤ i → i < na → j < nb → a.toList[i]? = some x → b.toList[j]? = some y → kv y ≤ kv x) : HW a b (out ++ (a.extract t na).reverse) t nb := by
  have sp := take_split (l := a.toList) ht
  have pm := m.pm
  have sa := m.sa
  rw [sp] at pm sa
  have er : (out ++ (a.extract t na).reverse).toList.reverse = (a.toList.drop t).take (na - t) ++ out.toList.reverse := by
    rw [Array.toList_append, Array.toList_reverse, List.reverse_append, List.reverse_reverse, ext_list2]
  have mv := SL.moveR sa m.sb fun x hx y hy => by
    obtain ⟨i, h1, h2, e1⟩ := mem_ext hy
    obtain ⟨j, h3, e2⟩ := mem_take hx
    exact h i j y x h1 h2 h3 e1 e2
  refine ⟨?_, ?_, ?_, ?_, Nat.le_trans ht m.xa, m.xb⟩
  · rw [er, ← List.append_assoc]
    refine List.Perm.trans (List.Perm.append_right _ ?_) pm
    rw [List.append_assoc, List.append_assoc]
    exact List.Perm.append_left _ List.perm_append_comm
  · rw [er]; exact mv.1
  · rw [er]; exact mv.2
  · have := m.n; have := m.xa; rw [Array.size_append, Array.size_reverse, Array.size_extract]; omega
theorem HW.stepB (m : HW a b out na nb) {t : Nat} (ht : t ≤ nb) (h : ∀ (i j : Nat) (x y : Keyed), i < na → t ≤ j → j < nb → a.toList[i]? = some x → b.toList[j]? = some y → kv x ≤ kv y) : HW a b (out ++ (b.extract t nb).reverse) na t := by
  have sp := take_split (l := b.toList) ht
  have pm := m.pm
  have sb := m.sb
  rw [sp] at pm sb
  have er : (out ++ (b.extract t nb).reverse).toList.reverse = (b.toList.drop t).take (nb - t) ++ out.toList.reverse := by
    rw [Array.toList_append, Array.toList_reverse, List.reverse_append, List.reverse_reverse, ext_list2]
  have mv := SL.moveR sb m.sa fun x hx y hy => by
    obtain ⟨i, h1, h2, e1⟩ := mem_ext hy
    obtain ⟨j, h3, e2⟩ := mem_take hx
    exact h j i x y h3 h1 h2 e2 e1
  refine ⟨?_, ?_, ?_, ?_, m.xa, Nat.le_trans ht m.xb⟩
  · rw [er, ← List.append_assoc, List.append_assoc (a.toList.take na)]; exact pm
  · rw [er]; exact mv.2
  · rw [er]; exact mv.1
  · have := m.n; have := m.xb; rw [Array.size_append, Array.size_reverse, Array.size_extract]; omega
theorem ext_oneR {a : Array Keyed} {i : Nat} {x : Keyed} (hi : 0 < i) (h : a[i - 1]? = some x) (out : Array Keyed) : out.push x = out ++ (a.extract (i - 1) i).reverse := by
  apply Array.ext'
  rw [Array.toList_push, Array.toList_append, Array.toList_reverse, ext_list2, show i - (i - 1) = 1 from by omega, drop_cons (by rw [Array.getElem?_toList]; exact h)]
  rfl
theorem seg_take {a : Array Keyed} {n : Nat} (h : SL a.toList) (hn : n ≤ a.size) : Seg a 0 (0 + n) := fun i j h1 h2 h3 => by
  have e1 : a.toList[i]? = some a[i] := by rw [Array.getElem?_toList]; exact getElem?_pos a i (by omega)
  have e2 : a.toList[j]? = some a[j] := by rw [Array.getElem?_toList]; exact getElem?_pos a j (by omega)
  rw [K_list e1, K_list e2]
  exact h.at h2 e1 e2
end
section
variable {prog : Program} {w : World} {A : Around} {E : Value → Shared → Prop} {s : Shared} {st : SortSt} {a b : Array Keyed}
def U6 (a b : Array Keyed) (o : Nat) (c : D6) : Prop := (∃ g, c.1 = some g ∧ Good a b g) ∨ (c.1 = none ∧ HI a b c.2.2.2.1 c.2.1 c.2.2.1 ∧ o < c.2.2.2.1.size)
def U7 (a b : Array Keyed) (o : Nat) (c : D7) : Prop := (∃ g, c.1 = some g ∧ Good a b g) ∨ (c.1 = none ∧ HI a b c.2.2.2.1 c.2.1 c.2.2.1 ∧ o < c.2.2.2.1.size)
theorem HW.one (m : HW a b out na nb) (T : Two a b) {x : Keyed} (h0 : 0 < na) (ex : a[na - 1]? = some x) (hx : ∀ (j : Nat) (y : Keyed), j < nb → b.toList[j]? = some y → kv y ≤ kv x) : HW a b (out.push x) (na - 1) nb := by
  rw [ext_oneR h0 ex]
  exact m.stepA (by omega) fun i j x' y' h1 h2 h3 e1 e2 => by
    have e : i = na - 1 := by omega
    subst e
    rw [li ex] at e1; cases e1
    exact hx j y' h3 e2
theorem HW.oneB (m : HW a b out na nb) (T : Two a b) {y : Keyed} (h0 : 0 < nb) (ey : b[nb - 1]? = some y) (hx : ∀ (i : Nat) (x : Keyed), i < na → a.toList[i]? = some x → kv x ≤ kv y) : HW a b (out.push y) na (nb - 1) := by
  rw [ext_oneR h0 ey]
  exact m.stepB (by omega) fun i j x' y' h1 h2 h3 e1 e2 => by
    have e : j = nb - 1 := by omega
    subst e
    rw [li ey] at e2; cases e2
    exact hx i x' h1 e1
theorem w_r1 {mg na nb : Nat} {out : Array Keyed} {ac bc : Nat} {Q : ForInStep D6 → SortSt → Prop} (T : Two a b) (hk : kindOf st = oneType') (m : HI a b out na nb)
    (hd : ∀ c, U6 a b out.size c → Q (.done c) st) (hy : ∀ c, c.1 = none → HI a b c.2.2.2.1 c.2.1 c.2.2.1 → out.size < c.2.2.2.1.size → Q (.yield c) st) : wpS (model prog w) A E s (r1 a b mg na nb out ac bc) Q st := by
  have ha := m.ha
  have hb := m.hb
  have xa := m.xa
  have xb := m.xb
  obtain ⟨y, ey, vy⟩ := get_some (show nb - 1 < b.size by omega)
  obtain ⟨x, ex, vx⟩ := get_some (show na - 1 < a.size by omega)
  unfold r1
  refine wpS_bind (w_elem ey (wpS_bind (w_elem ex (wpS_bind (w_lt hk (T.ib _ _ ey) (T.ia _ _ ex) ?_)))))
  by_cases l : kv y < kv x
  · simp only [l, decide_true, if_true]
    refine wpS_bind (w_elem ex ?_)
    have m2 : HW a b (out.push x) (na - 1) nb := m.toHW.one T ha ex fun j y' h e => Int.le_trans (T.sb.at (by omega) e (li ey)) (Int.le_of_lt l)
    have sz : (out.push x).size = out.size + 1 := Array.size_push ..
    by_cases e : na - 1 = 0
    · rw [if_pos (by simpa using e)]
      exact wpS_pure (hd _ (.inl ⟨_, rfl, m2.dn (.inl e)⟩))
    · rw [if_neg (by simpa using e)]
      have m3 : HI a b (out.push x) (na - 1) nb := ⟨m2, by omega, hb⟩
      split
      · exact wpS_pure (hd _ (.inr ⟨rfl, m3, by show out.size < (out.push x).size; omega⟩))
      · exact wpS_pure (hy _ rfl m3 (by show out.size < (out.push x).size; omega))
  · simp only [l, decide_false, Bool.false_eq_true, if_false]
    refine wpS_bind (w_elem ey ?_)
    have m2 : HW a b (out.push y) na (nb - 1) := m.toHW.oneB T (by omega) ey fun i x' h e => Int.le_trans (T.sa.at (by omega) e (li ex)) (Int.not_lt.mp l)
    have sz : (out.push y).size = out.size + 1 := Array.size_push ..
    by_cases e : nb - 1 = 1
    · rw [if_pos (by simpa using e)]
      exact wpS_pure (hd _ (.inl ⟨_, rfl, m2.fh e T.fb⟩))
    · rw [if_neg (by simpa using e)]
      have m3 : HI a b (out.push y) na (nb - 1) := ⟨m2, ha, by omega⟩
      split
      · exact wpS_pure (hd _ (.inr ⟨rfl, m3, by show out.size < (out.push y).size; omega⟩))
      · exact wpS_pure (hy _ rfl m3 (by show out.size < (out.push y).size; omega))
structure Fin7H (a b : Array Keyed) (o : Nat) (st : SortSt) (Q : ForInStep D7 → SortSt → Prop) : Prop where
  dn : ∀ c, U7 a b o c → Q (.done c) st
  yl : ∀ c, c.1 = none → HI a b c.2.2.2.1 c.2.1 c.2.2.1 → o < c.2.2.2.1.size → Q (.yield c) st
theorem w_s3 {na nb : Nat} {out : Array Keyed} {mg ac bc o : Nat} {Q : ForInStep D7 → SortSt → Prop} (T : Two a b) (m : HI a b out na nb) (ho : o ≤ out.size) (F : Fin7H a b o st Q)
    (hx : ∀ (x y : Keyed) (j : Nat), a.toList[na - 1]? = some x → j < nb → b.toList[j]? = some y → kv y ≤ kv x) : wpS (model prog w) A E s (s3 a b na nb out mg ac bc) Q st := by
  have ha := m.ha
  have hb := m.hb
  have xa := m.xa
  obtain ⟨x, ex, vx⟩ := get_some (show na - 1 < a.size by omega)
  unfold s3
  refine wpS_bind (w_elem ex ?_)
  have m2 : HW a b (out.push x) (na - 1) nb := m.toHW.one T ha ex fun j y' h e => hx x y' j (li ex) h e
  have sz : (out.push x).size = out.size + 1 := Array.size_push ..
  by_cases e : na - 1 = 0
  · rw [if_pos (by simpa using e)]
    exact wpS_pure (F.dn _ (.inl ⟨_, rfl, m2.dn (.inl e)⟩))
  · rw [if_neg (by simpa using e)]
    have m3 : HI a b (out.push x) (na - 1) nb := ⟨m2, by omega, hb⟩
    split
    · exact wpS_pure (F.dn _ (.inr ⟨rfl, m3, by show o < (out.push x).size; omega⟩))
    · exact wpS_pure (F.yl _ rfl m3 (by show o < (out.push x).size; omega))
theorem w_s2 {na nb : Nat} {out : Array Keyed} {mg ac bc o : Nat} {Q : ForInStep D7 → SortSt → Prop} (T : Two a b) (hk : kindOf st = oneType') (m : HI a b out na nb) (ho : o ≤ out.size) (F : Fin7H a b o st Q)
    (hx : ∀ (x y : Keyed) (i : Nat), i < na → a.toList[i]? = some x → b.toList[nb - 1]? = some y → kv x ≤ kv y) : wpS (model prog w) A E s (s2 a b na nb out mg ac bc) Q st := by
  have ha := m.ha
  have hb := m.hb
  have xa := m.xa
  have xb := m.xb
  obtain ⟨y, ey, vy⟩ := get_some (show nb - 1 < b.size by omega)
  obtain ⟨x, ex, vx⟩ := get_some (show na - 1 < a.size by omega)
  unfold s2
  refine wpS_bind (w_elem ey ?_)
  have m2 : HW a b (out.push y) na (nb - 1) := m.toHW.oneB T (by omega) ey fun i x' h e => hx x' y i h e (li ey)
  have sz : (out.push y).size = out.size + 1 := Array.size_push ..
  by_cases e : nb - 1 = 1
  · rw [if_pos (by simpa using e)]
    exact wpS_pure (F.dn _ (.inl ⟨_, rfl, m2.fh e T.fb⟩))
  · rw [if_neg (by simpa using e)]
    refine wpS_bind (w_elem ex (wpS_bind (w_gal hk (T.ia _ _ ex) T.ib (by omega) (by omega) (seg_take T.sb (by omega)) fun k k1 k2 k3 => ?_)))
    dsimp only
    have low : ∀ j y', j < k → b.toList[j]? = some y' → kv y' ≤ kv x := fun j y' h2 e2 => by
      have z := k2 j h2
      unfold Bey at z
      rw [if_pos rfl, Nat.zero_add, K_list e2] at z
      exact Int.le_of_lt z
    have high : ∀ j y', k ≤ j → j < nb - 1 → b.toList[j]? = some y' → kv x ≤ kv y' := fun j y' h1 h2 e2 => by
      have z := k3 j h1 h2
      unfold Bey at z
      rw [if_pos rfl, Nat.zero_add, K_list e2] at z
      omega
    by_cases hk0 : nb - 1 - k > 0
    · rw [if_pos hk0]
      have m3 : HW a b (out.push y ++ (b.extract k (nb - 1)).reverse) na k := m2.stepB (by omega) fun i j x' y' h1 h2 h3 e1 e2 =>
        Int.le_trans (T.sa.at (by omega) e1 (li ex)) (high j y' h2 h3 e2)
      by_cases e1 : k = 1
      · rw [if_pos (by simpa using e1)]
        exact wpS_pure (F.dn _ (.inl ⟨_, rfl, m3.fh e1 T.fb⟩))
      · rw [if_neg (by simpa using e1)]
        by_cases e2 : k = 0
        · rw [if_pos (by simpa using e2)]
          exact wpS_pure (F.dn _ (.inl ⟨_, rfl, m3.dn (.inr e2)⟩))
        · rw [if_neg (by simpa using e2)]
          exact w_s3 T ⟨m3, ha, by omega⟩ (by rw [Array.size_append]; omega) F fun x' y' j e1 h e2 => by
            rw [li ex] at e1; cases e1
            exact low j y' h e2
    · rw [if_neg hk0]
      have k0 : k = nb - 1 := by omega
      subst k0
      exact w_s3 T ⟨m2, ha, by omega⟩ (by omega) F fun x' y' j e1 h e2 => by
        rw [li ex] at e1; cases e1
        exact low j y' h e2
theorem w_s1 {na nb : Nat} {out : Array Keyed} {mg ac bc o : Nat} {Q : ForInStep D7 → SortSt → Prop} (T : Two a b) (hk : kindOf st = oneType') (m : HI a b out na nb) (ho : o ≤ out.size) (F : Fin7H a b o (withG st mg) Q) :
    wpS (model prog w) A E s (s1 a b na nb out mg ac bc) Q st := by
  have ha := m.ha
  have hb := m.hb
  have xa := m.xa
  have xb := m.xb
  obtain ⟨y, ey, vy⟩ := get_some (show nb - 1 < b.size by omega)
  unfold s1
  rw [setG_eq]
  refine wpS_bind (wpS_modify (wpS_bind (w_elem ey (wpS_bind (w_gal (show kindOf (withG st mg) = oneType' from hk) (T.ib _ _ ey) T.ia (by omega) (by omega) (seg_take T.sa xa) fun k k1 k2 k3 => ?_)))))
  dsimp only
  have low : ∀ i x', i < k → a.toList[i]? = some x' → kv x' ≤ kv y := fun i x' h2 e2 => by
    have z := k2 i h2
    unfold Bey at z
    rw [if_neg Bool.false_ne_true, Nat.zero_add, K_list e2] at z
    exact z
  have high : ∀ i x', k ≤ i → i < na → a.toList[i]? = some x' → kv y ≤ kv x' := fun i x' h1 h2 e2 => by
    have z := k3 i h1 h2
    unfold Bey at z
    rw [if_neg Bool.false_ne_true, Nat.zero_add, K_list e2] at z
    omega
  by_cases hk0 : na - k > 0
  · rw [if_pos hk0]
    have m3 : HW a b (out ++ (a.extract k na).reverse) k nb := m.toHW.stepA (by omega) fun i j x' y' h1 h2 h3 e1 e2 =>
      Int.le_trans (T.sb.at (by omega) e2 (li ey)) (high i x' h1 h2 e1)
    by_cases e1 : k = 0
    · rw [if_pos (by simpa using e1)]
      exact wpS_pure (F.dn _ (.inl ⟨_, rfl, m3.dn (.inl e1)⟩))
    · rw [if_neg (by simpa using e1)]
      exact w_s2 T hk ⟨m3, by omega, hb⟩ (by rw [Array.size_append]; omega) F fun x' y' i h e1 e2 => by
        rw [li ey] at e2; cases e2
        exact low i x' h e1
  · rw [if_neg hk0]
    have k0 : k = na := by omega
    subst k0
    exact w_s2 T hk m ho F fun x' y' i h e1 e2 => by
      rw [li ey] at e2; cases e2
      exact low i x' h e1
theorem w_r2 {c : D7} {o : Nat} {Q : ForInStep D7 → SortSt → Prop} (T : Two a b) (hk : kindOf st = oneType') (m : HI a b c.2.2.2.1 c.2.1 c.2.2.1) (ho : o ≤ c.2.2.2.1.size) (F : ∀ g, Fin7H a b o (withG st g) Q) :
    wpS (model prog w) A E s (r2 a b c) Q st := by
  unfold r2
  split
  · exact w_s1 T hk m ho (F _)
  · exact w_s1 T hk m ho (F _)
theorem w_r3 {c : D5} {Q : ForInStep D5 → SortSt → Prop} (T : Two a b) (hk : kindOf st = oneType') (m : HI a b c.2.2.2.1 c.2.1 c.2.2.1)
    (hd : ∀ st' d g, SameG st st' → d.1 = some g → Good a b g → Q (.done d) st') (hy : ∀ st' d, SameG st st' → d.1 = none → HI a b d.2.2.2.1 d.2.1 d.2.2.1 → c.2.2.2.1.size < d.2.2.2.1.size → Q (.yield d) st') :
    wpS (model prog w) A E s (r3 a b c) Q st := by
  have ha := m.ha
  have xa := m.xa
  unfold r3
  refine wpS_bind (wpS_mono (wpS_forRange (I := fun x d st' => st' = st ∧ d.1 = none ∧ HI a b d.2.2.2.1 d.2.1 d.2.2.1 ∧ c.2.2.2.1.size ≤ d.2.2.2.1.size ∧ (0 < x → c.2.2.2.1.size < d.2.2.2.1.size)) (Q := fun d st' => st' = st ∧ U6 a b c.2.2.2.1.size d) ?turn ?fin ⟨rfl, rfl, m, Nat.le_refl _, fun z => absurd z (by omega)⟩) ?post)
  case turn =>
    rintro x d st' _ hx ⟨rfl, e, m', h1, h2⟩
    refine w_r1 T hk m' (fun c' o6 => ⟨rfl, ?_⟩) fun c' e' m2 l => ⟨rfl, e', m2, by omega, fun _ => by omega⟩
    rcases o6 with z | ⟨z1, z2, z3⟩
    · exact .inl z
    · exact .inr ⟨z1, z2, by omega⟩
  case fin =>
    rintro d st' ⟨rfl, e, m', h1, h2⟩
    exact ⟨rfl, .inr ⟨e, m', h2 (by omega)⟩⟩
  case post =>
    rintro d st' ⟨rfl, o6⟩
    rcases o6 with ⟨g, e, gd⟩ | ⟨e, m', h1⟩
    · rw [e]
      exact wpS_pure (hd _ _ g (SameG.refl _) rfl gd)
    · rw [e]
      refine wpS_bind (wpS_lift (wpAny_rule ⟨rfl, ?_⟩))
      refine wpS_bind (wpS_mono (wpS_forRange (I := fun x f st2 => SameG st' st2 ∧ f.1 = none ∧ HI a b f.2.2.2.1 f.2.1 f.2.2.1 ∧ d.2.2.2.1.size ≤ f.2.2.2.1.size) (Q := fun f st2 => SameG st' st2 ∧ ((∃ g, f.1 = some g ∧ Good a b g) ∨ (f.1 = none ∧ HI a b f.2.2.2.1 f.2.1 f.2.2.1 ∧ d.2.2.2.1.size ≤ f.2.2.2.1.size))) ?turn2 ?fin2 ⟨SameG.refl _, rfl, m', Nat.le_refl _⟩) ?post2)
      case turn2 =>
        rintro x f st2 _ _ ⟨sg, e2, m2, h2⟩
        have sg2 : ∀ g, SameG st' (withG st2 g) := fun g => sg.trans ⟨rfl, rfl, rfl, rfl⟩
        refine w_r2 T (sg.kd.trans hk) m2 h2 fun g => ⟨fun c' o7 => ⟨sg2 g, ?_⟩, fun c' e' m3 l => ⟨sg2 g, e', m3, by omega⟩⟩
        rcases o7 with z | ⟨z1, z2, z3⟩
        · exact .inl z
        · exact .inr ⟨z1, z2, by omega⟩
      case fin2 =>
        rintro f st2 ⟨sg, e2, m2, h2⟩
        exact ⟨sg, .inr ⟨e2, m2, h2⟩⟩
      case post2 =>
        rintro f st2 ⟨sg, o7⟩
        rcases o7 with ⟨g, e2, gd⟩ | ⟨e2, m2, h2⟩
        · rw [e2]
          exact wpS_pure (hd _ _ g sg rfl gd)
        · rw [e2]
          dsimp only
          rw [setG_eq]
          exact wpS_bind (wpS_modify (wpS_pure (hy _ _ (sg.trans ⟨rfl, rfl, rfl, rfl⟩) rfl m2 (by show c.2.2.2.1.size < f.2.2.2.1.size; omega))))
theorem w_mHi {Q : Array Keyed → SortSt → Prop} (T : Two a b) (hk : kindOf st = oneType') (ha : 0 < a.size) (hb : 0 < b.size) (h : ∀ st' r, SameG st st' → Good a b r → Q r st') : wpS (model prog w) A E s (mHi a b) Q st := by
  obtain ⟨x, ex, vx⟩ := get_some (show a.size - 1 < a.size by omega)
  rw [mHi_eq]
  refine wpS_bind (wpS_lift (wpAny_rule ⟨rfl, ?_⟩))
  refine wpS_bind (w_elem ex ?_)
  have ta : a.toList.take a.size = a.toList := List.take_of_length_le (by rw [Array.length_toList]; exact Nat.le_refl _)
  have tb : b.toList.take b.size = b.toList := List.take_of_length_le (by rw [Array.length_toList]; exact Nat.le_refl _)
  have m0 : HW a b #[] a.size b.size := ⟨by rw [ta, tb]; simp, by rw [ta]; simpa using T.sa, by rw [tb]; simpa using T.sb, rfl, Nat.le_refl _, Nat.le_refl _⟩
  have m1 : HW a b #[x] (a.size - 1) b.size := m0.one T ha ex fun j y' h e => T.la _ j x y' (li ex) (by omega) e
  by_cases e : a.size - 1 = 0
  · rw [if_pos (by simpa using e)]
    exact wpS_pure (h _ _ (SameG.refl _) (m1.dn (.inl e)))
  · rw [if_neg (by simpa using e)]
    by_cases e2 : b.size = 1
    · rw [if_pos (by simpa using e2)]
      exact wpS_pure (h _ _ (SameG.refl _) (m1.fh e2 T.fb))
    · rw [if_neg (by simpa using e2)]
      refine wpS_bind (wpS_get ?_)
      refine wpS_bind (wpS_mono (wpS_forRange (I := fun x c st' => SameG st st' ∧ c.1 = none ∧ HI a b c.2.2.2.1 c.2.1 c.2.2.1 ∧ x < c.2.2.2.1.size) (Q := fun c st' => SameG st st' ∧ ∃ g, c.1 = some g ∧ Good a b g) ?turn ?fin ⟨SameG.refl _, rfl, ⟨m1, (by show 0 < a.size - 1; omega), (by show 1 < b.size; omega)⟩, (by show 0 < 1; omega)⟩) ?post)
      case turn =>
        rintro x c st' _ _ ⟨sg, e3, m, hx⟩
        exact w_r3 T (sg.kd.trans hk) m (fun st2 d g sg2 ed gd => ⟨sg.trans sg2, g, ed, gd⟩) fun st2 d sg2 ed md l => ⟨sg.trans sg2, ed, md, by omega⟩
      case fin =>
        rintro c st' ⟨sg, e3, m, hx⟩
        have h1 := m.ha
        have h2 := m.hb
        have h3 := m.n
        omega
      case post =>
        rintro c st' ⟨sg, g, e3, gd⟩
        rw [e3]
        exact wpS_pure (h _ _ sg gd)
end
end Tim
end
section
set_option maxHeartbeats 2000000
set_option maxRecDepth 100000
set_option linter.unusedVariables false
set_option linter.unusedSimpArgs false
namespace Tim
open PySem PyProof.Rows
def wb (sa : Nat) (l : List Keyed) (n : Nat) (arr : Array Keyed) : Array Keyed := (l.zipIdx n).foldl (fun a (q : Keyed × Nat) => a.setIfInBounds (sa + q.2) q.1) arr
theorem wb_list (sa : Nat) : ∀ (l : List Keyed) (n : Nat) (arr : Array Keyed), sa + n + l.length ≤ arr.size → (wb sa l n arr).toList = arr.toList.take (sa + n) ++ l ++ arr.toList.drop (sa + n + l.length)
  | [], n, arr, _ => by simp [wb]
  | x :: l, n, arr, h => by
    have h' : sa + n + (l.length + 1) ≤ arr.size := h
    have e : wb sa (x :: l) n arr = wb sa l (n + 1) (arr.setIfInBounds (sa + n) x) := rfl
    rw [e, wb_list sa l (n + 1) _ (by rw [Array.size_setIfInBounds]; omega), Array.toList_setIfInBounds]
    have hl : sa + n < arr.toList.length := by rw [Array.length_toList]; omega
    have e1 : (arr.toList.set (sa + n) x).take (sa + (n + 1)) = arr.toList.take (sa + n) ++ [x] := by
      rw [show sa + (n + 1) = sa + n + 1 from by omega, List.take_add_one, List.take_set_of_le (Nat.le_refl _), List.getElem?_set_self hl]
      rfl
    have e2 : (arr.toList.set (sa + n) x).drop (sa + (n + 1) + l.length) = arr.toList.drop (sa + n + (l.length + 1)) := by
      rw [show sa + (n + 1) + l.length = sa + n + (l.length + 1) from by omega, List.drop_set_of_lt (by omega)]
    rw [e1, e2]
    simp
theorem mAt_eq (i : Nat) : mergeAt' i = (do
    let s ← get
    match (pendingOf s)[i]?, (pendingOf s)[i + 1]? with
    | some (sa, na, pw), some (sb, nb, _) => do
      set (setPending s (((pendingOf s).setIfInBounds i (sa, na + nb, pw)).eraseIdxIfInBounds (i + 1)))
      let key ← elem' (arrOf s) sb
      let r ← gal false key (arrOf s) sa na 0
      match r with
      | some k =>
        if (na - k == 0) = true then pure true
        else do
          let key2 ← elem' (arrOf s) (sa + k + (na - k) - 1)
          let r2 ← gal true key2 (arrOf s) sb nb (nb - 1)
          match r2 with
          | some m =>
            if (m == 0) = true then pure true
            else do
              let g ← if na - k ≤ m then mLo ((arrOf s).extract (sa + k) sb) ((arrOf s).extract sb (sb + m)) else mHi ((arrOf s).extract (sa + k) sb) ((arrOf s).extract sb (sb + m))
              modify fun s => setArr s (wb (sa + k) g.toList 0 (arrOf s))
              return (failedOf (← get)).isNone
          | _ => pure false
      | _ => pure false
    | _, _ => unsupported "internal:list.sort.pending") := by kernel_rfl
theorem seg_sub {arr : Array Keyed} {lo hi lo' hi' : Nat} (h : Seg arr lo hi) (h1 : lo ≤ lo') (h2 : hi' ≤ hi) : Seg arr lo' hi' := fun i j a b c => h i j (by omega) b (by omega)
theorem seg_app {arr : Array Keyed} {n m : Nat} (h1 : Seg arr 0 n) (h2 : Seg arr n m) (h : ∀ i j, i < n → n ≤ j → j < m → K arr i ≤ K arr j) : Seg arr 0 m := fun i j _ b c => by
  by_cases z : j < n
  · exact h1 i j (by omega) b z
  · by_cases y : i < n
    · exact h i j y (by omega) c
    · exact h2 i j (by omega) b c
theorem ext_get {arr : Array Keyed} {i j k : Nat} {x : Keyed} (h : (arr.extract i j).toList[k]? = some x) : i + k < j ∧ arr.toList[i + k]? = some x := by
  rw [ext_list2, List.getElem?_take] at h
  split at h
  · rw [List.getElem?_drop] at h
    exact ⟨by omega, h⟩
  · cases h
theorem SL_ext {arr : Array Keyed} {i j : Nat} (hj : j ≤ arr.size) (h : Seg arr i j) : SL (arr.extract i j).toList := by
  refine List.pairwise_iff_getElem.mpr fun k l hk hl hkl => ?_
  obtain ⟨a1, e1⟩ := ext_get (List.getElem?_eq_getElem hk)
  obtain ⟨a2, e2⟩ := ext_get (List.getElem?_eq_getElem hl)
  rw [← K_list e1, ← K_list e2]
  exact h _ _ (by omega) (by omega) a2
theorem Ints_ext {arr : Array Keyed} {i j : Nat} (h : Ints arr) : Ints (arr.extract i j) := fun k x e => by
  obtain ⟨_, e1⟩ := ext_get (li e)
  exact h _ _ (il e1)
theorem ints_of {a₀ arr : Array Keyed} (h0 : IntKeys a₀) (hp : arr.Perm a₀) : Ints arr := fun i x e =>
  h0 x ((Array.perm_iff_toList_perm.mp hp).mem_iff.mp (List.mem_of_getElem? (li e)))
theorem seg_all {arr : Array Keyed} (h : SL arr.toList) : Seg arr 0 arr.size := seg_of (k := 0) (by rw [List.drop_zero]; exact h)
section
variable {prog : Program} {w : World} {A : Around} {E : Value → Shared → Prop} {s : Shared} {a₀ : Array Keyed} {st : SortSt}
theorem w_set {st' : SortSt} {Q : PUnit → SortSt → Prop} (h : Q ⟨⟩ st') : wpS (model prog w) A E s (set st' : StateT SortSt Sem PUnit) Q st := by
  unfold wpS; rw [StateT.run_set]; exact wpAny_pure ⟨rfl, h⟩
theorem w_mAt {n1 pw z : Nat} {Q : Bool → SortSt → Prop} (h0 : IntKeys a₀) (hn : 0 < n1) (hn2 : n1 < a₀.size) (B : TB a₀ #[(0, n1, pw), (n1, a₀.size - n1, z)] st) (s1 : Seg (arrOf st) 0 n1) (s2 : Seg (arrOf st) n1 a₀.size)
    (h : ∀ st', TB a₀ #[(0, a₀.size, pw)] st' → Seg (arrOf st') 0 a₀.size → Q true st') : wpS (model prog w) A E s (mergeAt' 0) Q st := by
  have sz := B.size
  have I := ints_of h0 B.perm
  rw [mAt_eq]
  refine wpS_bind (wpS_get ?_)
  have e0 : (pendingOf st)[0]? = some (0, n1, pw) := by rw [B.pd]; rfl
  have e1 : (pendingOf st)[0 + 1]? = some (n1, a₀.size - n1, z) := by rw [B.pd]; rfl
  rw [e0, e1]
  dsimp only
  have ep : (((pendingOf st).setIfInBounds 0 (0, n1 + (a₀.size - n1), pw)).eraseIdxIfInBounds (0 + 1)) = #[(0, a₀.size, pw)] := by
    rw [B.pd, show n1 + (a₀.size - n1) = a₀.size from by omega]
    simp [Array.setIfInBounds, Array.eraseIdxIfInBounds]
  rw [ep]
  refine wpS_bind (w_set ?_)
  have B' : TB a₀ #[(0, a₀.size, pw)] (setPending st #[(0, a₀.size, pw)]) := ⟨B.perm, B.kd, B.ff, rfl⟩
  obtain ⟨y, ey, vy⟩ := get_some (show n1 < (arrOf st).size by omega)
  refine wpS_bind (w_elem ey (wpS_bind (w_gal B'.kd (I _ _ ey) I (by omega) hn (by rw [Nat.zero_add]; exact s1) fun k k1 k2 k3 => ?_)))
  dsimp only
  have F1 : ∀ i, i < k → K (arrOf st) i ≤ K (arrOf st) n1 := fun i hi => by
    have q := k2 i hi
    unfold Bey at q
    rw [if_neg Bool.false_ne_true, Nat.zero_add, vy] at q
    exact q
  have F2 : ∀ i, k ≤ i → i < n1 → K (arrOf st) n1 < K (arrOf st) i := fun i h1 h2 => by
    have q := k3 i h1 h2
    unfold Bey at q
    rw [if_neg Bool.false_ne_true, Nat.zero_add, vy] at q
    omega
  by_cases ek : n1 - k = 0
  · rw [if_pos (by simpa using ek)]
    refine wpS_pure (h _ B' (seg_app s1 s2 fun i j h1 h2 h3 => Int.le_trans (F1 i (by omega)) (s2 n1 j (Nat.le_refl _) h2 h3)))
  · rw [if_neg (by simpa using ek), show 0 + k + (n1 - k) - 1 = n1 - 1 from by omega]
    obtain ⟨x, ex, vx⟩ := get_some (show n1 - 1 < (arrOf st).size by omega)
    refine wpS_bind (w_elem ex (wpS_bind (w_gal B'.kd (I _ _ ex) I (by omega) (by omega) (by rw [show n1 + (a₀.size - n1) = a₀.size from by omega]; exact s2) fun m m1 m2 m3 => ?_)))
    dsimp only
    have G1 : ∀ j, n1 ≤ j → j < n1 + m → K (arrOf st) j < K (arrOf st) (n1 - 1) := fun j h1 h2 => by
      have q := m2 (j - n1) (by omega)
      unfold Bey at q
      rw [if_pos rfl, show n1 + (j - n1) = j from by omega, vx] at q
      exact q
    have G2 : ∀ j, n1 + m ≤ j → j < a₀.size → K (arrOf st) (n1 - 1) ≤ K (arrOf st) j := fun j h1 h2 => by
      have q := m3 (j - n1) (by omega) (by omega)
      unfold Bey at q
      rw [if_pos rfl, show n1 + (j - n1) = j from by omega, vx] at q
      omega
    by_cases em : m = 0
    · exfalso
      have q1 := F2 (n1 - 1) (by omega) (by omega)
      have q2 := G2 n1 (by omega) hn2
      omega
    · rw [if_neg (by simpa using em), Nat.zero_add]
      have zx : ((arrOf st).extract k n1).size = n1 - k := by rw [Array.size_extract]; omega
      have zy : ((arrOf st).extract n1 (n1 + m)).size = m := by rw [Array.size_extract]; omega
      have T : Two ((arrOf st).extract k n1) ((arrOf st).extract n1 (n1 + m)) := by
        refine ⟨Ints_ext I, Ints_ext I, fun i j x' y' e1 e2 e3 => ?_, fun i x' y' e1 e2 => ?_, SL_ext (by omega) (seg_sub s1 (by omega) (by omega)), SL_ext (by omega) (seg_sub s2 (by omega) (by omega))⟩
        · obtain ⟨_, f1⟩ := ext_get e1
          obtain ⟨a2, f2⟩ := ext_get e3
          have q := G1 (n1 + j) (by omega) a2
          rw [K_list f2, show n1 - 1 = k + i from by omega, K_list f1] at q
          omega
        · obtain ⟨a1, f1⟩ := ext_get e1
          obtain ⟨_, f2⟩ := ext_get e2
          have q := F2 (k + i) (by omega) a1
          rw [K_list f1, show n1 = n1 + 0 from rfl, K_list f2] at q
          omega
      have fin : ∀ st' r, SameG (setPending st #[(0, a₀.size, pw)]) st' → Good ((arrOf st).extract k n1) ((arrOf st).extract n1 (n1 + m)) r →
          wpS (model prog w) A E s (do
            modify fun s => setArr s (wb k r.toList 0 (arrOf s))
            return (failedOf (← get)).isNone) Q st' := fun st' r sg gd => by
        refine wpS_bind (wpS_modify (wpS_bind (wpS_get (wpS_pure ?_))))
        have ff : failedOf st' = none := sg.ff.trans B.ff
        have ar : arrOf st' = arrOf st := sg.ar
        show Q (failedOf st').isNone (setArr st' (wb k r.toList 0 (arrOf st')))
        rw [ff, ar]
        have rl : r.toList.length = n1 - k + m := by
          rw [gd.pm.length_eq, List.length_append, Array.length_toList, Array.length_toList, zx, zy]
        have el := wb_list k r.toList 0 (arrOf st) (by rw [rl]; omega)
        rw [Nat.add_zero, rl, show k + (n1 - k + m) = n1 + m from by omega] at el
        have whole : (arrOf st).toList = (arrOf st).toList.take k ++ (((arrOf st).extract k n1).toList ++ ((arrOf st).extract n1 (n1 + m)).toList) ++ (arrOf st).toList.drop (n1 + m) := by
          rw [ext_list2, ext_list2]
          have a1 : (arrOf st).toList.take n1 = (arrOf st).toList.take k ++ ((arrOf st).toList.drop k).take (n1 - k) := take_split (by omega)
          have a2 : (arrOf st).toList.take (n1 + m) = (arrOf st).toList.take n1 ++ ((arrOf st).toList.drop n1).take (n1 + m - n1) := take_split (by omega)
          rw [← List.append_assoc, ← a1, ← a2, List.take_append_drop]
        have pmw : (wb k r.toList 0 (arrOf st)).Perm (arrOf st) := by
          refine Array.perm_iff_toList_perm.mpr ?_
          rw [el]
          conv => rhs; rw [whole]
          exact (List.Perm.append_left _ gd.pm).append_right _
        refine h _ ⟨pmw.trans B.perm, sg.kd.trans B.kd, ff, sg.pd⟩ ?_
        show Seg (wb k r.toList 0 (arrOf st)) 0 a₀.size
        rw [← pmw.trans B.perm |>.size_eq]
        refine seg_all ?_
        rw [el]
        have inr : ∀ q ∈ r.toList, ∃ i, k ≤ i ∧ i < n1 + m ∧ (arrOf st).toList[i]? = some q := fun q hq => by
          rcases List.mem_append.mp (gd.pm.mem_iff.mp hq) with c | c
          · obtain ⟨i, ei⟩ := List.mem_iff_getElem?.mp c
            obtain ⟨b1, b2⟩ := ext_get ei
            exact ⟨k + i, by omega, by omega, b2⟩
          · obtain ⟨i, ei⟩ := List.mem_iff_getElem?.mp c
            obtain ⟨b1, b2⟩ := ext_get ei
            exact ⟨n1 + i, by omega, b1, b2⟩
        have low : ∀ i j, i < k → k ≤ j → j < a₀.size → K (arrOf st) i ≤ K (arrOf st) j := fun i j h1 h2 h3 => by
          by_cases c : j < n1
          · exact s1 i j (by omega) (by omega) c
          · exact Int.le_trans (F1 i h1) (s2 n1 j (Nat.le_refl _) (by omega) h3)
        have high : ∀ i j, i < n1 + m → n1 + m ≤ j → j < a₀.size → K (arrOf st) i ≤ K (arrOf st) j := fun i j h1 h2 h3 => by
          by_cases c : i < n1
          · exact Int.le_trans (s1 i (n1 - 1) (by omega) (by omega) (by omega)) (G2 j h2 h3)
          · exact s2 i j (by omega) (by omega) h3
        have lenL : (arrOf st).toList.length = a₀.size := by rw [Array.length_toList]; exact sz
        refine SL.app.mpr ⟨SL.app.mpr ⟨?_, gd.so, fun u hu v hv => ?_⟩, ?_, fun u hu v hv => ?_⟩
        · have q := SL_ext (arr := arrOf st) (i := 0) (j := k) (by omega) (seg_sub s1 (by omega) (by omega))
          rw [ext0] at q; exact q
        · obtain ⟨i, hi, ei⟩ := mem_take hu
          obtain ⟨j, j1, j2, ej⟩ := inr v hv
          rw [← K_list ei, ← K_list ej]
          exact low i j hi j1 (by omega)
        · have q := SL_ext (arr := arrOf st) (i := n1 + m) (j := (arrOf st).size) (Nat.le_refl _) (seg_sub s2 (by omega) (by omega))
          rw [ext_list] at q; exact q
        · obtain ⟨j, hj, ej⟩ := mem_drop hv
          have j2 := (List.getElem?_eq_some_iff.mp ej).1
          rw [lenL] at j2
          rw [← K_list ej]
          rcases List.mem_append.mp hu with c | c
          · obtain ⟨i, hi, ei⟩ := mem_take c
            rw [← K_list ei]
            exact low i j hi (by omega) j2
          · obtain ⟨i, i1, i2, ei⟩ := inr u c
            rw [← K_list ei]
            exact high i j i2 hj j2
      split
      · exact wpS_bind (w_mLo T B'.kd (by omega) (by omega) fin)
      · exact wpS_bind (w_mHi T B'.kd (by omega) (by omega) fin)
end
end Tim
end
section
set_option maxHeartbeats 2000000
set_option maxRecDepth 100000
set_option linter.unusedVariables false
set_option linter.unusedSimpArgs false
namespace Tim
open PySem PyProof.Rows
section
variable {prog : Program} {w : World} {A : Around} {E : Value → Shared → Prop} {s : Shared} {a₀ : Array Keyed} {st : SortSt}
theorem minrun_eq {n : Nat} (h1 : 64 ≤ n) (h2 : n < 128) : minRun' n n 0 = n / 2 + n % 2 := by
  obtain ⟨f, hf⟩ : ∃ f, n = f + 2 := ⟨n - 2, by omega⟩
  have e : minRun' (f + 1 + 1) n 0 = n / 2 + n % 2 := by
    rw [minRun'_succ, if_neg (by omega), minRun'_succ, if_pos (by omega)]
    omega
  rwa [← show n = f + 1 + 1 from by omega] at e
theorem w_runs {Q : Unit → SortSt → Prop} (h0 : IntKeys a₀) (B : TB a₀ #[] st) (h64 : 64 ≤ a₀.size) (h128 : a₀.size < 128)
    (h : ∀ st', (arrOf st').Perm a₀ → failedOf st' = none → SortedTo (arrOf st') a₀.size → Q () st') : wpS (model prog w) A E s sortRuns' Q st := by
  have fin1 : ∀ {p : Pend} {st' : SortSt}, TB a₀ p st' → Seg (arrOf st') 0 a₀.size → Q () st' := fun B' s' => h _ B'.perm B'.ff fun i j h1 h2 => s' i j (Nat.zero_le _) h1 h2
  rw [sortRuns'_eq]
  refine wpS_bind (wpS_get ?_)
  dsimp only
  simp only [B.size, minrun_eq h64 h128]
  refine wpS_bind (wpS_mono (wpS_forRange
    (I := fun x c st' => (x = 0 ∧ c = (none, 0) ∧ TB a₀ #[] st') ∨ (x = 1 ∧ ∃ n1, c = (none, n1) ∧ a₀.size / 2 + a₀.size % 2 ≤ n1 ∧ n1 ≤ a₀.size ∧ TB a₀ #[(0, n1, 0)] st' ∧ Seg (arrOf st') 0 n1) ∨
      (2 ≤ x ∧ ∃ n1 pw, c = (none, a₀.size) ∧ 0 < n1 ∧ n1 < a₀.size ∧ TB a₀ #[(0, n1, pw), (n1, a₀.size - n1, 0)] st' ∧ Seg (arrOf st') 0 n1 ∧ Seg (arrOf st') n1 a₀.size))
    (Q := fun c st' => c = (none, a₀.size) ∧ ((TB a₀ #[(0, a₀.size, 0)] st' ∧ Seg (arrOf st') 0 a₀.size) ∨
      ∃ n1 pw, 0 < n1 ∧ n1 < a₀.size ∧ TB a₀ #[(0, n1, pw), (n1, a₀.size - n1, 0)] st' ∧ Seg (arrOf st') 0 n1 ∧ Seg (arrOf st') n1 a₀.size)) ?turn ?fin (.inl ⟨rfl, rfl, B⟩)) ?post)
  case fin =>
    rintro c st' (⟨hx, _⟩ | ⟨hx, _⟩ | ⟨_, n1, pw, e, r⟩)
    · omega
    · omega
    · exact ⟨e, .inr ⟨n1, pw, r⟩⟩
  case turn =>
    rintro x c st' _ hx (⟨rfl, rfl, B1⟩ | ⟨rfl, n1, rfl, x1, x2, B1, s1⟩ | ⟨hx2, n1, pw, rfl, x1, x2, B1, s1, s2⟩)
    · dsimp only
      rw [if_neg (by omega)]
      simp only [Nat.sub_zero, Nat.zero_add]
      refine wpS_bind (w_run h0 (by omega) (by omega) B1 fun m st2 B2 m1 m2 s2 l2 => ?_)
      dsimp only
      rw [Nat.zero_add] at s2
      by_cases hlt : m < a₀.size / 2 + a₀.size % 2
      · rw [if_pos hlt]
        refine wpS_bind (wpS_lift (wpAny_rule ⟨rfl, ?_⟩))
        refine wpS_bind (w_bin (lo := 0) h0 (by omega) (by omega) B2 (by rw [Nat.zero_add]; exact s2) fun st3 B3 s3 l3 => ?_)
        rw [Nat.zero_add, show min a₀.size (a₀.size / 2 + a₀.size % 2) = a₀.size / 2 + a₀.size % 2 from by omega] at s3
        simp only [Bool.not_true, Bool.false_eq_true, if_false]
        refine wpS_bind (wpS_get ?_)
        rw [show (pendingOf st3).back? = none from by rw [B3.pd]; rfl]
        dsimp only
        refine wpS_bind (wpS_modify (wpS_pure (.inr (.inl ⟨trivial, _, rfl, by omega, by omega, ⟨B3.perm, B3.kd, B3.ff, ?_⟩, ?_⟩))))
        · show (pendingOf st3).push _ = _
          rw [B3.pd]; rfl
        · rw [show min a₀.size (a₀.size / 2 + a₀.size % 2) = a₀.size / 2 + a₀.size % 2 from by omega]; exact s3
      · rw [if_neg hlt]
        refine wpS_bind (wpS_get ?_)
        rw [show (pendingOf st2).back? = none from by rw [B2.pd]; rfl]
        dsimp only
        refine wpS_bind (wpS_modify (wpS_pure (.inr (.inl ⟨trivial, m, rfl, by omega, m2, ⟨B2.perm, B2.kd, B2.ff, ?_⟩, s2⟩))))
        show (pendingOf st2).push _ = _
        rw [B2.pd]; rfl
    · dsimp only
      by_cases hge : n1 ≥ a₀.size
      · rw [if_pos hge]
        have e : n1 = a₀.size := by omega
        subst e
        exact wpS_pure ⟨rfl, .inl ⟨B1, s1⟩⟩
      · rw [if_neg hge]
        refine wpS_bind (w_run h0 (by omega) (by omega) B1 fun m st2 B2 m1 m2 s2 l2 => ?_)
        dsimp only
        by_cases hlt : m < a₀.size / 2 + a₀.size % 2
        · rw [if_pos hlt]
          refine wpS_bind (wpS_lift (wpAny_rule ⟨rfl, ?_⟩))
          rw [show min (a₀.size - n1) (a₀.size / 2 + a₀.size % 2) = a₀.size - n1 from by omega]
          refine wpS_bind (w_bin h0 (by omega) (by omega) B2 s2 fun st3 B3 s3 l3 => ?_)
          rw [show n1 + (a₀.size - n1) = a₀.size from by omega] at s3
          simp only [Bool.not_true, Bool.false_eq_true, if_false]
          refine wpS_bind (wpS_get ?_)
          rw [show (pendingOf st3).back? = some (0, n1, 0) from by rw [B3.pd]; rfl]
          dsimp only
          refine wpS_bind (wpS_mono (wpS_forRange (I := fun _ c st4 => st4 = st3 ∧ c = (none, ())) (Q := fun c st4 => st4 = st3 ∧ c = (none, ())) ?_ (fun _ _ q => q) ⟨rfl, rfl⟩) ?_)
          · rintro x c st4 _ _ ⟨rfl, rfl⟩
            refine wpS_bind (wpS_get ?_)
            rw [if_neg (by rw [B3.pd]; simp)]
            exact wpS_pure ⟨rfl, rfl⟩
          · rintro c st4 ⟨rfl, rfl⟩
            dsimp only
            refine wpS_bind (wpS_modify (wpS_bind (wpS_modify (wpS_pure (.inr (.inr ⟨Nat.le_refl _, n1, power' a₀.size (2 * 0 + n1) (2 * 0 + n1 + n1 + (a₀.size - n1)) a₀.size, ?_, by omega, by omega, ⟨B3.perm, B3.kd, B3.ff, ?_⟩, ?_, ?_⟩))))))
            · rw [show n1 + (a₀.size - n1) = a₀.size from by omega]
            · show ((pendingOf st4).modify ((pendingOf st4).size - 1) _).push _ = _
              rw [B3.pd]; rfl
            · exact fun i j a b c => by
                show K (arrOf st4) i ≤ K (arrOf st4) j
                rw [(l3.trans l2) i (by omega), (l3.trans l2) j (by omega)]
                exact s1 i j a b c
            · exact s3
        · rw [if_neg hlt]
          have em : m = a₀.size - n1 := by omega
          subst em
          rw [show n1 + (a₀.size - n1) = a₀.size from by omega] at s2
          refine wpS_bind (wpS_get ?_)
          rw [show (pendingOf st2).back? = some (0, n1, 0) from by rw [B2.pd]; rfl]
          dsimp only
          refine wpS_bind (wpS_mono (wpS_forRange (I := fun _ c st4 => st4 = st2 ∧ c = (none, ())) (Q := fun c st4 => st4 = st2 ∧ c = (none, ())) ?_ (fun _ _ q => q) ⟨rfl, rfl⟩) ?_)
          · rintro x c st4 _ _ ⟨rfl, rfl⟩
            refine wpS_bind (wpS_get ?_)
            rw [if_neg (by rw [B2.pd]; simp)]
            exact wpS_pure ⟨rfl, rfl⟩
          · rintro c st4 ⟨rfl, rfl⟩
            dsimp only
            refine wpS_bind (wpS_modify (wpS_bind (wpS_modify (wpS_pure (.inr (.inr ⟨Nat.le_refl _, n1, power' a₀.size (2 * 0 + n1) (2 * 0 + n1 + n1 + (a₀.size - n1)) a₀.size, ?_, by omega, by omega, ⟨B2.perm, B2.kd, B2.ff, ?_⟩, ?_, ?_⟩))))))
            · rw [show n1 + (a₀.size - n1) = a₀.size from by omega]
            · show ((pendingOf st4).modify ((pendingOf st4).size - 1) _).push _ = _
              rw [B2.pd]; rfl
            · exact fun i j a b c => by
                show K (arrOf st4) i ≤ K (arrOf st4) j
                rw [l2 i (by omega), l2 j (by omega)]
                exact s1 i j a b c
            · exact s2
    · dsimp only
      rw [if_pos (Nat.le_refl _)]
      exact wpS_pure ⟨rfl, .inr ⟨n1, pw, x1, x2, B1, s1, s2⟩⟩
  case post =>
    rintro c st' ⟨rfl, hc⟩
    dsimp only
    rcases hc with ⟨B1, s1⟩ | ⟨n1, pw, x1, x2, B1, s1, s2⟩
    · refine wpS_bind (wpS_mono (wpS_forRange (I := fun _ c st4 => st4 = st' ∧ c = (none, ())) (Q := fun c st4 => st4 = st' ∧ c = (none, ())) ?_ (fun _ _ q => q) ⟨rfl, rfl⟩) ?_)
      · rintro x c st4 _ _ ⟨rfl, rfl⟩
        refine wpS_bind (wpS_get ?_)
        rw [if_pos (by rw [B1.pd]; simp)]
        exact wpS_pure ⟨rfl, rfl⟩
      · rintro c st4 ⟨rfl, rfl⟩
        exact wpS_pure (fin1 B1 s1)
    · refine wpS_bind (wpS_mono (wpS_forRange (I := fun x c st4 => c = (none, ()) ∧ ((x = 0 ∧ st4 = st') ∨ (0 < x ∧ TB a₀ #[(0, a₀.size, pw)] st4 ∧ Seg (arrOf st4) 0 a₀.size)))
        (Q := fun c st4 => c = (none, ()) ∧ TB a₀ #[(0, a₀.size, pw)] st4 ∧ Seg (arrOf st4) 0 a₀.size) ?_ ?_ ⟨rfl, .inl ⟨rfl, rfl⟩⟩) ?_)
      · rintro x c st4 _ _ ⟨rfl, ⟨rfl, rfl⟩ | ⟨hx, B4, s4⟩⟩
        · refine wpS_bind (wpS_get ?_)
          rw [if_neg (by rw [B1.pd]; simp)]
          have e2 : (pendingOf st4).size - 2 = 0 := by rw [B1.pd]; rfl
          have e3 : ∀ (c : Prop) [Decidable c], (if c then 0 - 1 else (0 : Nat)) = 0 := fun c _ => by split <;> rfl
          simp only [e2]
          rw [e3]
          refine wpS_bind (w_mAt h0 x1 x2 B1 s1 s2 fun st5 B5 s5 => ?_)
          simp only [Bool.not_true, Bool.false_eq_true, if_false]
          exact wpS_pure ⟨rfl, .inr ⟨by omega, B5, s5⟩⟩
        · refine wpS_bind (wpS_get ?_)
          rw [if_pos (by rw [B4.pd]; simp)]
          exact wpS_pure ⟨rfl, B4, s4⟩
      · rintro c st4 ⟨e, ⟨hx, _⟩ | ⟨_, r⟩⟩
        · omega
        · exact ⟨e, r⟩
      · rintro c st4 ⟨rfl, B4, s4⟩
        exact wpS_pure (fin1 B4 s4)
end
end Tim
end
section
set_option maxHeartbeats 2000000
set_option maxRecDepth 100000
set_option linter.unusedVariables false
set_option linter.unusedSimpArgs false
namespace Tim
open PySem PyProof.Rows
section
variable {prog : Program} {w : World} {A : Around} {E : Value → Shared → Prop} {s : Shared}
theorem run_pairs {vs : List Value} {ns : List Int} {arr : Array Keyed} {Q : Unit × SortSt → Shared → Prop} (hI : IntsAre vs ns) (h64 : 64 ≤ vs.length) (h128 : vs.length < 128) (hp : arr.Perm (pairsOf vs))
    (h : ∀ st', (arrOf st').Perm (pairsOf vs) → failedOf st' = none → SortedTo (arrOf st') (pairsOf vs).size → Q ((), st') s) :
    wpAny (model prog w) A (sortRuns'.run (SortSt.mk' oneType' arr #[] 7 none)) Q E s := by
  have B : TB (pairsOf vs) #[] (SortSt.mk' oneType' arr #[] 7 none) := ⟨hp, rfl, rfl, rfl⟩
  have z := w_runs (prog := prog) (w := w) (A := A) (E := E) (s := s) (Q := fun _ st' => (arrOf st').Perm (pairsOf vs) ∧ failedOf st' = none ∧ SortedTo (arrOf st') (pairsOf vs).size)
    hI.intKeys B (by rw [pairsOf_size]; exact h64) (by rw [pairsOf_size]; exact h128) fun st' a b c => ⟨a, b, c⟩
  refine wpAny_mono z (fun r s' hr => ?_) fun _ _ e => e
  obtain ⟨⟨⟩, st'⟩ := r
  obtain ⟨rfl, a, b, c⟩ := hr
  exact h st' a b c
theorem two_of {vs : List Value} (h : 64 ≤ vs.length) : ∃ x y r, vs = x :: y :: r := by
  match vs, h with
  | [], h => simp at h
  | [_], h => simp at h
  | x :: y :: r, _ => exact ⟨x, y, r, rfl⟩
theorem fits {vs : List Value} {st' : SortSt} (h128 : vs.length < 128) (hp : (arrOf st').Perm (pairsOf vs)) : ((arrOf st').map (·.2)).size ≤ sizeLine + 1 := by
  rw [Array.size_map, hp.size_eq, pairsOf_size, sizeLine_eq]; omega
theorem mid_at {h : Heap} {a : Addr} {vs : List Value} {e : Nat} (ha : a < h.objs.size) (ho1 : (h.update a (Obj.mapSeq fun _ => #[])).get? a = some (seqObj "list" #[] e)) :
    (((h.update a (Obj.mapSeq fun _ => #[])).push (seqObj "tuple" vs.toArray 0)).push (seqObj "list" #[] 0)).get? a = some (seqObj "list" #[] e) := by
  have l1 : a < (h.update a (Obj.mapSeq fun _ => #[])).objs.size := by rw [Heap.size_update]; exact ha
  exact Heap.get?_push_of_some _ (Heap.get?_push_of_some _ ho1)
theorem w_sort {a : Addr} {vs : List Value} {ns : List Int} {n : Nat} {P : Fin → Shared → Prop} (ho : s.heap.get? a = some (seqObj "list" vs.toArray n)) (hI : IntsAre vs ns) (h64 : 64 ≤ vs.length) (h128 : vs.length < 128)
    (h : ∀ (out : Array Value) (ns' : List Int), IntsAre out.toList ns' → ns'.Perm ns → ns'.Pairwise (· ≤ ·) → P (.done (.ret .none)) { s with heap := sortedHeap s.heap a vs out }) :
    wpAny (model prog w) A (Builtin.«list.sort» ⟨[.ref a], []⟩) P E s := by
  obtain ⟨e1, ho1⟩ : ∃ e, (s.heap.update a (Obj.mapSeq fun _ => #[])).get? a = some (seqObj "list" #[] e) := ⟨_, get?_update_seq ho (fun _ => #[])⟩
  have ho6 := mid_at (vs := vs) (Heap.lt_size ho) ho1
  rw [list_sort_plain]
  refine wpAny_bind (listItems_at ho rfl (wpAny_bind (listUpdate_at ho rfl (wpAny_bind (seqEpoch_at ho1 rfl (wpAny_bind (wpAny_newTuple (wpAny_bind (wpAny_newList (wpAny_holding ?_))))))))))
  have n2 : ¬ vs.toArray.size < 2 := by simp; omega
  rw [if_neg n2, if_neg n2]
  have kk : keyKind' vs.toArray = pure oneType' := by
    obtain ⟨x, y, r, rfl⟩ := two_of h64
    exact keyKind_ints hI
  rw [kk]
  refine wpAny_bind (wpAny_pure (wpAny_bind (run_pairs hI h64 h128 (Array.Perm.refl _) fun st' hp hf hs => ?_)))
  dsimp only
  refine wpAny_bind (seqEpoch_at ho6 rfl (wpAny_bind (listUpdate_at ho6 rfl ?_ (hsz2 := fits h128 hp))))
  rw [hf]
  simp only [bne_self_eq_false, Bool.false_eq_true, if_false]
  obtain ⟨ns', x1, x2, x3⟩ := sorted_out hI hp hs
  exact wpAny_pure (h _ ns' x1 x2 x3)
theorem w_sortR {a : Addr} {vs : List Value} {ns : List Int} {n : Nat} {P : Fin → Shared → Prop} (ho : s.heap.get? a = some (seqObj "list" vs.toArray n)) (hI : IntsAre vs ns) (h64 : 64 ≤ vs.length) (h128 : vs.length < 128)
    (h : ∀ (out : Array Value) (ns' : List Int), IntsAre out.toList ns' → ns'.Perm ns → Ordered true ns' → P (.done (.ret .none)) { s with heap := sortedHeap s.heap a vs out }) :
    wpAny (model prog w) A (Builtin.«list.sort» ⟨[.ref a], [(Str.ofString "reverse", .bool true)]⟩) P E s := by
  obtain ⟨e1, ho1⟩ : ∃ e, (s.heap.update a (Obj.mapSeq fun _ => #[])).get? a = some (seqObj "list" #[] e) := ⟨_, get?_update_seq ho (fun _ => #[])⟩
  have ho6 := mid_at (vs := vs) (Heap.lt_size ho) ho1
  rw [list_sort_rev]
  refine wpAny_bind (listItems_at ho rfl (wpAny_bind (listUpdate_at ho rfl (wpAny_bind (seqEpoch_at ho1 rfl (wpAny_bind (wpAny_newTuple (wpAny_bind (wpAny_newList (wpAny_holding ?_))))))))))
  simp only [if_true]
  refine wpAny_bind (wpAny_rule ?_)
  have n2 : ¬ vs.toArray.size < 2 := by simp; omega
  rw [if_neg n2, if_neg n2]
  have kk : keyKind' vs.toArray = pure oneType' := by
    obtain ⟨x, y, r, rfl⟩ := two_of h64
    exact keyKind_ints hI
  rw [kk]
  have pr : (vs.toArray.zip vs.toArray).reverse.Perm (pairsOf vs) := Array.perm_iff_toList_perm.mpr (by rw [Array.toList_reverse]; exact List.reverse_perm _)
  refine wpAny_bind (wpAny_pure (wpAny_bind (run_pairs hI h64 h128 pr fun st' hp hf hs => ?_)))
  dsimp only
  refine wpAny_bind (seqEpoch_at ho6 rfl (wpAny_bind (listUpdate_at ho6 rfl ?_ (hsz2 := by rw [Array.size_reverse]; exact fits h128 hp))))
  rw [hf]
  simp only [bne_self_eq_false, Bool.false_eq_true, if_false]
  obtain ⟨ns', x1, x2, x3⟩ := sorted_out_rev hI hp hs true
  rw [if_pos rfl] at x1
  exact wpAny_pure (h _ ns' x1 x2 x3)
theorem mk_at (h : Heap) (vs : List Value) : ((h.push (seqObj "list" #[] 0)).update h.objs.size (Obj.mapSeq (· ++ vs.toArray))).objs.size = h.objs.size + 1 ∧
    (((h.push (seqObj "list" #[] 0)).update h.objs.size (Obj.mapSeq (· ++ vs.toArray))).push (seqObj "list" vs.toArray 0)).get? (h.objs.size + 1) = some (seqObj "list" vs.toArray 0) := by
  have z : ((h.push (seqObj "list" #[] 0)).update h.objs.size (Obj.mapSeq (· ++ vs.toArray))).objs.size = h.objs.size + 1 := by rw [Heap.size_update, size_push']
  exact ⟨z, by rw [← z]; exact Heap.get?_push_size _ rfl⟩
theorem sortedI {l : Addr} {vs : List Value} {ns : List Int} {Q : Value → Shared → Prop} (hl : s.heap.IsList l vs.toArray) (hI : IntsAre vs ns) (h128 : vs.length < 128)
    (h : ∀ (out : Array Value) (ns' : List Int), IntsAre out.toList ns' → ns'.Perm ns → ns'.Pairwise (· ≤ ·) → Q (.ref (s.heap.objs.size + 1)) { s with heap := sortedAll s.heap vs out }) :
    wpAny (model prog w) A (call (.builtin "sorted") [.ref l]) Q E s := by
  by_cases h64 : vs.length < 64
  · exact sorted_ints hl hI h64 h
  · obtain ⟨z1, z2⟩ := mk_at s.heap vs
    refine Calls.call_function_entry kind_sorted plain_sorted entry_sorted (args_sorted1 _) ?_
    unfold Builtin.«sorted»
    refine wpAny_bind (m := checkCount "sorted" 1 1 _) (wpAny_pure (wpAny_bind (collect_list hl (wpAny_bind (wpAny_newList ?_)) (by rw [sizeLine_eq]; omega))))
    rw [z1]
    refine wpAny_bind (wpAny_holding (wpAny_call_entry slot_list_sort ⟨_, z2, rfl⟩ entry_list_sort (w_sort z2 hI (by omega) h128 fun out ns' a1 a2 a3 => ⟨_, rfl, wpAny_pure ⟨_, rfl, h out ns' a1 a2 a3⟩⟩) (args_list_sort _)))
theorem sortedR {l : Addr} {vs : List Value} {ns : List Int} {Q : Value → Shared → Prop} (hl : s.heap.IsList l vs.toArray) (hI : IntsAre vs ns) (h128 : vs.length < 128)
    (h : ∀ (out : Array Value) (ns' : List Int), IntsAre out.toList ns' → ns'.Perm ns → ns'.Pairwise (· ≥ ·) → Q (.ref (s.heap.objs.size + 1)) { s with heap := sortedAll s.heap vs out }) :
    wpAny (model prog w) A (call (.builtin "sorted") [.ref l] [(Str.ofString "reverse", .bool true)]) Q E s := by
  by_cases h64 : vs.length < 64
  · exact sorted_ints_rev hl hI h64 h
  · obtain ⟨z1, z2⟩ := mk_at s.heap vs
    refine call_function_entry_kw kind_sorted plain_sorted entry_sorted (args_sorted_rev _ _) ?_
    unfold Builtin.«sorted»
    refine wpAny_bind (m := checkCount "sorted" 1 1 _) (wpAny_pure (wpAny_bind (collect_list hl (wpAny_bind (wpAny_newList ?_)) (by rw [sizeLine_eq]; omega))))
    rw [z1]
    refine wpAny_bind (wpAny_holding (wpAny_call_entry_kw slot_list_sort ⟨_, z2, rfl⟩ entry_list_sort (w_sortR z2 hI (by omega) h128 fun out ns' a1 a2 a3 => ⟨_, rfl, wpAny_pure ⟨_, rfl, h out ns' a1 a2 a3⟩⟩) (args_list_sort_rev _ _)))
end
end Tim
end
section
set_option maxHeartbeats 2000000
set_option maxRecDepth 100000
set_option linter.unusedVariables false
set_option linter.unusedSimpArgs false
namespace Tim
open PySem PyProof.Rows
theorem ext_listV {α : Type} (a : Array α) (i : Nat) : (a.extract i a.size).toList = a.toList.drop i := by
  rw [Array.toList_extract, List.extract_eq_take_drop, List.take_of_length_le]
  rw [List.length_drop, Array.length_toList]
  exact Nat.le_refl _
theorem ext_listV0 {α : Type} (a : Array α) (i : Nat) : (a.extract 0 i).toList = a.toList.take i := by
  rw [Array.toList_extract, List.extract_eq_take_drop, List.drop_zero, Nat.sub_zero]
end Tim
end
section
set_option maxHeartbeats 2000000
set_option maxRecDepth 100000
set_option linter.unusedVariables false
set_option linter.unusedSimpArgs false
namespace L2
open PySem PySem.Spec PyProof.Rows
def clFrom (env : Env) : List (Str × NameKind) → List (Str × Addr) → List (Str × Addr)
  | [], acc => acc
  | (n, k) :: r, acc => if k == .free then clFrom env r ((n, (env.cells.lookup n).getD 0) :: acc) else clFrom env r acc
def clOf (scope : Scope) (env : Env) : List (Str × Addr) := clFrom env scope.names []
theorem closure_go {env : Env} : ∀ (l : List (Str × NameKind)) (acc : List (Str × Addr)), (∀ y ∈ l, y.2 = .free → (env.cells.lookup y.1).isSome = true) →
    (forIn l acc fun x cs => if x.2 == NameKind.free then (do let c ← cellOf env x.1; pure (ForInStep.yield ((x.1, c) :: cs))) else pure (ForInStep.yield cs) : Sem (List (Str × Addr))) = pure (clFrom env l acc)
  | [], acc, _ => rfl
  | (n, k) :: r, acc, h => by
    have hr : ∀ y ∈ r, y.2 = .free → (env.cells.lookup y.1).isSome = true := fun y hy => h y (List.mem_cons_of_mem _ hy)
    rw [List.forIn_cons]
    cases hk : k == NameKind.free with
    | false =>
      simp only [hk, Bool.false_eq_true, if_false]
      show (forIn r acc _ : Sem _) = pure (clFrom env ((n, k) :: r) acc)
      rw [closure_go r acc hr]
      have e2 : clFrom env ((n, k) :: r) acc = clFrom env r acc := by
        show (if (k == .free) = true then _ else _) = _
        rw [hk]; rfl
      rw [e2]
    | true =>
      have hf : k = .free := by simpa using hk
      obtain ⟨c, hc⟩ := Option.isSome_iff_exists.mp (h (n, k) List.mem_cons_self hf)
      have ec : cellOf env n = pure c := by unfold cellOf; rw [hc]
      simp only [hk, if_true, ec]
      show (forIn r ((n, c) :: acc) _ : Sem _) = pure (clFrom env ((n, k) :: r) acc)
      rw [closure_go r _ hr]
      have e2 : clFrom env ((n, k) :: r) acc = clFrom env r ((n, (env.cells.lookup n).getD 0) :: acc) := by
        show (if (k == .free) = true then _ else _) = _
        rw [hk]; rfl
      rw [e2, hc]; rfl
theorem closure_eq {scope : Scope} {env : Env} (h : ∀ y ∈ scope.names, y.2 = .free → (env.cells.lookup y.1).isSome = true) : closureFor scope env = pure (clOf scope env) := by
  have z := closure_go scope.names [] h
  unfold closureFor
  show (forIn scope.names [] _ >>= fun cs => pure cs : Sem (List (Str × Addr))) = _
  rw [show (forIn scope.names [] _ : Sem (List (Str × Addr))) = pure (clOf scope env) from z]
  rfl
theorem mem_clFrom {env : Env} {x : Str} {c : Addr} : ∀ {l : List (Str × NameKind)} {acc : List (Str × Addr)}, (x, c) ∈ clFrom env l acc → (x, c) ∈ acc ∨ ((x, NameKind.free) ∈ l ∧ c = (env.cells.lookup x).getD 0)
  | [], acc, h => .inl h
  | (n, k) :: r, acc, h => by
    unfold clFrom at h
    split at h
    · rename_i hk
      have hf : k = .free := by simpa using hk
      rcases mem_clFrom h with z | ⟨z1, z2⟩
      · rcases List.mem_cons.mp z with e | e
        · cases e
          exact .inr ⟨by rw [hf]; exact List.mem_cons_self, rfl⟩
        · exact .inl e
      · exact .inr ⟨List.mem_cons_of_mem _ z1, z2⟩
    · rcases mem_clFrom h with z | ⟨z1, z2⟩
      · exact .inl z
      · exact .inr ⟨List.mem_cons_of_mem _ z1, z2⟩
theorem keys_clFrom {env : Env} {x : Str} : ∀ {l : List (Str × NameKind)} {acc : List (Str × Addr)}, ((x, NameKind.free) ∈ l ∨ ∃ c, (x, c) ∈ acc) → ∃ c, (x, c) ∈ clFrom env l acc
  | [], acc, h => by
    rcases h with h | h
    · simp at h
    · exact h
  | (n, k) :: r, acc, h => by
    unfold clFrom
    split
    · rename_i hk
      refine keys_clFrom ?_
      rcases h with h | ⟨c, h⟩
      · rcases List.mem_cons.mp h with e | e
        · cases e
          exact .inr ⟨_, List.mem_cons_self⟩
        · exact .inl e
      · exact .inr ⟨c, List.mem_cons_of_mem _ h⟩
    · rename_i hk
      refine keys_clFrom ?_
      rcases h with h | h
      · rcases List.mem_cons.mp h with e | e
        · cases e
          exact absurd rfl hk
        · exact .inl e
      · exact .inr h
theorem lookup_of_key {x : Str} : ∀ {l : List (Str × Addr)} {c : Addr}, (x, c) ∈ l → ∃ d, l.lookup x = some d
  | [], _, h => by simp at h
  | (n, b) :: r, c, h => by
    cases hx : x == n with
    | true => exact ⟨b, by simp [List.lookup_cons, hx]⟩
    | false =>
      rcases List.mem_cons.mp h with e | e
      · cases e
        simp at hx
      · obtain ⟨d, hd⟩ := lookup_of_key e
        exact ⟨d, by simp [List.lookup_cons, hx, hd]⟩
structure CSc (X : Cx) (own fr : List Str) (ixs : List Nat) (scope : Scope) : Prop where
  kind : scope.kind = .function
  nocell : scope.names.all (fun y => y.2 != .cell) = true
  free : scope.names.all (fun y => y.2 != .free || X.env.kindOf y.1 == some .cell || X.env.kindOf y.1 == some .free) = true
  locs : scope.names.all (fun y => y.2 != .local || scope.names.lookup y.1 == some .local) = true
  frs : ixs.map (fun i => X.N[i]?) = fr.map some
  vis : fr.all (fun x => X.env.kindOf x == some .cell || X.env.kindOf x == some .free) = true
  nofr : fr.all (fun x => scope.names.lookup x != some .local) = true
def cxC (X : Cx) (own fr : List Str) (scope : Scope) (fp : List Addr) (pins : List (Addr × Obj)) (s3 : Shared) (H3 : Hp) : Cx :=
  { X with N := own ++ fr, s₀ := s3, H₀ := H3, env := compEnvC scope (clOf scope X.env) s3.heap.objs.size X.env, outer := X.stack, stack := X.stack, ex := fp, fn := fun _ => false, pn := X.pn ++ pins, xe := fun _ _ => False }
def stC (own : List Str) (ixs : List Nat) (σ : St) : St := List.replicate own.length none ++ ixs.map fun i => (σ[i]?).join
section
variable {X : Cx} {own fr : List Str} {ixs : List Nat} {scope : Scope} {fp : List Addr} {pins : List (Addr × Obj)} {σ : St} {H : Hp} {s : Shared}
theorem relabel_mem {env : Env} {x : Str} {k : NameKind} (h : (relabel scope env).names.lookup x = some k) : (x, k) ∈ scope.names ∨ ((x, NameKind.free) ∈ scope.names ∧ k = .cell) := by
  have m := PySem.mem_of_lookup h
  obtain ⟨⟨n, k'⟩, hm, e⟩ := List.mem_map.mp (show (x, k) ∈ scope.names.map _ from m)
  dsimp only at e
  split at e
  · rename_i hc
    cases e
    have hf : k' = .free := by
      simp only [Bool.and_eq_true, beq_iff_eq] at hc
      exact hc.1.1
    subst hf
    exact .inr ⟨hm, rfl⟩
  · cases e
    exact .inl hm
theorem CSc.cellIn (S : CSc X own fr ixs scope) (ok : X.Ok) {x : Str} (h : (x, NameKind.free) ∈ scope.names) : ∃ c, X.env.cells.lookup x = some c := by
  have z := (List.all_eq_true.mp S.free) _ h
  simp only [bne_self_eq_false, Bool.false_or, Bool.or_eq_true, beq_iff_eq] at z
  exact ok.has x z
theorem CSc.hcl (S : CSc X own fr ixs scope) (ok : X.Ok) : ∀ y ∈ scope.names, y.2 = .free → (X.env.cells.lookup y.1).isSome = true := fun ⟨x, k⟩ hy hk => by
  have hk : k = .free := hk
  subst hk
  obtain ⟨c, e⟩ := S.cellIn ok hy
  rw [e]; rfl
theorem CSc.cl_lookup (S : CSc X own fr ixs scope) (ok : X.Ok) {x : Str} {c : Addr} (h : (clOf scope X.env).lookup x = some c) : X.env.cells.lookup x = some c ∧ (x, NameKind.free) ∈ scope.names := by
  rcases mem_clFrom (PySem.mem_of_lookup h) with z | ⟨z1, z2⟩
  · simp at z
  · obtain ⟨d, e⟩ := S.cellIn ok z1
    rw [e] at z2
    rw [e, z2]
    exact ⟨rfl, z1⟩
theorem CSc.cl_of (S : CSc X own fr ixs scope) {x : Str} (h : (x, NameKind.free) ∈ scope.names) : ∃ c, (clOf scope X.env).lookup x = some c := by
  obtain ⟨c, e⟩ := keys_clFrom (env := X.env) (acc := []) (.inl h)
  exact lookup_of_key e
theorem inv_comp {s4 : Shared} {m4 : Str → Option Value} (S : CSc X own fr ixs scope) (I : Inv X pins σ H s) (hf : ∀ b ∈ fp, FpOk X pins H b) (hlt : ∀ b ∈ fp, b < s.heap.objs.size)
    (os : s4.os = s.os) (bare : AllBare s4.gens) (kept : ∀ b o, s.heap.get? b = some o → s4.heap.get? b = some o) (ns : s4.heap.Ns s.heap.objs.size m4) :
    Inv (cxC X own fr scope fp pins s H) [] (stC own ixs σ) H s4 := by
  have C0 : H s.heap.objs.size = none := I.hok.fresh (Nat.le_refl _)
  have cne : ∀ x c, (clOf scope X.env).lookup x = some c → c ≠ s.heap.objs.size := fun x c e z => by
    obtain ⟨e1, _⟩ := S.cl_lookup I.ok e
    obtain ⟨v, q⟩ := I.cell x c e1
    exact absurd q.lt (by rw [z]; exact Nat.lt_irrefl _)
  refine ⟨⟨I.ok.mod, S.kind, I.ok.glob, I.ok.blt, Nat.le_refl _, fun x y c h1 h2 => ?_, fun x hx => ?_, fun x c h => absurd h Bool.false_ne_true, I.ok.hd, I.ok.frames, .inl rfl, fun b hb => ⟨Nat.ne_of_lt (hlt b hb), fun x c e z => ?_⟩, I.bs, Nat.le_trans I.ok.bsz I.sz, fun b o e hb => ?_, fun b hb hbs => ?_, I.stack, I.stkFree⟩,
    os, bare, Un.kept kept, ⟨m4, ns, fun i x v h1 h2 h3 => ?_⟩, fun x c e => ?_, C0, fun x c e => ?_, fun q hq => ?_, I.hok.kept kept, ?_⟩
  · exact I.ok.inj x y c (S.cl_lookup I.ok h1).1 (S.cl_lookup I.ok h2).1
  · have hx : (relabel scope X.env).names.lookup x = some .cell ∨ (relabel scope X.env).names.lookup x = some .free := hx
    have fm : (x, NameKind.free) ∈ scope.names := by
      rcases hx with hx | hx
      · rcases relabel_mem hx with z | ⟨z, _⟩
        · have q := (List.all_eq_true.mp S.nocell) _ z
          simp at q
        · exact z
      · rcases relabel_mem hx with z | ⟨z, _⟩
        · exact z
        · exact z
    exact S.cl_of fm
  · exact (hf b hb).2.2.2.2.1 x c (S.cl_lookup I.ok e).1 z
  · have f := (hf b hb).2.2.2.1
    rcases f with f | f
    · exact I.ok.noex b o e f
    · exact absurd (Nat.lt_of_lt_of_le (Heap.lt_size e) (Nat.le_trans I.ok.bsz f)) (Nat.lt_irrefl _)
  · rcases List.mem_cons.mp (I.stkSub b hbs) with z | z
    · exact (hf b hb).2.1 z
    · exact (hf b hb).2.2.1 z
  · have h1 : (own ++ fr)[i]? = some x := h1
    have h2 : (List.replicate own.length none ++ ixs.map fun i => (σ[i]?).join)[i]? = some (some v) := h2
    by_cases hi : i < own.length
    · rw [List.getElem?_append_left (by simpa using hi), List.getElem?_replicate, if_pos hi] at h2
      cases h2
    · rw [List.getElem?_append_right (by omega)] at h1
      rw [List.getElem?_append_right (by simpa using hi), List.length_replicate, List.getElem?_map] at h2
      have e3 := congrArg (fun l => l[i - own.length]?) S.frs
      simp only [List.getElem?_map, h1, Option.map_some] at e3
      cases e4 : ixs[i - own.length]? with
      | none => rw [e4] at h2; cases h2
      | some j =>
        rw [e4] at h2 e3
        simp only [Option.map_some, Option.some.injEq] at h2 e3
        have e5 : σ[j]? = some (some v) := by
          cases e6 : σ[j]? with
          | none => rw [e6] at h2; cases h2
          | some o => rw [e6] at h2; cases o with
            | none => cases h2
            | some v' => cases h2; rfl
        have vz := (List.all_eq_true.mp S.vis) x (List.mem_of_getElem? h1)
        simp only [Bool.or_eq_true, beq_iff_eq] at vz
        have vis : Vis X.env.scope x := by
          rcases vz with z | z
          · exact .inr (.inl z)
          · exact .inr (.inr z)
        obtain ⟨m, hn, hl⟩ := I.loc
        obtain ⟨u, r, lk⟩ := hl j x v e3 e5 vis
        refine ⟨u, r, ?_⟩
        rcases lk with ⟨k1, _⟩ | ⟨k1, c, e, z⟩
        · rcases vz with z | z
          · rw [z] at k1; cases k1
          · rw [z] at k1; cases k1
        · have nl := (List.all_eq_true.mp S.nofr) x (List.mem_of_getElem? h1)
          have kk : (compEnvC scope (clOf scope X.env) s.heap.objs.size X.env).kindOf x = some .cell ∨ (compEnvC scope (clOf scope X.env) s.heap.objs.size X.env).kindOf x = some .free := by
            rcases h3 with z | z | z
            · exfalso
              have z : (relabel scope X.env).names.lookup x = some .local := z
              rcases relabel_mem z with y | ⟨_, y⟩
              · have q := (List.all_eq_true.mp S.locs) _ y
                simp only [bne_self_eq_false, Bool.false_or, beq_iff_eq] at q
                rw [q] at nl
                simp at nl
              · cases y
            · exact .inl z
            · exact .inr z
          have fm : (x, NameKind.free) ∈ scope.names := by
            rcases kk with hx | hx
            · rcases relabel_mem hx with z | ⟨z, _⟩
              · have q := (List.all_eq_true.mp S.nocell) _ z
                simp at q
              · exact z
            · rcases relabel_mem hx with z | ⟨z, _⟩
              · exact z
              · exact z
          obtain ⟨c', e'⟩ := S.cl_of fm
          have ec := (S.cl_lookup I.ok e').1
          rw [e] at ec
          cases ec
          obtain ⟨oc, ho, hd⟩ := z
          exact .inr ⟨kk, c, e', ⟨oc, kept c oc ho, hd⟩⟩
  · obtain ⟨e1, _⟩ := S.cl_lookup I.ok e
    obtain ⟨v, oc, ho, hd⟩ := I.cell x c e1
    exact ⟨v, oc, kept c oc ho, hd⟩
  · exact I.freeC x c (S.cl_lookup I.ok e).1
  · have hq : q ∈ X.pn ++ pins := by simpa [cxC] using hq
    obtain ⟨a1, a2, a3, a4, a5⟩ := I.pin q hq
    refine ⟨kept _ _ a1, a2, Nat.ne_of_lt (Heap.lt_size a1), fun z => ?_, a5⟩
    rcases List.mem_cons.mp (I.stkSub _ z) with y | y
    · exact a3 y
    · exact a4 y
  · show (List.replicate own.length none ++ ixs.map fun i => (σ[i]?).join).length = (own ++ fr).length
    have e := congrArg List.length S.frs
    simp only [List.length_map] at e
    simp [e]
theorem Inv.block {H' : Hp} {s5 : Shared} {σ' : St} {pins' : List (Addr × Obj)} (I : Inv X pins σ H s) (hf : ∀ b ∈ fp, FpOk X pins H b) (J : Inv (cxC X own fr scope fp pins s H) pins' σ' H' s5) : Inv X pins σ H' s5 :=
  I.call' (ch := fp) J.os J.base J.hok J.bare fun b hb => ⟨(hf b hb).2.2.2.1, (hf b hb).2.1, (hf b hb).2.2.2.2.1, (hf b hb).2.2.2.2.2⟩
end
end L2
end
section
set_option maxHeartbeats 2000000
set_option maxRecDepth 100000
set_option linter.unusedVariables false
set_option linter.unusedSimpArgs false
namespace L2
open PySem PySem.Spec PyProof.Rows
def PTs (Y : Cx) (ifs : List Expr) (tc : TT) : Prop :=
  ∀ (pins : List (Addr × Obj)) (s : Shared) (σ : St) (H : Hp) (Q : Bool → Hp → Prop), Inv Y pins σ H s → tc σ H Q →
    wpAny (model Y.prog Y.w) Y.A (forIn ifs true fun c r => if r = true then do let ok ← isTrue c Y.env (eval c Y.env); pure (ForInStep.yield ok) else pure (ForInStep.yield r)) (TP Y pins σ Q) Y.xe s
def tYes : TT := fun _ H Q => Q true H
theorem pts_nil {Y : Cx} : PTs Y [] tYes := fun _ _ _ H _ I h => wpAny_tests_nil ⟨H, I, h⟩
theorem pts_one {Y : Cx} {c : Expr} {tc : TT} (h : PT Y c tc) : PTs Y [c] tc := fun pins s σ H Q I q => wpAny_tests_one (h pins s σ H Q I q)
def CTurn (J : It) (g : TG) (tc : TT) (te : TE) (D : Addr) (W : Nat → Nat → St → Hp → Prop) (Q : VK) : Prop :=
  ∀ i m σ' H', W i m σ' H' → (J.stop i H' ∧ Q (.ref D) H') ∨ (J.go i H' ∧ ∀ x H2, J.yld i H' x H2 → g x σ' H2 fun σ3 H3 => tc σ3 H3 fun b H4 =>
    if b = true then te σ3 H4 fun v H5 => ∃ acc, H5 D = some (.lst acc) ∧ acc.length < sizeLine ∧ ∃ m', m' < m ∧ W (i + 1) m' σ3 (upd H5 D (.lst (acc ++ [v]))) else ∃ m', m' < m ∧ W (i + 1) m' σ3 H4)
section
variable {Y : Cx} {tg elt iter : Expr} {ifs : List Expr} {scope : Scope} {pos : Pos} {it D : Addr} {fp : List Addr} {tn : Nat → Heap → Prop} {J : It} {pins : List (Addr × Obj)} {σ : St} {H : Hp} {s : Shared}
  {g : TG} {tc : TT} {te : TE} {W : Nat → Nat → St → Hp → Prop} {Q : VK}
theorem comp_loop (hc : Y.calm = true) (hx : Y.xe = fun _ _ => False) (T : Turn Y.prog Y.w Y.K tg J fp it tn) (hg : PG Y tg g) (ht : PTs Y ifs tc) (he : PE Y elt te) (I : Inv Y pins σ H s) (st : tn 0 s.heap)
    (f : ∀ b ∈ fp, FpOk Y pins H b) {m0 : Nat} (w0 : W 0 m0 σ H) (turn : CTurn J g tc te D W Q) {R : Result → Shared → Prop} (hR : ∀ s5 σ5 H5, Inv Y pins σ5 H5 s5 → Q (.ref D) H5 → R (.ok .next) s5) :
    codeAny (model Y.prog Y.w) Y.A (.compLoop (.ListComp elt [⟨tg, iter, ifs, 0⟩] scope pos) 0 (.ref it) (.ref D) Y.env) R s := by
  have stat : ∀ {H' : Hp}, (∀ b ∈ fp, H' b = none) → ∀ b ∈ fp, FpOk Y pins H' b := fun hn b hb => ⟨hn b hb, (f b hb).2⟩
  have never : ∀ {α : Type} {t : Sem α} {Q' : α → Shared → Prop} {E' : Value → Shared → Prop} {s' : Shared}, wpAny (model Y.prog Y.w) Y.A t Q' Y.xe s' → wpAny (model Y.prog Y.w) Y.A t Q' E' s' := fun h => by
    rw [hx] at h
    exact wpAny_mono h (fun _ _ z => z) fun _ _ z => z.elim
  refine codeAny_loop rfl (fun n s' => ∃ i σ' H', Inv Y pins σ' H' s' ∧ tn i s'.heap ∧ (∀ b ∈ fp, H' b = none) ∧ W i n σ' H') ?_ m0 ⟨0, σ, H, I, st, fun b hb => (f b hb).1, w0⟩
  rintro n s3 ⟨i, σ3, H3, I3, st3, fr3, w3⟩
  show wpAny _ Y.A ((compTurn (.ListComp elt [⟨tg, iter, ifs, 0⟩] scope pos) 0 (.ref it) (.ref D) Y.env).onRaise (fun x => do noteFrame x Y.env; theTreesLotGoes x)) _ _ s3
  refine wpAny_noted ?_
  rw [compTurn_list]
  refine wpAny_bind (wpAny_standAt (wpAny_bind (never ?_)))
  rcases turn i n σ3 H3 w3 with ⟨stop, qn⟩ | ⟨go, step⟩
  · refine thn (T.done Y rfl rfl rfl hc i pins s3 σ3 H3 Y.xe I3 (stat fr3) st3 stop) fun r s4 ⟨hr, I4⟩ => ?_
    subst hr
    exact wpAny_pure (hR s4 σ3 H3 I4 qn)
  · refine thn (T.item Y rfl rfl rfl hc i pins s3 σ3 H3 Y.xe I3 (stat fr3) st3 go) fun r s4 ⟨u, hr, h4⟩ => ?_
    subst hr
    refine wpAny_bind (never (thn h4 fun _ s5 ⟨x, H5, I5, r5, y5, st5, fr5⟩ => ?_))
    have I5' := I5.pinned (stat fr5) (T.obj _ _ st5)
    have back : ∀ {σ7 : St} {H7 : Hp} {s7 : Shared}, Inv Y (pins ++ pinsAt fp s5.heap) σ7 H7 s7 → ∀ {m' : Nat}, m' < n → W (i + 1) m' σ7 H7 → ∃ m, m < n ∧ ∃ i σ' H', Inv Y pins σ' H' s7 ∧ tn i s7.heap ∧ (∀ b ∈ fp, H' b = none) ∧ W i m σ' H' := fun {σ7 H7 s7} I7 {m'} hm w7 => by
      refine ⟨m', hm, i + 1, σ7, H7, I7.unpinned, T.keep _ _ _ st5 fun b hb o e => (I7.pin (b, o) (List.mem_append_right _ (List.mem_append_right _ (mem_pinsAt hb e)))).1, fun b hb => ?_, w7⟩
      obtain ⟨o, e, d⟩ := T.obj _ _ st5 b hb
      exact (I7.pin (b, o) (List.mem_append_right _ (List.mem_append_right _ (mem_pinsAt hb e)))).2.1
    refine wpAny_bind (never (thn (hg _ s5 σ3 H5 x u _ I5' r5 (step x H5 y5)) fun _ s6 ⟨σ6, H6, I6, q6⟩ => ?_))
    refine wpAny_bind (never (thn (ht _ s6 σ6 H6 _ I6 q6) fun ok s7 ⟨H7, I7, q7⟩ => ?_))
    cases ok with
    | false =>
      obtain ⟨m', hm, w7⟩ := q7
      exact wpAny_pure ⟨rfl, back I7 hm w7⟩
    | true =>
      rw [if_pos rfl] at q7
      refine wpAny_bind (wpAny_bind (never (thn (he _ s7 σ6 H7 _ I7 q7) fun v s8 ⟨y, H8, I8, r8, acc, e8, l8, m', hm, w8⟩ => ?_)))
      refine wpAny_bind (never (thn (mt_append _ s8 σ6 H8 (.ref D) [y] (.ref D) [v] (fun _ H9 => H9 = upd H8 D (.lst (acc ++ [y]))) I8 rfl (.cons r8 .nil) ⟨D, acc, y, rfl, rfl, e8, l8, rfl⟩) fun _ s9 ⟨_, H9, I9, _, e9⟩ => ?_))
      subst e9
      exact wpAny_pure (wpAny_pure ⟨rfl, back I9 hm w8⟩)
end
structure CBl (X : Cx) (own fr : List Str) (scope : Scope) (tg elt : Expr) (ifs : List Expr) (g : TG) (tc : TT) (te : TE) : Prop where
  tg : ∀ fp pins s3 H3, PG (cxC X own fr scope fp pins s3 H3) tg g
  ts : ∀ fp pins s3 H3, PTs (cxC X own fr scope fp pins s3 H3) ifs tc
  el : ∀ fp pins s3 H3, PE (cxC X own fr scope fp pins s3 H3) elt te
def tComp (own : List Str) (ixs : List Nat) (wi : TI) (g : TG) (tc : TT) (te : TE) : TE := fun σ H Q => wi σ H fun J H1 => ∀ D, H1 D = none →
  ∃ W : Nat → Nat → St → Hp → Prop, (∃ m, W 0 m (stC own ixs σ) (upd H1 D (.lst []))) ∧ CTurn J g tc te D W Q
section
variable {X : Cx} {own fr : List Str} {ixs : List Nat} {scope : Scope} {tg elt iter : Expr} {ifs : List Expr} {pos : Pos} {wi : TI} {g : TG} {tc : TT} {te : TE}
theorem comp_block {it : Addr} {fp : List Addr} {tn : Nat → Heap → Prop} {J : It} {pins : List (Addr × Obj)} {σ : St} {H : Hp} {s : Shared} {Q : VK} {E : Value → Shared → Prop} {RR : Value → Addr → Result → Shared → Prop} (hc : X.calm = true) (S : CSc X own fr ixs scope)
    (B : CBl X own fr scope tg elt ifs g tc te) (I : Inv X pins σ H s) (T : Turn X.prog X.w X.K tg J fp it tn) (st : tn 0 s.heap) (f : ∀ b ∈ fp, FpOk X pins H b)
    (h : ∀ D, H D = none → ∃ W : Nat → Nat → St → Hp → Prop, (∃ m, W 0 m (stC own ixs σ) (upd H D (.lst []))) ∧ CTurn J g tc te D W Q)
    (hRR : ∀ (D C : Addr) (s5 : Shared) (H5 : Hp) (m : Str → Option Value), Inv X pins σ H5 s5 → Q (.ref D) H5 → s5.heap.Ns C m → H5 C = none → C ≠ X.env.locals → X.s₀.heap.objs.size ≤ C → (∀ x c, X.env.cells.lookup x = some c → c ≠ C) → (∀ p ∈ X.pn ++ pins, p.1 ≠ C) → RR (.ref D) C (.ok .next) s5) :
    wpAny (model X.prog X.w) X.A (newList []) (fun acc s₃ => wpAny (model X.prog X.w) X.A (newFunctionEnv scope X.env.globals (clOf scope X.env) [] X.env.qual none .none (some X.env)) (fun cenv s₄ =>
      codeAny (model X.prog X.w) X.A (.compStart (.ListComp elt [⟨tg, iter, ifs, 0⟩] scope pos) 0 (.ref it) acc { cenv with scope := relabel scope X.env }) (RR acc cenv.locals) s₄) E s₃) E s := by
  have hcell : ∀ y ∈ scope.names, y.2 ≠ .cell := fun y hy z => by
    have q := (List.all_eq_true.mp S.nocell) y hy
    rw [z] at q; simp at q
  obtain ⟨W, ⟨m0, w0⟩, turn⟩ := h s.heap.objs.size I.fresh
  have I3 : Inv X pins σ (upd H s.heap.objs.size (.lst [])) { s with heap := s.heap.push { cls := .type "list", data := .seq ([] : List Value).toArray } } := I.lnew (its := []) (ys := []) (t' := s.toks) .nil (Nat.zero_le _)
  have lt0 : ∀ b ∈ fp, b < s.heap.objs.size := fun b hb => by
    obtain ⟨o, e, _⟩ := T.obj _ _ st b hb
    exact Heap.lt_size e
  have f3 : ∀ b ∈ fp, FpOk X pins (upd H s.heap.objs.size (.lst [])) b := fun b hb => ⟨by rw [upd_ne (Nat.ne_of_lt (lt0 b hb))]; exact (f b hb).1, (f b hb).2⟩
  refine wpAny_newObj_type (wpAny_newFunctionEnv hcell (fun y hy => absurd hy (by simp)) (fun h₁ ns₁ sb₁ => ?_) S.kind)
  generalize hs3 : ({ s with heap := s.heap.push { cls := .type "list", data := .seq ([] : List Value).toArray } } : Shared) = s3 at I3 ns₁ sb₁ ⊢
  have z3 : s.heap.objs.size < s3.heap.objs.size := by rw [← hs3]; show _ < (s.heap.push _).objs.size; rw [Heap.size_push]; exact Nat.lt_succ_self _
  have kept : ∀ b o, s3.heap.get? b = some o → h₁.get? b = some o := fun b o e => sb₁.extBut b o (Nat.ne_of_lt (Heap.lt_size e)) (Heap.get?_push_of_some _ e)
  have lt3 : ∀ b ∈ fp, b < s3.heap.objs.size := fun b hb => Nat.lt_trans (lt0 b hb) z3
  have st1 : tn 0 h₁ := T.keep _ _ _ st fun b hb o e => kept b o (by rw [← hs3]; exact Heap.get?_push_of_some _ e)
  have I4 : Inv (cxC X own fr scope fp pins s3 (upd H s.heap.objs.size (.lst []))) [] (stC own ixs σ) (upd H s.heap.objs.size (.lst [])) { s3 with heap := h₁, toks := s3.toks + ([] : List (Str × Value)).length } :=
    inv_comp S I3 f3 lt3 rfl I3.bare kept ns₁
  have fY : ∀ b ∈ fp, FpOk (cxC X own fr scope fp pins s3 (upd H s.heap.objs.size (.lst []))) [] (upd H s.heap.objs.size (.lst [])) b := fun b hb => by
    obtain ⟨a1, a2, a3, a4, a5, a6⟩ := f3 b hb
    refine ⟨a1, Nat.ne_of_lt (lt3 b hb), fun z => ?_, .inl hb, fun x c e => a5 x c (S.cl_lookup I.ok e).1, fun p hp => a6 p (by simpa [cxC] using hp)⟩
    rcases List.mem_cons.mp (I.stkSub b z) with y | y
    · exact a2 y
    · exact a3 y
  have loop : codeAny (model X.prog X.w) X.A (.compLoop (.ListComp elt [⟨tg, iter, ifs, 0⟩] scope pos) 0 (.ref it) (.ref s.heap.objs.size) (compEnvC scope (clOf scope X.env) s3.heap.objs.size X.env)) (RR (.ref s.heap.objs.size) s3.heap.objs.size) { s3 with heap := h₁, toks := s3.toks + ([] : List (Str × Value)).length } := by
    refine comp_loop (Y := cxC X own fr scope fp pins s3 (upd H s.heap.objs.size (.lst []))) hc rfl T (B.tg _ _ _ _) (B.ts _ _ _ _) (B.el _ _ _ _) I4 st1 fY w0 turn fun s5 σ5 H5 J5 q5 => ?_
    obtain ⟨m5, hn5, _⟩ := J5.loc
    refine hRR _ _ s5 H5 m5 (Inv.block I3 f3 J5) q5 hn5 J5.free (Nat.ne_of_gt I3.lt) I3.sz (fun x c e z => ?_) fun p hp z => ?_
    · obtain ⟨v, q⟩ := I3.cell x c e
      exact absurd q.lt (by rw [z]; exact Nat.lt_irrefl _)
    · exact absurd (Heap.lt_size (I3.pin p hp).1) (by rw [z]; exact Nat.lt_irrefl _)
  exact codeAny_compStart_list loop (T.self X.A 0 _ _ _ st1 loop)
theorem pe_comp (hc : X.calm = true) (S : CSc X own fr ixs scope) (B : CBl X own fr scope tg elt ifs g tc te) (hi : PI X tg iter wi) (hs : ∀ x, foldedSetIterable iter X.env x = pure x := by intro _; rfl) :
    PE X (.ListComp elt [⟨tg, iter, ifs, 0⟩] scope pos) (tComp own ixs wi g tc te) := by
  intro pins s σ H Q I h
  have hl : ∀ x ∈ scope.names, x.2 = .local → scope.names.lookup x.1 = some .local := fun y hy z => by
    have q := (List.all_eq_true.mp S.locs) y hy
    rw [z] at q; simpa using q
  rw [eval_ListComp]
  refine wpAny_comprehension_free (use := none) rfl hs (closure_eq (S.hcl I.ok)) S.kind hl (thn (hi pins s σ H _ I h) fun v s1 h1 => thn h1 fun itv s2 h2 => ?_)
  obtain ⟨it, fp, tn, J, H2, e, I2, T, st2, f2, q⟩ := h2
  subst e
  refine comp_block (RR := fun acc C => compPost (model X.prog X.w) X.A X.xe none (EP X pins σ Q) acc C) hc S B I2 T st2 f2 q ?_
  intro D C s5 H5 m J5 q5 hn n1 n2 n3 n4 n5
  exact ⟨m, hn, fun h' hs' => ⟨.ref D, H5, J5.turned (t' := s5.toks) (it := C) (fun b o hb e => hs'.extBut b o hb e) n1 n2 (.inr n3) n4 n5, rfl, q5⟩⟩
theorem ps_setC {i : Nat} {x : Str} {pos' spos : Pos} (hc : X.calm = true) (S : CSc X own fr ixs scope) (B : CBl X own fr scope tg elt ifs g tc te) (hi : PI X tg iter wi) (hN : X.N.Nodup) (hix : X.N[i]? = some x) (hx : X.env.scope.names.lookup x = some .local)
    (hsw : swapsWith (.ListComp elt [⟨tg, iter, ifs, 0⟩] scope pos) (some (.Name x pos')) spos.line X.env = pure true := by rfl) (hs : ∀ x, foldedSetIterable iter X.env x = pure x := by intro _; rfl) :
    PS X (.Assign [.Name x pos'] (.ListComp elt [⟨tg, iter, ifs, 0⟩] scope pos) spos) (tAsg (tComp own ixs wi g tc te) (gName i)) := by
  intro pins s σ H D I h
  have hl : ∀ x ∈ scope.names, x.2 = .local → scope.names.lookup x.1 = some .local := fun y hy z => by
    have q := (List.all_eq_true.mp S.locs) y hy
    rw [z] at q; simpa using q
  rw [exec_Assign_Name_used _ _ _ _ hsw]
  refine wpAny_bind (wpAny_standAt (wpAny_bind ?_))
  show wpAny _ X.A (do let _ ← comprehension (.ListComp elt [⟨tg, iter, ifs, 0⟩] scope pos) scope X.env _ (newList []) false (eval iter X.env) (some (assign (.Name x pos') X.env))) _ _ s
  refine wpAny_bind (thn (wpAny_comprehension_free (use := some (assign (.Name x pos') X.env)) (Q := fun _ s' => SP X pins D .next s') rfl hs (closure_eq (S.hcl I.ok)) S.kind hl (thn (hi pins s σ H _ I h) fun v s1 h1 => thn h1 fun itv s2 h2 => ?_)) fun _ s' q => wpAny_pure (wpAny_pure q))
  obtain ⟨it, fp, tn, J, H2, e, I2, T, st2, f2, q⟩ := h2
  subst e
  refine comp_block (RR := fun acc C => compPost (model X.prog X.w) X.A X.xe (some (assign (.Name x pos') X.env)) (fun _ s' => SP X pins D .next s') acc C) hc S B I2 T st2 f2 q ?_
  intro A5 C s5 H5 m J5 q5 hn n1 n2 n3 n4 n5
  show wpAny _ X.A (assign (.Name x pos') X.env (.ref A5)) _ _ _
  refine wpAny_assign_Name (store_ok2 J5 hN hix (.inl hx) (show RelV (.ref A5) (.ref A5) from rfl) (fun s6 J6 ⟨b, sb, hb⟩ => ?_) (.inr hx))
  have nb : C ≠ b := by
    rcases hb with z | z
    · rw [z]; exact n2
    · exact fun y => n4 x b z y.symm
  exact ⟨m, hn.sameBut sb nb, fun h' hs' => ⟨_, H5, J6.turned (t' := s6.toks) (it := C) (fun b o hb e => hs'.extBut b o hb e) n1 n2 (.inr n3) n4 n5, q5⟩⟩
end
end L2
end
section
set_option maxHeartbeats 2000000
set_option maxRecDepth 100000
set_option linter.unusedVariables false
set_option linter.unusedSimpArgs false
namespace L2
open PySem PySem.Spec PyProof.Rows
theorem vals_of {ns : List Int} : ∀ {us : List Value}, IntsAre us ns → Vals (ns.map V.int) us := by
  intro us h
  induction h with
  | nil => exact .nil
  | cons n t _ ih => exact .cons ⟨t, rfl⟩ ih
section
variable {X : Cx}
def rSorted (K : PySem.W.Frag) : List V → Hp → VK → Prop := fun xs H Q => ∃ (p : Addr) (ns : List Int), xs = [.ref p] ∧ SqL K H p (ns.map V.int) ∧ ns.length < 128 ∧
  ∀ q (ms : List Int), H q = none → ms.Perm ns → ms.Pairwise (· ≤ ·) → Q (.ref q) (upd H q (.lst (ms.map V.int)))
def rSortedR (K : PySem.W.Frag) : List V → Hp → VK → Prop := fun xs H Q => ∃ (p : Addr) (ns : List Int), xs = [.ref p] ∧ SqL K H p (ns.map V.int) ∧ ns.length < 128 ∧
  ∀ q (ms : List Int), H q = none → ms.Perm ns → ms.Pairwise (· ≥ ·) → Q (.ref q) (upd H q (.lst (ms.map V.int)))
theorem laid_sorted {pins : List (Addr × Obj)} {σ : St} {H : Hp} {s : Shared} {vs : List Value} {out : Array Value} {ms : List Int} {Q : VK} (I : Inv X pins σ H s) (hm : IntsAre out.toList ms) (hz : ms.length < 128)
    (q : Q (.ref (s.heap.objs.size + 1)) (upd H (s.heap.objs.size + 1) (.lst (ms.map V.int)))) : EP X pins σ Q (.ref (s.heap.objs.size + 1)) { s with heap := sortedAll s.heap vs out } := by
  obtain ⟨e, he⟩ := sortedAll_at s.heap vs out
  refine ⟨.ref (s.heap.objs.size + 1), _, I.laid (t' := s.toks) (a := s.heap.objs.size + 1) (fun b u z => sortedAll_old z) (Nat.le_succ _) ?_, rfl, q⟩
  refine ⟨by rw [List.length_map, sizeLine_eq]; omega, out.toList, e, vals_of hm, ?_⟩
  rw [Array.toArray_toList]
  exact he
theorem call_sorted : CallR X (.builtin "sorted") (rSorted X.K) := by
  intro pins s σ H xs us Q I r h
  obtain ⟨p, ns, rfl, hq, hz, q⟩ := h
  obtain ⟨u, rfl, rx⟩ := vals1 r
  cases rx
  obtain ⟨its, rv, pl, _⟩ := I.list hq
  have hl := rv.length
  rw [List.length_map] at hl
  refine Tim.sortedI pl.isList (intsAre_of rv) (by omega) fun out ms a1 a2 a3 => laid_sorted I a1 (by rw [a2.length_eq]; exact hz) (q _ ms (I.hok.fresh (Nat.le_succ _)) a2 a3)
theorem call_sortedR {pins : List (Addr × Obj)} {σ : St} {H : Hp} {s : Shared} {xs : List V} {us : List Value} {Q : VK} (I : Inv X pins σ H s) (r : Vals xs us) (h : rSortedR X.K xs H Q) :
    wpAny (model X.prog X.w) X.A (call (.builtin "sorted") us [(Str.ofString "reverse", .bool true)]) (EP X pins σ Q) X.xe s := by
  obtain ⟨p, ns, rfl, hq, hz, q⟩ := h
  obtain ⟨u, rfl, rx⟩ := vals1 r
  cases rx
  obtain ⟨its, rv, pl, _⟩ := I.list hq
  have hl := rv.length
  rw [List.length_map] at hl
  refine Tim.sortedR pl.isList (intsAre_of rv) (by omega) fun out ms a1 a2 a3 => laid_sorted I a1 (by rw [a2.length_eq]; exact hz) (q _ ms (I.hok.fresh (Nat.le_succ _)) a2 a3)
theorem pe_sortedR {e : Expr} {t : TA} {p pos kp cp : Pos} {j} (hg : Gl X "sorted") (hm : X.mg "sorted" = none) (ha : PA X [e] t) (he : starEach [e] X.env = [(false, eval e X.env)] := by rfl) :
    PE X (.Call (.Name "sorted" p) [e] [⟨some "reverse", .Constant (.bool true) j cp, kp⟩] pos) (tCB (rSortedR X.K) t) := by
  intro pins s σ H Q I h
  refine wpAny_Call_Name_kw (ld_blt I hg hm boot_sorted ?_)
  refine callWith_kw (thn (ha pos pins s σ H _ I h) fun us s1 ⟨vs, H1, I1, r1, q1⟩ => ?_) (by rw [he]; rfl) (by rw [he]; rfl)
  refine kws_cons (Constant_bool (kws_nil ?_))
  exact call_sortedR I1 r1 q1
theorem call_sumL (hc : X.calm = true) : CallR X (.builtin "sum") (fun xs H Q => ∃ (p : Addr) (ns : List Int), xs = [.ref p] ∧ SqL X.K H p (ns.map V.int) ∧ Q (.int ns.sum) H) := by
  intro pins s σ H xs us Q I r h
  obtain ⟨p, ns, rfl, hq, q⟩ := h
  obtain ⟨u, rfl, rx⟩ := vals1 r
  cases rx
  obtain ⟨its, rv, pl, _⟩ := I.list hq
  have hi := intsAre_of rv
  obtain ⟨xs, hx⟩ := hi.allInts.items
  have hl' : s.heap.IsList p (intItems xs) := hx ▸ pl.isList
  refine sum_intListG (I.ok.hd hc) hl' fun h' tk t' hk => ?_
  have e1 : ns = xs.toList.map (·.1) := by
    rw [← nums_intItems, ← hx]
    exact (show numsOf its.toArray.toList = ns from hi.numsOf).symm
  have e2 : preSum (numAt xs) xs.size = ns.sum := by
    rw [preSum_eq, List.take_of_length_le (by simp), e1]
  rw [e2]
  exact ⟨.int ns.sum, H, I.kept hk, ⟨_, rfl⟩, q⟩
theorem call_minL (hc : X.calm = true) : CallR X (.builtin "min") (fun xs H Q => ∃ (p : Addr) (ns : List Int), xs = [.ref p] ∧ SqL X.K H p (ns.map V.int) ∧ ns ≠ [] ∧ ∀ M, M ∈ ns → (∀ a, a ∈ ns → M ≤ a) → Q (.int M) H) := by
  intro pins s σ H xs us Q I r h
  obtain ⟨p, ns, rfl, hq, hne, q⟩ := h
  obtain ⟨u, rfl, rx⟩ := vals1 r
  cases rx
  obtain ⟨its, rv, pl, _⟩ := I.list hq
  have hi := intsAre_of rv
  obtain ⟨m, F⟩ := I.fr
  have hn : 0 < ns.length := List.length_pos_iff.mpr hne
  obtain ⟨xs, e⟩ := hi.allInts.items
  have hns : ns = xs.toList.map (·.1) := by rw [← hi.numsOf, ← nums_intItems, ← e]
  have hsz : 0 < xs.size := by rw [hns, List.length_map, Array.length_toList] at hn; exact hn
  have hl : s.heap.IsList p (intItems xs) := e ▸ pl.isList
  refine min_intList (I.ok.hd hc) hl hsz fun v h' tk hv hk => ?_
  obtain ⟨t, rfl⟩ := intItems_at hv
  obtain ⟨h1, h2⟩ := argBest_lt (numAt xs) (xs.size - 1)
  refine ⟨.int _, H, I.kept hk, ⟨_, rfl⟩, q _ ?_ fun a ha => ?_⟩
  · rw [hns, numAt_eq]; exact getD_mem (by rw [List.length_map, Array.length_toList]; omega)
  · rw [hns] at ha
    obtain ⟨j, hj, rfl⟩ := mem_getD ha
    rw [List.length_map, Array.length_toList] at hj
    rw [← numAt_eq]; exact h2 j (by omega)
def rInsert : V → List V → Hp → VK → Prop := fun x vs H Q => ∃ l xs i y, x = .ref l ∧ vs = [.int i, y] ∧ H l = some (.lst xs) ∧ 0 ≤ i ∧ i < 2 ^ 62 ∧ xs.length < sizeLine ∧ Q .non (upd H l (.lst (xs.take i.toNat ++ y :: xs.drop i.toNat)))
theorem mt_insert : MtM X "list.insert" rInsert := by
  intro pins s σ H x vs v us Q I rx rv h
  obtain ⟨l, xs, i, y, rfl, rfl, hH, h1, h2, hz, q⟩ := h
  cases rx
  obtain ⟨u, u2, rfl, ⟨t, rfl⟩, ry⟩ := rv.two
  obtain ⟨z, its, n, r, hl, e⟩ := I.lstM hH
  have fit : ¬ (!Builtin.List.listFitsIndex i) = true := by
    rw [show Builtin.List.listFitsIndex i = true from fitsIndex_both (by omega) (by omega)]
    decide
  refine call_meets F.slot_list_insert ⟨_, e, rfl⟩ F.entry_list_insert (F.args_list_insert_3 _ _ _) (AutoSeq1.list_insert_list_int_val_1 l its.toArray n i t u2 fit (by rw [List.size_toArray]; omega)) ⟨e, ?_⟩
  refine ⟨.non, _, I.lset (its' := its.take i.toNat ++ u2 :: its.drop i.toNat) (ys := xs.take i.toNat ++ y :: xs.drop i.toNat) hH e ?_ ((r.take _).append (.cons ry (r.drop _))) ?_, rfl, q⟩
  · dsimp only
    rw [if_neg (by omega)]
    apply Array.ext'
    have em : its.take (min i.toNat its.length) = its.take i.toNat := by
      by_cases c : i.toNat ≤ its.length
      · rw [Nat.min_eq_left c]
      · rw [Nat.min_eq_right (by omega), List.take_of_length_le (Nat.le_refl _), List.take_of_length_le (by omega)]
    have ed : its.drop (min i.toNat its.length) = its.drop i.toNat := by
      by_cases c : i.toNat ≤ its.length
      · rw [Nat.min_eq_left c]
      · rw [Nat.min_eq_right (by omega), List.drop_of_length_le (Nat.le_refl _), List.drop_of_length_le (by omega)]
    rw [Array.toList_append, Array.toList_push, Tim.ext_listV0, Tim.ext_listV, List.size_toArray]
    show its.take _ ++ [u2] ++ its.drop _ = its.take i.toNat ++ u2 :: its.drop i.toNat
    rw [em, ed, List.append_assoc]
    rfl
  · rw [List.length_append, List.length_cons, List.length_take, List.length_drop]
    omega
def rEqL (K : PySem.W.Frag) : R2 := fun x y H Q => ∃ (p q : Addr) (ns ms : List Int), x = .ref p ∧ y = .ref q ∧ SqL K H p (ns.map V.int) ∧ SqL K H q (ms.map V.int) ∧ Q (.bl (decide (ns = ms))) H
def rNeL (K : PySem.W.Frag) : R2 := fun x y H Q => ∃ (p q : Addr) (ns ms : List Int), x = .ref p ∧ y = .ref q ∧ SqL K H p (ns.map V.int) ∧ SqL K H q (ms.map V.int) ∧ Q (.bl (!decide (ns = ms))) H
theorem op_eqL (hu : X.A.units + 64 < cLine) : OpR X (compareOp .Eq) (rEqL X.K) := by
  intro pins s σ H x y v u Q I rx ry h
  obtain ⟨p, q, ns, ms, rfl, rfl, h1, h2, k⟩ := h
  cases rx
  cases ry
  obtain ⟨its, rv, pl, _⟩ := I.list h1
  obtain ⟨its2, rv2, pl2, _⟩ := I.list h2
  exact PySem.W.eq_intsK pl.isList (intsAre_of rv) pl2.isList (intsAre_of rv2) hu ⟨.bl (decide (ns = ms)), H, I, rfl, k⟩
theorem op_neL (hu : X.A.units + 64 < cLine) : OpR X (compareOp .NotEq) (rNeL X.K) := by
  intro pins s σ H x y v u Q I rx ry h
  obtain ⟨p, q, ns, ms, rfl, rfl, h1, h2, k⟩ := h
  cases rx
  cases ry
  obtain ⟨its, rv, pl, _⟩ := I.list h1
  obtain ⟨its2, rv2, pl2, _⟩ := I.list h2
  exact PySem.W.ne_intsK pl.isList (intsAre_of rv) pl2.isList (intsAre_of rv2) hu ⟨.bl (!decide (ns = ms)), H, I, rfl, k⟩
end
end L2
end
section
set_option maxHeartbeats 2000000
set_option maxRecDepth 100000
set_option linter.unusedVariables false
set_option linter.unusedSimpArgs false
namespace Rev
open PySem PySem.Spec PyProof.Rows
theorem nolen : typeLookup (.type "list_reverseiterator") "__len__" = pure none := by rw [typeLookup_type, builtinLookup_eq_fast]; kernel_rfl
theorem hint : typeLookup (.type "list_reverseiterator") "__length_hint__" = pure (some (.builtin "list_reverseiterator.__length_hint__")) := by rw [typeLookup_type, builtinLookup_eq_fast]; kernel_rfl
section
variable {prog : Program} {w : World} {A : Around} {E : Value → Shared → Prop} {s : Shared}
theorem len_hint {it l : Addr} {i : Int} {Q : Bool → Shared → Prop} (hit : s.heap.IsRevIter it l i) (h : Q false s) : wpAny (model prog w) A (Builtin.List.listLengthHint (.ref it)) Q E s := by
  unfold Builtin.List.listLengthHint
  refine wpAny_bind (wpAny_specialOf hit.typeIs nolen ?_)
  show wpAny _ A (specialOf (Value.ref it) (Str.ofString "__length_hint__") >>= _) _ _ _
  refine wpAny_bind (wpAny_specialOf hit.typeIs hint ?_)
  (generalize hid : ("list_reverseiterator.__length_hint__" : String) = id0; (fail_if_success (clear hid id0)); wp_delta; rw [show splitId id0 = some ("list_reverseiterator", "__length_hint__") from by subst hid; decide +kernel]; subst hid)
  refine wpAny_bind (wpAny_isInstance (b := true) hit.typeIs (by rw [isSubtype_type]; kernel_rfl) ?_)
  exact wpAny_pure h
theorem call_list {it l : Addr} {items : Array Value} {Q : Value → Shared → Prop} (hh : A.handled = none) (hne : l ≠ it) (hit : s.heap.IsRevIter it l ((items.size : Int) - 1)) (hl : s.heap.IsList l items) (hz : items.size ≤ sizeLine)
    (hQ : ∀ h' tk acc c, (∀ b o, b ≠ it → s.heap.get? b = some o → h'.get? b = some o) → h'.get? s.heap.objs.size = some { cls := .type "list", data := .seq acc c } → acc = items.reverse → Q (.ref s.heap.objs.size) { s with heap := h', toks := tk }) :
    wpAny (model prog w) A (call (.type "list") [.ref it]) Q E s := by
  have ltI : it < s.heap.objs.size := let ⟨o, ho, _⟩ := hit; Heap.lt_size ho
  have ltL : l < s.heap.objs.size := let ⟨o, ho, _⟩ := hl; Heap.lt_size ho
  have W := Walks.listRev (prog := prog) (w := w) (A := A.in1.in1) (hh := hh) it l hne items
  have nS : s.heap.objs.size ∉ [it, l] := fun z => by
    rcases List.mem_cons.mp z with z | z
    · exact Nat.lt_irrefl _ (z ▸ ltI)
    · exact Nat.lt_irrefl _ ((List.mem_singleton.mp z) ▸ ltL)
  refine callType_codes (Q₁ := fun obj s₁ => obj = .ref s.heap.objs.size ∧ s₁ = { s with heap := s.heap.push { cls := .type "list", data := .seq #[] } }) F.called_list (F.typeCall_list_1 _) F.entry_list_init (code_list_new _ ⟨rfl, rfl⟩) fun obj s₁ h₁ => ?_
  obtain ⟨rfl, rfl⟩ := h₁
  have hS : (s.heap.push { cls := .type "list", data := .seq #[] }).get? s.heap.objs.size = some { cls := .type "list", data := .seq #[] } := Heap.get?_push_size _ rfl
  refine ⟨⟨_, hS, rfl⟩, F.args_list_init_2 _ _, ?_⟩
  show wpAny _ A.in1.in1 (do let old ← Builtin.List.listItems (.ref s.heap.objs.size); Builtin.List.listUpdate (.ref s.heap.objs.size) (fun _ => #[]); letGo old.toList.reverse; Builtin.List.listExtendWith (.ref s.heap.objs.size) (.ref it) .none) _ _ _
  refine wpAny_bind (listItems_at hS rfl (wpAny_bind (listUpdate_at hS rfl (wpAny_bind (wpAny_letGo ?_)))))
  have hS₂ := Heap.get?_update_self (Obj.mapSeq (fun _ => (#[] : Array Value))) hS rfl
  have oth : ∀ b o, s.heap.get? b = some o → ((s.heap.push { cls := .type "list", data := .seq #[] }).update s.heap.objs.size (Obj.mapSeq fun _ => #[])).get? b = some o := fun b o e =>
    (Heap.get?_update_other _ _ (Nat.ne_of_gt (Heap.lt_size e))).trans (Heap.get?_push_of_some _ e)
  have hit2 := hit.at fun o e => oth it o e
  have hl2 : ((s.heap.push { cls := .type "list", data := .seq #[] }).update s.heap.objs.size (Obj.mapSeq fun _ => #[])).IsList l items := hl.at fun o e => oth l o e
  generalize ((s.heap.push { cls := .type "list", data := .seq #[] }).update s.heap.objs.size (Obj.mapSeq fun _ => (#[] : Array Value))) = h2 at hS₂ oth hit2 hl2 ⊢
  unfold Builtin.List.listExtendWith
  refine wpAny_bind (wpAny_typeOf hit2.typeIs ?_)
  have h1 : Builtin.List.listSameRef (.ref s.heap.objs.size) (.ref it) = false := by simp [Builtin.List.listSameRef, Nat.ne_of_gt ltI]
  rw [if_neg (by rw [h1]; decide)]
  refine wpAny_bind (wpAny_pyIter_revIter hit2 (wpAny_bind (wpAny_holding (len_hint hit2 ?_))))
  rw [if_neg (by decide)]
  refine wpAny_pure ⟨plainId_quiet F.plain_extend_loop _, ?_⟩
  refine codeAny_extend_loopS W.toS hz _ nS _ items.size 0 _ #[] _ rfl (Nat.zero_le _) ⟨Nat.zero_le _, ?_, hl2⟩ hS₂ (ItemsOf.nil _) fun s' acc c hm hS' hacc => ?_
  · rw [show ((items.size : Int) - 1 - ((0 : Nat) : Int)) = (items.size : Int) - 1 from by omega]
    exact hit2
  · refine ⟨rfl, ?_⟩
    have z := hQ s'.heap s'.toks acc c (fun b o hb e => ?_) hS' ?_
    · have em := Moved.eq_with hm
      rw [em]
      exact z
    · refine hm.heap b o (fun zz => ?_) (oth b o e)
      rcases List.mem_cons.mp zz with y | y
      · exact Nat.lt_irrefl _ (y ▸ Heap.lt_size e)
      · exact hb (List.mem_singleton.mp y)
    · apply Array.ext
      · rw [hacc.1, Array.size_reverse]
      · intro j h1 h2
        have a1 : items[items.size - 1 - j]? = some acc[j] := hacc.2 j acc[j] (getElem?_pos acc j h1)
        have hj : j < items.size := by rw [← hacc.1]; exact h1
        rw [getElem?_pos items (items.size - 1 - j) (by omega)] at a1
        rw [Array.getElem_reverse]
        exact (Option.some.inj a1).symm
end
end Rev
namespace L2
open PySem PySem.Spec PyProof.Rows
section
variable {X : Cx}
def rRev (K : PySem.W.Frag) : List V → Hp → VK → Prop := fun xs H Q => ∃ p ys, xs = [.ref p] ∧ SqL K H p ys ∧ ∀ q, H q = none → Q (.ref q) (upd H q (.lst ys.reverse))
theorem pe_listrev {e : Expr} {t : TA} {p1 p2 pos1 pos2 : Pos} (hc : X.calm = true) (hg : Gl X "list") (hm : X.mg "list" = none) (hg2 : Gl X "reversed") (hm2 : X.mg "reversed" = none) (hvl : bootBuiltins "list" = some (.type "list")) (ha : PA X [e] t)
    (he : starEach [e] X.env = [(false, eval e X.env)] := by rfl) (he2 : starEach [.Call (.Name "reversed" p2) [e] [] pos2] X.env = [(false, eval (.Call (.Name "reversed" p2) [e] [] pos2) X.env)] := by rfl) :
    PE X (.Call (.Name "list" p1) [.Call (.Name "reversed" p2) [e] [] pos2] [] pos1) (tCB (rRev X.K) t) := by
  intro pins s σ H Q I h
  refine wpAny_Call_Name_kw (ld_blt I hg hm hvl ?_)
  refine PyProof.Rows.callWith_type1 ?_ he2 (by rfl)
  rw [he2]
  show wpAny _ _ (spliced ((false, eval (.Call (.Name "reversed" p2) [e] [] pos2) X.env) :: [])) _ _ s
  refine Calls.spliced_cons ?_
  refine wpAny_Call_Name_kw (ld_blt I hg2 hm2 boot_reversed ?_)
  refine PyProof.Rows.callWith_type1 (thn (ha pos2 pins s σ H _ I h) fun us s1 ⟨vs, H1, I1, r1, q1⟩ => ?_) he (by rfl)
  obtain ⟨p, ys, rfl, hq, q⟩ := q1
  obtain ⟨u, rfl, rx⟩ := vals1 r1
  cases rx
  obtain ⟨its, rv, pl, hz⟩ := I1.list hq
  refine call_reversed_list pl.isList (Calls.spliced_nil ?_)
  have I2 : Inv X pins σ H1 { s1 with heap := s1.heap.push (revObj p ((its.toArray.size : Int) - 1)) } := I1.kept (t' := s1.toks) fun b u z => Heap.get?_push_of_some _ z
  have ltp : p < s1.heap.objs.size := by
    obtain ⟨o, ho, _⟩ := pl.isList
    exact Heap.lt_size ho
  have sz : (s1.heap.push (revObj p ((its.toArray.size : Int) - 1))).objs.size = s1.heap.objs.size + 1 := size_push' _ _
  refine Rev.call_list (it := s1.heap.objs.size) (l := p) (items := its.toArray) (I.ok.hd hc) (Nat.ne_of_lt ltp) ⟨_, Heap.get?_push_size _ rfl, rfl, rfl⟩ (pl.isList.at fun o z => Heap.get?_push_of_some _ z) (by rw [List.size_toArray, ← rv.length]; exact hz) fun h' tk acc c kp e1 e2 => ?_
  subst e2
  have FP := I1.fpOk (H' := H1) (b := s1.heap.objs.size) (Nat.le_refl _) I1.fresh
  have nI : ∀ b, b = s1.heap.objs.size → H1 b = none := fun b z => by rw [z]; exact I1.fresh
  have e1' : h'.get? (s1.heap.objs.size + 1) = some { cls := .type "list", data := .seq its.reverse.toArray c } := by
    rw [← sz, show its.reverse.toArray = its.toArray.reverse from by simp]; exact e1
  show EP X pins σ Q (.ref (s1.heap.push (revObj p ((its.toArray.size : Int) - 1))).objs.size) _
  rw [sz]
  have fresh2 : H1 (s1.heap.objs.size + 1) = none := I1.hok.fresh (Nat.le_succ _)
  refine ⟨.ref (s1.heap.objs.size + 1), upd H1 (s1.heap.objs.size + 1) (.lst ys.reverse), I1.laid (t' := tk) (a := s1.heap.objs.size + 1) (fun b u z => ?_) (Nat.le_succ _) ?_, rfl, q _ fresh2⟩
  · exact kp b u (Nat.ne_of_lt (Heap.lt_size z)) (Heap.get?_push_of_some _ z)
  · exact ⟨by rw [List.length_reverse]; exact hz, its.reverse, c, rv.reverse, e1'⟩
end
end L2
end
section
set_option maxHeartbeats 2000000
set_option maxRecDepth 100000
set_option linter.unusedVariables false
set_option linter.unusedSimpArgs false
namespace L2
open PySem PySem.Spec PyProof.Rows
def Dfn (K : PySem.W.Frag) (mg : Str → Option Value) (x : Str) (st : Stmt) (ps : List Str) : Prop := ∃ (f : Addr) (fd : FuncData), Fun K x x st f fd ∧ mg x = some (.ref f) ∧ Binds K fd ps []
def OkD (P : Program) (w : World) (K : PySem.W.Frag) (mg : Str → Option Value) (base : Heap) (k : Nat) (x : Str) (ps : List Str) (sp : Sp) : Prop :=
  ∃ (f : Addr) (fd : FuncData), mg x = some (.ref f) ∧ PySem.W.keepIn K (.ref f) = true ∧ Binds K fd ps [] ∧ FnOk P w K mg base CX0 k f fd ps sp
theorem OkD.imp {P : Program} {w : World} {K : PySem.W.Frag} {mg : Str → Option Value} {base : Heap} {k : Nat} {x : Str} {ps : List Str} {sp sp' : Sp} (D : OkD P w K mg base k x ps sp) (h : ∀ vs H Q E, sp' vs H Q E → sp vs H Q E) : OkD P w K mg base k x ps sp' := by
  obtain ⟨f, fd, a, b, c, G⟩ := D
  exact ⟨f, fd, a, b, c, G.imp h⟩
section
variable {X : Cx} {x : Str} {p pos : Pos} {e : Expr} {es : List Expr} {t : TA} {k : Nat} {ps : List Str} {sp : Sp}
theorem pe_callD (D : OkD X.prog X.w X.K X.mg X.base k x ps sp) (hr : Room k X.A) (hg : Gl X x) (ha : PA X (e :: es) t) (hdb : (x == ("__debug__" : Str)) = false := by decide)
    (he : starEach (e :: es) X.env = (false, eval e X.env) :: starEach es X.env := by rfl) (hpl : (backTo pos (starEach es X.env)).any (·.1) = false := by rfl) : PE X (.Call (.Name x p) (e :: es) [] pos) (tCall sp [] E0 t) := by
  obtain ⟨f, fd, hm, hk, hb, G⟩ := D
  exact pe_call G hr hg hm hk hb .nil pass0 ha hdb he hpl
end
section
variable {X : Cx} {K : PySem.W.Frag}
theorem ix_listK (e : X.K = K) : IxR X (rIxL K) := by subst e; exact ix_list
theorem call_lenK (e : X.K = K) : CallR X (.builtin "len") (fun xs H Q => ∃ p ys, xs = [.ref p] ∧ (SqL K H p ys ∨ SqT K H p ys) ∧ Q (.int ys.length) H) := by subst e; exact call_len_seq
theorem op_inK (e : X.K = K) : OpR X (compareOp .In) (rIn K false) := by subst e; exact op_in_seq
end
theorem pa_consL {X : Cx} {l : List Expr} {q : Pos} {es : List Expr} {te : TE} {t : TA} (ha : PE X (.List l q) te) (hr : PA X es t) : PA X (.List l q :: es) (tCons te t) := pa_cons ha hr rfl
theorem Dfn.ok {P : Program} {w : World} {K : PySem.W.Frag} {mg : Str → Option Value} {base : Heap} {x : Str} {st : Stmt} {N ps : List Str} {k : Nat} {sp : Sp} (D : Dfn K mg x st ps) (S : FnScope N ps (defScope st)) (len : ∀ vs H Q E, sp vs H Q E → vs.length = ps.length)
    (hbody : ∀ (f : Addr) (cdv : Value) (A : Around) (outer : List Env) (s : Shared) (H : Hp) (vs : List V) (Q : VK) (E : XK), Room k (A.deeper (envOfC x (defScope st) s.heap.objs.size f cdv)) → sp vs H Q E →
      ∃ t, PSs (cxOf CX0 P w K mg base N x (defScope st) f cdv A outer s H E).nox (defBody st) t ∧ t { nx := fun _ H' => Q .non H', rt := Q } (start N vs) H) : OkD P w K mg base (k + 1) x ps sp := by
  obtain ⟨f, fd, F, hm, hb⟩ := D
  exact ⟨f, fd, hm, F.kp, hb, F.ok S len fun cdv A outer s H vs Q E hr h => hbody f cdv A outer s H vs Q E hr h⟩
abbrev IL (K : PySem.W.Frag) (H : Hp) (a : Addr) (ns : List Int) : Prop := SqL K H a (ns.map V.int)
theorem Same.put {H : Hp} {p : Addr} {o : HO} (h : H p = none) : Same H (upd H p o) := fun b u e => by rw [upd_ne (ne_of_none e h)]; exact e
theorem Same.put' {H H' : Hp} {p : Addr} {o : HO} (e : Same H H') (h : H' p = none) : Same H (upd H' p o) := e.trans (Same.put h)
section
variable {K : PySem.W.Frag} {g : TG} {tc : TT} {te : TE} {D : Addr} {H : Hp} {Q : VK} {σ0 : St}
theorem filter_take_succ {α : Type} (p : α → Bool) (l : List α) (i : Nat) (v : α) (h : l[i]? = some v) : (l.take (i + 1)).filter p = (l.take i).filter p ++ (if p v then [v] else []) := by
  rw [List.take_add_one, h, List.filter_append]
  cases hp : p v <;> simp [hp]
theorem comp_pure {J : It} (xs : List V) (p : V → Bool) (f : V → V) (fr : St) (hn : xs.length < sizeLine)
    (hgo : ∀ i H', i < xs.length → Same H H' → J.go i H') (hst : ∀ H', Same H H' → J.stop xs.length H') (hy : ∀ i H' x H2, Same H H' → i < xs.length → J.yld i H' x H2 → H2 = H' ∧ xs[i]? = some x)
    (hD : H D = none) (hg : ∀ x o H' Q', Q' (some x :: fr) H' → g x (o :: fr) H' Q')
    (hc : ∀ x ∈ xs, ∀ H' Q', Same H H' → Q' (p x) H' → tc (some x :: fr) H' Q') (he : ∀ x ∈ xs, p x = true → ∀ H' Q', Same H H' → Q' (f x) H' → te (some x :: fr) H' Q')
    (hQ : Q (.ref D) (upd H D (.lst ((xs.filter p).map f)))) :
    ∃ W : Nat → Nat → St → Hp → Prop, (∃ m, W 0 m (none :: fr) (upd H D (.lst []))) ∧ CTurn J g tc te D W Q := by
  refine ⟨fun i m σ' H' => m = xs.length - i ∧ i ≤ xs.length ∧ (∃ o, σ' = o :: fr) ∧ H' = upd H D (.lst (((xs.take i).filter p).map f)), ⟨xs.length, by simp, Nat.zero_le _, ⟨_, rfl⟩, by simp⟩, ?_⟩
  rintro i m σ' H' ⟨rfl, hi, ⟨o, rfl⟩, rfl⟩
  have sm : ∀ l, Same H (upd H D (.lst l)) := fun l => Same.put hD
  by_cases hlt : i < xs.length
  · refine .inr ⟨hgo i _ hlt (sm _), fun x H2 y => ?_⟩
    obtain ⟨e, ex⟩ := hy i _ x H2 (sm _) hlt y
    subst e
    have hx : x ∈ xs := List.mem_of_getElem? ex
    refine hg x o _ _ (hc x hx _ _ (sm _) ?_)
    have ft := filter_take_succ p xs i x ex
    have lf : ((xs.take i).filter p).length ≤ xs.length := Nat.le_trans (List.length_filter_le _ _) (by rw [List.length_take]; omega)
    cases hp : p x with
    | true =>
      rw [if_pos rfl]
      refine he x hx hp _ _ (sm _) ⟨_, upd_same, by rw [List.length_map]; omega, xs.length - (i + 1), by omega, rfl, hlt, ⟨_, rfl⟩, ?_⟩
      rw [upd_upd, ft, hp]
      simp
    | false =>
      rw [if_neg Bool.false_ne_true]
      refine ⟨xs.length - (i + 1), by omega, rfl, hlt, ⟨_, rfl⟩, ?_⟩
      rw [ft, hp]
      simp
  · have e : i = xs.length := by omega
    subst e
    refine .inl ⟨hst _ (sm _), ?_⟩
    rw [List.take_of_length_le (Nat.le_refl _)]
    exact hQ
theorem gName0 {x : V} {o : Option V} {fr : St} {H' : Hp} {Q' : St → Hp → Prop} (h : Q' (some x :: fr) H') : gName 0 x (o :: fr) H' Q' := h
theorem comp_list {a : Addr} (xs : List V) (p : V → Bool) (f : V → V) (fr : St) (hn : xs.length < sizeLine) (ha : SqL K H a xs) (hD : H D = none)
    (hc : ∀ x ∈ xs, ∀ H' Q', Same H H' → Q' (p x) H' → tc (some x :: fr) H' Q') (he : ∀ x ∈ xs, p x = true → ∀ H' Q', Same H H' → Q' (f x) H' → te (some x :: fr) H' Q')
    (hQ : Q (.ref D) (upd H D (.lst ((xs.filter p).map f)))) : ∃ W : Nat → Nat → St → Hp → Prop, (∃ m, W 0 m (none :: fr) (upd H D (.lst []))) ∧ CTurn (Itl K a) (gName 0) tc te D W Q :=
  comp_pure xs p f fr hn (fun i H' hi s => ⟨xs, xs[i], s.seq ha, by simp [hi]⟩) (fun H' s => ⟨xs, s.seq ha, Nat.le_refl _⟩) (fun i H' x H2 s hi ⟨e, y⟩ => ⟨e, y xs (s.seq ha)⟩) hD (fun _ _ _ _ h => h) hc he hQ
theorem comp_range {lo : Int} (n : Nat) (p : V → Bool) (f : V → V) (fr : St) (hn : n < sizeLine) (hD : H D = none)
    (hc : ∀ i, i < n → ∀ H' Q', Same H H' → Q' (p (.int (lo + (i : Nat)))) H' → tc (some (.int (lo + (i : Nat))) :: fr) H' Q') (he : ∀ i, i < n → p (.int (lo + (i : Nat))) = true → ∀ H' Q', Same H H' → Q' (f (.int (lo + (i : Nat)))) H' → te (some (.int (lo + (i : Nat))) :: fr) H' Q')
    (hQ : Q (.ref D) (upd H D (.lst ((((List.range n).map fun (i : Nat) => V.int (lo + (i : Nat))).filter p).map f)))) : ∃ W : Nat → Nat → St → Hp → Prop, (∃ m, W 0 m (none :: fr) (upd H D (.lst []))) ∧ CTurn (Itr lo n) (gName 0) tc te D W Q := by
  have mem : ∀ x ∈ ((List.range n).map fun (i : Nat) => V.int (lo + (i : Nat))), ∃ i, i < n ∧ x = .int (lo + (i : Nat)) := fun x hx => by
    obtain ⟨i, hi, e⟩ := List.mem_map.mp hx
    exact ⟨i, List.mem_range.mp hi, e.symm⟩
  refine comp_pure ((List.range n).map fun (i : Nat) => V.int (lo + (i : Nat))) p f fr (by simpa using hn) (fun i H' hi s => by simpa [Itr] using hi) (fun H' s => by simp [Itr]) (fun i H' x H2 s hi ⟨e, y⟩ => ⟨e, ?_⟩) hD (fun _ _ _ _ h => h) (fun x hx H' Q' s q => ?_) (fun x hx hp H' Q' s q => ?_) hQ
  · rw [y]
    have hi' : i < n := by simpa using hi
    simp [hi']
  · obtain ⟨i, hi, rfl⟩ := mem x hx
    exact hc i hi H' Q' s q
  · obtain ⟨i, hi, rfl⟩ := mem x hx
    exact he i hi hp H' Q' s q
end
end L2
end
section
set_option maxHeartbeats 2000000
set_option maxRecDepth 100000
set_option linter.unusedVariables false
set_option linter.unusedSimpArgs false
namespace L2
open PySem PySem.Spec PyProof.Rows
def lP (q : Int → Bool) : V → Bool
  | .int i => q i
  | _ => false
def lF (g : Int → Int) : V → V
  | .int i => .int (g i)
  | v => v
theorem lift_list (q : Int → Bool) (g : Int → Int) : ∀ xs : List Int, ((xs.map V.int).filter (lP q)).map (lF g) = ((xs.filter q).map g).map V.int
  | [] => rfl
  | x :: r => by
    have ih := lift_list q g r
    rw [List.map_cons, List.filter_cons, List.filter_cons]
    show (if q x = true then _ else _ : List V).map (lF g) = _
    cases q x with
    | true => simp only [if_true, List.map_cons]; rw [ih]; rfl
    | false => simp only [Bool.false_eq_true, if_false]; exact ih
theorem at_int {ns : List Int} {i : Int} (h0 : 0 ≤ i) (h1 : i < ns.length) : atI (ns.map V.int) i = some (.int (ns.getD i.toNat 0)) := by
  have hl : i.toNat < ns.length := by omega
  have e : (ns.map V.int)[i.toNat]? = some (.int (ns.getD i.toNat 0)) := by
    rw [List.getElem?_map, List.getElem?_eq_getElem hl]
    simp [List.getD, hl]
  have z := atI_nat e
  rwa [Int.toNat_of_nonneg h0] at z
section
variable {K : PySem.W.Frag} {tc : TT} {te : TE} {D : Addr} {H : Hp} {Q : VK}
theorem comp_listI {a : Addr} (xs : List Int) (q : Int → Bool) (g : Int → Int) (fr : St) (hn : xs.length < sizeLine) (ha : IL K H a xs) (hD : H D = none)
    (hc : ∀ x ∈ xs, ∀ H' Q', Same H H' → Q' (q x) H' → tc (some (.int x) :: fr) H' Q') (he : ∀ x ∈ xs, q x = true → ∀ H' Q', Same H H' → Q' (.int (g x)) H' → te (some (.int x) :: fr) H' Q')
    (hQ : Q (.ref D) (upd H D (.lst (((xs.filter q).map g).map V.int)))) : ∃ W : Nat → Nat → St → Hp → Prop, (∃ m, W 0 m (none :: fr) (upd H D (.lst []))) ∧ CTurn (Itl K a) (gName 0) tc te D W Q := by
  refine comp_list (xs.map V.int) (lP q) (lF g) fr (by simpa using hn) ha hD (fun x hx H' Q' s k => ?_) (fun x hx hp H' Q' s k => ?_) (by rw [lift_list]; exact hQ)
  · obtain ⟨i, hi, rfl⟩ := List.mem_map.mp hx
    exact hc i hi H' Q' s k
  · obtain ⟨i, hi, rfl⟩ := List.mem_map.mp hx
    exact he i hi hp H' Q' s k
theorem comp_rangeI {lo : Int} (n : Nat) (q : Int → Bool) (g : Int → Int) (fr : St) (hn : n < sizeLine) (hD : H D = none)
    (hc : ∀ i : Int, lo ≤ i → i < lo + n → ∀ H' Q', Same H H' → Q' (q i) H' → tc (some (.int i) :: fr) H' Q') (he : ∀ i : Int, lo ≤ i → i < lo + n → q i = true → ∀ H' Q', Same H H' → Q' (.int (g i)) H' → te (some (.int i) :: fr) H' Q')
    (hQ : Q (.ref D) (upd H D (.lst (((((List.range n).map fun (i : Nat) => lo + (i : Int)).filter q).map g).map V.int)))) : ∃ W : Nat → Nat → St → Hp → Prop, (∃ m, W 0 m (none :: fr) (upd H D (.lst []))) ∧ CTurn (Itr lo n) (gName 0) tc te D W Q := by
  refine comp_range n (lP q) (lF g) fr hn hD (fun i hi H' Q' s k => hc _ (by omega) (by omega) H' Q' s k) (fun i hi hp H' Q' s k => he _ (by omega) (by omega) hp H' Q' s k) ?_
  have e : ((List.range n).map fun (i : Nat) => V.int (lo + (i : Nat))) = ((List.range n).map fun (i : Nat) => lo + (i : Int)).map V.int := by rw [List.map_map]; rfl
  rw [e, lift_list]
  exact hQ
end
theorem sum_app (a b : List Int) : (a ++ b).sum = a.sum + b.sum := by rw [List.sum_append]
theorem sum_perm {a b : List Int} (h : a.Perm b) : a.sum = b.sum := by
  induction h with
  | nil => rfl
  | cons x _ ih => rw [List.sum_cons, List.sum_cons, ih]
  | swap x y l => simp only [List.sum_cons]; omega
  | trans _ _ i1 i2 => exact i1.trans i2
theorem sum_ge_len : ∀ {l : List Int}, (∀ x ∈ l, 1 ≤ x) → (l.length : Int) ≤ l.sum
  | [], _ => by simp
  | x :: r, h => by
    have := sum_ge_len (l := r) fun y hy => h y (List.mem_cons_of_mem _ hy)
    have := h x List.mem_cons_self
    rw [List.sum_cons, List.length_cons]; omega
theorem sum_ge_mem : ∀ {l : List Int} {x : Int}, (∀ y ∈ l, 0 ≤ y) → x ∈ l → x ≤ l.sum
  | [], x, _, h => by simp at h
  | y :: r, x, h, hx => by
    have h0 := h y List.mem_cons_self
    have hr : ∀ z ∈ r, 0 ≤ z := fun z hz => h z (List.mem_cons_of_mem _ hz)
    have hs : 0 ≤ r.sum := by
      clear h hx h0
      induction r with
      | nil => simp
      | cons z r ih =>
        have := hr z List.mem_cons_self
        have := ih fun a ha => hr a (List.mem_cons_of_mem _ ha)
        rw [List.sum_cons]; omega
    rw [List.sum_cons]
    rcases List.mem_cons.mp hx with e | e
    · omega
    · have := sum_ge_mem hr e; omega
theorem sum_add1 : ∀ l : List Int, (l.map (· + 1)).sum = l.sum + l.length
  | [] => by simp
  | x :: r => by rw [List.map_cons, List.sum_cons, List.sum_cons, sum_add1 r, List.length_cons]; omega
theorem sum_rep (n : Nat) : (List.replicate n (1 : Int)).sum = n := by
  induction n with
  | zero => rfl
  | succ n ih => rw [List.replicate_succ, List.sum_cons, ih]; omega
structure Setting (n : Int) (ps : List Int) : Prop where
  ord : ps.Pairwise (· ≥ ·)
  pos : ∀ x ∈ ps, 1 ≤ x
  sum : ps.sum = n
theorem Setting.len {n : Int} {ps : List Int} (h : Setting n ps) : (ps.length : Int) ≤ n := by rw [← h.sum]; exact sum_ge_len h.pos
theorem Setting.ne {n : Int} {ps : List Int} (h : Setting n ps) (hn : 1 ≤ n) : 0 < ps.length := by
  cases ps with
  | nil => have := h.sum; simp at this; omega
  | cons => simp
theorem Setting.le {n : Int} {ps : List Int} (h : Setting n ps) {x : Int} (hx : x ∈ ps) : x ≤ n := by
  rw [← h.sum]; exact sum_ge_mem (fun y hy => by have := h.pos y hy; omega) hx
theorem Setting.of_perm {n : Int} {ps qs : List Int} (h1 : qs.Perm ps) (h2 : qs.Pairwise (· ≥ ·)) (h3 : ∀ x ∈ ps, 1 ≤ x) (h4 : ps.sum = n) : Setting n qs :=
  ⟨h2, fun x hx => h3 x (h1.mem_iff.mp hx), (sum_perm h1).trans h4⟩
theorem getD_mem' {l : List Int} {i : Nat} (h : i < l.length) : l.getD i 0 ∈ l := by
  rw [List.getD_eq_getElem?_getD, List.getElem?_eq_getElem h]; exact List.getElem_mem h
theorem Setting.elder {n : Int} {ps : List Int} {at' : Nat} (h : Setting n ps) (ha : at' < ps.length) (hb : (ps.length : Int) - 1 ≤ ps.getD at' 0) :
    Setting n ((ps.take at' ++ ps.drop (at' + 1)).map (· + 1) ++ List.replicate (ps.getD at' 0 - ((ps.take at' ++ ps.drop (at' + 1)).map (· + 1)).length).toNat 1) := by
  have el : ((ps.take at' ++ ps.drop (at' + 1)).map (· + 1)).length = ps.length - 1 := by
    rw [List.length_map, List.length_append, List.length_take, List.length_drop]; omega
  have sub : (ps.take at' ++ ps.drop (at' + 1)).Sublist ps := by
    conv => rhs; rw [← List.take_append_drop at' ps]
    exact List.Sublist.append (List.Sublist.refl _) (List.drop_sublist_drop_left ps (Nat.le_succ at'))
  have two : ∀ x ∈ (ps.take at' ++ ps.drop (at' + 1)).map (· + 1), 2 ≤ x := fun x hx => by
    obtain ⟨y, hy, rfl⟩ := List.mem_map.mp hx
    have := h.pos y (sub.subset hy)
    omega
  refine ⟨?_, fun x hx => ?_, ?_⟩
  · refine List.pairwise_append.mpr ⟨?_, ?_, fun x hx y hy => ?_⟩
    · exact (h.ord.sublist sub).map _ fun a b z => by show a + 1 ≥ b + 1; omega
    · exact List.pairwise_replicate.mpr (.inr (Int.le_refl _))
    · have e : y = 1 := List.eq_of_mem_replicate hy
      have := two x hx
      show x ≥ y
      omega
  · rcases List.mem_append.mp hx with z | z
    · have := two x z; omega
    · rw [List.eq_of_mem_replicate z]; exact Int.le_refl _
  · have es : ps.sum = (ps.take at' ++ ps.drop (at' + 1)).sum + ps.getD at' 0 := by
      have e1 : ps = ps.take at' ++ (ps.getD at' 0 :: ps.drop (at' + 1)) := by
        conv => lhs; rw [← List.take_append_drop at' ps, List.drop_eq_getElem_cons ha]
        rw [List.getD_eq_getElem?_getD, List.getElem?_eq_getElem ha]; rfl
      conv => lhs; rw [e1]
      rw [sum_app, sum_app, List.sum_cons]; omega
    have e2 := sum_add1 (ps.take at' ++ ps.drop (at' + 1))
    have e3 : (ps.take at' ++ ps.drop (at' + 1)).length = ps.length - 1 := by rw [← el, List.length_map]
    rw [sum_app, e2, sum_rep, el, e3]
    have := h.sum
    omega
end L2
namespace L2
open PySem PySem.Spec PyProof.Rows
def byMarks (ms : List Int) : List Int := ((List.range ms.length).map fun (i : Nat) => (ms.length : Int) - 1 - (i : Int) + ms.getD i 0).filter fun x => decide (0 < x)
theorem range_all (n : Nat) (g : Int → Int) : (((List.range n).map fun (i : Nat) => (0 : Int) + (i : Int)).filter fun _ => true).map g = (List.range n).map fun (i : Nat) => g (i : Int) := by
  rw [List.filter_eq_self.mpr (fun _ _ => rfl), List.map_map]
  exact List.map_congr_left fun i _ => by show g (0 + (i : Int)) = g i; rw [Int.zero_add]
structure Marks (n : Int) (ms : List Int) : Prop where
  ne : 1 ≤ ms.length
  lo : ((ms.length : Int) - 1) * ms.length < 2 * n
  hi : 2 * n ≤ (ms.length : Int) * (ms.length + 1)
  bit : ∀ m ∈ ms, m = 0 ∨ m = 1
  sum : ms.sum = n - (ms.length : Int) * (ms.length - 1) / 2
def raised (k : Int) : List Int → List Int
  | [] => []
  | m :: r => (k - 1 + m) :: raised (k - 1) r
theorem raised_len : ∀ (k : Int) (ms : List Int), (raised k ms).length = ms.length
  | _, [] => rfl
  | k, m :: r => by rw [raised, List.length_cons, List.length_cons, raised_len]
theorem raised_get : ∀ (k : Int) (ms : List Int) (i : Nat), i < ms.length → (raised k ms)[i]? = some (k - 1 - (i : Int) + ms.getD i 0)
  | _, [], i, h => by simp at h
  | k, m :: r, 0, _ => by simp [raised]
  | k, m :: r, i + 1, h => by
    rw [raised, List.getElem?_cons_succ, raised_get (k - 1) r i (by simpa using h)]
    simp only [List.getD_cons_succ]
    congr 1
    omega
theorem raised_eq (ms : List Int) : ((List.range ms.length).map fun (i : Nat) => (ms.length : Int) - 1 - (i : Int) + ms.getD i 0) = raised ms.length ms := by
  apply List.ext_getElem?
  intro i
  rw [List.getElem?_map]
  by_cases h : i < ms.length
  · rw [raised_get _ _ _ h, List.getElem?_range h]; rfl
  · rw [List.getElem?_eq_none (by simpa using h), List.getElem?_eq_none (by rw [raised_len]; omega)]; rfl
theorem byMarks_eq (ms : List Int) : byMarks ms = (raised ms.length ms).filter fun x => decide (0 < x) := by rw [byMarks, raised_eq]
theorem raised_sum : ∀ (ms : List Int), 2 * (raised ms.length ms).sum = (ms.length : Int) * (ms.length - 1) + 2 * ms.sum := by
  have gen : ∀ (ms : List Int) (k : Int), 2 * (raised k ms).sum = ms.length * (2 * k - ms.length - 1) + 2 * ms.sum := by
    intro ms
    induction ms with
    | nil => intro k; simp [raised]
    | cons m r ih =>
      intro k
      have z := ih (k - 1)
      rw [raised, List.sum_cons, List.sum_cons, List.length_cons]
      have e : ((r.length + 1 : Nat) : Int) * (2 * k - ((r.length + 1 : Nat) : Int) - 1) = (r.length : Int) * (2 * (k - 1) - r.length - 1) + 2 * (k - 1) := by
        rw [Int.natCast_add]
        generalize (r.length : Int) = l
        have e1 : (l + ((1 : Nat) : Int)) * (2 * k - (l + ((1 : Nat) : Int)) - 1) = l * (2 * k - l - 2) + (2 * k - l - 2) := by
          rw [Int.add_mul]; congr 1
          · congr 1; omega
          · omega
        have e2 : l * (2 * (k - 1) - l - 1) = l * (2 * k - l - 2) - l := by
          rw [show 2 * (k - 1) - l - 1 = (2 * k - l - 2) - 1 from by omega, Int.mul_sub, Int.mul_one]
        omega
      omega
  intro ms
  have z := gen ms ms.length
  rw [z, show 2 * (ms.length : Int) - ms.length - 1 = (ms.length : Int) - 1 from by omega]
theorem raised_ord : ∀ (ms : List Int) (k : Int), (∀ m ∈ ms, m = 0 ∨ m = 1) → (raised k ms).Pairwise (· ≥ ·) ∧ ∀ x ∈ raised k ms, x ≤ k
  | [], _, _ => ⟨List.Pairwise.nil, fun x h => by simp [raised] at h⟩
  | m :: r, k, h => by
    obtain ⟨a, b⟩ := raised_ord r (k - 1) fun y hy => h y (List.mem_cons_of_mem _ hy)
    have hm := h m List.mem_cons_self
    rw [raised]
    refine ⟨List.pairwise_cons.mpr ⟨fun y hy => ?_, a⟩, fun x hx => ?_⟩
    · have := b y hy
      show k - 1 + m ≥ y
      omega
    · rcases List.mem_cons.mp hx with e | e
      · omega
      · have := b x e; omega
theorem raised_nonneg : ∀ (ms : List Int) (k : Int), (∀ m ∈ ms, 0 ≤ m) → (ms.length : Int) ≤ k → ∀ x ∈ raised k ms, 0 ≤ x
  | [], _, _, _, x, h => by simp [raised] at h
  | m :: r, k, h, hk, x, hx => by
    rw [List.length_cons] at hk
    rw [raised] at hx
    rcases List.mem_cons.mp hx with e | e
    · have := h m List.mem_cons_self; omega
    · exact raised_nonneg r (k - 1) (fun y hy => h y (List.mem_cons_of_mem _ hy)) (by omega) x e
theorem filter_pos_sum : ∀ {l : List Int}, (∀ x ∈ l, 0 ≤ x) → (l.filter fun x => decide (0 < x)).sum = l.sum
  | [], _ => rfl
  | x :: r, h => by
    have ih := filter_pos_sum (l := r) fun y hy => h y (List.mem_cons_of_mem _ hy)
    have := h x List.mem_cons_self
    rw [List.filter_cons]
    by_cases c : 0 < x
    · rw [if_pos (decide_eq_true c), List.sum_cons, List.sum_cons, ih]
    · rw [if_neg (by simpa using c), ih, List.sum_cons]; omega
theorem Marks.setting {n : Int} {ms : List Int} (h : Marks n ms) : Setting n (byMarks ms) := by
  rw [byMarks_eq]
  have nn : ∀ x ∈ raised ms.length ms, 0 ≤ x := raised_nonneg ms _ (fun m hm => by rcases h.bit m hm with e | e <;> omega) (Int.le_refl _)
  refine ⟨(raised_ord ms _ h.bit).1.sublist (List.filter_sublist), fun x hx => ?_, ?_⟩
  · have := of_decide_eq_true (List.mem_filter.mp hx).2; omega
  · rw [filter_pos_sum nn]
    have z := raised_sum ms
    have s := h.sum
    have even : (ms.length : Int) * (ms.length - 1) / 2 * 2 = (ms.length : Int) * (ms.length - 1) := by
      have p : ∀ k : Nat, ∃ t : Int, (k : Int) * (k - 1) = 2 * t := by
        intro k
        induction k with
        | zero => exact ⟨0, by simp⟩
        | succ k ih =>
          obtain ⟨t, e⟩ := ih
          refine ⟨t + k, ?_⟩
          have e2 : ((k + 1 : Nat) : Int) * (((k + 1 : Nat) : Int) - 1) = (k : Int) * (k - 1) + 2 * k := by
            rw [Int.natCast_add, show ((k : Int) + ((1 : Nat) : Int) - 1) = k from by omega, Int.add_mul, Int.mul_sub]; omega
          omega
      obtain ⟨t, e⟩ := p ms.length
      rw [e]; omega
    omega
end L2
namespace L2
open PySem PySem.Spec PyProof.Rows
theorem cut_to (xs : List V) {i : Int} (h : 0 ≤ i) : cutV xs none (some i) = xs.take i.toNat := by
  have e : HT.sIx xs.length xs.length (some i) = min i.toNat xs.length := by
    have z := HT.sIx_nat xs.length xs.length i.toNat
    rwa [Int.toNat_of_nonneg h] at z
  unfold cutV
  rw [e, HT.sIx_none, Nat.sub_zero, List.drop_zero]
  by_cases c : i.toNat ≤ xs.length
  · rw [Nat.min_eq_left c]
  · rw [Nat.min_eq_right (by omega), List.take_of_length_le (Nat.le_refl _), List.take_of_length_le (by omega)]
theorem cut_from (xs : List V) {i : Int} (h : 0 ≤ i) : cutV xs (some i) none = xs.drop i.toNat := by
  have e : HT.sIx xs.length 0 (some i) = min i.toNat xs.length := by
    have z := HT.sIx_nat xs.length 0 i.toNat
    rwa [Int.toNat_of_nonneg h] at z
  unfold cutV
  rw [e, HT.sIx_none]
  by_cases c : i.toNat ≤ xs.length
  · rw [Nat.min_eq_left c, List.take_of_length_le (by rw [List.length_drop]; exact Nat.le_refl _)]
  · rw [Nat.min_eq_right (by omega), List.drop_of_length_le (Nat.le_refl _), List.drop_of_length_le (by omega)]
    simp
def cand (n : Nat) (q : Int → Bool) : List Int := (((List.range n).map fun (i : Nat) => (0 : Int) + (i : Int)).filter q).map id
theorem cand_mem {n : Nat} {q : Int → Bool} {i : Int} (h : i ∈ cand n q) : 0 ≤ i ∧ i < n ∧ q i = true := by
  unfold cand at h
  rw [List.map_id] at h
  obtain ⟨h1, h2⟩ := List.mem_filter.mp h
  obtain ⟨j, hj, e⟩ := List.mem_map.mp h1
  have := List.mem_range.mp hj
  refine ⟨by omega, by omega, h2⟩
theorem cand_len {n : Nat} {q : Int → Bool} : (cand n q).length ≤ n := by
  unfold cand
  rw [List.length_map]
  refine Nat.le_trans (List.length_filter_le _ _) ?_
  rw [List.length_map, List.length_range]
  exact Nat.le_refl _
theorem ones_eq (n : Nat) : ((((List.range n).map fun (i : Nat) => (0 : Int) + (i : Int)).filter fun _ => true).map fun _ => (1 : Int)) = List.replicate n 1 := by
  rw [range_all, List.map_const']
  simp
theorem all_list (xs : List Int) (g : Int → Int) : (xs.filter fun _ => true).map g = xs.map g := by
  rw [List.filter_eq_self.mpr (fun _ _ => rfl)]
end L2
namespace L2
open PySem PySem.Spec PyProof.Rows
theorem cut {t u : TS} {D : Ends} {σ : St} {H : Hp} (J : St → Hp → Prop) (h : ∀ R : St → Hp → Prop, (∀ σ' H', J σ' H' → R σ' H') → t { D with nx := R } σ H) (h2 : ∀ σ' H', J σ' H' → u D σ' H') : tSeq t u D σ H := h (u D) h2
end L2
namespace L2
end L2
end
section
set_option maxHeartbeats 2000000
set_option maxRecDepth 100000
set_option linter.unusedVariables false
set_option linter.unusedSimpArgs false
namespace L2
open PySem PySem.Spec PyProof.Rows
theorem perm_eq : ∀ {l r : List Int}, l.Perm r → l.Pairwise (· ≥ ·) → r.Pairwise (· ≥ ·) → l = r
  | [], r, h, _, _ => (List.Perm.nil_eq h)
  | x :: l, [], h, _, _ => by have := h.length_eq; simp at this
  | x :: l, y :: r, h, h1, h2 => by
    have e : x = y := by
      have a1 : x ≤ y := by
        rcases List.mem_cons.mp (h.mem_iff.mp List.mem_cons_self) with z | z
        · omega
        · exact (List.pairwise_cons.mp h2).1 x z
      have a2 : y ≤ x := by
        rcases List.mem_cons.mp (h.mem_iff.mpr (List.mem_cons_self : y ∈ y :: r)) with z | z
        · omega
        · exact (List.pairwise_cons.mp h1).1 y z
      omega
    subst e
    rw [perm_eq (List.perm_cons x |>.mp h) (List.pairwise_cons.mp h1).2 (List.pairwise_cons.mp h2).2]
def goodB (ps : List Int) : Bool := decide (ps ≠ [] ∧ ps.sum ≤ 100 ∧ (∀ x ∈ ps, 1 ≤ x) ∧ ps.Pairwise (· ≥ ·))
theorem Setting.good {n : Int} {ps : List Int} (h : Setting n ps) (h0 : 1 ≤ n) (h1 : n ≤ 100) : goodB ps = true :=
  decide_eq_true ⟨fun z => by have := h.ne h0; rw [z] at this; simp at this, by rw [h.sum]; exact h1, h.pos, h.ord⟩
def insD (x : Int) : List Int → List Int
  | [] => [x]
  | y :: r => if y ≤ x then x :: y :: r else y :: insD x r
theorem insD_perm (x : Int) : ∀ l, (insD x l).Perm (x :: l)
  | [] => List.Perm.refl _
  | y :: r => by
    unfold insD
    split
    · exact List.Perm.refl _
    · exact ((insD_perm x r).cons y).trans (List.Perm.swap x y r)
theorem insD_ord {x : Int} : ∀ {l : List Int}, l.Pairwise (· ≥ ·) → (insD x l).Pairwise (· ≥ ·)
  | [], _ => List.pairwise_singleton _ _
  | y :: r, h => by
    obtain ⟨h1, h2⟩ := List.pairwise_cons.mp h
    unfold insD
    split
    · rename_i c
      refine List.pairwise_cons.mpr ⟨fun z hz => ?_, h⟩
      rcases List.mem_cons.mp hz with e | e
      · rw [e]; exact c
      · have := h1 z e
        show x ≥ z
        omega
    · rename_i c
      refine List.pairwise_cons.mpr ⟨fun z hz => ?_, insD_ord h2⟩
      rcases List.mem_cons.mp ((insD_perm x r).mem_iff.mp hz) with e | e
      · rw [e]; show y ≥ x; omega
      · exact h1 z e
def leftOf (ps : List Int) : List Int := (ps.filter fun x => decide (1 < x)).map fun x => x - 1
def turn (ps : List Int) : List Int := insD ps.length (leftOf ps)
theorem leftOf_ord {ps : List Int} (h : ps.Pairwise (· ≥ ·)) : (leftOf ps).Pairwise (· ≥ ·) := (h.sublist List.filter_sublist).map _ fun a b z => by show a - 1 ≥ b - 1; omega
theorem turn_perm (ps : List Int) : (turn ps).Perm (leftOf ps ++ [(ps.length : Int)]) := (insD_perm _ _).trans (List.perm_append_comm (l₁ := [(ps.length : Int)]))
theorem turn_ord {ps : List Int} (h : ps.Pairwise (· ≥ ·)) : (turn ps).Pairwise (· ≥ ·) := insD_ord (leftOf_ord h)
theorem turn_of {ps qs : List Int} (h : ps.Pairwise (· ≥ ·)) (p : qs.Perm (leftOf ps ++ [(ps.length : Int)])) (o : qs.Pairwise (· ≥ ·)) : qs = turn ps := perm_eq (p.trans (turn_perm ps).symm) o (turn_ord h)
theorem leftOf_sum : ∀ {ps : List Int}, (∀ x ∈ ps, 1 ≤ x) → (leftOf ps).sum + ps.length = ps.sum
  | [], _ => rfl
  | x :: r, h => by
    have ih := leftOf_sum (ps := r) fun y hy => h y (List.mem_cons_of_mem _ hy)
    have hx := h x List.mem_cons_self
    unfold leftOf at ih ⊢
    rw [List.filter_cons]
    by_cases c : 1 < x
    · rw [if_pos (decide_eq_true c), List.map_cons, List.sum_cons, List.sum_cons, List.length_cons]; omega
    · rw [if_neg (by simpa using c), List.sum_cons, List.length_cons]; omega
theorem leftOf_pos {ps : List Int} : ∀ x ∈ leftOf ps, 1 ≤ x := fun x hx => by
  obtain ⟨y, hy, rfl⟩ := List.mem_map.mp hx
  have := of_decide_eq_true (List.mem_filter.mp hy).2
  omega
theorem leftOf_two {ps : List Int} (h : ∀ x ∈ ps, 1 ≤ x) : 2 * ((leftOf ps).length : Int) ≤ ps.sum := by
  have e1 := leftOf_sum h
  have e2 := sum_ge_len (leftOf_pos (ps := ps))
  have e3 : ((leftOf ps).length : Int) ≤ ps.length := by
    unfold leftOf
    rw [List.length_map]
    have := List.length_filter_le (fun x : Int => decide (1 < x)) ps
    omega
  omega
theorem Setting.turn {n : Int} {ps : List Int} (h : Setting n ps) (h0 : 1 ≤ n) : Setting n (turn ps) := by
  refine Setting.of_perm (turn_perm ps) (turn_ord h.ord) (fun x hx => ?_) ?_
  · rcases List.mem_append.mp hx with z | z
    · exact leftOf_pos x z
    · have := h.ne h0; rw [List.mem_singleton.mp z]; omega
  · rw [sum_app, List.sum_cons, List.sum_nil]
    have := leftOf_sum h.pos
    have := h.sum
    omega
end L2
end
section
set_option maxHeartbeats 2000000
set_option maxRecDepth 100000
set_option linter.unusedVariables false
set_option linter.unusedSimpArgs false
namespace L2
open PySem PySem.Spec PyProof.Rows
section
variable {X : Cx} {pins : List (Addr × Obj)} {σ : St} {H : Hp} {s : Shared} {h' : Heap}
theorem Inv.turnLaid {fp : List Addr} {a : Addr} {o : HO} {t' : Nat} (I : Inv X pins σ H s) (hf : ∀ b ∈ fp, FpOk X pins H b) (k : ∀ b u, b ∉ fp → s.heap.get? b = some u → h'.get? b = some u)
    (hp : s.heap.objs.size ≤ a) (new : ObjOk X.prog X.w (upd H a o) h' a o) : Inv X pins σ (upd H a o) { s with heap := h', toks := t' } := by
  have hn : H a = none := I.hok.fresh hp
  have nf : ∀ b u, H b = some u → b ∉ fp := fun b u e z => by rw [(hf b z).1] at e; cases e
  refine I.step (g' := s.gens) (d' := s.drawn) (ch := fp) (fun b hb => ?_) (fun b o _ _ hc e _ => k b o hc e) (fun b o _ _ hc e _ => ⟨o.slots, k b o hc e⟩) (fun b o _ e n => ?_)
    (fun b o hc e => ⟨o, k b o hc e⟩) (fun b xs q => ?_) (fun b u xs q => ?_) (fun b ps q => ⟨#[], ?_⟩) (fun m hm => ?_) (fun b u e => ?_) I.bare
  · obtain ⟨_, f1, _, f3, f4, f5⟩ := hf b hb
    exact ⟨f3, f1, f4, f5⟩
  · rw [upd_ne (Nat.ne_of_lt (Nat.lt_of_lt_of_le (Heap.lt_size e) hp))]; exact n
  · rw [upd_ne (ne_of_none q hn)]; exact q
  · rw [upd_ne (ne_of_none q hn)]; exact q
  · rw [upd_ne (ne_of_none q hn), q]; simp
  · obtain ⟨o, es, ep, ho, r⟩ := hm
    exact ⟨o, es, ep, k _ o (fun z => (hf _ z).2.1 rfl) ho, r⟩
  · by_cases hb : b = a
    · subst hb; rw [upd_same] at e; cases e; exact new
    · rw [upd_ne hb] at e
      refine (I.hok b u e).stay (fun c v hc q => k c v ?_ q) (fun c q => by rw [upd_ne (ne_of_none q hn)]; exact q) fun c xs q => by rw [upd_ne (ne_of_none q hn)]; exact q
      rcases hc with z | z
      · rw [z]; exact nf b u e
      · exact nf c _ z
theorem Inv.turns {fp : List Addr} {t' : Nat} (I : Inv X pins σ H s) (hf : ∀ b ∈ fp, FpOk X pins H b) (k : ∀ b u, b ∉ fp → s.heap.get? b = some u → h'.get? b = some u) : Inv X pins σ H { s with heap := h', toks := t' } := by
  have nf : ∀ b u, H b = some u → b ∉ fp := fun b u e z => by rw [(hf b z).1] at e; cases e
  refine I.step (g' := s.gens) (d' := s.drawn) (ch := fp) (fun b hb => ?_) (fun b o _ _ hc e _ => k b o hc e) (fun b o _ _ hc e _ => ⟨o.slots, k b o hc e⟩) (fun b o _ e n => n)
    (fun b o hc e => ⟨o, k b o hc e⟩) (fun b xs q => q) (fun b u xs q => q) (fun b ps q => ⟨#[], by rw [q]; simp⟩) (fun m hm => ?_) (fun b u e => ?_) I.bare
  · obtain ⟨_, f1, _, f3, f4, f5⟩ := hf b hb
    exact ⟨f3, f1, f4, f5⟩
  · obtain ⟨o, es, ep, ho, r⟩ := hm
    exact ⟨o, es, ep, k _ o (fun z => (hf _ z).2.1 rfl) ho, r⟩
  · refine (I.hok b u e).stay (fun c v hc q => k c v ?_ q) (fun c q => q) fun c xs q => q
    rcases hc with z | z
    · rw [z]; exact nf b u e
    · exact nf c _ z
end
def Ite (K : PySem.W.Frag) (a : Addr) : It :=
  ⟨fun i H => ∃ xs x, SqL K H a xs ∧ xs[i]? = some x, fun i H x H' => ∃ t y, H t = none ∧ H' = upd H t (.tup [.int i, y]) ∧ x = .ref t ∧ ∀ xs, SqL K H a xs → xs[i]? = some y, fun i H => ∃ xs, SqL K H a xs ∧ xs.length ≤ i⟩
theorem turn_enum {P : Program} {w : World} {K : PySem.W.Frag} {els : List Expr} {k1} {pos : Pos} (a e it : Addr) (hne : e ≠ it) : Turn P w K (.Tuple els k1 pos) (Ite K a) [e, it] e (fun i h => (∃ old, IsEnum h e it ((i : Nat) : Int) old) ∧ h.IsListIter it a i) where
  mem := by simp
  obj := fun i h st b hb => by
    obtain ⟨⟨old, h1⟩, o2, h2, c2, d2⟩ := st
    rcases List.mem_cons.mp hb with z | z
    · subst z; exact ⟨_, h1, fun v z => by cases z⟩
    · obtain rfl : b = it := by simpa using z
      exact ⟨o2, h2, fun v z => by rw [d2] at z; cases z⟩
  keep := fun i h h' st k => by
    obtain ⟨⟨old, h1⟩, h2⟩ := st
    exact ⟨⟨old, k e (by simp) _ h1⟩, h2.at fun o q => k it (by simp) o q⟩
  item := by
    intro X hP hw hK hc i pins s σ H E I hf st hg
    subst hP hw hK
    obtain ⟨⟨old, st1⟩, st2⟩ := st
    obtain ⟨xs, x, hq, hx⟩ := hg
    obtain ⟨its, rv, p, hz⟩ := I.list hq
    obtain ⟨u, hu, ru⟩ := rv.get hx
    have he : e < s.heap.objs.size := Heap.lt_size st1
    refine wpAny_pyNext_enum_item st1 st2 p.isList (x := u) (by simpa using hu) hne fun h1 eo it1 tu sz kp => ⟨_, rfl, ?_⟩
    refine wpAny_letOwnedTupleGo_enum eo fun h2 e2 sb => ?_
    have sb : Heap.SameBut e h1 h2 := sb
    have tu2 : h2.get? s.heap.objs.size = some { cls := .type "tuple", data := .seq #[.int i s.toks, u] } := (sb.2 _ (Nat.ne_of_gt he)).trans tu
    refine ⟨.ref s.heap.objs.size, upd H s.heap.objs.size (.tup [.int i, x]), I.turnLaid (t' := s.toks + 1) hf (fun b o hb q => ?_) (Nat.le_refl _) ⟨by show 2 ≤ sizeLine; rw [sizeLine_eq]; decide, [.int i s.toks, u], .cons ⟨_, rfl⟩ (.cons ru .nil), ⟨_, tu2, rfl, _, rfl⟩⟩, rfl, ⟨_, x, I.fresh, rfl, rfl, fun ys hy => by rw [I.list_inj hy hq]; exact hx⟩, ⟨⟨u, ?_⟩, ?_⟩, fun b hb => ?_⟩
    · have n1 : b ≠ e := fun z => hb (by simp [z])
      have n2 : b ≠ it := fun z => hb (by simp [z])
      exact (sb.2 b n1).trans (kp b o n1 n2 q)
    · have z : ((i + 1 : Nat) : Int) = (i : Int) + 1 := by push_cast; rfl
      rw [z]; exact e2
    · exact it1.extBut sb.extBut (Ne.symm hne)
    · rw [upd_ne]
      · exact (hf b hb).1
      · rcases List.mem_cons.mp hb with z | z
        · rw [z]; exact Nat.ne_of_lt he
        · obtain rfl : b = it := by simpa using z
          obtain ⟨o, ho, _⟩ := id st2
          exact Nat.ne_of_lt (Heap.lt_size ho)
  done := by
    intro X hP hw hK hc i pins s σ H E I hf st hg
    subst hP hw hK
    obtain ⟨⟨old, st1⟩, st2⟩ := st
    obtain ⟨xs, hq, hx⟩ := hg
    obtain ⟨its, rv, p, hz⟩ := I.list hq
    have hl := rv.length
    exact wpAny_pyNext_enum_end (I.ok.hd hc) st1 st2 p.isList (by simp; omega) fun h' eb => ⟨rfl, I.turns (t' := s.toks) hf fun b o hb q => eb b o (fun z => hb (by simp [z])) q⟩
  self := fun _ _ _ _ _ st h => by
    obtain ⟨⟨old, h1⟩, _⟩ := st
    exact wpAny_pyIter_enum h1 h
section
variable {X : Cx}
def iEnum (K : PySem.W.Frag) (ta : TA) : TI := fun σ H R => ta σ H fun vs H1 => ∃ a, vs = [.ref a] ∧ (∃ xs, SqL K H1 a xs) ∧ R (Ite K a) H1
theorem pi_enum {els : List Expr} {k1} {tpos : Pos} {a : Expr} {ta : TA} {p pos : Pos} (hg : Gl X "enumerate") (hm : X.mg "enumerate" = none) (ha : PA X [a] ta) (hs : starEach [a] X.env = [(false, eval a X.env)] := by rfl) :
    PI X (.Tuple els k1 tpos) (.Call (.Name "enumerate" p) [a] [] pos) (iEnum X.K ta) := by
  intro pins s σ H R I h
  refine Call_ (ld_blt I hg hm boot_enumerate (PyProof.Rows.callWith_type1 (thn (ha pos pins s σ H _ I h) fun us s1 ⟨vs, H1, I1, r1, q1⟩ => ?_) hs rfl))
  obtain ⟨l, rfl, ⟨xs, hq⟩, q⟩ := q1
  obtain ⟨u, rfl, rx⟩ := vals1 r1
  cases rx
  obtain ⟨its, rv, pl, hz⟩ := I1.list hq
  refine call_enumerate_list pl.isList fun h' e1 e2 sz kp => ?_
  refine wpAny_pyIter_enum e1 ?_
  refine ⟨s1.heap.objs.size + 1, [s1.heap.objs.size + 1, s1.heap.objs.size], _, _, H1, rfl, I1.kept (t' := s1.toks) kp, turn_enum l _ _ (Nat.succ_ne_self _), ⟨⟨_, e1⟩, e2⟩, fun b hb => ?_, q⟩
  have hb' : s1.heap.objs.size ≤ b := by
    rcases List.mem_cons.mp hb with z | z
    · rw [z]; exact Nat.le_succ _
    · obtain rfl : b = s1.heap.objs.size := by simpa using z
      exact Nat.le_refl _
  exact I1.fpOk hb' (I1.hok.fresh hb')
theorem pg_tupK {K : PySem.W.Frag} {es : List Expr} {k : Nat} {t : TGs} {n : Nat} {pos : Pos} (eK : X.K = K) (hc : X.calm = true) (h : PGs X es t)
    (hn : (assignEach es X.env).length = n := by rfl) (hst : (assignEach es X.env).findIdx? (·.1) = none := by rfl) : PG X (.Tuple es k pos) (gTup K n t) := by subst eK; exact pg_tup hc h hn hst
end
theorem comp_enumI {K : PySem.W.Frag} {te : TE} {D : Addr} {H : Hp} {Q : VK} {a : Addr} (ns : List Int) (g : Nat → Int → Int) (fr : St) (hn : ns.length < sizeLine) (ha : SqL K H a (ns.map V.int)) (hD : H D = none)
    (he : ∀ (i : Nat) (n : Int), ns[i]? = some n → ∀ H' Q', Same H H' → Q' (.int (g i n)) H' → te (some (.int i) :: some (.int n) :: fr) H' Q')
    (hQ : ∀ H', Same H H' → H' D = some (.lst ((ns.mapIdx g).map V.int)) → Q (.ref D) H') :
    ∃ W : Nat → Nat → St → Hp → Prop, (∃ m, W 0 m (none :: none :: fr) (upd H D (.lst []))) ∧ CTurn (Ite K a) (gTup K 2 (gCons (gName 0) (gCons (gName 1) gNil))) tYes te D W Q := by
  refine ⟨fun i m σ' H' => m = ns.length - i ∧ i ≤ ns.length ∧ (∃ o1 o2, σ' = o1 :: o2 :: fr) ∧ Same H H' ∧ H' D = some (.lst (((ns.mapIdx g).take i).map V.int)), ⟨ns.length, by simp, Nat.zero_le _, ⟨_, _, rfl⟩, Same.put hD, by rw [upd_same]; simp⟩, ?_⟩
  rintro i m σ' H' ⟨rfl, hi, ⟨o1, o2, rfl⟩, sm, hd⟩
  by_cases hlt : i < ns.length
  · have ex : ns[i]? = some ns[i] := by simp [hlt]
    refine .inr ⟨⟨_, .int ns[i], sm.seq ha, by simp [hlt]⟩, fun x H2 ⟨t, y, ht, e2, ex2, hy⟩ => ?_⟩
    subst e2 ex2
    have ey := hy _ (sm.seq ha)
    rw [List.getElem?_map, ex] at ey
    obtain rfl : V.int ns[i] = y := by simpa using ey
    have nt : D ≠ t := ne_of_none hd ht
    refine ⟨t, _, rfl, SqT.of upd_same, rfl, _, _, rfl, _, _, rfl, rfl, ?_⟩
    unfold tYes; dsimp only
    rw [if_pos rfl]
    refine he i _ ex _ _ (sm.put' ht) ⟨_, (upd_ne nt).trans hd, ?_, ns.length - (i + 1), by omega, rfl, hlt, ⟨_, _, rfl⟩, ?_, ?_⟩
    · rw [List.length_map, List.length_take, List.length_mapIdx]; omega
    · intro b u e
      have n1 : b ≠ D := ne_of_none e hD
      have n2 : b ≠ t := ne_of_none (sm b u e) ht
      rw [upd_ne n1, upd_ne n2]; exact sm b u e
    · rw [upd_same, List.take_add_one, List.getElem?_mapIdx, ex]
      simp
  · have e : i = ns.length := by omega
    subst e
    refine .inl ⟨⟨_, sm.seq ha, by simp⟩, hQ _ sm ?_⟩
    rw [hd, List.take_of_length_le (by rw [List.length_mapIdx]; exact Nat.le_refl _)]
end L2
end
section
set_option maxHeartbeats 2000000
set_option maxRecDepth 100000
set_option linter.unusedVariables false
set_option linter.unusedSimpArgs false
namespace L2
open PySem PySem.Spec PyProof.Rows
def wI (i : Nat) (n : Int) : Int := n * (n - 1) / 2 + n * (i : Int)
def W (ps : List Int) : Int := (ps.mapIdx wI).sum
theorem even_mul (n : Int) : 2 * (n * (n - 1) / 2) = n * (n - 1) := by
  have h : n * (n - 1) % 2 = 0 := by
    rcases Int.emod_two_eq n with h | h
    · rw [Int.mul_emod, h]; simp
    · have : (n - 1) % 2 = 0 := by omega
      rw [Int.mul_emod, this]; simp
  omega
end L2
end
section
set_option maxHeartbeats 2000000
set_option maxRecDepth 100000
set_option linter.unusedVariables false
set_option linter.unusedSimpArgs false
namespace XC
open PySem PySem.Spec PySem.Calls PyProof.Rows PySem.W Builtin.Getset_descriptor
structure ExC (K : Frag) (C : Addr) : Prop where
  ga : findIn K (.ref C) "__getattribute__" = some (some (.builtin "BaseException.__getattribute__"))
  nog : findIn K (.ref C) "__getattr__" = some none
  cls : findIn K (.ref C) "__class__" = some (some (.builtin "object.__class__"))
  sp : specialIn K (.builtin "object.__class__") "__get__" = some (some (.builtin "getset_descriptor.__get__"))
  tk : takesIn K (.builtin "object.__class__") = some true
  ob : mroIn K C (.type "object") = some true
  be : subIn K (.ref C) (.type "BaseException") = some true
  is : (clsIn K C).isSome = true
def AtC (x C : Addr) (h : Heap) : Prop := ∃ o, h.get? x = some o ∧ o.cls = .ref C
theorem AtC.type {x C : Addr} {h : Heap} {M : Model} (p : AtC x C h) : Looks M h (typeOf (.ref x)) (.ref C) := by
  obtain ⟨o, e, c⟩ := p
  exact c ▸ (Looks.ld e).andThen .now
section
variable {prog : Program} {w : World} {A : Around} {E : Value → Shared → Prop} {s : Shared} {K : Frag} {x C : Addr}
theorem cls_find {M : Model} {h : Heap} (T : ExC K C) (X : K.In h) : Looks M h (Builtin.ObjectAttr.find (.ref x) (.ref C) "__class__") (.bind (.builtin "getset_descriptor.__get__") (.builtin "object.__class__")) :=
  (looks_findIn X T.cls).andThen ((show Looks M h (Builtin.ObjectAttr.getOf (some (.builtin "object.__class__"))) _ from looks_specialIn X T.sp).andThen
    ((show Looks M h (Builtin.ObjectAttr.dataDescriptor? (some (.builtin "object.__class__")) (some (.builtin "getset_descriptor.__get__"))) (some (.builtin "getset_descriptor.__get__", .builtin "object.__class__")) from (looks_takesIn X T.tk).andThen .now).andThen (Looks.tag .now)))
theorem cls_got {R : Result → Shared → Prop} {tp : Value} (T : ExC K C) (X : K.In s.heap) (I : AtC x C s.heap) (h : R (.ok (.ret (.ref C))) s) :
    codeAny (model prog w) A (.call (.builtin "getset_descriptor.__get__") ⟨[.builtin "object.__class__", .ref x, tp], []⟩) R s := by
  obtain ⟨hh, g, dr, t, os⟩ := s
  have LT := I.type (M := model prog w)
  have LM := looks_mroIn (M := model prog w) X T.ob
  refine codeAny_call_builtin KF.slot_gs.plain KF.entry_gs (KF.slot_gs.check _ _ _ _ _ _ _ _ KF.type_class (KF.args_gs _ _ _) ?_)
  unfold Builtin.«getset_descriptor.__get__» descrGet; rw [dga_obj]; refine wpAny_bind (wpAny_pure ?_)
  unfold descrGetter descrCheckInstance descrNameAndClass isInstance; simp only [KF.owner_class]; repeat lk
  refine ⟨Code.quiet_builtin _ (by decide +kernel), codeAny_builtin KF.entry_class ?_⟩; unfold Builtin.«object.__class__» shownTypeOf; repeat lk
  exact h
theorem cls_entry {tk : Tok} {Q : Fin → Shared → Prop} (T : ExC K C) (X : K.In s.heap) (I : AtC x C s.heap) (h : Q (.done (.ret (.ref C))) s) :
    wpAny (model prog w) A (Builtin.«object.__getattribute__» ⟨[.ref x, .str "__class__" tk], []⟩) Q E s := by
  obtain ⟨hh, g, d, t, os⟩ := s
  have L0 := I.type (M := model prog w)
  have L1 := cls_find (x := x) (M := model prog w) T X
  unfold Builtin.«object.__getattribute__»
  repeat (any_goals (first | assumption | with_reducible refine wpAny_bind (L0.at ?_) | with_reducible refine wpAny_bind (L1.at ?_) | wp_step))
  exact cls_got (s := ⟨hh, g, d, t, os⟩) T X I (wpAny_pure h)
theorem cls_check {nameV : Value} {Q : Unit → Shared → Prop} (T : ExC K C) (X : K.In s.heap) (I : AtC x C s.heap) (h : Q () s) :
    wpAny (model prog w) A (checkBuiltinCall "BaseException.__getattribute__" ⟨[.ref x, nameV], []⟩) Q E s := by
  obtain ⟨hh, g, d, t, os⟩ := s
  have hk : builtinKind "BaseException.__getattribute__" = some .slot := by decide +kernel
  have hsplit : splitId "BaseException.__getattribute__" = some ("BaseException", "__getattribute__") := by decide +kernel
  have L0 := I.type (M := model prog w)
  have L1 := looks_subIn (M := model prog w) X T.be
  have LI : Looks (model prog w) hh (isInstance (.ref x) (.type "BaseException")) true := L0.andThen L1
  have ha := F.args_bexc_ga (.ref x) nameV
  simp only [checkBuiltinCall, hk, hsplit]
  refine wpAny_bind (LI.at ?_)
  repeat (any_goals (first | assumption | wp_step))
theorem cls_call {tk : Tok} {R : Result → Shared → Prop} (T : ExC K C) (X : K.In s.heap) (I : AtC x C s.heap) (h : R (.ok (.ret (.ref C))) s) :
    codeAny (model prog w) A (.call (.builtin "BaseException.__getattribute__") ⟨[.ref x, .str "__class__" tk], []⟩) R s :=
  codeAny_call_builtin F.attr_ValueError.ga.plain F.entry_bexc_ga (cls_check T X I (cls_entry T X I h))
theorem cls_by {tk : Tok} {Q : Value → Shared → Prop} (T : ExC K C) (X : K.In s.heap) (I : AtC x C s.heap) (h : Q (.ref C) s) :
    wpAny (model prog w) A (getAttrBy (.ref x) (.str "__class__" tk) false) Q E s := by
  obtain ⟨hh, g, d, t, os⟩ := s
  have L0 := I.type (M := model prog w)
  have L1 := looks_findIn (M := model prog w) X T.ga
  have L2 := looks_findIn (M := model prog w) X T.nog
  have f3 := F.attr_ValueError.ga.bind (.ref x)
  have hx2 : (Value.builtin "BaseException.__getattribute__" == Value.builtin "object.__getattribute__") = false := by decide +kernel
  have hx1 : (onTheHeap (Value.ref C) && Value.builtin "BaseException.__getattribute__" == Value.builtin "object.__getattribute__") = false := by rw [hx2]; rfl
  repeat (any_goals (first | assumption | with_reducible refine wpAny_bind (L0.at ?_) | with_reducible refine wpAny_bind (L1.at ?_) | with_reducible refine wpAny_bind (L2.at ?_) | with_reducible refine L2.at ?_ | wp_step))
  refine cls_call (s := ⟨hh, g, d, t, os⟩) T X I ?_
  repeat (any_goals (first | assumption | wp_step))
theorem cls_attr {Q : Option Value → Shared → Prop} (T : ExC K C) (X : K.In s.heap) (I : AtC x C s.heap) (h : Q (some (.ref C)) { s with toks := s.toks + 1 }) : wpAny (model prog w) A (getAttr? (.ref x) "__class__") Q E s := by
  obtain ⟨hh, g, d, t, os⟩ := s
  unfold getAttr? getAttrBy?
  refine wpAny_bind (wpAny_mkText (wpAny_bind (wpAny_attempt (cls_by (s := ⟨hh, g, d, t + 1, os⟩) T X I ?_))))
  exact wpAny_pure h
theorem isCls (h : (clsIn K C).isSome = true) : ∃ c d cd sl, K.lookup C = some ⟨c, d, .cls cd, sl⟩ := by
  unfold clsIn at h
  split at h
  · rename_i e; exact ⟨_, _, _, _, e⟩
  · cases h
theorem kitx_exc (T : ExC K C) : KitX K (.ref x) (.ref C) (AtC x C) where
  ty := fun _ _ _ I => I.type
  it := fun _ _ X _ => by
    obtain ⟨c, d, cd, sl, e⟩ := isCls T.is
    intro A' Q' E' s' k q
    unfold isType loadHead; exact wpAny_bind (wpAny_loadPart (k _ _ (X _ _ e)) (wpAny_pure q))
  ne := fun h tp dd its n sl X htp => by
    obtain ⟨c, d, cd, sl', e⟩ := isCls T.is
    cases hc : (Value.ref C == Value.ref tp) with
    | false => rfl
    | true =>
      have ee : C = tp := Value.ref.inj (beq_iff_eq.mp hc)
      have z := X _ _ e
      rw [ee, htp] at z
      cases z
  ca := fun X I k => cls_attr T X I k
end
end XC
end
section
set_option maxHeartbeats 2000000
set_option maxRecDepth 100000
set_option linter.unusedVariables false
set_option linter.unusedSimpArgs false
namespace L2
open PySem PySem.Spec PyProof.Rows
theorem ObjOk.get {P : Program} {w : World} {H : Hp} {h : Heap} {a : Addr} {o : HO} (x : ObjOk P w H h a o) : ∃ ob, h.get? a = some ob := by
  cases o with
  | lst xs => obtain ⟨_, _, _, _, e⟩ := x; exact ⟨_, e⟩
  | tup xs => obtain ⟨_, _, _, ob, e, _⟩ := x; exact ⟨_, e⟩
  | dK kvs => obtain ⟨_, _, _, _, ob, _, _, e, _⟩ := x; exact ⟨_, e⟩
  | dT kvs => obtain ⟨_, _, _, _, ob, _, _, e, _⟩ := x; exact ⟨_, e⟩
  | set S n => obtain ⟨ob, _, _, _, e, _⟩ := x; exact ⟨_, e⟩
  | ins C dx fs => obtain ⟨_, _, _, e, _⟩ := x; exact ⟨_, e⟩
  | own y => exact x
  | xd fs => obtain ⟨_, ⟨_, _, _, e, _⟩, _⟩ := x; exact ⟨_, e⟩
  | rng lo hi => obtain ⟨_, _, _, e⟩ := x; exact ⟨_, e⟩
  | frz ob u => obtain ⟨e, _⟩ := x; exact ⟨_, e⟩
  | tbl ps => exact ⟨_, x⟩
  | met f y => exact ⟨_, x⟩
  | ext φ => obtain ⟨_, e, _⟩ := x; exact e
structure Fly (outer : List Env) (H' : Hp) (h0 h : Heap) (B : Heap) (e : Addr) (cls a0 : Value) : Prop where
  fl : Heap.FlyingW B outer e cls a0 h
  trk : ∀ b o, H' b = some o → ∃ ob, B.get? b = some ob
  old : ∀ b o, h0.get? b = some o → b ∉ frs outer → ∃ ob, B.get? b = some ob
def CXF (P : Program) (w : World) : CXT := fun outer H s E v s' => ∃ (e : Addr) (cls a0 : Value) (H' : Hp) (B : Heap), v = .ref e ∧ s'.os = s.os ∧ AllBare s'.gens ∧ Un (frs outer) [] H H' s.heap s'.heap ∧ HOk P w H' s'.heap ∧
  Fly outer H' s.heap s'.heap B e cls a0 ∧ E cls none H'
section
variable {P : Program} {w : World} {outer : List Env} {H H' : Hp} {h0 h h3 B : Heap} {e : Addr} {cls a0 : Value}
theorem Fly.same (F : Fly outer H' h0 h B e cls a0) (st : B.StaysIn h3) {b : Addr} {ob u : Obj} (hb : B.get? b = some ob) (q : h.get? b = some u) : h3.get? b = some u := by
  have := F.fl.1 b ob hb
  rw [q] at this
  cases this
  exact st b _ hb
theorem Fly.hok (F : Fly outer H' h0 h B e cls a0) (st : B.StaysIn h3) (hok : HOk P w H' h) : HOk P w H' h3 := fun a o q =>
  (hok a o q).stay (fun b u hb q2 => by
    have : ∃ o', H' b = some o' := by
      rcases hb with z | z
      · rw [z]; exact ⟨o, q⟩
      · exact ⟨_, z⟩
    obtain ⟨o', q3⟩ := this
    obtain ⟨ob, q4⟩ := F.trk b o' q3
    exact F.same st q4 q2) (fun _ q => q) fun _ _ q => q
theorem Fly.un (F : Fly outer H' h0 h B e cls a0) (st : B.StaysIn h3) (sm : h.UpToSlots h3) (u : Un (frs outer) [] H H' h0 h) : Un (frs outer) [] H H' h0 h3 := by
  have frm : ∀ b, b ∈ frs outer → ∀ o', h.get? b = some o' → ∃ sl, h3.get? b = some { o' with slots := sl } := fun b hb o' q => by
    obtain ⟨_, o2, q2, nf⟩ := F.fl.2.2.1.mem hb
    rw [q] at q2; cases q2
    exact sm b o' q nf
  refine ⟨fun b o q n hb hx => ?_, fun b o q n hb hx => ?_, u.free, fun b o q hx => ?_, u.tups, u.frzs, u.tbls⟩
  · obtain ⟨ob, q4⟩ := F.old b o q hb
    exact F.same st q4 (u.keep b o q n hb hx)
  · obtain ⟨sl, q2⟩ := u.slot b o q n hb hx
    obtain ⟨sl', q3⟩ := frm b hb _ q2
    exact ⟨sl', q3⟩
  · obtain ⟨o', q2⟩ := u.there b o q hx
    by_cases hb : b ∈ frs outer
    · obtain ⟨sl, q3⟩ := frm b hb o' q2
      exact ⟨_, q3⟩
    · obtain ⟨ob, q4⟩ := F.old b o q hb
      exact ⟨_, st b ob q4⟩
theorem Fly.noH (F : Fly outer H' h0 h B e cls a0) : H' e = none := by
  cases q : H' e with
  | none => rfl
  | some o =>
    obtain ⟨ob, z⟩ := F.trk e o q
    rw [F.fl.2.1] at z; cases z
theorem Fly.new (F : Fly outer H' h0 h B e cls a0) (u : Un (frs outer) [] H H' h0 h) (hf : ∀ b ∈ frs outer, H b = none) : h0.get? e = none := by
  cases q : h0.get? e with
  | none => rfl
  | some o =>
    by_cases hb : e ∈ frs outer
    · obtain ⟨_, o2, q2, nf⟩ := F.fl.2.2.1.mem hb
      obtain ⟨oe, vs, T, oT, ts, q3, _, hd, _⟩ := F.fl.2.2.2
      rw [q2] at q3; cases q3
      exact absurd hd (nf vs)
    · obtain ⟨ob, z⟩ := F.old e o q hb
      rw [F.fl.2.1] at z; cases z
end
def Leaves (X : Cx) (E : XK) : Prop := ∀ (pins : List (Addr × Obj)) (σ : St) (H : Hp) (s : Shared) (e C : Addr) (h' : Heap) (vs : List Value), Inv X pins σ H s → Heap.MadeExcOf s.heap h' e (.ref C) vs → E (.ref C) none H → X.xe (.ref e) { s with heap := h' }
section
variable {P : Program} {w : World} {K : PySem.W.Frag} {mg : Str → Option Value} {base : Heap} {N : List Str} {qual : Str} {scope : Scope} {f : Addr} {cd : Value} {A : Around} {outer : List Env} {s : Shared} {H : Hp} {E E' : XK}
theorem leaves_cx : Leaves (cxOf (CXF P w) P w K mg base N qual scope f cd A outer s H E) E := by
  intro pins σ H1 s1 e C h' vs I hx he
  have hin : ∀ env ∈ (envOfC qual scope s.heap.objs.size f cd :: outer), ∀ b, env.frame = some b → b ∈ frs (envOfC qual scope s.heap.objs.size f cd :: outer) := fun env he b hb => List.mem_filterMap.mpr ⟨env, he, hb⟩
  have fr0 : ∀ b, b ∈ frs (envOfC qual scope s.heap.objs.size f cd :: outer) ↔ b = s.heap.objs.size ∨ b ∈ frs outer := fun b => by
    show b ∈ List.filterMap (·.frame) (_ :: outer) ↔ _
    rw [List.filterMap_cons]
    show b ∈ s.heap.objs.size :: frs outer ↔ _
    exact List.mem_cons
  have nL : ∀ b o, s.heap.get? b = some o → b ≠ s.heap.objs.size := fun b o q => Nat.ne_of_lt (Heap.lt_size q)
  have stk := I.stkFree
  refine wpAny_leaves_madeW (base := PySem.W.hideAll s1.heap (frs (envOfC qual scope s.heap.objs.size f cd :: outer))) I.ok.frames rfl (fun b o q => PySem.W.of_hideAll _ q) (PySem.W.funFrames_hide I.stack hin) hx fun h2 t x1 x2 x3 x4 => ?_
  have sm : s1.heap.UpToSlots h2 := (Heap.UpToSlots.of_keeps hx.keeps).trans x4
  have inB : ∀ b o, s1.heap.get? b = some o → b ≠ s.heap.objs.size → b ∉ frs outer → (PySem.W.hideAll s1.heap (frs (envOfC qual scope s.heap.objs.size f cd :: outer))).get? b = some o := fun b o q n1 n2 =>
    PySem.W.hideAll_get _ q fun z => ((fr0 b).mp z).elim n1 n2
  have trk : ∀ b o, H1 b = some o → b ≠ s.heap.objs.size ∧ b ∉ frs outer := fun b o q => by
    refine ⟨fun z => ?_, fun z => ?_⟩
    · have := stk b ((fr0 b).mpr (.inl z)); rw [q] at this; cases this
    · have := stk b ((fr0 b).mpr (.inr z)); rw [q] at this; cases this
  have F : Fly outer H1 s.heap h2 (PySem.W.hideAll s1.heap (frs (envOfC qual scope s.heap.objs.size f cd :: outer))) e (.ref C) (.ref t) := ⟨x1, fun b o q => by
      obtain ⟨ob, z⟩ := (I.hok b o q).get
      exact ⟨ob, inB b ob z (trk b o q).1 (trk b o q).2⟩, fun b o q hb => by
      obtain ⟨o', z⟩ := I.base.there b o q (fun z => absurd (show b ∈ ([] : List Addr) from z) (by simp))
      exact ⟨o', inB b o' z (nL b o q) hb⟩⟩
  have frm : ∀ b, b ∈ frs outer → ∀ o', s1.heap.get? b = some o' → ∃ sl, h2.get? b = some { o' with slots := sl } := fun b hb o' q => by
    obtain ⟨_, o2, q2, nf⟩ := I.stack.mem ((fr0 b).mpr (.inr hb))
    rw [q] at q2; cases q2
    exact sm b o' q nf
  have nx : ∀ b : Addr, b ∉ (cxOf (CXF P w) P w K mg base N qual scope f cd A outer s H E).ex := fun b z => absurd (show b ∈ ([] : List Addr) from z) (by simp)
  refine ⟨e, .ref C, .ref t, H1, _, rfl, I.os, I.bare, ⟨fun b o q n hb hx => ?_, fun b o q n hb hx => ?_, fun b o q n hx => I.base.free b o q n (nx b), fun b o q hx => ?_, I.base.tups, I.base.frzs, I.base.tbls⟩, fun a o q => ?_, F, he⟩
  · exact x1.1 b o (inB b o (I.base.keep b o q n hb (nx b)) (nL b o q) hb)
  · obtain ⟨sl, q2⟩ := I.base.slot b o q n hb (nx b)
    obtain ⟨sl', q3⟩ := frm b hb _ q2
    exact ⟨sl', q3⟩
  · obtain ⟨o', q2⟩ := I.base.there b o q (nx b)
    by_cases hb : b ∈ frs outer
    · obtain ⟨sl, q3⟩ := frm b hb o' q2
      exact ⟨_, q3⟩
    · exact ⟨_, x1.1 b o' (inB b o' q2 (nL b o q) hb)⟩
  · refine (I.hok a o q).stay (fun b u hb q2 => ?_) (fun _ q => q) fun _ _ q => q
    have : ∃ o', H1 b = some o' := by
      rcases hb with z | z
      · rw [z]; exact ⟨o, q⟩
      · exact ⟨_, z⟩
    obtain ⟨o', q3⟩ := this
    exact x1.1 b u (inB b u q2 (trk b o' q3).1 (trk b o' q3).2)
theorem passes_cx (h : ∀ c d H, E' c d H → E c d H) : Passes (CXF P w) (cxOf (CXF P w) P w K mg base N qual scope f cd A outer s H E) E' := by
  rintro pins σ H1 s1 v s2 I ⟨e, cls, a0, H2, B, rfl, os, bare, un, hok, F, he⟩
  have fr0 : ∀ b, b ∈ frs (envOfC qual scope s.heap.objs.size f cd :: outer) ↔ b = s.heap.objs.size ∨ b ∈ frs outer := fun b => by
    show b ∈ List.filterMap (·.frame) (_ :: outer) ↔ _
    rw [List.filterMap_cons]
    show b ∈ s.heap.objs.size :: frs outer ↔ _
    exact List.mem_cons
  have nL : ∀ b o, s.heap.get? b = some o → b ≠ s.heap.objs.size := fun b o q => Nat.ne_of_lt (Heap.lt_size q)
  have nx : ∀ b : Addr, b ∉ (cxOf (CXF P w) P w K mg base N qual scope f cd A outer s H E).ex := fun b z => absurd (show b ∈ ([] : List Addr) from z) (by simp)
  refine wpAny_leaves_onW I.ok.frames rfl F.fl fun h3 x1 x2 => ?_
  have un3 := F.un x1.1 x2 un
  refine ⟨e, cls, a0, H2, B, rfl, os.trans I.os, bare, ⟨fun b o q n hb hx => ?_, fun b o q n hb hx => ?_, fun b o q n hx => ?_, fun b o q hx => ?_, fun b xs q => un3.tups b xs (I.base.tups b xs q), fun b u xs q => un3.frzs b u xs (I.base.frzs b u xs q), fun b ps q => ?_⟩, F.hok x1.1 hok, ⟨x1, F.trk, fun b o q hb => ?_⟩, h _ _ _ he⟩
  · exact un3.keep b o (I.base.keep b o q n hb (nx b)) (I.base.free b o q n (nx b)) (fun z => ((fr0 b).mp z).elim (nL b o q) hb) hx
  · obtain ⟨sl, q2⟩ := I.base.slot b o q n hb (nx b)
    obtain ⟨sl', q3⟩ := un3.slot b _ q2 (I.base.free b o q n (nx b)) ((fr0 b).mpr (.inr hb)) hx
    exact ⟨sl', q3⟩
  · obtain ⟨o', q2⟩ := I.base.there b o q (nx b)
    exact un3.free b o' q2 (I.base.free b o q n (nx b)) hx
  · obtain ⟨o', q2⟩ := I.base.there b o q (nx b)
    exact un3.there b o' q2 hx
  · obtain ⟨m1, q1⟩ := I.base.tbls b ps q
    obtain ⟨m2, q2⟩ := un3.tbls b _ q1
    exact ⟨m1 ++ m2, by rw [q2, Array.append_assoc]⟩
  · obtain ⟨o', q2⟩ := I.base.there b o q (nx b)
    exact F.old b o' q2 fun z => ((fr0 b).mp z).elim (nL b o q) hb
end
end L2
end
section
set_option maxHeartbeats 2000000
set_option maxRecDepth 100000
set_option linter.unusedVariables false
set_option linter.unusedSimpArgs false
namespace L2
open PySem PySem.Spec PyProof.Rows
abbrev veBases : List Value := [.type "ValueError", .type "Exception", .type "BaseException", .type "object"]
abbrev OwnE (K : PySem.W.Frag) (C : Addr) : Prop := PySem.W.excIn K C veBases "ValueError.__new__" = true
theorem exc_obj {K : PySem.W.Frag} {h : Heap} {C : Addr} {bmB : List Value} {newId : String} (X : K.In h) (q : PySem.W.excIn K C bmB newId = true) :
    ∃ bm N nm qn bs hdct sn sub ab col dd k0 k1 k2 k3 k5 mN, h.get? C = some (excClassObj nm qn C N bs bm hdct sn sub ab col dd k0 k1 k2 k3 k5 newId) ∧ h.Ns N mN ∧ mN "__init__" = none ∧ OwnTail h bmB bm := by
  unfold PySem.W.excIn at q
  split at q
  · rename_i dd cdt slots look
    split at q
    · rename_i C' bm k0 k1 k2 k3 nn k5 hm hs
      obtain ⟨q, q6⟩ := Bool.and_eq_true_iff.mp q
      obtain ⟨q, q5⟩ := Bool.and_eq_true_iff.mp q
      obtain ⟨q, q4⟩ := Bool.and_eq_true_iff.mp q
      obtain ⟨q, q3⟩ := Bool.and_eq_true_iff.mp q
      obtain ⟨q1, q2⟩ := Bool.and_eq_true_iff.mp q
      cases beq_iff_eq.mp q1
      cases beq_iff_eq.mp q2
      have q3 : cdt.hasDel = false := by simpa using q3
      cases cdt with
      | mk nm bs mro ns qn hd sn sub ab col del =>
        have hm : mro = .ref C :: bm := hm
        have q3 : del = false := q3
        subst hm q3
        have es : slots = #[k0, k1, k2, k3, some (.builtin newId), k5] := by cases slots; simpa using hs
        subst es
        exact ⟨bm, ns, nm, qn, bs, hd, sn, sub, ab, col, dd, k0, k1, k2, k3, k5, _, X _ _ look, .of_isNs (PySem.W.isNs_of_in X q5), PySem.W.nsMap_none_of_in X q5 (beq_iff_eq.mp q6), PySem.W.tail_of_in X q4⟩
    · cases q
  · cases q
def tRaise (t : TA) (C : Addr) (E : XK) : TS := fun D σ H => t σ H fun vs H1 => vs.length ≤ sizeLine ∧ E (.ref C) none H1
section
variable {X : Cx}
theorem ps_raise {E : XK} {x : Str} {C : Addr} {np cpos pos : Pos} {e : Expr} {es : List Expr} {t : TA} (hL : Leaves X E) (hc : X.calm = true) (hg : Gl X x) (hm : X.mg x = some (.ref C)) (q : OwnE X.K C) (ha : PA X (e :: es) t)
    (he : starEach (e :: es) X.env = (false, eval e X.env) :: starEach es X.env := by rfl) (hplain : (backTo cpos (starEach es X.env)).any (·.1) = false := by rfl) (hd : (x == ("__debug__" : Str)) = false := by decide) :
    PS X (.Raise (some (.Call (.Name x np) (e :: es) [] cpos)) none pos) (tRaise t C E) := by
  intro pins s σ H D I h
  obtain ⟨tl, N, nm, qn, bs, hdct, sn, sub, ab, col, dd, k0, k1, k2, k3, k5, mN, hC, hN, hni, T⟩ := exc_obj I.mod.kin q
  refine wpAny_Raise_call_subT (C := C) (nm := nm) (q := qn) (N := N) (bs := bs) (bm := tl) (hdct := hdct) (sn := sn) (sub := sub) (ab := ab) (col := col) (dd := dd) (k0 := k0) (k1 := k1) (k2 := k2) (k3 := k3) (k5 := k5)
    PySem.F.excBase_ValueError (mN := mN) (T.hasType PySem.F.excBase_ValueError.hasBase) (I.ok.hd hc) (by rw [he]; show (false || (backTo cpos (starEach es X.env)).any (·.1)) = false; rw [hplain]; rfl) hni (ld_glob I hg hm ⟨rfl, ?_⟩ hd)
  have hA := ha cpos pins s σ H _ I h
  rw [he] at hA ⊢
  refine Calls.evalArgs_plain (thn hA fun vs s2 ⟨xs, H2, I2, r2, z2, q2⟩ => ?_)
  exact ⟨rfl, by rw [← r2.length]; exact z2, I2.bk _ _ hC, hN.keeps I2.bk, T.keeps I2.bk, fun h' e' hx => hL pins σ H2 s2 e' C h' vs I2 hx q2⟩
end
def OkX (P : Program) (w : World) (K : PySem.W.Frag) (mg : Str → Option Value) (base : Heap) (k : Nat) (x : Str) (ps : List Str) (sp : Sp) : Prop :=
  ∃ (f : Addr) (fd : FuncData), mg x = some (.ref f) ∧ PySem.W.keepIn K (.ref f) = true ∧ Binds K fd ps [] ∧ FnOk P w K mg base (CXF P w) k f fd ps sp
theorem Dfn.okX {P : Program} {w : World} {K : PySem.W.Frag} {mg : Str → Option Value} {base : Heap} {x : Str} {st : Stmt} {N ps : List Str} {k : Nat} {sp : Sp} (D : Dfn K mg x st ps) (S : FnScope N ps (defScope st)) (len : ∀ vs H Q E, sp vs H Q E → vs.length = ps.length)
    (hbody : ∀ (f : Addr) (cdv : Value) (A : Around) (outer : List Env) (s : Shared) (H : Hp) (vs : List V) (Q : VK) (E : XK), Room k (A.deeper (envOfC x (defScope st) s.heap.objs.size f cdv)) → sp vs H Q E →
      ∃ t, PSs (cxOf (CXF P w) P w K mg base N x (defScope st) f cdv A outer s H E) (defBody st) t ∧ t { nx := fun _ H' => Q .non H', rt := Q } (start N vs) H) : OkX P w K mg base (k + 1) x ps sp := by
  obtain ⟨f, fd, F, hm, hb⟩ := D
  obtain ⟨oc, od, kV, doc, pm, an, cdv, ct, osl, rfl, lk, hcd⟩ := F.ex
  exact ⟨f, _, hm, F.kp, hb, fn_of lk hcd S len fun A outer s H vs Q E hr h => hbody f cdv A outer s H vs Q E hr h⟩
section
variable {X : Cx} {x : Str} {p pos : Pos} {e : Expr} {es : List Expr} {t : TA} {k : Nat} {ps : List Str} {sp : Sp} {E : XK}
theorem pe_callX (D : OkX X.prog X.w X.K X.mg X.base k x ps sp) (hr : Room k X.A) (hg : Gl X x) (hp : Passes (CXF X.prog X.w) X E) (ha : PA X (e :: es) t) (hdb : (x == ("__debug__" : Str)) = false := by decide)
    (he : starEach (e :: es) X.env = (false, eval e X.env) :: starEach es X.env := by rfl) (hpl : (backTo pos (starEach es X.env)).any (·.1) = false := by rfl) : PE X (.Call (.Name x p) (e :: es) [] pos) (tCall sp [] E t) := by
  obtain ⟨f, fd, hm, hk, hb, G⟩ := D
  exact pe_call G hr hg hm hk hb .nil hp ha hdb he hpl
end
section
variable {X : Cx} {pins : List (Addr × Obj)} {σ σ' : St} {H : Hp} {s : Shared} {h' : Heap} {e : Addr}
theorem Inv.names {t' : Nat} (I : Inv X pins σ H s) (hs : Heap.SameBut X.env.locals s.heap h') (hl : σ'.length = σ.length)
    (hn : ∃ m, h'.Ns X.env.locals m ∧ ∀ (i : Nat) (x : Str) (v : V), X.N[i]? = some x → σ'[i]? = some (some v) → Vis X.env.scope x → ∃ u, RelV v u ∧ Look X.env h' m x u) : Inv X pins σ' H { s with heap := h', toks := t' } := by
  have nL : ∀ b o, X.s₀.heap.get? b = some o → b ≠ X.env.locals := fun b o q => Nat.ne_of_lt (Nat.lt_of_lt_of_le (Heap.lt_size q) I.ok.above)
  refine ⟨I.ok, I.os, I.bare, ⟨fun b o q n hb hx => (hs.2 b (nL b o q)).trans (I.base.keep b o q n hb hx), fun b o q n hb hx => ?_, I.base.free, fun b o q hx => ?_, I.base.tups, I.base.frzs, I.base.tbls⟩, hn, fun x c q => ?_, I.free, I.freeC, fun p hp => ?_, fun b u q => ?_, hl.trans I.len⟩
  · obtain ⟨sl, q1⟩ := I.base.slot b o q n hb hx
    exact ⟨sl, (hs.2 b (nL b o q)).trans q1⟩
  · obtain ⟨o', q1⟩ := I.base.there b o q hx
    exact ⟨o', (hs.2 b (nL b o q)).trans q1⟩
  · obtain ⟨v, z⟩ := I.cell x c q
    exact ⟨v, z.sameBut hs (I.cne x c q)⟩
  · obtain ⟨q1, q2, q3, q4, q5⟩ := I.pin p hp
    exact ⟨(hs.2 p.1 q3).trans q1, q2, q3, q4, q5⟩
  · refine (I.hok b u q).stay (fun c v hc q2 => (hs.2 c fun z => ?_).trans q2) (fun _ q => q) fun _ _ q => q
    have hf := I.free
    subst z
    rcases hc with z | z
    · rw [z, q] at hf; cases hf
    · rw [z] at hf; cases hf
theorem Inv.track {o : HO} (I : Inv X pins σ H s) (h0 : X.s₀.heap.get? e = none) (hL : e ≠ X.env.locals) (hc : ∀ x c, X.env.cells.lookup x = some c → c ≠ e) (hp : ∀ p ∈ X.pn ++ pins, p.1 ≠ e) (hn : H e = none) (new : ObjOk X.prog X.w (upd H e o) s.heap e o) :
    Inv X pins σ (upd H e o) s := by
  refine ⟨I.ok, I.os, I.bare, ⟨I.base.keep, I.base.slot, fun b u q n hx => ?_, I.base.there, fun b xs q => ?_, fun b u xs q => ?_, fun b ps q => ?_⟩, I.loc, I.cell, ?_, fun x c q => ?_, fun p hp' => ?_, fun b u q => ?_, I.len⟩
  · rw [upd_ne (fun z => by rw [z, h0] at q; cases q)]; exact I.base.free b u q n hx
  · have z := I.base.tups b xs q
    rw [upd_ne (ne_of_none z hn)]; exact z
  · have z := I.base.frzs b u xs q
    rw [upd_ne (ne_of_none z hn)]; exact z
  · obtain ⟨m, z⟩ := I.base.tbls b ps q
    exact ⟨m, by rw [upd_ne (ne_of_none z hn)]; exact z⟩
  · rw [upd_ne (Ne.symm hL)]; exact I.free
  · rw [upd_ne (hc x c q)]; exact I.freeC x c q
  · obtain ⟨q1, q2, q3, q4, q5⟩ := I.pin p hp'
    exact ⟨q1, by rw [upd_ne (hp p hp')]; exact q2, q3, q4, q5⟩
  · by_cases hb : b = e
    · subst hb; rw [upd_same] at q; cases q; exact new
    · rw [upd_ne hb] at q
      exact (I.hok b u q).stay (fun c v _ q => q) (fun c q => by rw [upd_ne (ne_of_none q hn)]; exact q) fun c xs q => by rw [upd_ne (ne_of_none q hn)]; exact q
end
end L2
end
section
set_option maxHeartbeats 2000000
set_option maxRecDepth 100000
set_option linter.unusedVariables false
set_option linter.unusedSimpArgs false
namespace L2
open PySem PySem.Spec PyProof.Rows
def excO (C e : Addr) : HO := .ext (XC.AtC e C)
theorem excO_ok {P : Program} {w : World} {H : Hp} {h : Heap} {e C : Addr} (p : XC.AtC e C h) : ObjOk P w H h e (excO C e) := by
  refine ⟨p, ?_, fun h1 h2 q k => ?_⟩
  · obtain ⟨o, q, _⟩ := p; exact ⟨o, q⟩
  · obtain ⟨o, q1, q2⟩ := q; exact ⟨o, k o q1, q2⟩
def cV : V → Option Value
  | .ty T => some (.type T)
  | .ref D => some (.ref D)
  | _ => none
theorem cV_rel {c : V} {u v : Value} (h : cV c = some u) (r : RelV c v) : v = u := by
  cases c with
  | ty T => cases h; exact r
  | ref D => cases h; exact r
  | _ => cases h
def rIsE (K : PySem.W.Frag) : List V → Hp → VK → Prop := fun xs H Q => ∃ e C c u b, xs = [.ref e, c] ∧ H e = some (excO C e) ∧ XC.ExC K C ∧ cV c = some u ∧ PySem.W.kitOne K (.ref C) u = some b ∧ Q (.bl b) H
section
variable {X : Cx}
theorem call_isE : CallR X (.builtin "isinstance") (rIsE X.K) := by
  intro pins s σ H xs us Q I r h
  obtain ⟨e, C, c, u, b, rfl, he, T, hc, hk, q⟩ := h
  obtain ⟨v1, v2, rfl, r1, r2⟩ := vals2 r
  cases r1
  have := cV_rel hc r2
  subst this
  obtain ⟨p, _⟩ := (show ObjOk X.prog X.w H s.heap e (excO C e) from I.hok e _ he)
  exact PySem.W.kia_one (XC.kitx_exc T) I.kIn p hk (fun z => nomatch z) fun tk => ⟨.bl b, H, I.tok tk, rfl, q⟩
end
structure RoomM (k : Nat) (A : Around) : Prop where
  dp : A.depth + 3 * k + 5 < recursionLimit
  un : A.units + 16 * k + 200 < cLine
theorem Room.mark {k : Nat} {A : Around} (r : Room k A) (h : Option Value) : RoomM k (A.mark h) := ⟨r.dp, r.un⟩
theorem RoomM.deeper {k : Nat} {A : Around} (r : RoomM (k + 1) A) (env : Env) : RoomM k (A.deeper env) :=
  ⟨by have := r.dp; show A.depth + 1 + 3 * k + 5 < _; omega, by have := r.un; show A.units + 3 + 16 * k + 200 < _; omega⟩
abbrev cxM (P : Program) (w : World) (K : PySem.W.Frag) (mg : Str → Option Value) (base : Heap) (N : List Str) (qual : Str) (scope : Scope) (f : Addr) (cd : Value) (A : Around) (outer : List Env) (s : Shared) (H : Hp) : Cx :=
  { (cxOf CX0 P w K mg base N qual scope f cd A outer s H E0).nox with calm := false }
structure FnM (P : Program) (w : World) (K : PySem.W.Frag) (mg : Str → Option Value) (base : Heap) (k : Nat) (f : Addr) (fd : FuncData) (ps : List Str) (sp : Sp) : Prop where
  len : ∀ vs H Q E, sp vs H Q E → vs.length = ps.length
  run : ∀ (A : Around) (outer : List Env) (s : Shared) (H : Hp) (args : Args) (us : List Value) (vs : List V) (Q : VK), RoomM k A → Env0 P w K mg base A outer s H → BindsTo s fd args (ps.zip us) → Vals vs us → sp vs H Q E0 →
    codeAny (model P w) A (.call (.ref f) args) (CR CX0 outer P w H s Q E0) s
def OkM (P : Program) (w : World) (K : PySem.W.Frag) (mg : Str → Option Value) (base : Heap) (k : Nat) (x : Str) (ps : List Str) (sp : Sp) : Prop :=
  ∃ (f : Addr) (fd : FuncData), mg x = some (.ref f) ∧ PySem.W.keepIn K (.ref f) = true ∧ Binds K fd ps [] ∧ FnM P w K mg base k f fd ps sp
theorem inv_startM {P : Program} {w : World} {K : PySem.W.Frag} {mg : Str → Option Value} {base : Heap} {N ps : List Str} {qual : Str} {scope : Scope} {f : Addr} {cd : Value} {A : Around} {outer : List Env} {s s1 : Shared} {H : Hp} {us : List Value} {vs : List V}
    (S : FnScope N ps scope) (e0 : Env0 P w K mg base A outer s H) (hl : vs.length = ps.length) (r : Vals vs us)
    (x : InCallC s s.heap.objs.size (bindL (envOfC qual scope s.heap.objs.size f cd).kindOf (ps.zip us) fun _ => none) (cellsFrom (s.heap.objs.size + 1) scope.names []) (bindC (envOfC qual scope s.heap.objs.size f cd).kindOf (ps.zip us) fun _ => none) s1) :
    Inv (cxM P w K mg base N qual scope f cd A outer s H) [] (start N vs) H s1 := by
  have J : Inv (cxOf CX0 P w K mg base N qual scope f cd { A with handled := none } outer s H E0) [] (start N vs) H s1 := inv_start S rfl ⟨e0.frames, e0.mod, e0.bs, e0.bsz, e0.funs, e0.frf, e0.hok, e0.bare⟩ hl r x
  exact ⟨⟨J.ok.mod, J.ok.kind, J.ok.glob, J.ok.blt, J.ok.above, J.ok.inj, J.ok.has, J.ok.cab, (fun z => nomatch z), Around.frames_deeper e0.frames, J.ok.stk, J.ok.exf, J.ok.bs, J.ok.bsz, J.ok.noex, J.ok.exfs, J.ok.funs, J.ok.frf⟩, J.os, J.bare, J.base, J.loc, J.cell, J.free, J.freeC, J.pin, J.hok, J.len⟩
theorem Dfn.okM {P : Program} {w : World} {K : PySem.W.Frag} {mg : Str → Option Value} {base : Heap} {x : Str} {st : Stmt} {N ps : List Str} {k : Nat} {sp : Sp} (D : Dfn K mg x st ps) (S : FnScope N ps (defScope st)) (len : ∀ vs H Q E, sp vs H Q E → vs.length = ps.length)
    (hbody : ∀ (f : Addr) (cdv : Value) (A : Around) (outer : List Env) (s : Shared) (H : Hp) (vs : List V) (Q : VK), RoomM k (A.deeper (envOfC x (defScope st) s.heap.objs.size f cdv)) → sp vs H Q E0 →
      ∃ t, PSs (cxM P w K mg base N x (defScope st) f cdv A outer s H) (defBody st) t ∧ t { nx := fun _ H' => Q .non H', rt := Q } (start N vs) H) : OkM P w K mg base (k + 1) x ps sp := by
  obtain ⟨f, fd, F, hm, hb⟩ := D
  obtain ⟨oc, od, kV, doc, pm, an, cdv, ct, osl, rfl, lk, hcd⟩ := F.ex
  refine ⟨f, _, hm, F.kp, hb, len, fun A outer s H args us vs Q hr e0 hbi r hsp => ?_⟩
  have hl := len _ _ _ _ hsp
  have KX : K.In s.heap := e0.mod.kin.keeps fun b o e => (e0.bs b o e).1
  have lim : s.heap.NoLimit := e0.mod.nolimit.keeps fun b o e => (e0.bs b o e).1
  have hkind : ∀ y ∈ ps.zip us, (defScope st).names.lookup y.1 = some .local ∨ ((defScope st).names.lookup y.1 = some .cell ∧ ((cellsFrom (s.heap.objs.size + 1) (defScope st).names []).lookup y.1).isSome = true) := fun y hy =>
    (S.par y.1 (List.of_mem_zip hy).1).imp id fun q => ⟨q, PySem.W.cellsFrom_some _ _ _ (.inl q)⟩
  refine codeAny_call_function (by have := hr.dp; omega) (KX _ _ lk) rfl S.co S.gen rfl (PySem.W.codeRec_of KX hcd) (hbi _ _ _ _ ?_)
  refine wpAny_newFunctionEnv_cells S.kind hkind fun env he s1 ic => ?_
  subst he
  refine ⟨lim.keeps ic.toInCall.keep, codeAny_func ?_⟩
  obtain ⟨t, ht, hq⟩ := hbody f cdv A outer s H vs Q (hr.deeper _) hsp
  have I : Inv (cxM P w K mg base N x (defScope st) f cdv A outer s H) [] (start N vs) H s1 := inv_startM S e0 hl r ic
  refine wpAny_mono (ht [] s1 (start N vs) H _ I hq) (fun fl s' hs => ?_) fun e s' hs => hs.elim
  cases fl with
  | ret u =>
    obtain ⟨v, σ', H', J, rv, q⟩ := hs
    exact ⟨v, H', J.os, J.bare, J.base, J.hok, rv, q⟩
  | next =>
    obtain ⟨σ', H', J, q⟩ := hs
    exact ⟨V.non, H', J.os, J.bare, J.base, J.hok, rfl, q⟩
  | brk => exact hs.elim fun _ z => z.elim fun _ z => z.2.elim
  | cont => exact hs.elim fun _ z => z.elim fun _ z => z.2.elim
section
variable {X : Cx} {x : Str} {p pos : Pos} {e : Expr} {es : List Expr} {t : TA} {k : Nat} {ps : List Str} {sp : Sp}
theorem pe_callM (D : OkM X.prog X.w X.K X.mg X.base k x ps sp) (hr : RoomM k X.A) (hg : Gl X x) (ha : PA X (e :: es) t) (hdb : (x == ("__debug__" : Str)) = false := by decide)
    (he : starEach (e :: es) X.env = (false, eval e X.env) :: starEach es X.env := by rfl) (hpl : (backTo pos (starEach es X.env)).any (·.1) = false := by rfl) : PE X (.Call (.Name x p) (e :: es) [] pos) (tCall sp [] E0 t) := by
  obtain ⟨f, fd, hm, hk, hb, G⟩ := D
  intro pins s σ H Q I h
  refine wpAny_Call_Name_kw (ld_glob I hg hm ?_ hdb)
  refine PySem.W.callWith_K (h₀ := X.base) I.ok.mod.kin hk (thn (ha pos pins s σ H _ I h) fun us s1 ⟨vs, H1, I1, r, q⟩ => ⟨I1.kIn, ?_⟩) he hpl
  have q : sp vs H1 Q E0 := by simpa using q
  have hl : us.length = ps.length := by rw [← r.length]; exact G.len _ _ _ _ q
  have bd := hb s1 us I1.kIn (by simpa using hl)
  rw [List.append_nil] at bd
  refine wpAny_call (codeAny_mono (G.run X.A X.stack s1 H1 ⟨us, []⟩ us vs Q hr I1.env0 bd r q) fun rr s' hq => ?_)
  cases rr with
  | error e => exact hq.elim
  | ok fl =>
    cases fl with
    | ret u => exact I1.after hq
    | next => exact hq.elim
    | brk => exact hq.elim
    | cont => exact hq.elim
end
end L2
end
section
set_option maxHeartbeats 2000000
set_option maxRecDepth 100000
set_option linter.unusedVariables false
set_option linter.unusedSimpArgs false
namespace L2
open PySem PySem.Spec PyProof.Rows
abbrev cxH (X : Cx) (e : Addr) : Cx := { X with A := X.A.mark (some (.ref e)), calm := false, xe := fun _ _ => False }
section
variable {X : Cx} {pins : List (Addr × Obj)} {σ : St} {H : Hp} {s : Shared} {e : Addr}
theorem Inv.toH (I : Inv X pins σ H s) : Inv (cxH X e) pins σ H s :=
  ⟨⟨I.ok.mod, I.ok.kind, I.ok.glob, I.ok.blt, I.ok.above, I.ok.inj, I.ok.has, I.ok.cab, (fun z => nomatch z), I.ok.frames, I.ok.stk, I.ok.exf, I.ok.bs, I.ok.bsz, I.ok.noex, I.ok.exfs, I.ok.funs, I.ok.frf⟩, I.os, I.bare, I.base, I.loc, I.cell, I.free, I.freeC, I.pin, I.hok, I.len⟩
theorem Inv.ofH (ok : X.Ok) (J : Inv (cxH X e) pins σ H s) : Inv X pins σ H s := ⟨ok, J.os, J.bare, J.base, J.loc, J.cell, J.free, J.freeC, J.pin, J.hok, J.len⟩
theorem Inv.goes {i : Nat} {n : Str} {M : Model} {A : Around} {E : Value → Shared → Prop} {pos : Pos} {Q : Unit → Shared → Prop} (I : Inv X pins σ H s) (hN : X.N.Nodup) (hi : X.N[i]? = some n) (hl : X.env.scope.names.lookup n = some .local)
    (h : ∀ s', Inv X pins (σ.set i none) H s' → Q () s') : wpAny M A (do bindName X.env n .none; unbindBehindTheSuite X.env n pos) Q E s := by
  obtain ⟨m, hn, hv⟩ := id I.loc
  refine wpAny_nameGoes_keeps hl hn (by rw [I.ok.kind]; rfl) fun h' v hn' hs => h _ (I.names hs (by simp) ⟨_, hn', fun j y u e1 e2 e3 => ?_⟩)
  have hj : j ≠ i := fun z => by
    subst z
    by_cases hz : j < σ.length
    · rw [List.getElem?_set_self hz] at e2; cases e2
    · rw [List.getElem?_eq_none_iff.mpr (by simpa using hz)] at e2; cases e2
  rw [List.getElem?_set_ne (Ne.symm hj)] at e2
  obtain ⟨u', r', q⟩ := hv j y u e1 e2 e3
  refine ⟨u', r', ?_⟩
  rcases q with ⟨k, q⟩ | ⟨k, c, q, z⟩
  · refine .inl ⟨k, ?_⟩
    have : y ≠ n := fun z => hj (nodup_ix hN e1 (z ▸ hi))
    show (if y = n then v else m y) = _
    rw [if_neg this]; exact q
  · exact .inr ⟨k, c, q, z.sameBut hs (I.cne y c q)⟩
end
def tTryC (K : PySem.W.Frag) (sp : Sp) (t : TA) (iy ie : Nat) (C0 : Addr) (ts : TS) : TS := fun D σ H => t σ H fun vs H1 => sp vs H1 (fun v H2 => D.nx (σ.set iy (some v)) H2)
  (fun cls _ H2 => ∃ C, cls = .ref C ∧ PySem.W.exmOne K (.ref C) (.ref C0) = some true ∧ ∀ e, H2 e = none → ts { nx := fun σ' H' => D.nx (σ'.set ie none) H', rt := fun _ _ => False } (σ.set ie (some (.ref e))) (upd H2 e (excO C e)))
section
variable {X : Cx}
theorem caught {pins : List (Addr × Obj)} {σ : St} {H : Hp} {s s2 : Shared} {x n : Str} {C0 : Addr} {i : Nat} {xp hp : Pos} {b0 : Stmt} {suite : List Stmt} {ts : TS} {D : Ends} {v : Value} (I : Inv X pins σ H s) (hst : X.stack = X.env :: X.outer) (hfr : X.env.frame = some X.env.locals) (hx0 : X.ex = [])
    (hN : X.N.Nodup) (hi : X.N[i]? = some n) (hl : X.env.scope.names.lookup n = some .local) (hg : Gl X x) (hm : X.mg x = some (.ref C0)) (hs : ∀ e, PSs (cxH X e) (b0 :: suite) ts) (hd : (x == ("__debug__" : Str)) = false)
    (h : CXF X.prog X.w X.stack H s (fun cls _ H2 => ∃ C, cls = .ref C ∧ PySem.W.exmOne X.K (.ref C) (.ref C0) = some true ∧ ∀ e, H2 e = none → ts { nx := fun σ' H' => D.nx (σ'.set i none) H', rt := fun _ _ => False } (σ.set i (some (.ref e))) (upd H2 e (excO C e))) v s2) :
    wpAny (model X.prog X.w) X.A (noteFrame v X.env) (fun _ s3 => wpAny (model X.prog X.w) X.A (setFlight v none) (fun _ s4 => wpAny (model X.prog X.w) X.A (handleBy v X.env [.ExceptHandler (some (.Name x xp)) (some n) (b0 :: suite) hp]) (SP X pins D) X.xe s4) X.xe s3) X.xe s2 := by
  obtain ⟨e, cls, a0, H2, B, rfl, os, bare, un, hok, F, C, rfl, hex, k⟩ := h
  have fl := F.fl
  rw [hst] at fl
  have hA : X.A.frames = some (X.env :: X.outer) := by rw [← hst]; exact I.ok.frames
  refine wpAny_looks_onW hA hfr fl fun h4 held4 sm4 => ?_
  refine wpAny_landsW held4 fun h5 fl5 sm5 => ?_
  have I5 : Inv X pins σ H2 { s2 with heap := h5 } := I.call' (s' := { s2 with heap := h5 }) (ch := []) os (F.un fl5.1 (sm4.trans sm5) un) (F.hok fl5.1 hok) bare fun b hb => absurd hb (by simp)
  refine wpAny_handleBy_cons (codeAny_handlers_test (ld_glob (I5.toH (e := e)) hg hm ?_ hd)) (by intro q; cases q)
  obtain ⟨ob, hob, hoc⟩ := fl5.there
  have LT : PySem.W.Looks (model X.prog X.w) h5 (typeOf (.ref e)) (.ref C) := XC.AtC.type ⟨ob, hob, hoc⟩
  refine (PySem.W.exm_one (I5.kIn) LT hex).here ?_
  refine codeAny_handlers_suite_as ?_
  refine lands_againW fl5 fun h6 fl6 sm6 => ?_
  have I6 : Inv X pins σ H2 { s2 with heap := h6 } := I.call' (s' := { s2 with heap := h6 }) (ch := []) os (F.un fl6.1 ((sm4.trans sm5).trans sm6) un) (F.hok fl6.1 hok) bare fun b hb => absurd hb (by simp)
  have e0 : s.heap.get? e = none := F.new un I.stkFree
  have ne : ∀ b o, s.heap.get? b = some o → b ≠ e := fun b o q z => by rw [z, e0] at q; cases q
  have at6 : XC.AtC e C h6 := fl6.there
  have I7 : Inv X pins σ (upd H2 e (excO C e)) { s2 with heap := h6 } := by
    refine I6.track ?_ ?_ (fun y c q => ?_) (fun p hp' => ?_) F.noH (excO_ok at6)
    · cases q : X.s₀.heap.get? e with
      | none => rfl
      | some o =>
        obtain ⟨o', q'⟩ := I.base.there e o q (by rw [hx0]; simp)
        rw [e0] at q'; cases q'
    · obtain ⟨m, ⟨o, _, _, q, _⟩, _⟩ := I.loc
      exact Ne.symm (ne _ _ q)
    · obtain ⟨v, o, q', _⟩ := I.cell y c q
      exact ne _ _ q'
    · exact ne _ _ (I.pin p hp').1
  refine store_ok (v := .ref e) I7 hN hi (.inl hl) rfl (fun s8 I8 => ?_) (.inr hl)
  refine wpAny_mono (hs e pins s8 _ _ _ I8.toH (k e F.noH)) (fun f s9 q9 => ?_) fun _ _ z => z.elim
  cases f with
  | next =>
    obtain ⟨σ9, H9, I9, q9⟩ := q9
    exact (I9.ofH I.ok).goes hN hi hl fun s10 I10 => ⟨_, _, I10, q9⟩
  | ret u => obtain ⟨_, _, _, _, _, z⟩ := q9; exact z.elim
  | brk => obtain ⟨_, _, _, z⟩ := q9; exact z.elim
  | cont => obtain ⟨_, _, _, z⟩ := q9; exact z.elim
end
theorem clsIn_of {K : PySem.W.Frag} {C : Addr} (q : OwnE K C) : (PySem.W.clsIn K C).isSome = true := by
  unfold OwnE PySem.W.excIn at q
  unfold PySem.W.clsIn
  split at q
  · rename_i e; rw [e]; rfl
  · cases q
end L2
end
section
set_option maxHeartbeats 2000000
set_option maxRecDepth 100000
set_option linter.unusedVariables false
set_option linter.unusedSimpArgs false
namespace L2
open PySem PySem.Spec PyProof.Rows
section
variable {X : Cx}
theorem bl_get {bs : List Bool} : ∀ {us : List Value}, Vals (bs.map V.bl) us → ∀ (i : Nat) (v : Value), us[i]? = some v → ∃ b, bs[i]? = some b ∧ v = .bool b := by
  intro us r i v hv
  have hl := r.length
  rw [List.length_map] at hl
  have hi : i < bs.length := by
    have := (List.getElem?_eq_some_iff.mp hv).1
    omega
  obtain ⟨u, h1, h2⟩ := r.get (i := i) (x := .bl bs[i]) (by simp [hi])
  rw [hv] at h1; cases h1
  exact ⟨bs[i], by simp [hi], h2⟩
theorem all_range (bs : List Bool) : ((List.range bs.length).all fun i => (bs[i]?).getD true) = bs.all id := by
  rw [Bool.eq_iff_iff, List.all_eq_true, List.all_eq_true]
  refine ⟨fun h b hb => ?_, fun h i hi => ?_⟩
  · obtain ⟨i, hi, e⟩ := List.getElem_of_mem hb
    have := h i (List.mem_range.mpr hi)
    rw [List.getElem?_eq_getElem hi, Option.getD_some, e] at this
    exact this
  · have hi := List.mem_range.mp hi
    rw [List.getElem?_eq_getElem hi]
    exact h _ (List.getElem_mem hi)
theorem call_allL (hc : X.calm = true) : CallR X (.builtin "all") (fun xs H Q => ∃ (p : Addr) (bs : List Bool), xs = [.ref p] ∧ SqL X.K H p (bs.map V.bl) ∧ Q (.bl (bs.all id)) H) := by
  intro pins s σ H xs us Q I r h
  obtain ⟨p, bs, rfl, hq, q⟩ := h
  obtain ⟨u, rfl, rx⟩ := vals1 r
  cases rx
  obtain ⟨its, rv, pl, _⟩ := I.list hq
  have hl := rv.length
  rw [List.length_map] at hl
  have lt : p < s.heap.objs.size := by obtain ⟨o, e, _⟩ := pl.isList; exact Heap.lt_size e
  refine call_all_walk (wpAny_pyIter_list pl.isList ⟨s.heap.objs.size, [s.heap.objs.size, p], [s.heap.objs.size], its.toArray.size, _, _, fun i => (bs[i]?).getD true, rfl, Walks.list (A := X.A.in1) (I.ok.hd hc) _ p (Nat.ne_of_lt lt) its.toArray,
    ⟨⟨_, Heap.get?_push_size _ rfl, rfl, rfl⟩, pl.isList.push _⟩, fun i v s' Q' E' hP hQ => ?_, fun h' tk hk => ?_⟩)
  · obtain ⟨b, e, rfl⟩ := bl_get rv i v (by simpa using hP)
    dsimp only at hQ
    rw [e, Option.getD_some] at hQ
    exact wpAny_truthy_bool hQ
  · rw [List.size_toArray, ← hl, all_range]
    exact ⟨.bl _, H, I.kept (t' := tk) (fun b o e => hk b o (fun z => by rw [List.mem_singleton.mp z] at e; exact Nat.lt_irrefl _ (Heap.lt_size e)) (Heap.get?_push_of_some _ e)), rfl, q⟩
theorem Vals.countU {x : V} : ∀ {xs : List V} {us : List Value}, Vals xs us → xs.all flatV = true → us.countP (eqU x) = xs.countP fun y => eqV y x
  | _, _, .nil, _ => rfl
  | y :: xs, u :: us, .cons r t, f => by
    rw [List.all_cons, Bool.and_eq_true] at f
    rw [List.countP_cons, List.countP_cons, eqU_of r f.1, Vals.countU t f.2]
def rCount : V → List V → Hp → VK → Prop := fun x vs H Q => ∃ l ys y, x = .ref l ∧ vs = [y] ∧ H l = some (.lst ys) ∧ flatV y = true ∧ ys.all flatV = true ∧ Q (.int (ys.countP fun z => eqV z y : Nat)) H
theorem mt_count : MtM X "list.count" rCount := by
  intro pins s σ H x vs v us Q I rx rv h
  obtain ⟨l, ys, y, rfl, rfl, hH, fy, fs, q⟩ := h
  cases rx
  obtain ⟨u, rfl, ru⟩ := rv.one
  obtain ⟨z, its, n, r, hl, e⟩ := I.lstM hH
  refine call_meets F.slot_list_count ⟨_, e, rfl⟩ F.entry_list_count (F.args_list_count_2 _ _) (SeqAt.list_countAt l its.toArray n none #[] u (eqU y)) ⟨e, fun w hw => mem_eqAt ru fy r fs w (by simpa using hw), ?_⟩
  refine ⟨.int _, H, I.tok _, ⟨_, rfl⟩, ?_⟩
  rw [show its.toArray.toList = its from rfl, Vals.countU r fs]
  exact q
def rIndex : V → List V → Hp → VK → Prop := fun x vs H Q => ∃ l ys y j, x = .ref l ∧ vs = [y] ∧ H l = some (.lst ys) ∧ flatV y = true ∧ ys.all flatV = true ∧ (ys[j]?.elim false fun z => eqV z y) = true ∧ (∀ m, m < j → (ys[m]?.elim true fun z => eqV z y) = false) ∧ Q (.int (j : Nat)) H
theorem mt_index : MtM X "list.index" rIndex := by
  intro pins s σ H x vs v us Q I rx rv h
  obtain ⟨l, ys, y, j, rfl, rfl, hH, fy, fs, hj, hb, q⟩ := h
  cases rx
  obtain ⟨u, rfl, ru⟩ := rv.one
  obtain ⟨z, its, n, r, hl, e⟩ := I.lstM hH
  have get : ∀ (m : Nat) (hm : m < its.length), ∃ w, ys[m]? = some w ∧ eqU y its[m] = eqV w y := fun m hm => by
    have hm' : m < ys.length := by omega
    obtain ⟨w, h1, h2⟩ := r.get (i := m) (x := ys[m]) (by simp [hm'])
    have h1 : its[m] = w := by simpa [hm] using h1
    have ff : flatV ys[m] = true := List.all_eq_true.mp fs _ (List.getElem_mem hm')
    exact ⟨ys[m], by simp [hm'], by rw [h1]; exact eqU_of h2 ff⟩
  have jl : j < its.length := by
    by_cases c : j < its.length
    · exact c
    · rw [List.getElem?_eq_none_iff.mpr (by omega)] at hj; cases hj
  have sl : (its.length : Nat) ≤ sizeLine := by omega
  have big := line63
  refine call_meets F.slot_list_index ⟨_, e, rfl⟩ F.entry_list_index (F.args_list_index_2 _ _) (SeqAt.list_indexAt l its.toArray n none #[] u (eqU y) j (by simpa using jl) (by omega) ?_ (fun m hm hmj => ?_)) ⟨e, fun w hw => mem_eqAt ru fy r fs w (by simpa using hw), ⟨.int _, H, I.tok _, ⟨_, rfl⟩, q⟩⟩
  · obtain ⟨w, h1, h2⟩ := get j jl
    rw [h1] at hj
    show eqU y its[j] = true
    rw [h2]; exact hj
  · have hm : m < its.length := by simpa using hm
    obtain ⟨w, h1, h2⟩ := get m hm
    have := hb m hmj
    rw [h1] at this
    show eqU y its[m] = false
    rw [h2]; exact this
end
theorem comp_growL {K : PySem.W.Frag} {tc : TT} {te : TE} {D : Addr} {H : Hp} {Q : VK} {a : Addr} (xs : List V) (p : V → Bool) (f : V → V) (fr : St) (hn : xs.length < sizeLine) (ha : SqL K H a xs) (hD : H D = none)
    (hc : ∀ x ∈ xs, ∀ H' Q', Same H H' → (∀ H2, Same H' H2 → Q' (p x) H2) → tc (some x :: fr) H' Q') (he : ∀ x ∈ xs, p x = true → ∀ H' Q', Same H H' → (∀ H2, Same H' H2 → Q' (f x) H2) → te (some x :: fr) H' Q')
    (hQ : ∀ H', Same H H' → H' D = some (.lst ((xs.filter p).map f)) → Q (.ref D) H') : ∃ W : Nat → Nat → St → Hp → Prop, (∃ m, W 0 m (none :: fr) (upd H D (.lst []))) ∧ CTurn (Itl K a) (gName 0) tc te D W Q := by
  refine ⟨fun i m σ' H' => m = xs.length - i ∧ i ≤ xs.length ∧ (∃ o, σ' = o :: fr) ∧ Same H H' ∧ H' D = some (.lst (((xs.take i).filter p).map f)), ⟨xs.length, by simp, Nat.zero_le _, ⟨_, rfl⟩, Same.put hD, by rw [upd_same]; simp⟩, ?_⟩
  rintro i m σ' H' ⟨rfl, hi, ⟨o, rfl⟩, sm, hd⟩
  by_cases hlt : i < xs.length
  · refine .inr ⟨⟨xs, xs[i], sm.seq ha, by simp [hlt]⟩, fun x H2 ⟨e, y⟩ => ?_⟩
    subst e
    have ex := y xs (sm.seq ha)
    have hx : x ∈ xs := List.mem_of_getElem? ex
    refine gName0 (hc x hx _ _ sm fun H3 s3 => ?_)
    have ft := filter_take_succ p xs i x ex
    have lf : ((xs.take i).filter p).length ≤ xs.length := Nat.le_trans (List.length_filter_le _ _) (by rw [List.length_take]; omega)
    cases hp : p x with
    | true =>
      rw [if_pos rfl]
      refine he x hx hp _ _ (sm.trans s3) fun H4 s4 => ⟨_, s4 _ _ (s3 _ _ hd), by rw [List.length_map]; omega, xs.length - (i + 1), by omega, rfl, hlt, ⟨_, rfl⟩, fun b u e => ?_, ?_⟩
      · rw [upd_ne (ne_of_none e hD)]; exact s4 _ _ (s3 _ _ (sm _ _ e))
      · rw [upd_same, ft, hp]; simp
    | false =>
      rw [if_neg Bool.false_ne_true]
      refine ⟨xs.length - (i + 1), by omega, rfl, hlt, ⟨_, rfl⟩, sm.trans s3, ?_⟩
      rw [s3 _ _ hd, ft, hp]; simp
  · have e : i = xs.length := by omega
    subst e
    refine .inl ⟨⟨xs, sm.seq ha, Nat.le_refl _⟩, hQ _ sm ?_⟩
    rw [hd, List.take_of_length_le (Nat.le_refl _)]
end L2
end
section
set_option maxHeartbeats 2000000
set_option maxRecDepth 100000
set_option linter.unusedVariables false
set_option linter.unusedSimpArgs false
namespace L2
open PySem PySem.Spec PyProof.Rows
def IsStair (n k : Int) : Prop := 1 ≤ k ∧ (k - 1) * k < 2 * n ∧ 2 * n ≤ k * (k + 1)
theorem IsStair.uniq {n k j : Int} (h : IsStair n k) (h' : IsStair n j) : k = j := by
  obtain ⟨a1, a2, a3⟩ := h
  obtain ⟨b1, b2, b3⟩ := h'
  rcases Int.lt_trichotomy k j with c | c | c
  · have : k * (k + 1) ≤ (j - 1) * j := by
      exact Int.mul_le_mul (by omega) (by omega) (by omega) (by omega)
    omega
  · exact c
  · have : j * (j + 1) ≤ (k - 1) * k := by
      exact Int.mul_le_mul (by omega) (by omega) (by omega) (by omega)
    omega
theorem IsStair.ex : ∀ n : Nat, ∃ k, IsStair ((n : Int) + 1) k
  | 0 => ⟨1, by decide, by decide, by decide⟩
  | n + 1 => by
    obtain ⟨k, a1, a2, a3⟩ := IsStair.ex n
    by_cases c : 2 * (((n + 1 : Nat) : Int) + 1) ≤ k * (k + 1)
    · exact ⟨k, a1, by omega, c⟩
    · refine ⟨k + 1, by omega, ?_, ?_⟩
      · rw [show k + 1 - 1 = k from by omega]; omega
      · have e : (k + 1) * (k + 1 + 1) = k * (k + 1) + 2 * (k + 1) := by grind
        rw [e]; omega
theorem IsStair.of {n : Int} (h : 1 ≤ n) : ∃ k, IsStair n k := by
  obtain ⟨k, hk⟩ := IsStair.ex (n - 1).toNat
  exact ⟨k, by rw [show (((n - 1).toNat : Nat) : Int) + 1 = n from by omega] at hk; exact hk⟩
theorem IsStair.le {n k : Int} (h : IsStair n k) (hn : n ≤ 100) : k ≤ 14 := by
  obtain ⟨a1, a2, a3⟩ := h
  rcases Int.lt_or_le 14 k with z | z
  · have : 14 * 15 ≤ (k - 1) * k := Int.mul_le_mul (by omega) (by omega) (by omega) (by omega)
    omega
  · exact z
def filledL (k : Int) (ps : List Int) : List Int := ps ++ List.replicate (k - ps.length).toNat 0
def aboveL (k : Int) (ps : List Int) : List Int := (filledL k ps).mapIdx fun i p => p - (k - 1 - (i : Int))
def isMark (m : Int) : Bool := decide (m = 0 ∨ m = 1)
def marksB (ms : List Int) : Bool := ms.all isMark
theorem filledL_len {k : Int} {ps : List Int} (h : (ps.length : Int) ≤ k) : ((filledL k ps).length : Int) = k := by
  unfold filledL; rw [List.length_append, List.length_replicate]; omega
theorem aboveL_len {k : Int} {ps : List Int} (h : (ps.length : Int) ≤ k) : ((aboveL k ps).length : Int) = k := by
  unfold aboveL; rw [List.length_mapIdx]; exact filledL_len h
theorem above_long {k n : Int} {ps : List Int} (st : Setting n ps) (h : k < ps.length) (hk : 1 ≤ k) : marksB (aboveL k ps) = false := by
  cases hb : marksB (aboveL k ps) with
  | false => rfl
  | true =>
    exfalso
    have kl : k.toNat < ps.length := by omega
    have e0 : (k - ps.length).toNat = 0 := by omega
    have e1 : (aboveL k ps)[k.toNat]? = some (ps[k.toNat] - (k - 1 - (k.toNat : Int))) := by
      unfold aboveL filledL
      rw [e0, List.replicate_zero, List.append_nil, List.getElem?_mapIdx, List.getElem?_eq_getElem kl]; rfl
    have mm := List.all_eq_true.mp hb _ (List.mem_of_getElem? e1)
    have mm : ps[k.toNat] - (k - 1 - (k.toNat : Int)) = 0 ∨ ps[k.toNat] - (k - 1 - (k.toNat : Int)) = 1 := of_decide_eq_true mm
    have := st.pos _ (List.getElem_mem kl)
    omega
theorem isMark_in (m : Int) : inV (.int m) [.int 0, .int 1] = isMark m := by
  unfold inV isMark
  simp only [List.any_cons, List.any_nil, Bool.or_false]
  show ((0 : Int) == m || (1 : Int) == m) = decide (m = 0 ∨ m = 1)
  by_cases a : m = 0
  · subst a; decide
  · by_cases b : m = 1
    · subst b; decide
    · rw [beq_eq_false_iff_ne.mpr (Ne.symm a), beq_eq_false_iff_ne.mpr (Ne.symm b), decide_eq_false (by omega)]; rfl
theorem flat_ints (ns : List Int) : (ns.map V.int).all flatV = true := by
  rw [List.all_eq_true]
  intro x hx
  obtain ⟨n, _, rfl⟩ := List.mem_map.mp hx
  rfl
end L2
end
section
set_option maxHeartbeats 2000000
set_option maxRecDepth 100000
set_option linter.unusedVariables false
set_option linter.unusedSimpArgs false
namespace L2
open PySem PySem.Spec PyProof.Rows
theorem byMarks_idx (ms : List Int) : (ms.mapIdx fun i m => (ms.length : Int) - 1 - (i : Int) + m).filter (fun x => decide (0 < x)) = byMarks ms := by
  unfold byMarks
  congr 1
  apply List.ext_getElem?
  intro i
  rw [List.getElem?_mapIdx, List.getElem?_map]
  by_cases hi : i < ms.length
  · rw [List.getElem?_eq_getElem hi, List.getElem?_range hi]; simp [List.getD, hi]
  · rw [List.getElem?_eq_none_iff.mpr (by omega), List.getElem?_eq_none_iff.mpr (by simpa using hi)]; rfl
def okM (ms : List Int) : Bool := marksB ms && decide ((1 : Int) ∈ ms) && decide ((byMarks ms).sum ≤ 100)
theorem marksB_bits {ms : List Int} (h : marksB ms = true) : ∀ m ∈ ms, m = 0 ∨ m = 1 := fun m hm => of_decide_eq_true (List.all_eq_true.mp h m hm)
theorem byMarks_ord {ms : List Int} (h : ∀ m ∈ ms, m = 0 ∨ m = 1) : (byMarks ms).Pairwise (· ≥ ·) := by
  rw [byMarks_eq]
  exact (raised_ord ms ms.length h).1.sublist List.filter_sublist
theorem byMarks_pos {ms : List Int} : ∀ x ∈ byMarks ms, 1 ≤ x := fun x hx => by
  have := of_decide_eq_true (List.mem_filter.mp hx).2
  omega
theorem byMarks_sum {ms : List Int} (h : ∀ m ∈ ms, m = 0 ∨ m = 1) : 2 * (byMarks ms).sum = (ms.length : Int) * (ms.length - 1) + 2 * ms.sum := by
  rw [byMarks_eq, filter_pos_sum, raised_sum]
  exact raised_nonneg ms ms.length (fun m hm => by rcases h m hm with z | z <;> omega) (Int.le_refl _)
theorem sum_one {ms : List Int} (h : ∀ m ∈ ms, m = 0 ∨ m = 1) (h1 : (1 : Int) ∈ ms) : 1 ≤ ms.sum := sum_ge_mem (fun y hy => by rcases h y hy with z | z <;> omega) h1
theorem byMarks_ne {ms : List Int} (h : ∀ m ∈ ms, m = 0 ∨ m = 1) (h1 : (1 : Int) ∈ ms) : byMarks ms ≠ [] := fun z => by
  have e := byMarks_sum h
  have := sum_one h h1
  rw [z, List.sum_nil] at e
  have : 0 ≤ (ms.length : Int) * (ms.length - 1) := by
    rcases Nat.eq_zero_or_pos ms.length with y | y
    · rw [y]; decide
    · exact Int.mul_nonneg (by omega) (by omega)
  omega
theorem good_by {ms : List Int} (h : ∀ m ∈ ms, m = 0 ∨ m = 1) (h1 : (1 : Int) ∈ ms) : goodB (byMarks ms) = decide ((byMarks ms).sum ≤ 100) := by
  unfold goodB
  rw [decide_eq_decide]
  exact ⟨fun z => z.2.1, fun z => ⟨byMarks_ne h h1, z, byMarks_pos, byMarks_ord h⟩⟩
theorem inV_int (x : Int) (ms : List Int) : inV (.int x) (ms.map V.int) = decide (x ∈ ms) := by
  unfold inV
  rw [List.any_map, Bool.eq_iff_iff, List.any_eq_true, decide_eq_true_eq]
  constructor
  · rintro ⟨y, hy, e⟩
    have e : (y == x) = true := e
    rw [← beq_iff_eq.mp e]; exact hy
  · intro h
    exact ⟨x, h, show (x == x) = true from beq_self_eq_true x⟩
theorem Marks.len {n : Int} {ms : List Int} (h : Marks n ms) : ms.length ≤ 1000 ∨ 1000 * 1001 ≤ 2 * n := by
  have z := h.lo
  rcases Nat.lt_or_ge 1000 ms.length with y | y
  · have : 1000 * 1001 ≤ ((ms.length : Int) - 1) * ms.length := Int.mul_le_mul (by omega) (by omega) (by omega) (by omega)
    exact .inr (by omega)
  · exact .inl y
end L2
end
section
set_option maxHeartbeats 2000000
set_option maxRecDepth 100000
set_option linter.unusedVariables false
set_option linter.unusedSimpArgs false
namespace L2
open PySem PySem.Spec PyProof.Rows
section
variable {κ : Type} [DecidableEq κ]
def valV (kvs : List (κ × V)) (k : κ) : Option V := (kvs.find? fun kv => decide (kv.1 = k)).map (·.2)
def putK (kvs : List (κ × V)) (k : κ) (v : V) : List (κ × V) :=
  if (kvs.any fun kv => decide (kv.1 = k)) = true then kvs.map (fun kv => if kv.1 = k then (kv.1, v) else kv) else kvs ++ [(k, v)]
theorem valV_pos {p : κ × V} {r : List (κ × V)} {k : κ} (e : p.1 = k) : valV (p :: r) k = some p.2 := by simp [valV, List.find?_cons, e]
theorem valV_neg {p : κ × V} {r : List (κ × V)} {k : κ} (e : ¬ p.1 = k) : valV (p :: r) k = valV r k := by simp [valV, List.find?_cons, e]
theorem valV_any (k : κ) : ∀ kvs : List (κ × V), (kvs.any fun kv => decide (kv.1 = k)) = (valV kvs k).isSome
  | [] => rfl
  | p :: r => by
    rw [List.any_cons]
    by_cases e : p.1 = k
    · simp only [valV_pos e, decide_eq_true e, Bool.true_or, Option.isSome_some]
    · rw [valV_neg e, decide_eq_false e, Bool.false_or]; exact valV_any k r
theorem length_putK (kvs : List (κ × V)) (k : κ) (v : V) : (putK kvs k v).length ≤ kvs.length + 1 := by
  unfold putK
  split
  · rw [List.length_map]; omega
  · rw [List.length_append, List.length_cons, List.length_nil]; omega
theorem putK_new {kvs : List (κ × V)} {k : κ} (v : V) (h : valV kvs k = none) : putK kvs k v = kvs ++ [(k, v)] := by
  unfold putK
  rw [valV_any, h]
  exact if_neg (by decide)
theorem RelO.isSome_eq {o : Option V} {u : Option Value} (r : RelO o u) : o.isSome = u.isSome := by
  cases o with
  | none => cases u with
    | none => rfl
    | some _ => exact (show False from r).elim
  | some _ => cases u with
    | none => exact (show False from r).elim
    | some _ => rfl
theorem RelO.getD {o : Option V} {u : Option Value} {d : V} {d' : Value} (r : RelO o u) (rd : RelV d d') : RelV (o.getD d) (u.getD d') := by
  cases o with
  | none => cases u with
    | none => exact rd
    | some _ => exact (show False from r).elim
  | some _ => cases u with
    | none => exact (show False from r).elim
    | some _ => exact r
theorem KV.val {kvs : List (κ × V)} {vs : List (κ × Value)} (r : KV kvs vs) (k : κ) : RelO (valV kvs k) (valueAt vs k) := by
  unfold KV at r
  induction r with
  | nil => exact True.intro
  | @cons p q ps qs h t ih =>
    obtain ⟨h1, h2⟩ := h
    by_cases e : p.1 = k
    · have e' : q.1 = k := h1.symm.trans e
      have b : valueAt (q :: qs) k = some q.2 := by simp [valueAt, List.find?_cons, e']
      rw [valV_pos e, b]; exact h2
    · have e' : ¬ q.1 = k := fun z => e (h1.trans z)
      have b : valueAt (q :: qs) k = valueAt qs k := by simp [valueAt, List.find?_cons, e']
      rw [valV_neg e, b]; exact ih
theorem KV.any {kvs : List (κ × V)} {vs : List (κ × Value)} (r : KV kvs vs) (k : κ) : (kvs.any fun kv => decide (kv.1 = k)) = vs.any fun kv => decide (kv.1 = k) := by
  unfold KV at r
  induction r with
  | nil => rfl
  | cons h t ih => rw [List.any_cons, List.any_cons, ih, h.1]
theorem KV.repl {kvs : List (κ × V)} {vs : List (κ × Value)} (r : KV kvs vs) (k : κ) {y : V} {u : Value} (ry : RelV y u) :
    KV (kvs.map fun kv => if kv.1 = k then (kv.1, y) else kv) (vs.map fun kv => if kv.1 = k then (kv.1, u) else kv) := by
  unfold KV at r ⊢
  induction r with
  | nil => exact .nil
  | @cons p q ps qs h t ih =>
    rw [List.map_cons, List.map_cons]
    refine .cons ?_ ih
    obtain ⟨h1, h2⟩ := h
    by_cases e : p.1 = k
    · rw [if_pos e, if_pos (h1.symm.trans e)]; exact ⟨h1, ry⟩
    · rw [if_neg e, if_neg (fun z => e (h1.trans z))]; exact ⟨h1, h2⟩
theorem KV.put {kvs : List (κ × V)} {vs : List (κ × Value)} (r : KV kvs vs) (k : κ) {y : V} {u : Value} (ry : RelV y u) : KV (putK kvs k y) (stored vs k u) := by
  unfold putK stored
  rw [r.any k]
  by_cases e : (vs.any fun kv => decide (kv.1 = k)) = true
  · rw [if_pos e, if_pos e]; exact r.repl k ry
  · rw [if_neg e, if_neg e]; exact Paired.snoc r ⟨rfl, ry⟩
theorem KV.length {kvs : List (κ × V)} {vs : List (κ × Value)} (r : KV kvs vs) : kvs.length = vs.length := Paired.length r
end
theorem kV_is {P : Program} {w : World} {k : Key} {u : Value} (r : RelV (kV k) u) : (mixKind P w).is k u = true := by
  cases k with
  | inl i => obtain ⟨t, e⟩ := (show ∃ t, u = Value.int i t from r); subst e; exact mixKind_int P w i t
  | inr x => obtain ⟨t, e⟩ := (show ∃ t, u = Value.str x t from r); subst e; exact mixKind_str P w x t
theorem items_are {P : Program} {w : World} : ∀ {ks : List Key} {us : List Value}, Vals (ks.map kV) us → ItemsAre (mixKind P w) ks us
  | [], _, r => by rw [List.map_nil] at r; cases r; exact .nil
  | k :: ks, _, r => by
    rw [List.map_cons] at r
    cases r with
    | cons h t => exact .cons (kV_is h) (items_are t)
abbrev KT (H : Hp) : List (List Key × V) → List (List Key × Addr × Value) → Prop := Paired fun p q => p.1 = q.1 ∧ H q.2.1 = some (.tup (p.1.map kV)) ∧ RelV p.2 q.2.2
theorem KT.val {H : Hp} {kvs : List (List Key × V)} {xs : List (List Key × Addr × Value)} (r : KT H kvs xs) (k : List Key) : RelO (valV kvs k) ((atKey xs k).map (·.2)) := by
  induction r with
  | nil => exact True.intro
  | @cons p q ps qs h t ih =>
    obtain ⟨h1, _, h2⟩ := h
    by_cases e : p.1 = k
    · have e' : q.1 = k := h1.symm.trans e
      have b : atKey (q :: qs) k = some q.2 := by simp [atKey, List.find?_cons, e']
      rw [valV_pos e, b]; exact h2
    · have e' : ¬ q.1 = k := fun z => e (h1.trans z)
      have b : atKey (q :: qs) k = atKey qs k := by simp [atKey, List.find?_cons, e']
      rw [valV_neg e, b]; exact ih
theorem KT.repl {H : Hp} {kvs : List (List Key × V)} {xs : List (List Key × Addr × Value)} (r : KT H kvs xs) (k : List Key) {y : V} {u : Value} (ry : RelV y u) :
    KT H (kvs.map fun kv => if kv.1 = k then (kv.1, y) else kv) (xs.map (putAt k u)) := by
  induction r with
  | nil => exact .nil
  | @cons p q ps qs h t ih =>
    rw [List.map_cons, List.map_cons]
    refine .cons ?_ ih
    obtain ⟨h1, h2, h3⟩ := h
    unfold putAt
    by_cases e : p.1 = k
    · rw [if_pos e, if_pos (h1.symm.trans e)]; exact ⟨h1, h2, ry⟩
    · rw [if_neg e, if_neg (fun z => e (h1.trans z))]; exact ⟨h1, h2, h3⟩
theorem KT.put {H : Hp} {kvs : List (List Key × V)} {xs : List (List Key × Addr × Value)} (r : KT H kvs xs) (k : List Key) {b : Addr} {y : V} {u : Value} (hb : H b = some (.tup (k.map kV))) (ry : RelV y u) :
    KT H (putK kvs k y) (storedH xs k b u) := by
  have e : (kvs.any fun kv => decide (kv.1 = k)) = (atKey xs k).isSome := by
    rw [valV_any, (r.val k).isSome_eq, Option.isSome_map]
  unfold putK storedH
  rw [e]
  by_cases q : (atKey xs k).isSome = true
  · rw [if_pos q, if_pos q]; exact r.repl k ry
  · rw [if_neg q, if_neg q]; exact Paired.snoc r ⟨rfl, hb, ry⟩
theorem KT.keeps {H H' : Hp} {kvs : List (List Key × V)} {xs : List (List Key × Addr × Value)} (r : KT H kvs xs) (ht : ∀ b ys, H b = some (.tup ys) → H' b = some (.tup ys)) : KT H' kvs xs :=
  Paired.mapP r fun _ _ z => ⟨z.1, ht _ _ z.2.1, z.2.2⟩
section
variable {P : Program} {w : World} {H : Hp} {h : Heap} {a : Addr}
theorem rd_of {u : HO} (ok : HOk P w H h) (e : Rd H a u) : ObjOk P w H h a u := e.ok ok
theorem dk_rd {kvs : List (Key × V)} (ok : HOk P w H h) (e : Rd H a (.dK kvs)) : kvs.length ≤ sizeLine ∧ (a == sysModules) = false ∧ ∃ vs, KV kvs vs ∧ h.DictOf (mixKind P w) a vs :=
  show ObjOk P w H h a (.dK kvs) from rd_of ok e
theorem dk_of {kvs : List (Key × V)} (ok : HOk P w H h) (e : H a = some (.dK kvs)) : kvs.length ≤ sizeLine ∧ (a == sysModules) = false ∧ ∃ vs, KV kvs vs ∧ h.DictOf (mixKind P w) a vs := dk_rd ok (.inl e)
theorem key_of {ks : List Key} (ok : HOk P w H h) (e : H a = some (.tup (ks.map kV))) : (tupleKind (mixKind P w)).is h ks a := by
  obtain ⟨_, its, r, o, h1, h2, n, h3⟩ := (show ObjOk P w H h a (.tup (ks.map kV)) from ok a _ e)
  exact ⟨o, its.toArray, n, h1, h2, h3, by simpa using items_are r⟩
theorem dt_rd {kvs : List (List Key × V)} (ok : HOk P w H h) (e : Rd H a (.dT kvs)) : kvs.length ≤ sizeLine ∧ (a == sysModules) = false ∧
    ∃ xs, KT H kvs xs ∧ h.DictOfH (tupleKind (mixKind P w)) a xs := by
  obtain ⟨z, y, xs, r, o, es, ep, h1, h2, h3, h4, h5⟩ := (show ObjOk P w H h a (.dT kvs) from rd_of ok e)
  refine ⟨z, y, xs, r, o, es, ep, h1, h2, h3, h4, fun x hx => ?_, h5⟩
  have all : ∀ {l : List (List Key × V)} {m : List (List Key × Addr × Value)}, KT H l m → ∀ x ∈ m, (tupleKind (mixKind P w)).is h x.1 x.2.1 := by
    intro l m q
    induction q with
    | nil => intro x hx; exact nomatch hx
    | @cons p q ps qs hq t ih =>
      intro x hx
      rcases List.mem_cons.mp hx with e | hx
      · subst e
        exact key_of ok (by rw [← hq.1]; exact hq.2.1)
      · exact ih x hx
  exact all r x hx
theorem dt_of {kvs : List (List Key × V)} (ok : HOk P w H h) (e : H a = some (.dT kvs)) : kvs.length ≤ sizeLine ∧ (a == sysModules) = false ∧
    ∃ xs, KT H kvs xs ∧ h.DictOfH (tupleKind (mixKind P w)) a xs := dt_rd ok (.inl e)
end
def DGet (H : Hp) (a : Addr) (y : V) (r : Option V) : Prop :=
  (∃ kvs k, Rd H a (.dK kvs) ∧ y = kV k ∧ r = valV kvs k) ∨ ∃ kvs k b, Rd H a (.dT kvs) ∧ y = .ref b ∧ H b = some (.tup (k.map kV)) ∧ r = valV kvs k
def DPut (H : Hp) (a : Addr) (y v : V) (H' : Hp) : Prop :=
  (∃ kvs k, H a = some (.dK kvs) ∧ y = kV k ∧ kvs.length < sizeLine ∧ H' = upd H a (.dK (putK kvs k v))) ∨
  ∃ kvs k b, H a = some (.dT kvs) ∧ y = .ref b ∧ H b = some (.tup (k.map kV)) ∧ kvs.length < sizeLine ∧ H' = upd H a (.dT (putK kvs k v))
theorem DGet.k {H : Hp} {a : Addr} {kvs : List (Key × V)} {k : Key} (e : H a = some (.dK kvs)) : DGet H a (kV k) (valV kvs k) := .inl ⟨kvs, k, .inl e, rfl, rfl⟩
theorem DGet.t {H : Hp} {a b : Addr} {kvs : List (List Key × V)} {k : List Key} (e : H a = some (.dT kvs)) (eb : H b = some (.tup (k.map kV))) : DGet H a (.ref b) (valV kvs k) := .inr ⟨kvs, k, b, .inl e, rfl, eb, rfl⟩
theorem DPut.k {H : Hp} {a : Addr} {kvs : List (Key × V)} {k : Key} {v : V} (e : H a = some (.dK kvs)) (hl : kvs.length < sizeLine) : DPut H a (kV k) v (upd H a (.dK (putK kvs k v))) := .inl ⟨kvs, k, e, rfl, hl, rfl⟩
theorem DPut.t {H : Hp} {a b : Addr} {kvs : List (List Key × V)} {k : List Key} {v : V} (e : H a = some (.dT kvs)) (eb : H b = some (.tup (k.map kV))) (hl : kvs.length < sizeLine) :
    DPut H a (.ref b) v (upd H a (.dT (putK kvs k v))) := .inr ⟨kvs, k, b, e, rfl, eb, hl, rfl⟩
section
variable {X : Cx} {pins : List (Addr × Obj)} {σ : St} {H : Hp} {s : Shared} {a : Addr} {y v : V} {u r : Value} {o : Option V} {A : Around} {E : Value → Shared → Prop}
theorem Inv.big (I : Inv X pins σ H s) : sysModules < s.heap.objs.size := by
  have h : mainGlobals < s.heap.objs.size := (I.mod.glob.keeps I.bk).lt
  exact Nat.lt_trans (by decide) h
theorem d_notIn {Q : Value → Shared → Prop} (hu : A.units + 1 < cLine) (I : Inv X pins σ H s) (g : DGet H a y o) (ry : RelV y u) (h : ∀ s', Inv X pins σ H s' → Q (.bool (!o.isSome)) s') :
    wpAny (model X.prog X.w) A (compareOp .NotIn u (.ref a)) Q E s := by
  rcases g with ⟨kvs, k, e, ey, l⟩ | ⟨kvs, k, b, e, ey, eb, l⟩
  · subst ey
    obtain ⟨z, hd, vs, rel, dd⟩ := dk_rd I.hok e
    refine wpAny_notIn_of (kV_is ry) hd dd.mapOf ?_
    rw [← (rel.val k).isSome_eq, ← l]
    exact h _ (I.tok _)
  · subst ey
    cases (show u = Value.ref b from ry)
    obtain ⟨z, hd, xs, rel, dd⟩ := dt_rd I.hok e
    refine wpAny_notIn_heap (tupleKind_room_in1 hu) (key_of I.hok eb) hd dd ?_
    have q := (rel.val k).isSome_eq
    rw [Option.isSome_map] at q
    rw [← q, ← l]
    exact h _ (I.tok _)
theorem d_write {h' : Heap} {t' : Nat} {ob : HO} (I : Inv X pins σ H s) (mu : Mut (H a)) (hs : Heap.SameBut a s.heap h') (he : ∃ q, h'.get? a = some q) (new : ObjOk X.prog X.w (upd H a ob) h' a ob) :
    Inv X pins σ (upd H a ob) { s with heap := h', toks := t' } :=
  I.write (x := a) (e := a) mu (.inl rfl) (fun b q hb z => (hs.2 b hb).trans z) he new
theorem dk_new {P : Program} {w : World} {H' : Hp} {h' : Heap} {kvs : List (Key × V)} {vs : List (Key × Value)} (z : kvs.length ≤ sizeLine) (hd : (a == sysModules) = false) (rel : KV kvs vs) (dd : h'.DictOf (mixKind P w) a vs) :
    ObjOk P w H' h' a (.dK kvs) := ⟨z, hd, vs, rel, dd⟩
theorem d_setItem {H' : Hp} {Q : Unit → Shared → Prop} (hu : A.units + 1 < cLine) (I : Inv X pins σ H s) (g : DPut H a y v H') (ry : RelV y u) (rv : RelV v r) (h : ∀ s', Inv X pins σ H' s' → Q () s') :
    wpAny (model X.prog X.w) A (setItem (.ref a) u r) Q E s := by
  rcases g with ⟨kvs, k, e, ey, l, eH⟩ | ⟨kvs, k, b, e, ey, eb, l, eH⟩
  · subst ey eH
    obtain ⟨z, hd, vs, rel, dd⟩ := dk_of I.hok e
    have hz : vs.length ≤ sizeLine := by rw [← rel.length]; exact z
    have hl : (putK kvs k v).length ≤ sizeLine := by have := length_putK kvs k v; omega
    refine wpAny_setItem_pairs (hsz := hz) (kV_is ry) dd fun h' dd' hs => h _ ?_
    have he : ∃ q, h'.get? a = some q := let ⟨q, _, _, hq, _⟩ := dd'; ⟨q, hq⟩
    exact d_write I (by rw [e]; exact True.intro) hs he (dk_new hl hd (rel.put k rv) dd')
  · subst ey eH
    cases (show u = Value.ref b from ry)
    obtain ⟨z, hd, xs, rel, dd⟩ := dt_of I.hok e
    have hz : xs.length ≤ sizeLine := by rw [← Paired.length rel]; exact z
    have hl : (putK kvs k v).length ≤ sizeLine := by have := length_putK kvs k v; omega
    refine wpAny_setItem_heap (hsz := hz) (tupleKind_room_in1 hu) (key_of I.hok eb) dd fun h' dd' hs => h _ ?_
    obtain ⟨q, es, ep, hq, h2, h3, h4, _, h5⟩ := dd'
    refine d_write I (by rw [e]; exact True.intro) hs ⟨q, hq⟩ ⟨hl, hd, _, (rel.put k eb rv).keeps fun c ys ec => ?_, q, es, ep, hq, h2, h3, h4, h5⟩
    rw [upd_ne (ne_of ec e (fun z => nomatch z))]
    exact ec
end
def tDNotIn (ty td : TE) : TE := fun σ H Q => ty σ H fun y H1 => td σ H1 fun x H2 => ∃ a o, x = .ref a ∧ DGet H2 a y o ∧ Q (.bl (!o.isSome)) H2
def sDPut (td ty tv : TE) : TS := fun D σ H => tv σ H fun v H1 => td σ H1 fun x H2 => ty σ H2 fun y H3 => ∃ a H4, x = .ref a ∧ DPut H3 a y v H4 ∧ D.nx σ H4
section
variable {X : Cx} {o i e value : Expr} {pos pos' tpos : Pos} {td ty tv : TE}
theorem pc_dnotin (hu : X.A.units + 1 < cLine) (hi : PE X i ty) (ho : PE X o td) : PC X .NotIn i o (tDNotIn ty td) := by
  intro pins s σ H Q I h
  refine thn (hi pins s σ H _ I h) fun iv s1 ⟨y, H1, I1, ry, q1⟩ => thn (ho pins s1 σ H1 _ I1 q1) fun u s2 ⟨x, H2, I2, rx, a, ov, ex, g, q2⟩ => ?_
  subst ex
  obtain rfl : u = Value.ref a := rx
  exact d_notIn hu I2 g ry fun s3 I3 => ⟨.bl (!ov.isSome), H2, I3, rfl, q2⟩
theorem ps_dput (hu : X.A.units + 1 < cLine) (ho : PE X o td) (hi : PE X i ty) (hv : PE X value tv) (hs : swapsWith value (some (.Subscript o i pos')) pos.line X.env = pure false) :
    PS X (.Assign [.Subscript o i pos'] value pos) (sDPut td ty tv) := by
  intro pins s σ H D I h
  refine wpAny_Assign_Subscript (thn (hv pins s σ H _ I h) fun r s1 ⟨v, H1, I1, rv, q1⟩ => thn (ho pins s1 σ H1 _ I1 q1) fun u s2 ⟨x, H2, I2, rx, q2⟩ => thn (hi pins s2 σ H2 _ I2 q2) fun iv s3 ⟨y, H3, I3, ry, a, H4, ex, g, q3⟩ => ?_) hs
  subst ex
  obtain rfl : u = Value.ref a := rx
  exact d_setItem hu I3 g ry rv fun s4 I4 => ⟨σ, H4, I4, q3⟩
end
theorem dt_empty {P : Program} {w : World} {H : Hp} (h : Heap) (hb : sysModules < h.objs.size) : ObjOk P w H (h.push { cls := .type "dict", data := .dict #[] }) h.objs.size (.dT []) :=
  ⟨Nat.zero_le _, beq_eq_false_iff_ne.mpr (Ne.symm (Nat.ne_of_lt hb)), [], .nil, _, #[], 0, Heap.get?_push_size _ rfl, ⟨rfl, rfl, rfl⟩, rfl, rfl, List.nodup_nil⟩
def tDNewT : TE := fun _ H Q => ∀ p, H p = none → Q (.ref p) (upd H p (.dT []))
section
variable {X : Cx} {pos : Pos}
theorem pe_dnewT : PE X (.Dict [] [] pos) tDNewT := fun pins s σ H Q I h =>
  wpAny_Dict_empty ⟨.ref s.heap.objs.size, _, I.laid (a := s.heap.objs.size) (o := .dT []) (t' := s.toks) (fun _ _ q => Heap.get?_push_of_some _ q) (Nat.le_refl _) (dt_empty s.heap I.big), rfl, h _ (I.hok.fresh (Nat.le_refl _))⟩
end
end L2
end
section
set_option maxHeartbeats 2000000
set_option maxRecDepth 100000
set_option linter.unusedVariables false
set_option linter.unusedSimpArgs false
namespace L2
open PySem PySem.Spec PyProof.Rows
def Itz (K : PySem.W.Frag) (a b : Addr) : It :=
  ⟨fun i H => ∃ xs ys x y, SqL K H a xs ∧ SqL K H b ys ∧ xs[i]? = some x ∧ ys[i]? = some y,
   fun i H x H' => ∃ t u v, H t = none ∧ H' = upd H t (.tup [u, v]) ∧ x = .ref t ∧ (∀ xs, SqL K H a xs → xs[i]? = some u) ∧ ∀ ys, SqL K H b ys → ys[i]? = some v,
   fun i H => ∃ xs ys, SqL K H a xs ∧ SqL K H b ys ∧ (xs.length ≤ i ∨ ys.length ≤ i)⟩
section
variable {X : Cx}
def iZip (K : PySem.W.Frag) (ta : TA) : TI := fun σ H R => ta σ H fun vs H1 => ∃ a b, vs = [.ref a, .ref b] ∧ (∃ xs, SqL K H1 a xs) ∧ (∃ ys, SqL K H1 b ys) ∧ R (Itz K a b) H1
end
end L2
end
section
set_option maxHeartbeats 2000000
set_option maxRecDepth 100000
set_option linter.unusedVariables false
set_option linter.unusedSimpArgs false
namespace L2
open PySem PySem.Spec PyProof.Rows
structure Lists (H : Hp) (rs : List Addr) (qss : List (List Int)) : Prop where
  len : rs.length = qss.length
  at_ : ∀ (i : Nat) r qs, rs[i]? = some r → qss[i]? = some qs → H r = some (.lst (qs.map V.int))
theorem Lists.nil {H : Hp} : Lists H [] [] := ⟨rfl, fun i r qs h => by simp at h⟩
theorem Lists.mono {H H' : Hp} {rs : List Addr} {qss : List (List Int)} (h : Lists H rs qss) (s : Same H H') : Lists H' rs qss := ⟨h.len, fun i r qs a b => s _ _ (h.at_ i r qs a b)⟩
theorem Lists.snoc {H : Hp} {rs : List Addr} {qss : List (List Int)} {r : Addr} {qs : List Int} (h : Lists H rs qss) (hr : H r = some (.lst (qs.map V.int))) : Lists H (rs ++ [r]) (qss ++ [qs]) := by
  refine ⟨by simp [h.len], fun i r' qs' a b => ?_⟩
  have hl := h.len
  by_cases hi : i < rs.length
  · rw [List.getElem?_append_left hi] at a
    rw [List.getElem?_append_left (by omega)] at b
    exact h.at_ i r' qs' a b
  · rw [List.getElem?_append_right (by omega)] at a
    rw [List.getElem?_append_right (by omega)] at b
    have i0 : i - rs.length = 0 := by
      by_cases z : i - rs.length = 0
      · exact z
      · rw [List.getElem?_eq_none_iff.mpr (by simp; omega)] at a; cases a
    rw [i0] at a
    rw [show i - qss.length = 0 by omega] at b
    simp at a b
    subst a b
    exact hr
theorem ints_inj {a b : List Int} (h : a.map V.int = b.map V.int) : a = b := by
  have : (a.map V.int).map (fun v => match v with | .int i => i | _ => 0) = (b.map V.int).map (fun v => match v with | .int i => i | _ => 0) := by rw [h]
  simpa [List.map_map, Function.comp_def] using this
theorem lst_inj {a b : List Int} (h : HO.lst (a.map V.int) = HO.lst (b.map V.int)) : a = b := ints_inj (HO.lst.inj h)
section
open Classical in
noncomputable def eqLL (H : Hp) (bs : List Int) : Value → Bool
  | .ref r => decide (H r = some (.lst (bs.map V.int)))
  | _ => false
theorem eqLL_iff {H : Hp} {bs : List Int} {r : Addr} : eqLL H bs (.ref r) = true ↔ H r = some (.lst (bs.map V.int)) := by
  unfold eqLL; simp
variable {X : Cx}
theorem any_eqLL {H : Hp} {rs : List Addr} {qss : List (List Int)} {bs : List Int} {its : List Value} (h : Lists H rs qss) (rv : Vals (rs.map V.ref) its) : its.any (eqLL H bs) = decide (bs ∈ qss) := by
  have hl := rv.length
  rw [List.length_map] at hl
  rw [Bool.eq_iff_iff, List.any_eq_true, decide_eq_true_eq]
  have get : ∀ (i : Nat) (hi : i < rs.length), its[i]? = some (.ref rs[i]) := fun i hi => by
    obtain ⟨u, h1, h2⟩ := rv.get (i := i) (x := .ref rs[i]) (by simp [hi])
    rw [h1, show u = .ref rs[i] from h2]
  constructor
  · rintro ⟨v, hv, e⟩
    obtain ⟨i, hi, rfl⟩ := List.getElem_of_mem hv
    have g := get i (by omega)
    rw [List.getElem?_eq_getElem hi] at g
    rw [Option.some.inj g] at e
    have e := eqLL_iff.mp e
    have hq : i < qss.length := by rw [← h.len]; omega
    have z := h.at_ i rs[i] qss[i] (by simp [show i < rs.length by omega]) (by simp [hq])
    rw [e] at z
    rw [lst_inj (Option.some.inj z)]
    exact List.getElem_mem hq
  · intro hb
    obtain ⟨i, hi, e⟩ := List.getElem_of_mem hb
    have hr : i < rs.length := by rw [h.len]; exact hi
    have z := h.at_ i rs[i] qss[i] (by simp [hr]) (by simp [hi])
    exact ⟨.ref rs[i], List.mem_of_getElem? (get i hr), eqLL_iff.mpr (by rw [z, e])⟩
theorem eqAt_LL {A : Around} {pins : List (Addr × Obj)} {σ : St} {H : Hp} {s : Shared} {rs : List Addr} {qss : List (List Int)} {b : Addr} {bs : List Int} {its : List Value} (hu : A.units + 65 < cLine) (I : Inv X pins σ H s) (h : Lists H rs qss) (hb : SqL X.K H b (bs.map V.int)) (rv : Vals (rs.map V.ref) its) :
    ∀ y ∈ its, SeqAt.EqAt A.in1 s y (.ref b) (eqLL H bs y) := fun y hy => by
  have hl := rv.length
  rw [List.length_map] at hl
  obtain ⟨i, hi, rfl⟩ := List.getElem_of_mem hy
  have hr : i < rs.length := by omega
  obtain ⟨u, h1, h2⟩ := rv.get (i := i) (x := .ref rs[i]) (by simp [hr])
  rw [List.getElem?_eq_getElem hi] at h1
  have e : its[i] = .ref rs[i] := (Option.some.inj h1).trans h2
  rw [e]
  have hq : i < qss.length := by rw [← h.len]; exact hr
  have z := h.at_ i rs[i] qss[i] (by simp [hr]) (by simp [hq])
  obtain ⟨vs, rv1, p1, _⟩ := I.list (show SqL X.K H rs[i] (qss[i].map V.int) from SqL.of z)
  obtain ⟨us, rv2, p2, _⟩ := I.list hb
  have k := PySem.W.keq_ints (A := A) p1.isList (intsAre_of rv1) p2.isList (intsAre_of rv2) (by show A.units + 1 + 64 < cLine; omega)
  have e2 : eqLL H bs (.ref rs[i]) = decide (qss[i] = bs) := by
    rw [Bool.eq_iff_iff, eqLL_iff, decide_eq_true_eq, z]
    exact ⟨fun q => lst_inj (Option.some.inj q), fun q => by rw [q]⟩
  rw [e2]
  exact k
def rInLL (K : PySem.W.Frag) (neg : Bool) : R2 := fun x y H Q => ∃ b p bs rs qss, x = .ref b ∧ y = .ref p ∧ SqL K H b (bs.map V.int) ∧ SqL K H p (rs.map V.ref) ∧ Lists H rs qss ∧ Q (.bl (if neg then !decide (bs ∈ qss) else decide (bs ∈ qss))) H
theorem op_inLL (hu : X.A.units + 65 < cLine) : OpR X (compareOp .In) (rInLL X.K false) := by
  intro pins s σ H x y v u Q I rx ry h
  obtain ⟨b, p, bs, rs, qss, rfl, rfl, hb, hp, hL, q⟩ := h
  cases rx
  cases ry
  obtain ⟨its, rv, pl, _⟩ := I.list hp
  refine SeqAt.in_listAt (eqLL H bs) pl.isList (fun w hw => eqAt_LL hu I hL hb rv w (by simpa using hw)) ⟨.bl _, H, I, rfl, ?_⟩
  rw [show its.toArray.any (eqLL H bs) = its.any (eqLL H bs) by simp, any_eqLL hL rv]
  exact q
end
def it (j : Nat) (ps : List Int) : List Int := match j with
  | 0 => ps
  | j + 1 => turn (it j ps)
theorem it_succ (j : Nat) (ps : List Int) : it (j + 1) ps = turn (it j ps) := rfl
theorem it_add (i : Nat) (ps : List Int) : ∀ j, it (i + j) ps = it j (it i ps)
  | 0 => rfl
  | j + 1 => by rw [Nat.add_succ, it_succ, it_succ, it_add i ps j]
theorem Setting.it {n : Int} {ps : List Int} (h : Setting n ps) (h0 : 1 ≤ n) : ∀ j, Setting n (it j ps)
  | 0 => h
  | j + 1 => (Setting.it h h0 j).turn h0
def rotR (ms : List Int) : List Int := match ms.getLast? with
  | some l => l :: ms.dropLast
  | none => []
theorem rotR_snoc (ms : List Int) (l : Int) : rotR (ms ++ [l]) = l :: ms := by
  unfold rotR; simp
theorem raised_nil (k : Int) : raised k [] = [] := rfl
theorem raised_cons (k m : Int) (r : List Int) : raised k (m :: r) = (k - 1 + m) :: raised (k - 1) r := rfl
theorem raised_snoc : ∀ (ms : List Int) (k l : Int), raised k (ms ++ [l]) = raised k ms ++ [k - 1 - ms.length + l]
  | [], k, l => by rw [List.nil_append, raised_cons, raised_nil, raised_nil]; simp
  | m :: r, k, l => by
    rw [List.cons_append, raised_cons, raised_cons, raised_snoc r (k - 1) l, List.cons_append]
    congr 3
    rw [List.length_cons]; omega
theorem raised_up : ∀ (ms : List Int) (k : Int), raised (k + 1) ms = (raised k ms).map (· + 1)
  | [], k => by rw [raised_nil, raised_nil]; rfl
  | m :: r, k => by
    rw [raised_cons, raised_cons, List.map_cons, show k + 1 - 1 = (k - 1) + 1 by omega, raised_up r (k - 1)]
    congr 1; omega
end L2
end
section
set_option maxHeartbeats 2000000
set_option maxRecDepth 100000
set_option linter.unusedVariables false
set_option linter.unusedSimpArgs false
namespace L2
open PySem PySem.Spec PyProof.Rows
theorem raised_ge {ms : List Int} (h : ∀ m ∈ ms, m = 0 ∨ m = 1) : ∀ x ∈ raised ms.length ms, 0 ≤ x := raised_nonneg ms ms.length (fun m hm => by rcases h m hm with z | z <;> omega) (Int.le_refl _)
theorem byMarks_snoc {ms : List Int} {l : Int} (h : ∀ m ∈ ms, m = 0 ∨ m = 1) : byMarks (ms ++ [l]) = (raised ms.length ms).map (· + 1) ++ [l].filter fun x => decide (0 < x) := by
  rw [byMarks_eq, raised_snoc, List.filter_append]
  have e1 : ((ms ++ [l]).length : Int) = (ms.length : Int) + 1 := by rw [List.length_append, List.length_singleton]; omega
  rw [e1, raised_up]
  congr 1
  · refine List.filter_eq_self.mpr fun x hx => ?_
    obtain ⟨y, hy, rfl⟩ := List.mem_map.mp hx
    have := raised_ge h y hy
    simp only [decide_eq_true_eq]; omega
  · rw [show (ms.length : Int) + 1 - 1 - ms.length + l = l by omega]
theorem turn_marks {ms : List Int} {l : Int} (h : ∀ m ∈ ms, m = 0 ∨ m = 1) (hl : l = 0 ∨ l = 1) (hp : 1 ≤ (ms.length : Int) + l) : turn (byMarks (ms ++ [l])) = byMarks (l :: ms) := by
  have eB := byMarks_snoc (l := l) h
  have lenB : ((byMarks (ms ++ [l])).length : Int) = ms.length + l := by
    rw [eB, List.length_append, List.length_map, raised_len]
    rcases hl with rfl | rfl
    · simp
    · simp
  have left : leftOf (byMarks (ms ++ [l])) = (raised ms.length ms).filter fun x => decide (0 < x) := by
    rw [eB]
    unfold leftOf
    rw [List.filter_append, List.map_append, List.filter_map, List.map_map]
    have e1 : (([l].filter fun x => decide (0 < x)).filter fun x => decide (1 < x)) = [] := by rcases hl with rfl | rfl <;> rfl
    rw [e1, List.map_nil, List.append_nil]
    have e2 : (fun x : Int => decide (1 < x)) ∘ (fun x => x + 1) = fun x => decide (0 < x) := by
      funext x; show decide (1 < x + 1) = decide (0 < x); rw [decide_eq_decide]; omega
    rw [e2]
    have e3 : (fun x : Int => x - 1) ∘ (fun x => x + 1) = id := by funext x; show x + 1 - 1 = x; omega
    rw [e3, List.map_id]
  have right : byMarks (l :: ms) = ((ms.length : Int) + l) :: (raised ms.length ms).filter fun x => decide (0 < x) := by
    rw [byMarks_eq, raised_cons]
    have e1 : ((l :: ms).length : Int) - 1 = ms.length := by rw [List.length_cons]; omega
    rw [e1, List.filter_cons, if_pos (by simp only [decide_eq_true_eq]; omega)]
  unfold turn
  rw [lenB, left, right]
  cases hf : (raised ms.length ms).filter fun x => decide (0 < x) with
  | nil => rfl
  | cons y r =>
    have my : y ∈ raised ms.length ms := (List.mem_filter.mp (show y ∈ (raised ms.length ms).filter fun x => decide (0 < x) by rw [hf]; exact List.mem_cons_self)).1
    have := (raised_ord ms ms.length h).2 y my
    unfold insD
    rw [if_pos (by rcases hl with rfl | rfl <;> omega)]
theorem above_marks {ms : List Int} (h : ∀ m ∈ ms, m = 0 ∨ m = 1) (h0 : ms ≠ []) : aboveL ms.length (byMarks ms) = ms := by
  obtain ⟨r, l, rfl⟩ : ∃ r l, ms = r ++ [l] := ⟨ms.dropLast, ms.getLast h0, (List.dropLast_concat_getLast h0).symm⟩
  have hr : ∀ m ∈ r, m = 0 ∨ m = 1 := fun m hm => h m (List.mem_append_left _ hm)
  have hl : l = 0 ∨ l = 1 := h l (by simp)
  have ef : filledL (r ++ [l]).length (byMarks (r ++ [l])) = raised (r ++ [l]).length (r ++ [l]) := by
    unfold filledL
    rw [byMarks_snoc hr, raised_snoc]
    have e1 : ((r ++ [l]).length : Int) = (r.length : Int) + 1 := by rw [List.length_append, List.length_singleton]; omega
    rw [e1, raised_up, List.append_assoc]
    congr 1
    rw [List.length_append, List.length_map, raised_len]
    rcases hl with rfl | rfl
    · simp
    · simp
  unfold aboveL
  rw [ef]
  apply List.ext_getElem?
  intro i
  rw [List.getElem?_mapIdx]
  by_cases hi : i < (r ++ [l]).length
  · rw [raised_get _ _ i hi, List.getElem?_eq_getElem hi]
    simp only [Option.map_some, Option.some.injEq]
    rw [show (r ++ [l]).getD i 0 = (r ++ [l])[i] by rw [List.getD_eq_getElem?_getD, List.getElem?_eq_getElem hi]; rfl]
    omega
  · rw [List.getElem?_eq_none_iff.mpr (by rw [raised_len]; omega), List.getElem?_eq_none_iff.mpr (by omega)]; rfl
theorem Marks.stair {n : Int} {ms : List Int} (h : Marks n ms) : IsStair n ms.length := ⟨by have := h.ne; omega, h.lo, h.hi⟩
theorem Marks.rot {n : Int} {ms : List Int} {l : Int} (h : Marks n (ms ++ [l])) : Marks n (l :: ms) := by
  have e : (l :: ms).length = (ms ++ [l]).length := by simp
  refine ⟨by simp, by rw [e]; exact h.lo, by rw [e]; exact h.hi, fun m hm => h.bit m ?_, ?_⟩
  · rcases List.mem_cons.mp hm with z | z
    · rw [z]; simp
    · exact List.mem_append_left _ z
  · rw [e, ← h.sum, sum_app, List.sum_cons, List.sum_cons, List.sum_nil]; omega
theorem Marks.round {n : Int} {ms : List Int} (h : Marks n ms) (n0 : 1 ≤ n) : Marks n (rotR ms) ∧ turn (byMarks ms) = byMarks (rotR ms) ∧ (rotR ms).length = ms.length := by
  have hne : ms ≠ [] := fun z => by have := h.ne; rw [z] at this; simp at this
  obtain ⟨r, l, rfl⟩ : ∃ r l, ms = r ++ [l] := ⟨ms.dropLast, ms.getLast hne, (List.dropLast_concat_getLast hne).symm⟩
  rw [rotR_snoc]
  have hl : l = 0 ∨ l = 1 := h.bit l (by simp)
  refine ⟨h.rot, turn_marks (fun m hm => h.bit m (List.mem_append_left _ hm)) hl ?_, by simp⟩
  have hs := h.sum
  cases r with
  | nil =>
    simp at hs
    simp; omega
  | cons a b => rw [List.length_cons]; rcases hl with z | z <;> omega
def rots (j : Nat) (ms : List Int) : List Int := match j with
  | 0 => ms
  | j + 1 => rotR (rots j ms)
theorem rots_drop (ms : List Int) : ∀ j, j ≤ ms.length → rots j ms = ms.drop (ms.length - j) ++ ms.take (ms.length - j)
  | 0, _ => by simp [rots]
  | j + 1, h => by
    show rotR (rots j ms) = _
    rw [rots_drop ms j (by omega)]
    have hj : ms.length - j - 1 < ms.length := by omega
    have e1 : ms.take (ms.length - j) = ms.take (ms.length - (j + 1)) ++ [ms[ms.length - (j + 1)]] := by
      rw [show ms.length - j = (ms.length - (j + 1)) + 1 by omega, List.take_add_one, List.getElem?_eq_getElem (by omega)]; rfl
    rw [e1, ← List.append_assoc, rotR_snoc]
    rw [show ms.length - j = ms.length - (j + 1) + 1 by omega]
    rw [← List.cons_append, ← List.drop_eq_getElem_cons]
theorem rots_all (ms : List Int) : rots ms.length ms = ms := by rw [rots_drop ms ms.length (Nat.le_refl _)]; simp
theorem Marks.rots {n : Int} {ms : List Int} (h : Marks n ms) (n0 : 1 ≤ n) : ∀ j, Marks n (rots j ms) ∧ it j (byMarks ms) = byMarks (L2.rots j ms) ∧ (L2.rots j ms).length = ms.length
  | 0 => ⟨h, rfl, rfl⟩
  | j + 1 => by
    obtain ⟨a, b, c⟩ := Marks.rots h n0 j
    obtain ⟨a2, b2, c2⟩ := a.round n0
    exact ⟨a2, by rw [it_succ, b, b2]; rfl, c2.trans c⟩
theorem least {p : Nat → Prop} : ∀ m, p m → ∃ d, d ≤ m ∧ p d ∧ ∀ j, j < d → ¬ p j := by
  intro m
  induction m using Nat.strongRecOn with
  | ind m ih =>
    intro hm
    by_cases h : ∃ j, j < m ∧ p j
    · obtain ⟨j, hj, pj⟩ := h
      obtain ⟨d, h1, h2, h3⟩ := ih j hj pj
      exact ⟨d, by omega, h2, h3⟩
    · exact ⟨m, Nat.le_refl _, hm, fun j hj pj => h ⟨j, hj, pj⟩⟩
structure Ring (ps : List Int) (d : Nat) : Prop where
  pos : 1 ≤ d
  back : it d ps = ps
  no : ∀ i j, i < j → j < d → it i ps ≠ it j ps
theorem Ring.of {ps : List Int} {k : Nat} (hk : 1 ≤ k) (h : it k ps = ps) : ∃ d, d ≤ k ∧ Ring ps d := by
  obtain ⟨d, hd, ⟨p1, p2⟩, no⟩ := least (p := fun d => 1 ≤ d ∧ it d ps = ps) k ⟨hk, h⟩
  refine ⟨d, hd, p1, p2, fun i j hij hj e => no (j - i) (by omega) ⟨by omega, ?_⟩⟩
  have e1 : it (d - i) (it i ps) = ps := by rw [← it_add, show i + (d - i) = d by omega]; exact p2
  have e2 : it (d - i) (it j ps) = it (j - i) ps := by
    rw [← it_add, show j + (d - i) = d + (j - i) by omega, it_add, p2]
  rw [← e2, ← e, e1]
theorem Ring.mod {ps : List Int} {d : Nat} (h : Ring ps d) : ∀ i, it i ps = it (i % d) ps := by
  intro i
  induction i using Nat.strongRecOn with
  | ind i ih =>
    by_cases c : i < d
    · rw [Nat.mod_eq_of_lt c]
    · have e : it i ps = it (i - d) ps := by
        conv => lhs; rw [show i = d + (i - d) by omega, it_add, h.back]
      have hp := h.pos
      rw [e, ih (i - d) (by omega), ← Nat.mod_eq_sub_mod (by omega)]
def its (i : Nat) (ps : List Int) : List (List Int) := (List.range i).map fun t => it t ps
theorem its_len (i : Nat) (ps : List Int) : (its i ps).length = i := by unfold its; simp
theorem its_succ (i : Nat) (ps : List Int) : its (i + 1) ps = its i ps ++ [it i ps] := by unfold its; rw [List.range_succ, List.map_append]; rfl
theorem mem_its {i : Nat} {ps qs : List Int} : qs ∈ its i ps ↔ ∃ t, t < i ∧ it t ps = qs := by unfold its; simp
theorem its_get {i t : Nat} {ps : List Int} (h : t < i) : (its i ps)[t]? = some (it t ps) := by unfold its; simp [h]
theorem Ring.mem {ps : List Int} {d : Nat} (h : Ring ps d) {i : Nat} : it i ps ∈ its (min i d) ps ↔ d ≤ i := by
  rw [mem_its]
  constructor
  · rintro ⟨t, ht, e⟩
    by_cases c : d ≤ i
    · exact c
    · exact absurd e (h.no t i (by omega) (by omega))
  · intro c
    exact ⟨i % d, by have := Nat.mod_lt i h.pos; omega, (h.mod i).symm⟩
end L2
end
section
set_option maxHeartbeats 2000000
set_option maxRecDepth 100000
set_option linter.unusedVariables false
set_option linter.unusedSimpArgs false
namespace BS
def sm : Nat → (Nat → Int) → Int
  | 0, _ => 0
  | n + 1, f => sm n f + f n
def ind (p : Prop) [Decidable p] : Int := if p then 1 else 0
theorem ind_t {p : Prop} [Decidable p] (h : p) : ind p = 1 := by simp [ind, h]
theorem ind_f {p : Prop} [Decidable p] (h : ¬p) : ind p = 0 := by simp [ind, h]
theorem ind_nn (p : Prop) [Decidable p] : 0 ≤ ind p := by unfold ind; split <;> omega
theorem ind_le (p : Prop) [Decidable p] : ind p ≤ 1 := by unfold ind; split <;> omega
theorem sm_le {n : Nat} {f g : Nat → Int} (h : ∀ i, i < n → f i ≤ g i) : sm n f ≤ sm n g := by
  induction n with
  | zero => simp [sm]
  | succ n ih => have := ih (fun i hi => h i (by omega)); have := h n (by omega); simp only [sm]; omega
theorem sm_congr {n : Nat} {f g : Nat → Int} (h : ∀ i, i < n → f i = g i) : sm n f = sm n g := by
  induction n with
  | zero => simp [sm]
  | succ n ih => have := ih (fun i hi => h i (by omega)); have := h n (by omega); simp only [sm]; omega
theorem sm_add (n : Nat) (f g : Nat → Int) : sm n (fun i => f i + g i) = sm n f + sm n g := by
  induction n with
  | zero => simp [sm]
  | succ n ih => simp only [sm]; omega
theorem sm_sub (n : Nat) (f g : Nat → Int) : sm n (fun i => f i - g i) = sm n f - sm n g := by
  induction n with
  | zero => simp [sm]
  | succ n ih => simp only [sm]; omega
theorem sm_const (n : Nat) (d : Int) : sm n (fun _ => d) = n * d := by
  induction n with
  | zero => simp [sm]
  | succ n ih => simp only [sm]; rw [ih]; push_cast; rw [Int.add_mul]; omega
theorem sm_nn {n : Nat} {f : Nat → Int} (h : ∀ i, i < n → 0 ≤ f i) : 0 ≤ sm n f := by
  have := sm_le (n := n) (f := fun _ => 0) (g := f) h
  rw [sm_const] at this; omega
theorem sm_split (n m : Nat) (f : Nat → Int) : sm (n + m) f = sm n f + sm m (fun i => f (n + i)) := by
  induction m with
  | zero => simp [sm]
  | succ m ih => rw [← Nat.add_assoc]; simp only [sm]; omega
theorem sm_succ' (n : Nat) (f : Nat → Int) : sm (n + 1) f = f 0 + sm n (fun i => f (i + 1)) := by
  have h := sm_split 1 n f
  rw [Nat.add_comm 1 n] at h
  rw [h]; simp only [sm]
  rw [sm_congr (n := n) (g := fun i => f (i + 1)) (fun i _ => by rw [Nat.add_comm])]
  omega
theorem sm_mono {n m : Nat} {f : Nat → Int} (h : n ≤ m) (hf : ∀ i, i < m → 0 ≤ f i) : sm n f ≤ sm m f := by
  obtain ⟨d, rfl⟩ := Nat.exists_eq_add_of_le h
  rw [sm_split]
  have := sm_nn (n := d) (f := fun i => f (n + i)) (fun i hi => hf _ (by omega))
  omega
theorem sm_swap (n m : Nat) (F : Nat → Nat → Int) :
    sm n (fun i => sm m (fun j => F i j)) = sm m (fun j => sm n (fun i => F i j)) := by
  induction n with
  | zero => simp only [sm]; rw [sm_const]; simp
  | succ n ih => simp only [sm]; rw [ih, ← sm_add]
theorem sm_iv (n : Nat) (lo hi : Int) :
    sm n (fun y => ind (lo ≤ (y : Int) ∧ (y : Int) < hi)) = max 0 (min (n : Int) hi - max 0 lo) := by
  induction n with
  | zero => simp only [sm]; omega
  | succ n ih =>
      simp only [sm]; rw [ih]
      by_cases h : lo ≤ (n : Int) ∧ (n : Int) < hi
      · rw [ind_t h]; omega
      · rw [ind_f h]; omega
structure Sys (c r : Nat → Int) : Prop where
  mono : ∀ t, 1 ≤ t → r (t + 1) ≤ r t
  nn : ∀ t, 0 ≤ r t
  eqn : ∀ t, 1 ≤ t → c t = r t + sm (t - 1) (fun i => ind ((i : Int) + 1 ≤ c (t - (i + 1))))
section
variable {c r : Nat → Int} (S : Sys c r)
include S
theorem c_nn (t : Nat) (ht : 1 ≤ t) : 0 ≤ c t := by
  rw [S.eqn t ht]
  have := S.nn t
  have := sm_nn (n := t - 1) (f := fun i => ind ((i : Int) + 1 ≤ c (t - (i + 1)))) (fun i _ => ind_nn _)
  omega
theorem rise (t : Nat) (ht : 1 ≤ t) : c (t + 1) ≤ c t + 1 := by
  rw [S.eqn (t + 1) (by omega), S.eqn t ht]
  have h1 := S.mono t ht
  obtain ⟨u, rfl⟩ : ∃ u, t = u + 1 := ⟨t - 1, by omega⟩
  have e : u + 1 + 1 - 1 = u + 1 := by omega
  rw [e, sm_succ']
  have h2 := ind_le (((0 : Nat) : Int) + 1 ≤ c (u + 1 + 1 - (0 + 1)))
  have h3 : sm u (fun i => ind (((i + 1 : Nat) : Int) + 1 ≤ c (u + 1 + 1 - (i + 1 + 1)))) ≤
      sm u (fun i => ind ((i : Int) + 1 ≤ c (u + 1 - (i + 1)))) := by
    apply sm_le; intro i hi
    have e2 : u + 1 + 1 - (i + 1 + 1) = u + 1 - (i + 1) := by omega
    rw [e2]
    by_cases h : ((i + 1 : Nat) : Int) + 1 ≤ c (u + 1 - (i + 1))
    · rw [ind_t h, ind_t (by omega)]; omega
    · rw [ind_f h]; exact ind_nn _
  have e3 : u + 1 - 1 = u := by omega
  rw [e3]; omega
theorem rises (t d : Nat) (ht : 1 ≤ t) : c (t + d) ≤ c t + d := by
  induction d with
  | zero => simp
  | succ d ih => have := rise S (t + d) (by omega); rw [← Nat.add_assoc]; omega
end
def Lam (c : Nat → Int) (a m x : Nat) : Int :=
  sm (m + 1) (fun y => ind (y < x ∧ (x : Int) ≤ c (a - x) + (y : Int)))
def Rf (k m x : Nat) : Int := sm (m + 1) (fun y => ind (y < x ∧ x ≤ k + y))
theorem Lam_eq (c : Nat → Int) (a m x : Nat) :
    Lam c a m x = max 0 (min ((m : Int) + 1) x - max 0 ((x : Int) - c (a - x))) := by
  have h := sm_iv (m + 1) ((x : Int) - c (a - x)) x
  unfold Lam
  rw [sm_congr (g := fun y => ind ((x : Int) - c (a - x) ≤ (y : Int) ∧ (y : Int) < x))
    (fun y _ => by unfold ind; congr 1; apply propext; constructor <;> intro h <;> omega), h]
  push_cast; rfl
theorem Rf_eq (k m x : Nat) :
    Rf k m x = max 0 (min ((m : Int) + 1) x - max 0 ((x : Int) - k)) := by
  have h := sm_iv (m + 1) ((x : Int) - k) x
  unfold Rf
  rw [sm_congr (g := fun y => ind ((x : Int) - k ≤ (y : Int) ∧ (y : Int) < x))
    (fun y _ => by unfold ind; congr 1; apply propext; constructor <;> intro h <;> omega), h]
  push_cast; rfl
theorem Rf_step (k m x : Nat) : Rf (k + 1) m x - Rf k m x = ind ((k : Int) + 1 ≤ (x : Int) ∧ (x : Int) < k + m + 2) := by
  rw [Rf_eq, Rf_eq]
  by_cases h : (k : Int) + 1 ≤ (x : Int) ∧ (x : Int) < k + m + 2
  · rw [ind_t h]; push_cast; omega
  · rw [ind_f h]; push_cast; omega
theorem Rf_sum (m N : Nat) : ∀ k : Nat, k + m ≤ N → sm N (fun i => Rf k m (i + 1)) = ((m : Int) + 1) * k := by
  intro k
  induction k with
  | zero =>
      intro _
      rw [sm_congr (g := fun _ => 0) (fun i _ => by rw [Rf_eq]; omega), sm_const]; simp
  | succ k ih =>
      intro h
      have h1 := ih (by omega)
      have h2 : sm N (fun i => Rf (k + 1) m (i + 1)) = sm N (fun i => Rf k m (i + 1)) +
          sm N (fun i => ind ((k : Int) ≤ (i : Int) ∧ (i : Int) < k + m + 1)) := by
        rw [← sm_add]; apply sm_congr; intro i _
        have := Rf_step k m (i + 1)
        have e : ind ((k : Int) + 1 ≤ ((i + 1 : Nat) : Int) ∧ ((i + 1 : Nat) : Int) < k + m + 2) =
            ind ((k : Int) ≤ (i : Int) ∧ (i : Int) < k + m + 1) := by
          unfold ind; congr 1; apply propext; constructor <;> intro h <;> omega
        omega
      rw [h2, h1, sm_iv]
      push_cast; rw [Int.mul_add]; omega
section
variable (c : Nat → Int) (a m : Nat)
def cntA (N : Nat) : Int := sm N (fun i => ind ((i : Int) + 1 ≤ c (a - (i + 1))))
def Gd (k N : Nat) : Int := sm N (fun i => Lam c a m (i + 1) - Rf k m (i + 1))
theorem cntA_le (N : Nat) : cntA c a N ≤ N := by
  have := sm_le (n := N) (f := fun i => ind ((i : Int) + 1 ≤ c (a - (i + 1)))) (g := fun _ => 1) (fun i _ => ind_le _)
  rw [sm_const] at this; unfold cntA; omega
theorem last_alive (N : Nat) (h : 1 ≤ cntA c a N) :
    ∃ X, 1 ≤ X ∧ X ≤ N ∧ (X : Int) ≤ c (a - X) ∧ (∀ x, X < x → x ≤ N → c (a - x) < x) ∧ cntA c a X = cntA c a N := by
  induction N with
  | zero => simp [cntA, sm] at h
  | succ N ih =>
      by_cases ha : ((N + 1 : Nat) : Int) ≤ c (a - (N + 1))
      · exact ⟨N + 1, by omega, by omega, ha, fun x h1 h2 => by omega, rfl⟩
      · have e : cntA c a (N + 1) = cntA c a N := by
          show sm N _ + ind _ = _
          rw [ind_f (by push_cast at ha; omega)]; unfold cntA; omega
        rw [e] at h
        obtain ⟨X, h1, h2, h3, h4, h5⟩ := ih h
        refine ⟨X, h1, by omega, h3, ?_, by omega⟩
        intro x hx hxN
        by_cases hx2 : x = N + 1
        · subst hx2; omega
        · exact h4 x hx (by omega)
theorem cntA_succ (N : Nat) (ha : ((N + 1 : Nat) : Int) ≤ c (a - (N + 1))) : cntA c a (N + 1) = cntA c a N + 1 := by
  show sm N _ + ind _ = _
  rw [ind_t (by push_cast at ha; omega)]; rfl
theorem Gd_step (k N : Nat) (h : k ≤ N) :
    Gd c a m (k + 1) N = Gd c a m k N - min ((N : Int) - k) (m + 1) := by
  unfold Gd
  have h2 : sm N (fun i => Lam c a m (i + 1) - Rf (k + 1) m (i + 1)) = sm N (fun i => Lam c a m (i + 1) - Rf k m (i + 1)) -
      sm N (fun i => ind ((k : Int) ≤ (i : Int) ∧ (i : Int) < k + m + 1)) := by
    rw [← sm_sub]; apply sm_congr; intro i _
    have := Rf_step k m (i + 1)
    have e : ind ((k : Int) + 1 ≤ ((i + 1 : Nat) : Int) ∧ ((i + 1 : Nat) : Int) < k + m + 2) =
        ind ((k : Int) ≤ (i : Int) ∧ (i : Int) < k + m + 1) := by
      unfold ind; congr 1; apply propext; constructor <;> intro h <;> omega
    omega
  rw [h2, sm_iv]; omega
end
end BS
end
section
set_option maxHeartbeats 2000000
set_option maxRecDepth 100000
set_option linter.unusedVariables false
set_option linter.unusedSimpArgs false
namespace BS
def Pm (c : Nat → Int) (k m : Nat) : Prop :=
  ∀ a, m * (k + 1) + 1 ≤ a + k → 1 ≤ a → (k : Int) + 1 ≤ c a →
    ((m : Int) + 1) * k + 1 ≤ sm (m + 1) (fun y => c (a - y))
theorem sm_subc (n : Nat) (f : Nat → Int) (d : Int) : sm n (fun i => f i - d) = sm n f - n * d := by
  rw [sm_sub, sm_const]
section
variable {c r : Nat → Int} (S : Sys c r)
include S
theorem dead_term (a m K x : Nat) (hx : K < x) (hx2 : x ≤ K + m) (ha : x < a) (hd : c (a - x) < x) :
    c (a - x) - K ≤ Lam c a m x - Rf K m x := by
  have := c_nn S (a - x) (by omega)
  rw [Lam_eq, Rf_eq]; omega
theorem dead_term0 (a m K x : Nat) (hx2 : K + m < x) : 0 ≤ Lam c a m x - Rf K m x := by
  rw [Lam_eq, Rf_eq]; omega
theorem last_term (a m K x : Nat) (hx2 : x = K + m) : -1 ≤ Lam c a m x - Rf K m x := by
  rw [Lam_eq, Rf_eq]; omega
theorem alive_term (a m K x : Nat) (hx : K < x) (hd : (x : Int) ≤ c (a - x)) :
    Lam c a m x - Rf K m x = min ((x : Int) - K) (m + 1) := by
  rw [Lam_eq, Rf_eq]; omega
theorem tail_ge (a m K X N : Nat) (hN : N < a) (hX : K ≤ X) (hXN : X ≤ N) (hd : ∀ x, X < x → x ≤ N → c (a - x) < x)
    (L : Nat) (hL : L = min N (K + m) - X) :
    sm L (fun i => c (a - X - (i + 1)) - K) ≤ sm (N - X) (fun i => Lam c a m (X + i + 1) - Rf K m (X + i + 1)) := by
  obtain ⟨d, hd2⟩ : ∃ d, N - X = L + d := ⟨N - X - L, by omega⟩
  rw [hd2, sm_split]
  have h1 : sm L (fun i => c (a - X - (i + 1)) - K) ≤ sm L (fun i => Lam c a m (X + i + 1) - Rf K m (X + i + 1)) := by
    apply sm_le; intro i hi
    have := dead_term S a m K (X + i + 1) (by omega) (by omega) (by omega) (hd _ (by omega) (by omega))
    have e : a - X - (i + 1) = a - (X + i + 1) := by omega
    rw [e]; exact this
  have h2 : 0 ≤ sm d (fun i => Lam c a m (X + (L + i) + 1) - Rf K m (X + (L + i) + 1)) := by
    apply sm_nn; intro i hi
    apply dead_term0 S; omega
  omega
theorem behind (K L s : Nat) (hP : Pm c K L) (hP' : 1 ≤ L → Pm c K (L - 1)) (hs : L + 1 ≤ s) (ht : L * K + L + 1 ≤ s + K)
    (hc : (K : Int) + 1 ≤ c s) : 0 ≤ sm L (fun i => c (s - (i + 1)) - K) := by
  rcases Nat.eq_zero_or_pos L with h0 | h0
  · subst h0; simp [sm]
  · rw [sm_subc]
    by_cases h1 : c s ≤ (K : Int) + 1
    · have h := hP s (by rw [Nat.mul_add]; omega) (by omega) hc
      rw [sm_succ'] at h
      simp only [Nat.sub_zero] at h
      rw [Int.add_mul] at h; omega
    · have hr := rise S (s - 1) (by omega)
      have e : s - 1 + 1 = s := by omega
      rw [e] at hr
      obtain ⟨l, rfl⟩ : ∃ l, L = l + 1 := ⟨L - 1, by omega⟩
      have h := hP' h0 (s - 1) (by
        have e2 : l + 1 - 1 = l := by omega
        rw [e2, Nat.mul_add]; rw [Nat.add_mul] at ht; omega) (by omega) (by omega)
      have e2 : l + 1 - 1 = l := by omega
      rw [e2] at h
      rw [sm_congr (g := fun i => c (s - (i + 1))) (fun i _ => by congr 1; omega)] at h
      push_cast at h ⊢; omega
theorem Q (a m K0 : Nat) (hm : 2 ≤ m) (hP : ∀ k' m', m' < m → Pm c k' m') (hb : (m - 1) * K0 + m + 1 ≤ a) :
    ∀ k, k ≤ K0 → ∀ N, k ≤ N → N < a → (k : Int) ≤ cntA c a N → - min ((N : Int) - k) m ≤ Gd c a m k N := by
  intro k
  induction k with
  | zero =>
      intro _ N _ _ _
      have : 0 ≤ Gd c a m 0 N := by
        apply sm_nn; intro i _; rw [Lam_eq, Rf_eq]; omega
      omega
  | succ k ih =>
      intro hk N hN hNa hcnt
      have al : ∀ X, k + 1 ≤ X → X < a → ((k + 1 : Nat) : Int) ≤ cntA c a X → (X : Int) ≤ c (a - X) →
          - min ((X : Int) - (k + 1 : Nat)) m ≤ Gd c a m (k + 1) X := by
        intro X hX hXa hc hal
        obtain ⟨x, rfl⟩ : ∃ x, X = x + 1 := ⟨X - 1, by omega⟩
        rw [cntA_succ c a x hal] at hc
        have h1 := ih (by omega) x (by omega) (by omega) (by push_cast at hc; omega)
        have h2 := Gd_step c a m k x (by omega)
        have h3 := alive_term S a m (k + 1) (x + 1)
        have h4 : Lam c a m (x + 1) - Rf (k + 1) m (x + 1) = min ((x : Int) - k) (m + 1) := by
          rw [Lam_eq, Rf_eq]; push_cast at hal ⊢; omega
        have h5 : Gd c a m (k + 1) (x + 1) = Gd c a m (k + 1) x + (Lam c a m (x + 1) - Rf (k + 1) m (x + 1)) := rfl
        push_cast; omega
      have hb' : (m - 1) * (k + 1) + m + 1 ≤ a := by
        have := Nat.mul_le_mul_left (m - 1) hk; omega
      obtain ⟨X, hX1, hXN, hXa, hdead, hcX⟩ := last_alive c a N (by push_cast at hcnt; omega)
      have hXk : k + 1 ≤ X := by
        have := cntA_le c a X; push_cast at hcnt; omega
      have h1 := al X hXk (by omega) (by omega) hXa
      obtain ⟨L, hL⟩ : ∃ L, L = min N (k + 1 + m) - X := ⟨_, rfl⟩
      have ht := tail_ge S a m (k + 1) X N hNa hXk hXN hdead L hL
      have hsplit : Gd c a m (k + 1) N = Gd c a m (k + 1) X +
          sm (N - X) (fun i => Lam c a m (X + i + 1) - Rf (k + 1) m (X + i + 1)) := by
        have e : N = X + (N - X) := by omega
        show sm N _ = sm X _ + _
        rw [show sm N (fun i => Lam c a m (i + 1) - Rf (k + 1) m (i + 1)) = sm (X + (N - X)) (fun i => Lam c a m (i + 1) - Rf (k + 1) m (i + 1)) from by rw [← e]]
        rw [sm_split]
      by_cases hJ : k + 1 < X
      · have hmul : L * (k + 1) ≤ (m - 1) * (k + 1) := Nat.mul_le_mul_right _ (by omega)
        by_cases hL0 : L = 0
        · subst hL0; simp [sm] at ht; push_cast at *; omega
        · have h2 := behind S (k + 1) L (a - X) (hP _ _ (by omega)) (fun _ => hP _ _ (by omega)) (by omega)
            (by have : L + (X - (k + 1)) ≤ m := by omega
                omega) (by push_cast at hXa ⊢; omega)
          push_cast at *; omega
      · have hXe : X = k + 1 := by omega
        subst hXe
        by_cases hL0 : L = 0
        · subst hL0; simp [sm] at ht; push_cast at *; omega
        · have hL1 : (L : Int) = min ((N : Int) - (k + 1)) m := by omega
          by_cases hc1 : ((k + 1 : Nat) : Int) + 1 ≤ c (a - (k + 1))
          · have hr := rise S (a - (k + 1) - 1) (by omega)
            have e : a - (k + 1) - 1 + 1 = a - (k + 1) := by omega
            rw [e] at hr
            have hmul : (L - 1) * (k + 1) ≤ (m - 1) * (k + 1) := Nat.mul_le_mul_right _ (by omega)
            have h := hP k (L - 1) (by omega) (a - (k + 1) - 1) (by omega) (by omega) (by push_cast at *; omega)
            have e2 : L - 1 + 1 = L := by omega
            rw [e2] at h
            rw [sm_congr (g := fun i => c (a - (k + 1) - (i + 1))) (fun i _ => by congr 1; omega)] at h
            rw [sm_subc] at ht
            have e3 : ((L - 1 : Nat) : Int) + 1 = L := by omega
            rw [e3] at h
            push_cast at ht
            rw [Int.mul_add] at ht
            push_cast at *; omega
          · by_cases hLm : L < m
            · have hmul : L * (k + 1) ≤ (m - 1) * (k + 1) := Nat.mul_le_mul_right _ (by omega)
              have h := hP k L hLm (a - (k + 1)) (by omega) (by omega) (by push_cast at *; omega)
              rw [sm_succ'] at h
              simp only [Nat.sub_zero] at h
              rw [sm_subc] at ht
              rw [Int.add_mul] at h
              push_cast at ht
              rw [Int.mul_add] at ht
              push_cast at *; omega
            · have hLe : L = m := by omega
              obtain ⟨l, rfl⟩ : ∃ l, m = l + 1 := ⟨m - 1, by omega⟩
              have e1 : l + 1 - 1 = l := by omega
              rw [e1] at hb hb'
              have h := hP k l (by omega) (a - (k + 1)) (by omega) (by omega) (by push_cast at *; omega)
              rw [sm_succ'] at h
              simp only [Nat.sub_zero] at h
              rw [Int.add_mul] at h
              have hNX : ∃ d, N - (k + 1) = l + 1 + d := ⟨N - (k + 1) - (l + 1), by omega⟩
              obtain ⟨d, hd⟩ := hNX
              have t1 : sm (N - (k + 1)) (fun i => Lam c a (l + 1) (k + 1 + i + 1) - Rf (k + 1) (l + 1) (k + 1 + i + 1)) =
                  sm (l + 1) (fun i => Lam c a (l + 1) (k + 1 + i + 1) - Rf (k + 1) (l + 1) (k + 1 + i + 1)) +
                  sm d (fun i => Lam c a (l + 1) (k + 1 + (l + 1 + i) + 1) - Rf (k + 1) (l + 1) (k + 1 + (l + 1 + i) + 1)) := by
                rw [hd, sm_split]
              have t2 : 0 ≤ sm d (fun i => Lam c a (l + 1) (k + 1 + (l + 1 + i) + 1) - Rf (k + 1) (l + 1) (k + 1 + (l + 1 + i) + 1)) := by
                apply sm_nn; intro i _; apply dead_term0 S; omega
              have t3 : sm l (fun i => c (a - (k + 1) - (i + 1)) - (k + 1 : Nat)) ≤ sm l (fun i => Lam c a (l + 1) (k + 1 + i + 1) - Rf (k + 1) (l + 1) (k + 1 + i + 1)) := by
                apply sm_le; intro i hi
                have := dead_term S a (l + 1) (k + 1) (k + 1 + i + 1) (by omega) (by omega) (by omega) (hdead _ (by omega) (by omega))
                have e : a - (k + 1) - (i + 1) = a - (k + 1 + i + 1) := by omega
                rw [e]; exact this
              have t4 := last_term S a (l + 1) (k + 1) (k + 1 + l + 1) (by omega)
              have t5 : sm (l + 1) (fun i => Lam c a (l + 1) (k + 1 + i + 1) - Rf (k + 1) (l + 1) (k + 1 + i + 1)) =
                sm l (fun i => Lam c a (l + 1) (k + 1 + i + 1) - Rf (k + 1) (l + 1) (k + 1 + i + 1)) +
                (Lam c a (l + 1) (k + 1 + l + 1) - Rf (k + 1) (l + 1) (k + 1 + l + 1)) := rfl
              rw [sm_subc] at t3
              push_cast at t3
              rw [Int.mul_add] at t3
              push_cast at *; omega
theorem dbl (a m N : Nat) (hm : m < a) (hN : N < a) :
    sm (m + 1) (fun y => r (a - y)) + sm N (fun i => Lam c a m (i + 1)) ≤ sm (m + 1) (fun y => c (a - y)) := by
  unfold Lam
  rw [sm_swap, ← sm_add]
  apply sm_le; intro y hy
  rw [S.eqn (a - y) (by omega)]
  have h1 : sm N (fun i => ind (y < i + 1 ∧ ((i + 1 : Nat) : Int) ≤ c (a - (i + 1)) + y)) ≤
      sm (y + (a - 1 - y)) (fun i => ind (y < i + 1 ∧ ((i + 1 : Nat) : Int) ≤ c (a - (i + 1)) + y)) :=
    sm_mono (by omega) (fun i _ => ind_nn _)
  rw [sm_split] at h1
  have h2 : sm y (fun i => ind (y < i + 1 ∧ ((i + 1 : Nat) : Int) ≤ c (a - (i + 1)) + y)) = 0 := by
    rw [sm_congr (g := fun _ => 0) (fun i hi => ind_f (by omega)), sm_const]; simp
  have h3 : sm (a - 1 - y) (fun i => ind (y < y + i + 1 ∧ ((y + i + 1 : Nat) : Int) ≤ c (a - (y + i + 1)) + y)) =
      sm (a - y - 1) (fun i => ind ((i : Int) + 1 ≤ c (a - y - (i + 1)))) := by
    rw [show a - 1 - y = a - y - 1 from by omega]
    apply sm_congr; intro i hi
    rw [show a - y - (i + 1) = a - (y + i + 1) from by omega]
    unfold ind; congr 1; apply propext; constructor <;> intro h <;> omega
  omega
theorem r_anti (t d : Nat) (ht : 1 ≤ t) : r (t + d) ≤ r t := by
  induction d with
  | zero => simp
  | succ d ih => have := S.mono (t + d) (by omega); rw [← Nat.add_assoc]; omega
theorem P_step (m : Nat) (hm : 2 ≤ m) (hP : ∀ k' m', m' < m → Pm c k' m') (k : Nat) : Pm c k m := by
  intro a ha ha1 hc
  have hb : (m - 1) * k + m + 1 ≤ a := by
    obtain ⟨l, rfl⟩ : ∃ l, m = l + 1 := ⟨m - 1, by omega⟩
    rw [show l + 1 - 1 = l from by omega]
    rw [Nat.add_mul, Nat.mul_add] at ha; omega
  have hmk : k ≤ (m - 1) * k := by
    have := Nat.mul_le_mul_right k (show 1 ≤ m - 1 by omega); omega
  have hra : ∀ y, y < m + 1 → r a ≤ r (a - y) := by
    intro y hy
    have := r_anti S (a - y) y (by omega)
    rw [show a - y + y = a from by omega] at this; exact this
  have hr1 : ((m : Int) + 1) * r a ≤ sm (m + 1) (fun y => r (a - y)) := by
    have := sm_le (n := m + 1) (f := fun _ => r a) (g := fun y => r (a - y)) hra
    rw [sm_const] at this; push_cast at this; exact this
  by_cases hh : (k : Int) + 1 ≤ r a
  · have h1 := dbl S a m 0 (by omega) (by omega)
    have h0 : sm 0 (fun i => Lam c a m (i + 1)) = 0 := rfl
    have h2 : ((m : Int) + 1) * (k + 1) ≤ ((m : Int) + 1) * r a := Int.mul_le_mul_of_nonneg_left hh (by omega)
    rw [Int.mul_add] at h2; omega
  · have hn := S.nn a
    obtain ⟨h, hh2⟩ : ∃ h : Nat, (h : Int) = r a := ⟨(r a).toNat, by omega⟩
    obtain ⟨k', hk'⟩ : ∃ k' : Nat, k' + h = k := ⟨k - h, by omega⟩
    have he := S.eqn a ha1
    have hcA : cntA c a (a - 1) = c a - r a := by unfold cntA; omega
    obtain ⟨X, hX1, hXN, hXa, hdead, hcX⟩ := last_alive c a (a - 1) (by omega)
    have hXk : k' + 1 ≤ X := by have := cntA_le c a X; omega
    obtain ⟨x, rfl⟩ : ∃ x, X = x + 1 := ⟨X - 1, by omega⟩
    have hcs := cntA_succ c a x hXa
    have hmk' : (m - 1) * k' ≤ (m - 1) * k := Nat.mul_le_mul_left _ (by omega)
    have hq := Q S a m k' hm hP (by omega) k' (Nat.le_refl _) x (by omega) (by omega) (by omega)
    have h4 := alive_term S a m k' (x + 1) (by omega) hXa
    have h5 : Gd c a m k' (x + 1) = Gd c a m k' x + (Lam c a m (x + 1) - Rf k' m (x + 1)) := rfl
    have h6 : 1 ≤ Gd c a m k' (x + 1) := by push_cast at h4; omega
    obtain ⟨N, hN⟩ : ∃ N, N = max (x + 1) (k' + m) := ⟨_, rfl⟩
    have hkm : k' ≤ (m - 1) * k' := by
      have := Nat.mul_le_mul_right k' (show 1 ≤ m - 1 by omega); omega
    have hNa : N < a := by omega
    obtain ⟨L, hL⟩ : ∃ L, L = min N (k' + m) - (x + 1) := ⟨_, rfl⟩
    have ht := tail_ge S a m k' (x + 1) N hNa (by omega) (by omega) (fun y h1 h2 => hdead y h1 (by omega)) L hL
    have hsplit : Gd c a m k' N = Gd c a m k' (x + 1) +
        sm (N - (x + 1)) (fun i => Lam c a m (x + 1 + i + 1) - Rf k' m (x + 1 + i + 1)) := by
      have e : N = x + 1 + (N - (x + 1)) := by omega
      show sm N _ = sm (x + 1) _ + _
      rw [show sm N (fun i => Lam c a m (i + 1) - Rf k' m (i + 1)) = sm (x + 1 + (N - (x + 1))) (fun i => Lam c a m (i + 1) - Rf k' m (i + 1)) from by rw [← e]]
      rw [sm_split]
    have h7 : 0 ≤ sm L (fun i => c (a - (x + 1) - (i + 1)) - k') := by
      by_cases hL0 : L = 0
      · subst hL0; simp [sm]
      · have hmul : L * k' ≤ (m - 1) * k' := Nat.mul_le_mul_right _ (by omega)
        exact behind S k' L (a - (x + 1)) (hP _ _ (by omega)) (fun _ => hP _ _ (by omega)) (by omega)
          (by have : L + (x + 1 - k') ≤ m := by omega
              omega) (by push_cast at hXa ⊢; omega)
    have h8 : 1 ≤ Gd c a m k' N := by omega
    have h9 : sm N (fun i => Lam c a m (i + 1)) = Gd c a m k' N + ((m : Int) + 1) * k' := by
      unfold Gd; rw [sm_sub, Rf_sum m N k' (by omega)]; omega
    have h10 := dbl S a m N (by omega) hNa
    have h11 : ((m : Int) + 1) * k = ((m : Int) + 1) * k' + ((m : Int) + 1) * h := by
      rw [← Int.mul_add]; congr 1; omega
    rw [← hh2] at hr1
    omega
theorem P_all (m : Nat) : ∀ k, Pm c k m := by
  induction m using Nat.strongRecOn with
  | ind m ih =>
      intro k
      match m, ih with
      | 0, _ => intro a _ _ hc; simp [sm]; omega
      | 1, _ =>
          intro a ha ha1 hc
          have hr := rise S (a - 1) (by omega)
          rw [show a - 1 + 1 = a from by omega] at hr
          simp [sm]; omega
      | m + 2, ih => exact P_step S (m + 2) (by omega) (fun k' m' h => ih m' h k') k
end
end BS
end
section
set_option maxHeartbeats 2000000
set_option maxRecDepth 100000
set_option linter.unusedVariables false
set_option linter.unusedSimpArgs false
namespace BS
def nx (f : Nat → Nat) : Nat → Nat := fun j => f (j + 1) + (if j + 1 ≤ f 0 then 1 else 0)
def nxs : Nat → (Nat → Nat) → (Nat → Nat)
  | 0, f => f
  | t + 1, f => nx (nxs t f)
theorem nxs_add (s : Nat) (f : Nat → Nat) : ∀ t, nxs (s + t) f = nxs t (nxs s f)
  | 0 => rfl
  | t + 1 => by rw [← Nat.add_assoc]; show nx _ = nx _; rw [nxs_add s f t]
def Mono (f : Nat → Nat) : Prop := ∀ j, f (j + 1) ≤ f j
theorem Mono.nx {f : Nat → Nat} (h : Mono f) : Mono (nx f) := by
  intro j
  have := h (j + 1)
  show f (j + 1 + 1) + _ ≤ f (j + 1) + _
  split <;> split <;> omega
theorem Mono.nxs {f : Nat → Nat} (h : Mono f) : ∀ t, Mono (nxs t f)
  | 0 => h
  | t + 1 => (Mono.nxs h t).nx
theorem Mono.le {f : Nat → Nat} (h : Mono f) (i d : Nat) : f (i + d) ≤ f i := by
  induction d with
  | zero => simp
  | succ d ih => have := h (i + d); rw [← Nat.add_assoc]; omega
theorem nx_le {f g : Nat → Nat} (h : ∀ j, f j ≤ g j) : ∀ j, nx f j ≤ nx g j := by
  intro j
  have := h (j + 1); have := h 0
  show f (j + 1) + _ ≤ g (j + 1) + _
  split <;> split <;> omega
theorem nxs_le {f g : Nat → Nat} (h : ∀ j, f j ≤ g j) : ∀ t j, nxs t f j ≤ nxs t g j
  | 0 => h
  | t + 1 => nx_le (nxs_le h t)
def Tot (n : Nat) (f : Nat → Nat) : Prop := (∀ j, n ≤ j → f j = 0) ∧ sm n (fun j => (f j : Int)) = n
theorem Tot.f0 {n : Nat} {f : Nat → Nat} (h : Tot n f) (j : Nat) : f j ≤ n := by
  by_cases hj : n ≤ j
  · rw [h.1 j hj]; omega
  · have h1 := h.2
    have e : n = j + (n - j - 1 + 1) := by omega
    rw [show sm n (fun j => (f j : Int)) = sm (j + (n - j - 1 + 1)) (fun j => (f j : Int)) from by rw [← e], sm_split, sm_succ'] at h1
    have h2 := sm_nn (n := j) (f := fun j => (f j : Int)) (fun _ _ => by omega)
    have h3 := sm_nn (n := n - j - 1) (f := fun i => (f (j + (i + 1)) : Int)) (fun _ _ => by omega)
    simp only [Nat.add_zero] at h1
    omega
theorem Tot.nx {n : Nat} {f : Nat → Nat} (h : Tot n f) : Tot n (BS.nx f) := by
  have h0 := h.f0 0
  constructor
  · intro j hj
    show f (j + 1) + _ = 0
    rw [h.1 (j + 1) (by omega), if_neg (by omega)]
  · have h1 : sm n (fun j => (BS.nx f j : Int)) = sm n (fun j => (f (j + 1) : Int)) + sm n (fun j => ind ((0 : Int) ≤ (j : Int) ∧ (j : Int) < f 0)) := by
      rw [← sm_add]; apply sm_congr; intro j _
      show ((f (j + 1) + (if j + 1 ≤ f 0 then 1 else 0) : Nat) : Int) = _
      by_cases hj : j + 1 ≤ f 0
      · rw [if_pos hj, ind_t (by omega)]; push_cast; rfl
      · rw [if_neg hj, ind_f (by omega)]; push_cast; rfl
    have h2 := sm_succ' n (fun j => (f j : Int))
    have h3 : sm (n + 1) (fun j => (f j : Int)) = sm n (fun j => (f j : Int)) + f n := rfl
    have h4 := h.2
    have h5 := h.1 n (Nat.le_refl _)
    rw [h1, sm_iv]; omega
theorem Tot.nxs {n : Nat} {f : Nat → Nat} (h : Tot n f) : ∀ t, Tot n (nxs t f)
  | 0 => h
  | t + 1 => (Tot.nxs h t).nx
theorem nxs_eq (f : Nat → Nat) : ∀ t j, (nxs t f j : Int) = f (t + j) + sm t (fun i => ind ((i : Int) + 1 + j ≤ nxs (t - (i + 1)) f 0)) := by
  intro t
  induction t with
  | zero => intro j; simp [sm, nxs]
  | succ t ih =>
      intro j
      rw [sm_succ']
      have h1 := ih (j + 1)
      have h2 : (nxs (t + 1) f j : Int) = nxs t f (j + 1) + ind (((0 : Nat) : Int) + 1 + j ≤ nxs (t + 1 - (0 + 1)) f 0) := by
        show ((nxs t f (j + 1) + (if j + 1 ≤ nxs t f 0 then 1 else 0) : Nat) : Int) = _
        rw [show t + 1 - (0 + 1) = t from by omega]
        by_cases hj : j + 1 ≤ nxs t f 0
        · rw [if_pos hj, ind_t (by omega)]; push_cast; rfl
        · rw [if_neg hj, ind_f (by omega)]; push_cast; rfl
      rw [h2, h1]
      have h3 : sm t (fun i => ind ((i : Int) + 1 + (j + 1 : Nat) ≤ nxs (t - (i + 1)) f 0)) =
          sm t (fun i => ind (((i + 1 : Nat) : Int) + 1 + j ≤ nxs (t + 1 - (i + 1 + 1)) f 0)) := by
        apply sm_congr; intro i _
        rw [show t + 1 - (i + 1 + 1) = t - (i + 1) from by omega]
        unfold ind; congr 1; apply propext; constructor <;> intro h <;> omega
      rw [h3, show t + (j + 1) = t + 1 + j from by omega]
      omega
def cF (f : Nat → Nat) (t : Nat) : Int := nxs (t - 1) f 0
def rF (f : Nat → Nat) (t : Nat) : Int := f (t - 1)
theorem sys {f : Nat → Nat} (h : Mono f) : Sys (cF f) (rF f) where
  mono := by
    intro t ht
    have := h (t - 1)
    unfold rF
    rw [show t + 1 - 1 = t - 1 + 1 from by omega]; omega
  nn := by intro t; unfold rF; omega
  eqn := by
    intro t ht
    have h1 := nxs_eq f (t - 1) 0
    unfold cF rF
    rw [h1]
    simp only [Nat.add_zero]
    congr 1
    apply sm_congr; intro i _
    rw [show t - 1 - (i + 1) = t - (i + 1) - 1 from by omega]
    unfold ind; congr 1
theorem window {n : Nat} {f : Nat → Nat} (h : Tot n f) (t K : Nat) (hK : K ≤ t) :
    sm K (fun y => cF f (t - y) - y) ≤ n := by
  have ht := (h.nxs t)
  have h2 := ht.2
  have hle : sm K (fun y => cF f (t - y) - y) ≤ sm K (fun i => sm n (fun j => ind ((i : Int) + 1 + j ≤ nxs (t - (i + 1)) f 0))) := by
    apply sm_le; intro i hi
    have hc : (nxs (t - (i + 1)) f 0 : Int) ≤ n := by have := (h.nxs (t - (i + 1))).f0 0; omega
    have e : sm n (fun j => ind ((i : Int) + 1 + j ≤ nxs (t - (i + 1)) f 0)) = sm n (fun j => ind ((0 : Int) ≤ (j : Int) ∧ (j : Int) < nxs (t - (i + 1)) f 0 - i)) := by
      apply sm_congr; intro j _
      unfold ind; congr 1; apply propext; constructor <;> intro h <;> omega
    rw [e, sm_iv]
    unfold cF
    rw [show t - i - 1 = t - (i + 1) from by omega]
    omega
  have hmid : sm K (fun i => sm n (fun j => ind ((i : Int) + 1 + j ≤ nxs (t - (i + 1)) f 0))) ≤
      sm t (fun i => sm n (fun j => ind ((i : Int) + 1 + j ≤ nxs (t - (i + 1)) f 0))) :=
    sm_mono hK (fun i _ => sm_nn (fun j _ => ind_nn _))
  rw [sm_swap t n] at hmid
  have hfin : sm n (fun j => sm t (fun i => ind ((i : Int) + 1 + j ≤ nxs (t - (i + 1)) f 0))) ≤ sm n (fun j => (nxs t f j : Int)) := by
    apply sm_le; intro j _
    rw [nxs_eq f t j]; omega
  omega
def tri : Nat → Nat
  | 0 => 0
  | k + 1 => tri k + (k + 1)
theorem tri2 (k : Nat) : 2 * tri k = k * k + k := by
  induction k with
  | zero => rfl
  | succ k ih =>
      have e : (k + 1) * (k + 1) = k * k + 2 * k + 1 := by rw [Nat.add_mul, Nat.mul_add]; omega
      show 2 * (tri k + (k + 1)) = _; omega
theorem sm_id2 (k : Nat) : 2 * sm k (fun y => (y : Int)) = (k : Int) * k - k := by
  induction k with
  | zero => rfl
  | succ k ih =>
      have e : ((k : Int) + 1) * (k + 1) = (k : Int) * k + 2 * k + 1 := by rw [Int.add_mul, Int.mul_add]; omega
      simp only [sm]; push_cast; omega
theorem too_many {K : Nat} {f : Nat → Nat} (h : Tot (tri K) f) (t : Nat) (hK : K ≤ t)
    (hs : (K : Int) * K + 1 ≤ sm K (fun y => cF f (t - y))) : False := by
  have h1 := window h t K hK
  have h0 : sm K (fun y => cF f (t - y) - y) = sm K (fun y => cF f (t - y)) - sm K (fun y => (y : Int)) := sm_sub K _ _
  rw [h0] at h1
  have h2 := sm_id2 K
  have h3 := tri2 K
  have h4 : (2 * (tri K : Nat) : Int) = (K : Int) * K + K := by exact_mod_cast h3
  omega
theorem sub_ex {n m : Nat} {f : Nat → Nat} (hf : Mono f) (h : Tot n f) (hm : m ≤ n) :
    ∃ g, Mono g ∧ Tot m g ∧ ∀ j, g j ≤ f j := by
  let s : Nat → Nat := fun j => (sm j (fun i => (f i : Int))).toNat
  have hs : ∀ j, (s j : Int) = sm j (fun i => (f i : Int)) := by
    intro j
    have := sm_nn (n := j) (f := fun i => (f i : Int)) (fun _ _ => by omega)
    show ((sm j (fun i => (f i : Int))).toNat : Int) = _
    omega
  have hss : ∀ j, s (j + 1) = s j + f j := by
    intro j
    have h1 := hs (j + 1); have h2 := hs j
    have h3 : sm (j + 1) (fun i => (f i : Int)) = sm j (fun i => (f i : Int)) + f j := rfl
    omega
  let g : Nat → Nat := fun j => min (f j) (m - s j)
  have hg : ∀ j, g j = min (f j) (m - s j) := fun _ => rfl
  have hsum : ∀ j, sm j (fun i => (g i : Int)) = min (s j : Int) m := by
    intro j
    induction j with
    | zero => have := hs 0; simp only [sm] at this ⊢; omega
    | succ j ih => have := hss j; have := hg j; simp only [sm]; rw [ih]; omega
  refine ⟨g, ?_, ⟨?_, ?_⟩, ?_⟩
  · intro j
    have := hf j; have := hss j; have := hg j; have := hg (j + 1)
    omega
  · intro j hj
    have hge : ∀ i, s i < i → f i = 0 := by
      intro i
      induction i with
      | zero => intro h; omega
      | succ i ih =>
          intro hlt
          have := hss i
          have := hf i
          by_cases hi : s i < i
          · have := ih hi; omega
          · omega
    rw [hg]
    by_cases hsj : s j < j
    · have := hge j hsj; omega
    · omega
  · rw [hsum]
    have hge : ∀ i, s i < i → f i = 0 := by
      intro i
      induction i with
      | zero => intro h; omega
      | succ i ih =>
          intro hlt
          have := hss i
          have := hf i
          by_cases hi : s i < i
          · have := ih hi; omega
          · omega
    by_cases hsm : s m < m
    ·
      have h0 := hge m hsm
      have hz : ∀ d, s (m + d) = s m := by
        intro d
        induction d with
        | zero => rfl
        | succ d ih => have := hss (m + d); have := hf.le m d; rw [← Nat.add_assoc]; omega
      have := hz (n - m)
      rw [show m + (n - m) = n from by omega] at this
      have h5 := hs n
      have h6 := h.2
      omega
    · omega
  · intro j; rw [hg]; omega
theorem sup_ex {n m : Nat} {f : Nat → Nat} (hf : Mono f) (h : Tot n f) (hm : n ≤ m) :
    ∃ g, Mono g ∧ Tot m g ∧ ∀ j, f j ≤ g j := by
  refine ⟨fun j => if j = 0 then f 0 + (m - n) else f j, ?_, ⟨?_, ?_⟩, ?_⟩
  · intro j
    have := hf j
    by_cases h0 : j = 0
    · subst h0; simp at this ⊢; omega
    · simp [h0]; exact this
  · intro j hj
    by_cases h0 : j = 0
    · subst h0
      have : m = 0 := by omega
      have := h.1 0 (by omega)
      simp; omega
    · simp [h0]; exact h.1 j (by omega)
  · rcases Nat.eq_zero_or_pos m with h0 | h0
    · subst h0; rfl
    · obtain ⟨l, rfl⟩ : ∃ l, m = l + 1 := ⟨m - 1, by omega⟩
      rw [sm_succ']
      simp only [if_true]
      rw [sm_congr (g := fun i => (f (i + 1) : Int)) (fun i _ => by simp)]
      have h1 : sm (l + 1) (fun j => (f j : Int)) = n := by
        obtain ⟨d, hd⟩ : ∃ d, l + 1 = n + d := ⟨l + 1 - n, by omega⟩
        rw [hd, sm_split, h.2]
        rw [sm_congr (g := fun _ => 0) (fun i _ => by have := h.1 (n + i) (by omega); omega), sm_const]; simp
      rw [sm_succ'] at h1
      push_cast; omega
  · intro j
    by_cases h0 : j = 0
    · subst h0; simp
    · simp [h0]
theorem mul_pred (K : Nat) : (K - 1) * (K + 1) + 1 ≤ K * K + 1 := by
  rcases Nat.eq_zero_or_pos K with h | h
  · subst h; simp
  · obtain ⟨l, rfl⟩ : ∃ l, K = l + 1 := ⟨K - 1, by omega⟩
    rw [show l + 1 - 1 = l from by omega, Nat.mul_add, Nat.add_mul, Nat.mul_add]; omega
theorem stairs : ∀ (k : Nat) (f : Nat → Nat), Mono f → Tot (tri k) f → ∀ t, k * k ≤ t + k → ∀ j, nxs t f j = k - j := by
  intro k
  induction k with
  | zero =>
      intro f _ h t _ j
      have := (h.nxs t).1 j (by simp [tri])
      omega
  | succ k ih =>
      intro f hf h t ht
      have S := sys hf
      obtain ⟨K, hK⟩ : ∃ K, K = k + 1 := ⟨_, rfl⟩
      rw [← hK] at h ht ⊢
      have hKK : K * K = k * k + 2 * k + 1 := by rw [hK, Nat.add_mul, Nat.mul_add]; omega
      have htri := tri2 K
      have c1 : ∀ a, K * K ≤ a + K → 1 ≤ a → cF f a ≤ K := by
        intro a ha ha1
        by_cases hc : (K : Int) + 1 ≤ cF f a
        · exfalso
          have hp := P_all S (K - 1) K a (by have := mul_pred K; have : (K - 1) * (K + 1) + 1 = K * K := by
                                              rw [hK, show k + 1 - 1 = k from by omega, Nat.mul_add, Nat.add_mul, Nat.mul_add]; omega
                                             omega) ha1 hc
          rw [show K - 1 + 1 = K from by omega, show ((K - 1 : Nat) : Int) + 1 = K from by omega] at hp
          refine too_many h a ?_ hp
          have : k ≤ k * k := by
            rcases Nat.eq_zero_or_pos k with h | h
            · subst h; simp
            · have := Nat.mul_le_mul_left k h; omega
          omega
        · omega
      have c2 : ∀ t, K * K ≤ t + K → nxs t f K = 0 := by
        intro t ht
        by_cases hz : nxs t f K = 0
        · exact hz
        · exfalso
          have he := nxs_eq f t K
          have hfz : f (t + K) = 0 := h.1 (t + K) (by omega)
          have hpos : ∃ i, i < t ∧ (i : Int) + 1 + K ≤ nxs (t - (i + 1)) f 0 := by
            apply Classical.byContradiction
            intro hno
            have : sm t (fun i => ind ((i : Int) + 1 + K ≤ nxs (t - (i + 1)) f 0)) = 0 := by
              rw [sm_congr (g := fun _ => 0) (fun i hi => ind_f (fun hh => hno ⟨i, hi, hh⟩)), sm_const]; simp
            omega
          obtain ⟨d, hd, hcd⟩ := hpos
          have hcs : (K : Int) + 1 + d ≤ cF f (t - d) := by
            unfold cF; rw [show t - d - 1 = t - (d + 1) from by omega]; omega
          have hn : (nxs (t - (d + 1)) f 0 : Int) ≤ tri K := by have := (h.nxs (t - (d + 1))).f0 0; omega
          have hkk : 2 * k ≤ k * k + 1 := by
            rcases Nat.lt_or_ge k 2 with h | h
            · have : k = 0 ∨ k = 1 := by omega
              rcases this with h | h <;> subst h <;> simp
            · have := Nat.mul_le_mul_right k h; omega
          have hsK : K ≤ t - d := by omega
          have hrise : ∀ y, y < t - d → (K : Int) + 1 + d - y ≤ cF f (t - d - y) := by
            intro y hy
            have := rises S (t - d - y) y (by omega)
            rw [show t - d - y + y = t - d from by omega] at this
            omega
          refine too_many h (t - d) hsK ?_
          by_cases hdK : d < K
          · obtain ⟨e, he2⟩ : ∃ e, K = d + (e + 1) := ⟨K - d - 1, by omega⟩
            have h1 : (d : Int) * K ≤ sm d (fun y => cF f (t - d - y)) := by
              have := sm_le (n := d) (f := fun _ => (K : Int)) (g := fun y => cF f (t - d - y)) (fun y hy => by
                have := hrise y (by omega); omega)
              rw [sm_const] at this; exact this
            have h2 := hrise d (by omega)
            have hp := P_all S e K (t - d - d) (by
              have e1 : K * K = d * K + (e * K + K) := by
                rw [show K * K = (d + (e + 1)) * K from by rw [← he2], Nat.add_mul, Nat.add_mul, Nat.one_mul]
              have e2 : e * (K + 1) = e * K + e := by rw [Nat.mul_add, Nat.mul_one]
              have e3 : d ≤ d * K := by
                have := Nat.mul_le_mul_left d (show 1 ≤ K by omega); omega
              omega) (by omega) (by omega)
            have h3 : sm K (fun y => cF f (t - d - y)) = sm d (fun y => cF f (t - d - y)) + sm (e + 1) (fun y => cF f (t - d - d - y)) := by
              rw [show sm K (fun y => cF f (t - d - y)) = sm (d + (e + 1)) (fun y => cF f (t - d - y)) from by rw [← he2], sm_split]
              congr 1
              apply sm_congr; intro y _
              rw [show t - d - (d + y) = t - d - d - y from by omega]
            have h4 : (K : Int) * K = d * K + (e + 1) * K := by
              rw [← Int.add_mul]; congr 1; omega
            omega
          · have h1 := sm_le (n := K) (f := fun _ => (K : Int) + 1) (g := fun y => cF f (t - d - y)) (fun y hy => by
              have := hrise y (by omega); omega)
            rw [sm_const, Int.mul_add] at h1
            omega
      have c3 : ∀ j, nxs t f j ≤ K - j := by
        intro j
        by_cases hj : K ≤ j
        · have h1 := c2 t ht
          have h2 := (hf.nxs t).le K (j - K)
          rw [show K + (j - K) = j from by omega] at h2
          omega
        · apply Classical.byContradiction
          intro hno
          obtain ⟨g, hg, hgt, hgl⟩ := sub_ex (m := tri k) hf h (by rw [hK]; show tri k ≤ tri k + (k + 1); omega)
          have h1 := c1 (t + j + 1) (by omega) (by omega)
          unfold cF at h1
          rw [show t + j + 1 - 1 = t + j from by omega, nxs_add] at h1
          have h2 := nxs_eq (nxs t f) j 0
          rw [Nat.add_zero] at h2
          have h3 : sm j (fun i => ind ((i : Int) + 1 + (0 : Nat) ≤ nxs (j - (i + 1)) (nxs t f) 0)) = j := by
            rw [sm_congr (g := fun _ => 1) (fun i hi => ind_t ?_), sm_const]
            · omega
            · rw [← nxs_add]
              have h4 := ih g hg hgt (t + (j - (i + 1))) (by omega) 0
              have h5 := nxs_le hgl (t + (j - (i + 1))) 0
              omega
          omega
      have hT := h.nxs t
      have hd : sm (tri K) (fun j => ((K - j : Nat) : Int)) = tri K := by
        have : ∀ K N : Nat, K ≤ N → sm N (fun j => ((K - j : Nat) : Int)) = tri K := by
          intro K
          induction K with
          | zero => intro N _; rw [sm_congr (g := fun _ => 0) (fun i _ => by omega), sm_const]; simp [tri]
          | succ K ih =>
              intro N hN
              obtain ⟨M, rfl⟩ : ∃ M, N = M + 1 := ⟨N - 1, by omega⟩
              rw [sm_succ', sm_congr (g := fun j => ((K - j : Nat) : Int)) (fun i _ => by omega), ih M (by omega)]
              show _ = ((tri K + (K + 1) : Nat) : Int)
              push_cast; omega
        exact this K (tri K) (by
          have : K ≤ K * K := by have := Nat.mul_le_mul_left K (show 1 ≤ K by omega); omega
          omega)
      intro j
      by_cases hjn : tri K ≤ j
      · have := hT.1 j hjn
        have : K ≤ tri K := by
          have : K ≤ K * K := by have := Nat.mul_le_mul_left K (show 1 ≤ K by omega); omega
          omega
        omega
      · have hz : sm (tri K) (fun j => ((K - j : Nat) : Int) - nxs t f j) = 0 := by
          rw [sm_sub, hd, hT.2]; omega
        have := hT.2
        have e : tri K = j + (tri K - j - 1 + 1) := by omega
        rw [show sm (tri K) (fun j => ((K - j : Nat) : Int) - nxs t f j) = sm (j + (tri K - j - 1 + 1)) (fun j => ((K - j : Nat) : Int) - nxs t f j) from by rw [← e], sm_split, sm_succ'] at hz
        have h2 := sm_nn (n := j) (f := fun j => ((K - j : Nat) : Int) - nxs t f j) (fun i _ => by have := c3 i; omega)
        have h3 := sm_nn (n := tri K - j - 1) (f := fun i => ((K - (j + (i + 1)) : Nat) : Int) - nxs t f (j + (i + 1))) (fun i _ => by have := c3 (j + (i + 1)); omega)
        have h4 := c3 j
        simp only [Nat.add_zero] at hz
        omega
theorem between (k n : Nat) (f : Nat → Nat) (hf : Mono f) (h : Tot n f) (h1 : tri k ≤ n) (h2 : n ≤ tri (k + 1))
    (t : Nat) (ht : (k + 1) * (k + 1) ≤ t + (k + 1)) (j : Nat) : k - j ≤ nxs t f j ∧ nxs t f j ≤ k + 1 - j := by
  obtain ⟨g, hg, hgt, hgl⟩ := sub_ex hf h h1
  obtain ⟨g', hg', hgt', hgl'⟩ := sup_ex hf h h2
  have a1 := stairs k g hg hgt t (by rw [Nat.add_mul, Nat.mul_add] at ht; omega) j
  have a2 := stairs (k + 1) g' hg' hgt' t ht j
  have a3 := nxs_le hgl t j
  have a4 := nxs_le hgl' t j
  omega
end BS
end
section
set_option maxHeartbeats 2000000
set_option maxRecDepth 100000
set_option linter.unusedVariables false
set_option linter.unusedSimpArgs false
namespace L2
open PySem PySem.Spec PyProof.Rows
def row (ps : List Int) (j : Nat) : Nat := ps.countP fun x => decide ((j : Int) < x)
theorem row_cons (p : Int) (r : List Int) (j : Nat) : row (p :: r) j = row r j + if (j : Int) < p then 1 else 0 := by
  unfold row; rw [List.countP_cons]; simp
theorem row_perm {a b : List Int} (h : a.Perm b) (j : Nat) : row a j = row b j := h.countP_eq _
theorem row_app (a b : List Int) (j : Nat) : row (a ++ b) j = row a j + row b j := by unfold row; rw [List.countP_append]
theorem row_zero : ∀ {ps : List Int}, (∀ x ∈ ps, 1 ≤ x) → row ps 0 = ps.length
  | [], _ => rfl
  | p :: r, h => by
    rw [row_cons, row_zero fun x hx => h x (List.mem_cons_of_mem _ hx), List.length_cons, if_pos (by have := h p List.mem_cons_self; omega)]
theorem row_left (j : Nat) : ∀ ps : List Int, row (leftOf ps) j = row ps (j + 1)
  | [] => rfl
  | p :: r => by
    have ih := row_left j r
    rw [row_cons, ← ih]
    unfold leftOf
    by_cases c : 1 < p
    · rw [List.filter_cons_of_pos (by simpa using c), List.map_cons, row_cons]
      congr 1
      by_cases d : (j : Int) < p - 1
      · rw [if_pos d, if_pos (by omega)]
      · rw [if_neg d, if_neg (by omega)]
    · rw [List.filter_cons_of_neg (by simpa using c), if_neg (by omega)]; rfl
theorem row_turn {ps : List Int} (h : ∀ x ∈ ps, 1 ≤ x) : row (turn ps) = BS.nx (row ps) := by
  funext j
  rw [row_perm (turn_perm ps), row_app, row_left, row_cons]
  show row ps (j + 1) + (0 + _) = row ps (j + 1) + _
  rw [row_zero h]
  by_cases c : j + 1 ≤ ps.length
  · rw [if_pos c, if_pos (by omega)]
  · rw [if_neg c, if_neg (by omega)]
theorem row_it {n : Int} {ps : List Int} (h : Setting n ps) (h0 : 1 ≤ n) : ∀ t, row (it t ps) = BS.nxs t (row ps)
  | 0 => rfl
  | t + 1 => by
    show row (turn (it t ps)) = BS.nx (BS.nxs t (row ps))
    rw [row_turn (h.it h0 t).pos, row_it h h0 t]
theorem row_mono (ps : List Int) : BS.Mono (row ps) := by
  intro j
  induction ps with
  | nil => exact Nat.le_refl _
  | cons p r ih =>
    rw [row_cons, row_cons]
    split <;> split <;> omega
theorem row_sum (N : Nat) : ∀ {ps : List Int}, (∀ x ∈ ps, 1 ≤ x) → (∀ x ∈ ps, x ≤ N) → BS.sm N (fun j => (row ps j : Int)) = ps.sum
  | [], _, _ => by
    rw [show (fun j => ((row ([] : List Int) j : Nat) : Int)) = fun _ => 0 from rfl, BS.sm_const]; simp
  | p :: r, h, g => by
    have ih := row_sum N (ps := r) (fun x hx => h x (List.mem_cons_of_mem _ hx)) (fun x hx => g x (List.mem_cons_of_mem _ hx))
    have hp := h p List.mem_cons_self
    have gp := g p List.mem_cons_self
    rw [List.sum_cons, ← ih]
    have e : BS.sm N (fun j => (row (p :: r) j : Int)) = BS.sm N (fun j => (row r j : Int)) + BS.sm N (fun j => BS.ind ((0 : Int) ≤ (j : Int) ∧ (j : Int) < p)) := by
      rw [← BS.sm_add]
      refine BS.sm_congr fun j _ => ?_
      rw [row_cons]
      by_cases c : (j : Int) < p
      · rw [if_pos c, BS.ind_t ⟨by omega, c⟩]; omega
      · rw [if_neg c, BS.ind_f (fun z => c z.2)]; omega
    rw [e, BS.sm_iv]; omega
theorem row_none {ps : List Int} {j : Nat} (h : ∀ x ∈ ps, x ≤ j) : row ps j = 0 := by
  unfold row
  rw [List.countP_eq_zero]
  intro x hx
  have := h x hx
  simp only [decide_eq_true_eq]; omega
theorem row_tot {n : Int} {ps : List Int} (h : Setting n ps) (h0 : 1 ≤ n) : BS.Tot n.toNat (row ps) := by
  have hle : ∀ x ∈ ps, x ≤ (n.toNat : Int) := fun x hx => by have := h.le hx; omega
  refine ⟨fun j hj => row_none fun x hx => by have := hle x hx; omega, ?_⟩
  rw [row_sum n.toNat h.pos hle, h.sum]; omega
theorem row_get : ∀ {ps : List Int}, ps.Pairwise (· ≥ ·) → ∀ (i j : Nat) (hi : i < ps.length), (j : Int) < ps[i] ↔ i < row ps j
  | [], _, i, j, hi => by simp at hi
  | p :: r, h, i, j, hi => by
    rw [List.pairwise_cons] at h
    rw [row_cons]
    by_cases c : (j : Int) < p
    · rw [if_pos c]
      cases i with
      | zero => simp only [List.getElem_cons_zero]; exact ⟨fun _ => by omega, fun _ => c⟩
      | succ i =>
        simp only [List.getElem_cons_succ]
        rw [row_get h.2 i j (by simpa using hi)]; omega
    · rw [if_neg c, row_none (ps := r) fun x hx => by have := h.1 x hx; omega]
      constructor
      · intro z
        exfalso
        cases i with
        | zero => exact c z
        | succ i =>
          simp only [List.getElem_cons_succ] at z
          have := h.1 _ (List.getElem_mem (by simpa using hi : i < r.length)); omega
      · intro z; omega
theorem round_of {n : Int} {q : List Int} {k : Nat} (h : Setting n q) (hb : ∀ j, k - j ≤ row q j ∧ row q j ≤ k + 1 - j) : marksB (aboveL ((k : Int) + 1) q) = true := by
  have hl : (q.length : Int) ≤ (k : Int) + 1 := by have := (hb 0).2; rw [row_zero h.pos] at this; omega
  refine List.all_eq_true.mpr fun m hm => ?_
  obtain ⟨i, hi⟩ := List.getElem?_of_mem hm
  unfold aboveL at hi
  rw [List.getElem?_mapIdx] at hi
  unfold filledL at hi
  refine decide_eq_true ?_
  by_cases c : i < q.length
  · rw [List.getElem?_append_left c, List.getElem?_eq_getElem c] at hi
    simp only [Option.map_some, Option.some.injEq] at hi
    have lo : (k : Int) - i ≤ q[i] := by
      by_cases d : i < k
      · have := (row_get h.ord i (k - i - 1) c).mpr (by have := (hb (k - i - 1)).1; omega)
        omega
      · have := h.pos _ (List.getElem_mem c); omega
    have up : q[i] ≤ (k : Int) + 1 - i := by
      by_cases d : q[i] ≤ (k : Int) + 1 - i
      · exact d
      · exfalso
        have := (row_get h.ord i (k + 1 - i) c).mp (by omega)
        have := (hb (k + 1 - i)).2
        omega
    omega
  · rw [List.getElem?_append_right (by omega)] at hi
    by_cases d : i - q.length < ((k : Int) + 1 - q.length).toNat
    · rw [List.getElem?_replicate, if_pos d] at hi
      simp only [Option.map_some, Option.some.injEq] at hi
      have := (hb 0).1
      rw [row_zero h.pos] at this
      omega
    · rw [List.getElem?_replicate, if_neg d] at hi; cases hi
theorem tri_of (k : Nat) : (2 : Int) * BS.tri k = (k : Int) * k + k := by
  have := BS.tri2 k
  exact_mod_cast this
theorem comes_round {n K : Int} {ps : List Int} (h : Setting n ps) (h0 : 1 ≤ n) (hk : IsStair n K) (t : Nat) (ht : K * K ≤ t + K) : marksB (aboveL K (it t ps)) = true := by
  obtain ⟨k1, k2, k3⟩ := hk
  obtain ⟨k, rfl⟩ : ∃ k : Nat, K = (k : Int) + 1 := ⟨(K - 1).toNat, by omega⟩
  have e1 := tri_of k
  have e2 := tri_of (k + 1)
  push_cast at e2
  have e3 : ((k : Int) + 1) * (k + 1) = (k : Int) * k + 2 * k + 1 := by grind
  have e4 : ((k : Int) + 1 - 1) * (k + 1) = (k : Int) * k + k := by grind
  have e5 : ((k : Int) + 1) * (k + 1 + 1) = (k : Int) * k + 3 * k + 2 := by grind
  have e6 : ((k + 1) * (k + 1) : Nat) = k * k + 2 * k + 1 := by grind
  have e7 : ((k * k : Nat) : Int) = (k : Int) * k := by push_cast; rfl
  have hb := BS.between k n.toNat (row ps) (row_mono ps) (row_tot h h0) (by omega) (by omega) t (by omega)
  refine round_of (h.it h0 t) fun j => ?_
  rw [row_it h h0 t]
  exact hb j
theorem marks_round {n k : Int} {q : List Int} (h : Setting n q) (hk : IsStair n k) (hb : marksB (aboveL k q) = true) : Marks n (aboveL k q) ∧ byMarks (aboveL k q) = q ∧ ((aboveL k q).length : Int) = k := by
  obtain ⟨k1, k2, k3⟩ := hk
  have hl : (q.length : Int) ≤ k := by
    by_cases c : (q.length : Int) ≤ k
    · exact c
    · have := above_long h (show k < q.length by omega) k1
      rw [this] at hb; cases hb
  have al := aboveL_len hl
  have fl := filledL_len hl
  have hbit := marksB_bits hb
  have e1 : byMarks (aboveL k q) = q := by
    rw [byMarks_eq]
    have e2 : raised (aboveL k q).length (aboveL k q) = filledL k q := by
      apply List.ext_getElem?
      intro i
      by_cases c : i < (aboveL k q).length
      · rw [raised_get _ _ i c]
        have c2 : i < (filledL k q).length := by omega
        rw [List.getElem?_eq_getElem c2, List.getD_eq_getElem?_getD]
        have e3 : (aboveL k q)[i]? = some ((filledL k q)[i] - (k - 1 - (i : Int))) := by
          unfold aboveL
          rw [List.getElem?_mapIdx, List.getElem?_eq_getElem c2]; rfl
        rw [e3, Option.getD_some, al]
        congr 1; omega
      · rw [List.getElem?_eq_none_iff.mpr (by rw [raised_len]; omega), List.getElem?_eq_none_iff.mpr (by omega)]
    rw [e2]
    unfold filledL
    rw [List.filter_append, List.filter_eq_self.mpr (fun x hx => by have := h.pos x hx; simp only [decide_eq_true_eq]; omega)]
    rw [List.filter_eq_nil_iff.mpr (fun x hx => by rw [List.eq_of_mem_replicate hx]; decide), List.append_nil]
  refine ⟨⟨by omega, by rw [al]; exact k2, by rw [al]; exact k3, hbit, ?_⟩, e1, al⟩
  have e4 := byMarks_sum hbit
  rw [e1, h.sum, al] at e4
  rw [al]
  omega
theorem sq_le {k : Int} (h1 : 1 ≤ k) (h2 : k ≤ 14) : k * k ≤ 182 + k := by
  have : (k - 1) * k ≤ 13 * 14 := Int.mul_le_mul (by omega) h2 (by omega) (by omega)
  have e : (k - 1) * k = k * k - k := by grind
  omega
structure Comes (k : Int) (ps : List Int) (v d : Nat) : Prop where
  no : ∀ j, j < v → marksB (aboveL k (it j ps)) = false
  yes : ∀ j, v ≤ j → marksB (aboveL k (it j ps)) = true
  ring : Ring (it v ps) d
theorem comes {n k : Int} {ps : List Int} (h : Setting n ps) (h0 : 1 ≤ n) (h1 : n ≤ 100) (hk : IsStair n k) : ∃ v d : Nat, v ≤ 182 ∧ (v : Int) + k ≤ k * k ∧ d ≤ 14 ∧ Comes k ps v d := by
  have k14 := hk.le h1
  have k1 := hk.1
  have kk := sq_le k1 k14
  have kp : 0 ≤ k * k - k := by
    have : 0 ≤ k * (k - 1) := Int.mul_nonneg (by omega) (by omega)
    have e : k * (k - 1) = k * k - k := by grind
    omega
  obtain ⟨v, hv, py, pn⟩ := least (p := fun t => marksB (aboveL k (it t ps)) = true) (k * k - k).toNat (comes_round h h0 hk _ (by omega))
  have sv := h.it h0 v
  obtain ⟨m1, m2, m3⟩ := marks_round sv hk py
  have all := m1.rots h0
  have back : it (aboveL k (it v ps)).length (it v ps) = it v ps := by
    have := (all (aboveL k (it v ps)).length).2.1
    rw [rots_all, m2] at this; exact this
  obtain ⟨d, dk, rg⟩ := Ring.of m1.ne back
  refine ⟨v, d, by omega, by omega, by omega, ⟨fun j hj => ?_, fun j hj => ?_, rg⟩⟩
  · have := pn j hj
    cases hb : marksB (aboveL k (it j ps)) with
    | true => exact absurd hb this
    | false => rfl
  · obtain ⟨a1, a2, a3⟩ := all (j - v)
    rw [m2, ← it_add, show v + (j - v) = j by omega] at a2
    rw [a2]
    have a4 := above_marks a1.bit (fun z => by have := a1.ne; rw [z] at this; simp at this)
    rw [a3, m3] at a4
    rw [a4]
    exact List.all_eq_true.mpr fun x hx => decide_eq_true (a1.bit x hx)
theorem Comes.dist {k : Int} {ps : List Int} {v d : Nat} (h : Comes k ps v d) : ∀ i j, i < j → j < v + d → it i ps ≠ it j ps := by
  intro i j hij hj e
  by_cases c : v ≤ i
  · refine h.ring.no (i - v) (j - v) (by omega) (by omega) ?_
    rw [← it_add, ← it_add, show v + (i - v) = i by omega, show v + (j - v) = j by omega]; exact e
  · have n1 := h.no i (by omega)
    by_cases c2 : v ≤ j
    · rw [e, h.yes j c2] at n1; cases n1
    · have e2 : it (i + (v - j)) ps = it v ps := by
        rw [it_add, e, ← it_add, show j + (v - j) = v by omega]
      have n2 := h.no (i + (v - j)) (by omega)
      rw [e2, h.yes v (Nat.le_refl _)] at n2; cases n2
theorem Comes.back {k : Int} {ps : List Int} {v d : Nat} (h : Comes k ps v d) : it (v + d) ps = it v ps := by rw [it_add]; exact h.ring.back
theorem Comes.mod {k : Int} {ps : List Int} {v d : Nat} (h : Comes k ps v d) (t : Nat) (ht : v ≤ t) : it t ps = it (v + (t - v) % d) ps := by
  rw [it_add, ← h.ring.mod, ← it_add, show v + (t - v) = t by omega]
section
variable {X : Cx}
def rIndexLL (K : PySem.W.Frag) : V → List V → Hp → VK → Prop := fun x vs H Q => ∃ l b bs rs qss j, x = .ref l ∧ vs = [.ref b] ∧ H l = some (.lst (rs.map V.ref)) ∧ Lists H rs qss ∧ SqL K H b (bs.map V.int) ∧ qss[j]? = some bs ∧ (∀ m, m < j → qss[m]? ≠ some bs) ∧ Q (.int (j : Nat)) H
theorem mt_indexLL (hu : X.A.units + 65 < cLine) : MtM X "list.index" (rIndexLL X.K) := by
  intro pins s σ H x vs v us Q I rx rv h
  obtain ⟨l, b, bs, rs, qss, j, rfl, rfl, hH, hL, hb, hj, hn, q⟩ := h
  cases rx
  obtain ⟨u, rfl, ru⟩ := rv.one
  cases ru
  obtain ⟨z, its, n, r, hl, e⟩ := I.lstM hH
  have rl := r.length
  rw [List.length_map] at rl
  have get : ∀ (m : Nat) (hm : m < its.length), ∃ (hq : m < qss.length), eqLL H bs its[m] = decide (qss[m] = bs) := fun m hm => by
    have hm' : m < rs.length := by omega
    obtain ⟨w, h1, h2⟩ := r.get (i := m) (x := .ref rs[m]) (by simp [hm'])
    have h1 : its[m] = w := by simpa [hm] using h1
    have e2 : its[m] = .ref rs[m] := h1.trans h2
    have hq : m < qss.length := by rw [← hL.len]; exact hm'
    have z := hL.at_ m rs[m] qss[m] (by simp [hm']) (by simp [hq])
    refine ⟨hq, ?_⟩
    rw [e2, Bool.eq_iff_iff, eqLL_iff, decide_eq_true_eq, z]
    exact ⟨fun q => lst_inj (Option.some.inj q), fun q => by rw [q]⟩
  have jq : j < qss.length := by
    by_cases c : j < qss.length
    · exact c
    · rw [List.getElem?_eq_none_iff.mpr (by omega)] at hj; cases hj
  have jl : j < its.length := by have := hL.len; omega
  have sl : (its.length : Nat) ≤ sizeLine := by omega
  have big := line63
  refine call_meets F.slot_list_index ⟨_, e, rfl⟩ F.entry_list_index (F.args_list_index_2 _ _) (SeqAt.list_indexAt l its.toArray n none #[] (.ref b) (eqLL H bs) j (by simpa using jl) (by omega) ?_ (fun m hm hmj => ?_)) ⟨e, fun w hw => eqAt_LL hu I hL hb r w (by simpa using hw), ⟨.int _, H, I.tok _, ⟨_, rfl⟩, q⟩⟩
  · obtain ⟨hq, h2⟩ := get j jl
    show eqLL H bs its[j] = true
    rw [h2, decide_eq_true_eq]
    rw [List.getElem?_eq_getElem hq] at hj
    exact Option.some.inj hj
  · have hm : m < its.length := by simpa using hm
    obtain ⟨hq, h2⟩ := get m hm
    show eqLL H bs its[m] = false
    rw [h2, decide_eq_false_iff_not]
    intro z
    refine hn m hmj ?_
    rw [List.getElem?_eq_getElem hq, z]
end
end L2
end
section
set_option maxHeartbeats 2000000
set_option maxRecDepth 100000
set_option linter.unusedVariables false
set_option linter.unusedSimpArgs false
namespace L2
open PySem PySem.Spec PyProof.Rows
abbrev cxT (X : Cx) (E : Value → Shared → Prop) (pins : List (Addr × Obj)) : Cx := { X with xe := E, pn := X.pn ++ pins }
section
variable {X : Cx} {pins pins' : List (Addr × Obj)} {σ : St} {H : Hp} {s : Shared} {E : Value → Shared → Prop}
theorem Inv.toT (I : Inv X pins σ H s) : Inv (cxT X E pins) [] σ H s :=
  ⟨⟨I.ok.mod, I.ok.kind, I.ok.glob, I.ok.blt, I.ok.above, I.ok.inj, I.ok.has, I.ok.cab, I.ok.hd, I.ok.frames, I.ok.stk, I.ok.exf, I.ok.bs, I.ok.bsz, I.ok.noex, I.ok.exfs, I.ok.funs, I.ok.frf⟩, I.os, I.bare, I.base, I.loc, I.cell, I.free, I.freeC,
    fun p hp => I.pin p (by have hp : p ∈ (X.pn ++ pins) ++ [] := hp; simpa using hp), I.hok, I.len⟩
theorem Inv.ofT (I : Inv (cxT X E pins) pins' σ H s) : Inv X pins σ H s :=
  ⟨⟨I.ok.mod, I.ok.kind, I.ok.glob, I.ok.blt, I.ok.above, I.ok.inj, I.ok.has, I.ok.cab, I.ok.hd, I.ok.frames, I.ok.stk, I.ok.exf, I.ok.bs, I.ok.bsz, I.ok.noex, I.ok.exfs, I.ok.funs, I.ok.frf⟩, I.os, I.bare, I.base, I.loc, I.cell, I.free, I.freeC,
    fun p hp => I.pin p (show p ∈ (X.pn ++ pins) ++ pins' from List.mem_append_left _ hp), I.hok, I.len⟩
theorem SP.ofT {D : Ends} {f : Flow} (h : SP (cxT X E pins) pins' D f s) : SP X pins D f s := by
  cases f with
  | next => obtain ⟨σ', H', I, q⟩ := h; exact ⟨σ', H', I.ofT, q⟩
  | brk => obtain ⟨σ', H', I, q⟩ := h; exact ⟨σ', H', I.ofT, q⟩
  | cont => obtain ⟨σ', H', I, q⟩ := h; exact ⟨σ', H', I.ofT, q⟩
  | ret u => obtain ⟨v, σ', H', I, r, q⟩ := h; exact ⟨v, σ', H', I.ofT, r, q⟩
end
def hXK (K : PySem.W.Frag) (n ie : Nat) (C0 : Addr) (ts : TS) (D : Ends) : XK := fun cls _ H2 => ∃ C, cls = .ref C ∧ PySem.W.exmOne K (.ref C) (.ref C0) = some true ∧
  ∀ (e : Addr) (σ' : St), σ'.length = n → H2 e = none → ts { nx := fun σ' H' => D.nx (σ'.set ie none) H', rt := fun _ _ => False } (σ'.set ie (some (.ref e))) (upd H2 e (excO C e))
def tTryS (K : PySem.W.Frag) (n ie : Nat) (C0 : Addr) (tb : XK → TS) (ts : TS) : TS := fun D σ H => tb (hXK K n ie C0 ts D) D σ H
theorem ps_tryS {X : Cx} {x n : Str} {C0 : Addr} {ie : Nat} {xp hp pos : Pos} {body : List Stmt} {tb : XK → TS} {b0 : Stmt} {suite : List Stmt} {ts : TS} (hst : X.stack = X.env :: X.outer) (hfr : X.env.frame = some X.env.locals) (hx0 : X.ex = [])
    (hN : X.N.Nodup) (hie : X.N[ie]? = some n) (hle : X.env.scope.names.lookup n = some .local) (hg : Gl X x) (hm : X.mg x = some (.ref C0))
    (hb : ∀ (E1 : Value → Shared → Prop) (pins : List (Addr × Obj)) (E : XK), Passes (CXF X.prog X.w) (cxT X E1 pins) E → PSs (cxT X E1 pins) body (tb E)) (hs : ∀ e, PSs (cxH X e) (b0 :: suite) ts) (hd : (x == ("__debug__" : Str)) = false := by decide) :
    PS X (.Try body [.ExceptHandler (some (.Name x xp)) (some n) (b0 :: suite) hp] [] [] pos) (tTryS X.K X.N.length ie C0 tb ts) := by
  intro pins s σ H D' I h
  refine wpAny_Try_except ?_
  generalize hE : (fun (e : Value) (s₁ : Shared) => wpAny (model X.prog X.w) X.A (noteFrame e X.env) (fun _ s₂ => wpAny (model X.prog X.w) X.A (setFlight e none) (fun _ s₃ => wpAny (model X.prog X.w) X.A (handleBy e X.env [.ExceptHandler (some (.Name x xp)) (some n) (b0 :: suite) hp]) (SP X pins D') X.xe s₃) X.xe s₂) X.xe s₁) = E1
  have P1 : Passes (CXF X.prog X.w) (cxT X E1 pins) (hXK X.K X.N.length ie C0 ts D') := by
    intro pins' σ' H' s' v s2 I' hx
    have J : Inv X pins σ' H' s' := I'.ofT
    show E1 v s2
    rw [← hE]
    refine caught (D := D') J hst hfr hx0 hN hie hle hg hm hs hd ?_
    obtain ⟨e, cls, a0, H2, B, e1, os, bare, un, hok, F, C, e2, hex, k⟩ := hx
    exact ⟨e, cls, a0, H2, B, e1, os, bare, un, hok, F, C, e2, hex, fun e' he' => k e' σ' J.len he'⟩
  refine wpAny_mono (hb E1 pins _ P1 [] s σ H D' I.toT h) (fun f s1 q => ?_) fun _ _ z => z
  have q := q.ofT
  cases f with
  | next => exact wpAny_execs_nil q
  | ret u => exact q
  | brk => exact q
  | cont => exact q
end L2
end
section
set_option maxHeartbeats 2000000
set_option maxRecDepth 100000
set_option linter.unusedVariables false
set_option linter.unusedSimpArgs false
namespace L2
open PySem PySem.Spec PyProof.Rows
section
variable {K : PySem.W.Frag} {g : TG} {tc : TT} {te : TE} {D : Addr} {H : Hp} {Q : VK}
theorem comp_rel {J : It} (xs : List V) (p : V → Bool) (R : V → V → Hp → Prop) (fr : St) (hn : xs.length < sizeLine)
    (hgo : ∀ i H', i < xs.length → Same H H' → J.go i H') (hst : ∀ H', Same H H' → J.stop xs.length H') (hy : ∀ i H' x H2, Same H H' → i < xs.length → J.yld i H' x H2 → H2 = H' ∧ xs[i]? = some x)
    (hD : H D = none) (hg : ∀ x o H' Q', Q' (some x :: fr) H' → g x (o :: fr) H' Q')
    (hc : ∀ x ∈ xs, ∀ H' Q', Same H H' → (∃ l, H' D = some (.lst l)) → (∀ H2, Same H' H2 → Q' (p x) H2) → tc (some x :: fr) H' Q')
    (he : ∀ x ∈ xs, p x = true → ∀ H' Q', Same H H' → (∃ l, H' D = some (.lst l)) → (∀ H2 v, Same H' H2 → R x v H2 → Q' v H2) → te (some x :: fr) H' Q')
    (hR : ∀ x v H1 H2, R x v H1 → (∀ b o, b ≠ D → H1 b = some o → H2 b = some o) → R x v H2)
    (hQ : ∀ H' vs, Same H H' → Paired (fun x v => R x v H') (xs.filter p) vs → H' D = some (.lst vs) → Q (.ref D) H') :
    ∃ W : Nat → Nat → St → Hp → Prop, (∃ m, W 0 m (none :: fr) (upd H D (.lst []))) ∧ CTurn J g tc te D W Q := by
  refine ⟨fun i m σ' H' => m = xs.length - i ∧ i ≤ xs.length ∧ (∃ o, σ' = o :: fr) ∧ Same H H' ∧ ∃ vs, H' D = some (.lst vs) ∧ Paired (fun x v => R x v H') ((xs.take i).filter p) vs, ⟨xs.length, by simp, Nat.zero_le _, ⟨_, rfl⟩, Same.put hD, [], upd_same, by simpa using Paired.nil⟩, ?_⟩
  rintro i m σ' H' ⟨rfl, hi, ⟨o, rfl⟩, sm, vs, hd, pr⟩
  by_cases hlt : i < xs.length
  · refine .inr ⟨hgo i _ hlt sm, fun x H2 y => ?_⟩
    obtain ⟨e, ex⟩ := hy i _ x H2 sm hlt y
    subst e
    have hx : x ∈ xs := List.mem_of_getElem? ex
    have ft := filter_take_succ p xs i x ex
    have vl : vs.length < sizeLine := by
      have e1 := Paired.length pr
      have e2 : ((xs.take i).filter p).length ≤ xs.length := Nat.le_trans (List.length_filter_le _ _) (by rw [List.length_take]; omega)
      omega
    refine hg x o _ _ (hc x hx _ _ sm ⟨_, hd⟩ fun H3 s3 => ?_)
    have grow : ∀ {H4 : Hp}, Same H2 H4 → Paired (fun x v => R x v H4) ((xs.take i).filter p) vs := fun s4 => Paired.mapP pr fun x v z => hR x v _ _ z fun b o _ e => s4 b o e
    cases hp : p x with
    | true =>
      rw [if_pos rfl]
      refine he x hx hp _ _ (sm.trans s3) ⟨_, s3 _ _ hd⟩ fun H4 v s4 r4 => ?_
      have hd4 := s4 _ _ (s3 _ _ hd)
      refine ⟨vs, hd4, vl, xs.length - (i + 1), by omega, rfl, hlt, ⟨_, rfl⟩, fun b u e => ?_, vs ++ [v], upd_same, ?_⟩
      · rw [upd_ne (ne_of_none e hD)]; exact s4 _ _ (s3 _ _ (sm _ _ e))
      · rw [ft, hp]
        have keep : ∀ x v, R x v H4 → R x v (upd H4 D (.lst (vs ++ [v]))) := fun x' v' z => hR x' v' _ _ z fun b o hb e => by rw [upd_ne hb]; exact e
        refine Paired.snoc (Paired.mapP (grow (s3.trans s4)) fun x' v' z => hR x' v' _ _ z fun b o hb e => by rw [upd_ne hb]; exact e) ?_
        exact hR _ _ _ _ r4 fun b o hb e => by rw [upd_ne hb]; exact e
    | false =>
      rw [if_neg Bool.false_ne_true]
      refine ⟨xs.length - (i + 1), by omega, rfl, hlt, ⟨_, rfl⟩, sm.trans s3, vs, s3 _ _ hd, ?_⟩
      rw [ft, hp]
      simpa using grow s3
  · have e : i = xs.length := by omega
    subst e
    refine .inl ⟨hst _ sm, hQ H' vs sm ?_ hd⟩
    rw [List.take_of_length_le (Nat.le_refl _)] at pr
    exact pr
theorem comp_relL {a : Addr} (xs : List V) (p : V → Bool) (R : V → V → Hp → Prop) (fr : St) (hn : xs.length < sizeLine) (ha : SqL K H a xs) (hD : H D = none)
    (hc : ∀ x ∈ xs, ∀ H' Q', Same H H' → (∃ l, H' D = some (.lst l)) → (∀ H2, Same H' H2 → Q' (p x) H2) → tc (some x :: fr) H' Q')
    (he : ∀ x ∈ xs, p x = true → ∀ H' Q', Same H H' → (∃ l, H' D = some (.lst l)) → (∀ H2 v, Same H' H2 → R x v H2 → Q' v H2) → te (some x :: fr) H' Q')
    (hR : ∀ x v H1 H2, R x v H1 → (∀ b o, b ≠ D → H1 b = some o → H2 b = some o) → R x v H2)
    (hQ : ∀ H' vs, Same H H' → Paired (fun x v => R x v H') (xs.filter p) vs → H' D = some (.lst vs) → Q (.ref D) H') :
    ∃ W : Nat → Nat → St → Hp → Prop, (∃ m, W 0 m (none :: fr) (upd H D (.lst []))) ∧ CTurn (Itl K a) (gName 0) tc te D W Q :=
  comp_rel xs p R fr hn (fun i H' hi s => ⟨xs, xs[i], s.seq ha, by simp [hi]⟩) (fun H' s => ⟨xs, s.seq ha, Nat.le_refl _⟩) (fun i H' x H2 s hi ⟨e, y⟩ => ⟨e, y xs (s.seq ha)⟩) hD (fun _ _ _ _ h => h) hc he hR hQ
theorem comp_relR {lo : Int} (n : Nat) (p : V → Bool) (R : V → V → Hp → Prop) (fr : St) (hn : n < sizeLine) (hD : H D = none)
    (hc : ∀ i : Nat, i < n → ∀ H' Q', Same H H' → (∃ l, H' D = some (.lst l)) → (∀ H2, Same H' H2 → Q' (p (.int (lo + (i : Int)))) H2) → tc (some (.int (lo + (i : Int))) :: fr) H' Q')
    (he : ∀ i : Nat, i < n → p (.int (lo + (i : Int))) = true → ∀ H' Q', Same H H' → (∃ l, H' D = some (.lst l)) → (∀ H2 v, Same H' H2 → R (.int (lo + (i : Int))) v H2 → Q' v H2) → te (some (.int (lo + (i : Int))) :: fr) H' Q')
    (hR : ∀ x v H1 H2, R x v H1 → (∀ b o, b ≠ D → H1 b = some o → H2 b = some o) → R x v H2)
    (hQ : ∀ H' vs, Same H H' → Paired (fun x v => R x v H') (((List.range n).map fun (i : Nat) => V.int (lo + (i : Int))).filter p) vs → H' D = some (.lst vs) → Q (.ref D) H') :
    ∃ W : Nat → Nat → St → Hp → Prop, (∃ m, W 0 m (none :: fr) (upd H D (.lst []))) ∧ CTurn (Itr lo n) (gName 0) tc te D W Q := by
  have mem : ∀ x ∈ ((List.range n).map fun (i : Nat) => V.int (lo + (i : Nat))), ∃ i, i < n ∧ x = .int (lo + (i : Nat)) := fun x hx => by
    obtain ⟨i, hi, e⟩ := List.mem_map.mp hx
    exact ⟨i, List.mem_range.mp hi, e.symm⟩
  refine comp_rel ((List.range n).map fun (i : Nat) => V.int (lo + (i : Nat))) p R fr (by simpa using hn) (fun i H' hi s => by simpa [Itr] using hi) (fun H' s => by simp [Itr]) (fun i H' x H2 s hi ⟨e, y⟩ => ⟨e, ?_⟩) hD (fun _ _ _ _ h => h) (fun x hx H' Q' s l q => ?_) (fun x hx hp H' Q' s l q => ?_) hR hQ
  · rw [y]
    have hi' : i < n := by simpa using hi
    simp [hi']
  · obtain ⟨i, hi, rfl⟩ := mem x hx
    exact hc i hi H' Q' s l q
  · obtain ⟨i, hi, rfl⟩ := mem x hx
    exact he i hi hp H' Q' s l q
end
theorem paired_eq {α β : Type} {f : α → β} : ∀ {xs : List α} {vs : List β}, Paired (fun x v => v = f x) xs vs → vs = xs.map f
  | [], _, .nil => rfl
  | x :: xs, _, .cons e r => by rw [e, paired_eq r]; rfl
theorem comp_growR {tc : TT} {te : TE} {D : Addr} {H : Hp} {Q : VK} {lo : Int} (n : Nat) (f : Nat → Int) (fr : St) (hn : n < sizeLine) (hD : H D = none) (htc : tc = tYes)
    (he : ∀ i : Nat, i < n → ∀ H' Q', Same H H' → (∀ H2, Same H' H2 → Q' (.int (f i)) H2) → te (some (.int (lo + (i : Int))) :: fr) H' Q')
    (hQ : ∀ H', Same H H' → H' D = some (.lst (((List.range n).map f).map V.int)) → Q (.ref D) H') :
    ∃ W : Nat → Nat → St → Hp → Prop, (∃ m, W 0 m (none :: fr) (upd H D (.lst []))) ∧ CTurn (Itr lo n) (gName 0) tc te D W Q := by
  subst htc
  let fv : V → V := fun x => match x with | .int z => .int (f (z - lo).toNat) | _ => .non
  have ev : ∀ i : Nat, fv (.int (lo + (i : Int))) = .int (f i) := fun i => by
    show V.int (f (lo + (i : Int) - lo).toNat) = _
    rw [show (lo + (i : Int) - lo).toNat = i by omega]
  refine comp_relR n (fun _ => true) (fun x v _ => v = fv x) fr hn hD (fun i hi H' Q' s l q => q H' (Same.refl _)) (fun i hi _ H' Q' s l q => he i hi H' Q' s fun H2 s2 => q H2 _ s2 (ev i).symm) (fun x v H1 H2 z _ => z) fun H' vs s pr e => hQ H' s ?_
  have := paired_eq pr
  rw [List.filter_eq_self.mpr (fun _ _ => rfl), List.map_map] at this
  rw [e, this, List.map_map]
  congr 2
  exact List.map_congr_left fun i _ => ev i
section
variable {X : Cx}
theorem call_maxL (hc : X.calm = true) : CallR X (.builtin "max") (fun xs H Q => ∃ (p : Addr) (ns : List Int), xs = [.ref p] ∧ SqL X.K H p (ns.map V.int) ∧ ns ≠ [] ∧ ∀ M, M ∈ ns → (∀ a, a ∈ ns → a ≤ M) → Q (.int M) H) := by
  intro pins s σ H xs us Q I r h
  obtain ⟨p, ns, rfl, hq, hne, q⟩ := h
  obtain ⟨u, rfl, rx⟩ := vals1 r
  cases rx
  obtain ⟨its, rv, pl, _⟩ := I.list hq
  have hi := intsAre_of rv
  obtain ⟨m, F⟩ := I.fr
  have hn : 0 < ns.length := List.length_pos_iff.mpr hne
  obtain ⟨xs, e⟩ := hi.allInts.items
  have hns : ns = xs.toList.map (·.1) := by rw [← hi.numsOf, ← nums_intItems, ← e]
  have hsz : 0 < xs.size := by rw [hns, List.length_map, Array.length_toList] at hn; exact hn
  have hl : s.heap.IsList p (intItems xs) := e ▸ pl.isList
  refine max_intList (I.ok.hd hc) hl hsz fun v h' tk hv hk => ?_
  obtain ⟨t, rfl⟩ := intItems_at hv
  obtain ⟨h1, h2⟩ := argBest_gt (numAt xs) (xs.size - 1)
  refine ⟨.int _, H, I.kept hk, ⟨_, rfl⟩, q _ ?_ fun a ha => ?_⟩
  · rw [hns, numAt_eq]; exact getD_mem (by rw [List.length_map, Array.length_toList]; omega)
  · rw [hns] at ha
    obtain ⟨j, hj, rfl⟩ := mem_getD ha
    rw [List.length_map, Array.length_toList] at hj
    rw [← numAt_eq]; exact h2 j (by omega)
end
namespace RC
def chN (p : Nat) : Nat → Nat
  | 0 => 1
  | t + 1 => chN p t * (p - t) / (t + 1)
def again (k r t : Nat) : Nat := if r % (k / Nat.gcd k t) = 0 then chN (Nat.gcd k t) (r / (k / Nat.gcd k t)) else 0
def S (k r : Nat) : Nat := ((List.range k).map (again k r)).sum
theorem ch_step {p t : Nat} (h : t < p) : ((chN p t : Int) * ((p : Int) - (0 + (t : Int)))) / (0 + (t : Int) + 1) = (chN p (t + 1) : Int) := by
  rw [show (p : Int) - (0 + (t : Int)) = ((p - t : Nat) : Int) by omega, show 0 + (t : Int) + 1 = ((t + 1 : Nat) : Int) by omega, ← Int.natCast_mul, ← Int.natCast_ediv]
  rfl
theorem sum_cast (l : List Nat) : ((l.map fun (n : Nat) => (n : Int)).sum) = ((l.sum : Nat) : Int) := by
  induction l with
  | nil => rfl
  | cons a r ih => rw [List.map_cons, List.sum_cons, List.sum_cons, ih]; omega
theorem gcd_max {k t : Nat} {M : Int} (hk : 1 ≤ k) (h1 : 1 ≤ M) (h2 : (k : Int) % M = 0) (h3 : (t : Int) % M = 0) (h4 : ∀ a : Int, 1 ≤ a → a ≤ k → (k : Int) % a = 0 → (t : Int) % a = 0 → a ≤ M) : M = (Nat.gcd k t : Nat) := by
  obtain ⟨m, rfl⟩ : ∃ m : Nat, M = m := ⟨M.toNat, by omega⟩
  have d1 : m ∣ k := Int.natCast_dvd_natCast.mp (Int.dvd_of_emod_eq_zero h2)
  have d2 : m ∣ t := Int.natCast_dvd_natCast.mp (Int.dvd_of_emod_eq_zero h3)
  have g := Nat.le_of_dvd (Nat.gcd_pos_of_pos_left t (by omega)) (Nat.dvd_gcd d1 d2)
  have g2 := h4 (Nat.gcd k t : Nat) (by have := Nat.gcd_pos_of_pos_left t (show 0 < k by omega); omega) (by have := Nat.le_of_dvd (show 0 < k by omega) (Nat.gcd_dvd_left k t); omega)
    (Int.emod_eq_zero_of_dvd (Int.natCast_dvd_natCast.mpr (Nat.gcd_dvd_left k t))) (Int.emod_eq_zero_of_dvd (Int.natCast_dvd_natCast.mpr (Nat.gcd_dvd_right k t)))
  omega
end RC
theorem IsStair.rest {n k : Int} (h : IsStair n k) : ∃ r : Nat, n - k * (k - 1) / 2 = r ∧ 1 ≤ r ∧ (r : Int) ≤ k := by
  obtain ⟨h1, h2, h3⟩ := h
  have ev : 2 * (k * (k - 1) / 2) = k * (k - 1) := even_mul k
  have e1 : (k - 1) * k = k * (k - 1) := Int.mul_comm _ _
  have e2 : k * (k + 1) = k * (k - 1) + 2 * k := by rw [Int.mul_add, Int.mul_sub]; omega
  exact ⟨(n - k * (k - 1) / 2).toNat, by omega, by omega, by omega⟩
theorem IsStair.le63 {n k : Int} (h : IsStair n k) (hn : n ≤ 2000) : k ≤ 63 := by
  obtain ⟨h1, h2, h3⟩ := h
  rcases Int.lt_or_le 63 k with z | z
  · have : 63 * 64 ≤ (k - 1) * k := Int.mul_le_mul (by omega) (by omega) (by omega) (by omega)
    omega
  · exact z
end L2
end
section
set_option maxHeartbeats 2000000
set_option maxRecDepth 100000
set_option linter.unusedVariables false
set_option linter.unusedSimpArgs false
namespace L2
open PySem PySem.Spec PyProof.Rows
namespace DR
theorem size (a b : Int) : Builtin.Range.rangeSize a b (-1) = ((a - b).toNat : Int) := by
  unfold Builtin.Range.rangeSize
  simp only [show ¬ ((-1 : Int) > 0) by decide, if_false, show (-(-1) : Int) = 1 from rfl, Int.ediv_one]
  split <;> omega
theorem small {a b : Int} (ha : -(2 ^ 62) ≤ a) (ha' : a < 2 ^ 62) (hb : -(2 ^ 62) ≤ b) (hb' : b < 2 ^ 62) : Builtin.Range.small a b (-1) = true := by
  unfold Builtin.Range.small
  rw [size]
  simp only [Builtin.Range.rangeFitsLong, Bool.and_eq_true, Bool.or_eq_true, decide_eq_true_eq, beq_iff_eq, show ¬ ((-1 : Int) > 0) by decide, if_false]
  omega
end DR
def Itd (hi : Int) (n : Nat) : It := ⟨fun i _ => i < n, fun i H x H' => H' = H ∧ x = .int (hi - i), fun i _ => n ≤ i⟩
theorem turn_down {P : Program} {w : World} {K : PySem.W.Frag} {tg : Expr} (it : Addr) (lo : Int) (n : Nat) : Turn P w K tg (Itd lo n) [it] it (fun i h => IsRangeIter h it (lo + (i : Nat) * (-1)) ((n : Int) - (i : Nat)) (-1)) where
  mem := by simp
  obj := fun i h st b hb => by
    have e : b = it := by simpa using hb
    subst e
    exact ⟨_, st, fun v z => by
      have z' : Data.fields _ = Data.cell v := z
      cases z'⟩
  keep := fun i h h' st k => k it (by simp) _ st
  item := by
    intro X hP hw hK hc i pins s σ H E I hf st hg
    subst hP hw hK
    obtain ⟨f0, f1, f2, f3, f4, f5⟩ := hf it (by simp)
    have W := Walks.range (prog := X.prog) (w := X.w) (I.ok.hd hc) it lo (-1) n
    refine W.item i s _ _ hg st fun v h' tk hv st' kk => ?_
    obtain ⟨t, rfl⟩ := hv
    have I1 : Inv X pins σ H { s with heap := h', toks := tk } := I.turned (fun b o hb e => kk b o (by simpa using hb) e) f0 f1 f3 f4 f5
    refine ⟨_, rfl, go_of (s := { s with heap := h', toks := tk }) (n := "range_iterator") st' rfl rfl (by decide) ⟨.int (lo - i), H, I1, ⟨t, ?_⟩, ⟨rfl, rfl⟩, st', fun b hb => (hf b hb).1⟩⟩
    rw [show lo + (i : Int) * (-1) = lo - i by omega]
  done := by
    intro X hP hw hK hc i pins s σ H E I hf st hg
    subst hP hw hK
    obtain ⟨f0, f1, f2, f3, f4, f5⟩ := hf it (by simp)
    exact wpAny_pyNext_range_end (I.ok.hd hc) st (by have : n ≤ i := hg; omega) fun h' eb => ⟨rfl, I.turned (t' := s.toks) (fun b o hb e => eb b o hb e) f0 f1 f3 f4 f5⟩
  self := fun _ _ _ _ _ st h => wpAny_pyIter_rangeiter st h
section
variable {X : Cx} {tg : Expr}
theorem down_it {pins : List (Addr × Obj)} {σ : St} {H : Hp} {s : Shared} {R : It → Hp → Prop} {E : Value → Shared → Prop} {lo hi : Int} {t u v : Tok} {tk : Nat} (I : Inv X pins σ H s) (h1 : -(2 ^ 62) ≤ lo) (h2 : lo < 2 ^ 62) (h3 : -(2 ^ 62) ≤ hi) (h4 : hi < 2 ^ 62)
    (q : R (Itd lo (lo - hi).toNat) H) : wpAny (model X.prog X.w) X.A (pyIter (.ref s.heap.objs.size)) (PIE X pins σ tg R) E { s with heap := s.heap.push { cls := .type "range", data := .fields #[.int lo t, .int hi u, .int (-1) v] }, toks := tk } := by
  refine wpAny_pyIter_range (IsRange.new ..) (DR.small h1 h2 h3 h4) ?_
  have I1 : Inv X pins σ H { s with heap := s.heap.push { cls := .type "range", data := .fields #[.int lo t, .int hi u, .int (-1) v] }, toks := tk } := I.kept fun b o e => Heap.get?_push_of_some _ e
  refine ⟨(s.heap.push { cls := .type "range", data := .fields #[.int lo t, .int hi u, .int (-1) v] }).objs.size, [(s.heap.push { cls := .type "range", data := .fields #[.int lo t, .int hi u, .int (-1) v] }).objs.size], _, _, H, rfl,
    I1.kept (t' := tk) fun b o e => Heap.get?_push_of_some _ e, turn_down _ lo (lo - hi).toNat, ?_, fun b hb => ?_, q⟩
  · have e1 : lo + ((0 : Nat) : Int) * (-1) = lo := by simp
    have e2 : (((lo - hi).toNat : Nat) : Int) - ((0 : Nat) : Int) = Builtin.Range.rangeSize lo hi (-1) := by rw [DR.size]; simp
    show IsRangeIter _ _ (lo + ((0 : Nat) : Int) * (-1)) ((((lo - hi).toNat : Nat) : Int) - ((0 : Nat) : Int)) (-1)
    rw [e1, e2]
    exact Heap.get?_push_size _ rfl
  · have e : b = (s.heap.push { cls := .type "range", data := .fields #[.int lo t, .int hi u, .int (-1) v] }).objs.size := by simpa using hb
    subst e
    exact I1.fpOk (Nat.le_refl _) (I1.hok.fresh (Nat.le_refl _))
def iRngD (ta : TA) : TI := fun σ H R => ta σ H fun vs H1 => ∃ i j : Int, vs = [.int i, .int j, .int (-1)] ∧ (-(2 ^ 62) ≤ i ∧ i < 2 ^ 62 ∧ -(2 ^ 62) ≤ j ∧ j < 2 ^ 62) ∧ R (Itd i (i - j).toNat) H1
theorem pi_rangeD {a b c : Expr} {ta : TA} {p pos : Pos} (hg : Gl X "range") (hm : X.mg "range" = none) (ha : PA X [a, b, c] ta) (hs : starEach [a, b, c] X.env = (false, eval a X.env) :: starEach [b, c] X.env := by rfl) (hs2 : (backTo pos (starEach [b, c] X.env)).any (·.1) = false := by rfl) :
    PI X tg (.Call (.Name "range" p) [a, b, c] [] pos) (iRngD ta) := by
  intro pins s σ H R I h
  refine Call_ (ld_blt I hg hm boot_range (PyProof.Rows.callWith_type1 (thn (ha pos pins s σ H _ I h) fun us s1 ⟨vs, H1, I1, r1, q1⟩ => ?_) hs hs2))
  obtain ⟨i, j, e, ⟨q1, q2, q3, q4⟩, q⟩ := q1
  subst e
  cases r1 with
  | cons r rr =>
    cases rr with
    | cons r' rr =>
      cases rr with
      | cons r'' rr =>
        cases rr
        obtain ⟨t, rfl⟩ := r
        obtain ⟨t', rfl⟩ := r'
        obtain ⟨t'', rfl⟩ := r''
        exact call_range_3 (by decide) (down_it I1 q1 q2 q3 q4 q) (.inl (PyProof.noPylong_small (by decide)))
end
theorem for_down {lo : Int} {n : Nat} {g : TG} {tb : TS} {D : Ends} {σ : St} {H : Hp} (Pv : Nat → St → Hp → Prop) (h0 : Pv 0 σ H)
    (hs : ∀ i σ H, i < n → Pv i σ H → g (.int (lo - i)) σ H fun σ2 H2 => tb { D with nx := Pv (i + 1), ct := Pv (i + 1), bk := D.nx } σ2 H2) (hd : ∀ σ H, Pv n σ H → D.nx σ H) :
    ∃ W : Nat → Nat → St → Hp → Prop, (∃ m, W 0 m σ H) ∧ ∀ i m σ H, W i m σ H →
      ((Itd lo n).stop i H ∧ D.nx σ H) ∨ ((Itd lo n).go i H ∧ ∃ N : St → Hp → Prop, (∀ σ' H', N σ' H' → ∃ m', m' < m ∧ W (i + 1) m' σ' H') ∧ ∀ x H', (Itd lo n).yld i H x H' → g x σ H' fun σ2 H2 => tb { D with nx := N, ct := N, bk := D.nx } σ2 H2) := by
  refine ⟨fun i m σ H => m = n - i ∧ i ≤ n ∧ Pv i σ H, ⟨n, by simp, Nat.zero_le _, h0⟩, ?_⟩
  rintro i m σ H ⟨rfl, hi, p⟩
  by_cases hlt : i < n
  · refine .inr ⟨hlt, Pv (i + 1), fun σ' H' p' => ⟨n - (i + 1), by omega, rfl, hlt, p'⟩, fun x H' y => ?_⟩
    obtain ⟨e, y⟩ := y
    subst e y
    exact hs i σ _ hlt p
  · have e : i = n := by omega
    subst e
    exact .inl ⟨Nat.le_refl _, hd σ H p⟩
theorem Dfn.none {P : Program} {w : World} {K : PySem.W.Frag} {mg : Str → Option Value} {base : Heap} {x : Str} {st : Stmt} {ps : List Str} {k : Nat} (D : Dfn K mg x st ps) : OkD P w K mg base k x ps (fun _ _ _ _ => False) := by
  obtain ⟨f, fd, F, hm, hb⟩ := D
  exact ⟨f, fd, hm, F.kp, hb, ⟨fun _ _ _ _ z => z.elim, fun _ _ _ _ _ _ _ _ _ _ _ _ _ z => z.elim⟩⟩
theorem Lists.app {H : Hp} : ∀ {rs us : List Addr} {qss tss : List (List Int)}, Lists H rs qss → Lists H us tss → Lists H (rs ++ us) (qss ++ tss) := by
  intro rs us qss tss h1 h2
  refine ⟨by rw [List.length_append, List.length_append, h1.len, h2.len], fun i r qs a b => ?_⟩
  have l1 := h1.len
  by_cases hi : i < rs.length
  · rw [List.getElem?_append_left hi] at a
    rw [List.getElem?_append_left (by omega)] at b
    exact h1.at_ i r qs a b
  · rw [List.getElem?_append_right (by omega)] at a
    rw [List.getElem?_append_right (by omega)] at b
    rw [l1] at a
    exact h2.at_ _ r qs a b
theorem Lists.cons {H : Hp} {r : Addr} {rs : List Addr} {qs : List Int} {qss : List (List Int)} (h1 : H r = some (.lst (qs.map V.int))) (h : Lists H rs qss) : Lists H (r :: rs) (qs :: qss) :=
  Lists.app (rs := [r]) (qss := [qs]) (Lists.snoc (rs := []) (qss := []) Lists.nil h1) h
theorem Lists.tail {H : Hp} {r : Addr} {rs : List Addr} {qs : List Int} {qss : List (List Int)} (h : Lists H (r :: rs) (qs :: qss)) : H r = some (.lst (qs.map V.int)) ∧ Lists H rs qss :=
  ⟨h.at_ 0 r qs rfl rfl, by have := h.len; simpa using this, fun i r' qs' a b => h.at_ (i + 1) r' qs' (by simpa using a) (by simpa using b)⟩
theorem Lists.off {H H' : Hp} {rs : List Addr} {qss : List (List Int)} (h : Lists H rs qss) (k : ∀ r ∈ rs, ∀ o, H r = some o → H' r = some o) : Lists H' rs qss :=
  ⟨h.len, fun i r qs a b => k r (List.mem_of_getElem? a) _ (h.at_ i r qs a b)⟩
def vI : V → Int
  | .int i => i
  | _ => 0
def cont (H : Hp) : V → List Int
  | .ref r => match H r with
    | some (.lst xs) => xs.map vI
    | _ => []
  | _ => []
theorem cont_of {H : Hp} {r : Addr} {qs : List Int} (h : H r = some (.lst (qs.map V.int))) : cont H (.ref r) = qs := by
  show (match H r with | some (.lst xs) => xs.map vI | _ => []) = qs
  rw [h]
  show (qs.map V.int).map vI = qs
  rw [List.map_map]
  exact List.map_id' _
theorem Lists.conts {H : Hp} : ∀ {rs : List Addr} {qss : List (List Int)}, Lists H rs qss → (rs.map V.ref).map (cont H) = qss
  | [], [], _ => rfl
  | [], _ :: _, h => by have := h.len; simp at this
  | _ :: _, [], h => by have := h.len; simp at this
  | r :: rs, qs :: qss, h => by
    obtain ⟨h1, h2⟩ := h.tail
    rw [List.map_cons, List.map_cons, cont_of h1, h2.conts]
theorem Lists.mem {H : Hp} {rs : List Addr} {qss : List (List Int)} (h : Lists H rs qss) {r : Addr} (hr : r ∈ rs) : ∃ qs ∈ qss, H r = some (.lst (qs.map V.int)) := by
  obtain ⟨i, hi, rfl⟩ := List.getElem_of_mem hr
  have hq : i < qss.length := by rw [← h.len]; exact hi
  exact ⟨qss[i], List.getElem_mem hq, h.at_ i _ _ (by simp [hi]) (by simp [hq])⟩
section
variable {K : PySem.W.Frag} {tc : TT} {te : TE} {D : Addr} {H : Hp} {Q : VK}
theorem paired_lists {H0 H' : Hp} {f : V → List Int} : ∀ {xs : List V} {vs : List V}, Paired (fun x v => ∃ q, v = V.ref q ∧ q ≠ D ∧ H0 q = none ∧ H' q = some (.lst ((f x).map V.int))) xs vs →
    ∃ us : List Addr, vs = us.map V.ref ∧ Lists H' us (xs.map f) ∧ ∀ u ∈ us, H0 u = none ∧ u ≠ D
  | [], _, .nil => ⟨[], rfl, Lists.nil, fun _ h => by simp at h⟩
  | x :: xs, _, .cons ⟨q, e, n, z, a⟩ r => by
    obtain ⟨us, e2, L, k⟩ := paired_lists r
    subst e e2
    refine ⟨q :: us, rfl, Lists.cons a L, fun u hu => ?_⟩
    rcases List.mem_cons.mp hu with y | y
    · subst y; exact ⟨z, n⟩
    · exact k u y
theorem comp_LL {a : Addr} (rs : List Addr) (qss : List (List Int)) (p : List Int → Bool) (f : List Int → List Int) (fr : St) (hn : rs.length < sizeLine) (ha : SqL K H a (rs.map V.ref)) (hL : Lists H rs qss) (hD : H D = none)
    (hc : ∀ r qs, qs ∈ qss → ∀ H' Q', Same H H' → H' r = some (.lst (qs.map V.int)) → (∀ H2, Same H' H2 → Q' (p qs) H2) → tc (some (.ref r) :: fr) H' Q')
    (he : ∀ r qs, qs ∈ qss → p qs = true → ∀ H' Q', Same H H' → H' r = some (.lst (qs.map V.int)) → (∀ H2 q, H' q = none → Same H' H2 → H2 q = some (.lst ((f qs).map V.int)) → Q' (.ref q) H2) → te (some (.ref r) :: fr) H' Q')
    (hQ : ∀ H' us, Same H H' → H' D = some (.lst (us.map V.ref)) → Lists H' us ((qss.filter p).map f) → (∀ u ∈ us, H u = none ∧ u ≠ D) → Q (.ref D) H') :
    ∃ W : Nat → Nat → St → Hp → Prop, (∃ m, W 0 m (none :: fr) (upd H D (.lst []))) ∧ CTurn (Itl K a) (gName 0) tc te D W Q := by
  have at0 : ∀ x ∈ rs.map V.ref, ∃ r qs, x = .ref r ∧ qs ∈ qss ∧ H r = some (.lst (qs.map V.int)) := fun x hx => by
    obtain ⟨r, hr, rfl⟩ := List.mem_map.mp hx
    obtain ⟨qs, h1, h2⟩ := hL.mem hr
    exact ⟨r, qs, rfl, h1, h2⟩
  refine comp_relL (rs.map V.ref) (fun x => p (cont H x)) (fun x v H2 => ∃ q, v = V.ref q ∧ q ≠ D ∧ H q = none ∧ H2 q = some (.lst ((f (cont H x)).map V.int))) fr (by simpa using hn) ha hD (fun x hx H' Q' s l q => ?_) (fun x hx hp H' Q' s l q => ?_)
    (fun x v H1 H2 ⟨q, e, n, z, y⟩ k => ⟨q, e, n, z, k q _ n y⟩) fun H' vs s pr e => ?_
  · obtain ⟨r, qs, rfl, h1, h2⟩ := at0 x hx
    rw [cont_of h2] at q
    exact hc r qs h1 H' Q' s (s _ _ h2) q
  · obtain ⟨r, qs, rfl, h1, h2⟩ := at0 x hx
    rw [cont_of h2] at q hp
    obtain ⟨l, hl⟩ := l
    exact he r qs h1 hp H' Q' s (s _ _ h2) fun H2 u hu s2 e2 => q H2 _ s2 ⟨u, rfl, (ne_of_none hl hu).symm, s.free hu, e2⟩
  · obtain ⟨us, rfl, L, k⟩ := paired_lists (f := fun x => f (cont H x)) pr
    refine hQ H' us s e ?_ k
    have e3 : ((rs.map V.ref).filter fun x => p (cont H x)).map (fun x => f (cont H x)) = (qss.filter p).map f := by
      rw [← hL.conts]
      simp only [List.filter_map, List.map_map]
      rfl
    rw [e3] at L
    exact L
theorem comp_RL {lo : Int} (n : Nat) (p : Int → Bool) (f : Int → List Int) (fr : St) (hn : n < sizeLine) (hD : H D = none)
    (hc : ∀ i : Int, lo ≤ i → i < lo + n → ∀ H' Q', Same H H' → (∀ H2, Same H' H2 → Q' (p i) H2) → tc (some (.int i) :: fr) H' Q')
    (he : ∀ i : Int, lo ≤ i → i < lo + n → p i = true → ∀ H' Q', Same H H' → (∀ H2 q, H' q = none → Same H' H2 → H2 q = some (.lst ((f i).map V.int)) → Q' (.ref q) H2) → te (some (.int i) :: fr) H' Q')
    (hQ : ∀ H' us, Same H H' → H' D = some (.lst (us.map V.ref)) → Lists H' us ((((List.range n).map fun (i : Nat) => lo + (i : Int)).filter p).map f) → (∀ u ∈ us, H u = none ∧ u ≠ D) → Q (.ref D) H') :
    ∃ W : Nat → Nat → St → Hp → Prop, (∃ m, W 0 m (none :: fr) (upd H D (.lst []))) ∧ CTurn (Itr lo n) (gName 0) tc te D W Q := by
  refine comp_relR n (fun x => p (vI x)) (fun x v H2 => ∃ q, v = V.ref q ∧ q ≠ D ∧ H q = none ∧ H2 q = some (.lst ((f (vI x)).map V.int))) fr hn hD (fun i hi H' Q' s l q => hc (lo + (i : Int)) (by omega) (by omega) H' Q' s q) (fun i hi hp H' Q' s l q => ?_)
    (fun x v H1 H2 ⟨q, e, n, z, y⟩ k => ⟨q, e, n, z, k q _ n y⟩) fun H' vs s pr e => ?_
  · obtain ⟨l, hl⟩ := l
    exact he (lo + (i : Int)) (by omega) (by omega) hp H' Q' s fun H2 u hu s2 e2 => q H2 _ s2 ⟨u, rfl, (ne_of_none hl hu).symm, s.free hu, e2⟩
  · obtain ⟨us, rfl, L, k⟩ := paired_lists (f := fun x => f (vI x)) pr
    refine hQ H' us s e ?_ k
    have e3 : (((List.range n).map fun (i : Nat) => V.int (lo + (i : Int))).filter fun x => p (vI x)).map (fun x => f (vI x)) = (((List.range n).map fun (i : Nat) => lo + (i : Int)).filter p).map f := by
      rw [List.filter_map, List.filter_map, List.map_map, List.map_map]
      rfl
    rw [e3] at L
    exact L
end
end L2
end
section
set_option maxHeartbeats 2000000
set_option maxRecDepth 100000
set_option linter.unusedVariables false
set_option linter.unusedSimpArgs false
namespace L2
open PySem PySem.Spec PyProof.Rows
def dn : Nat → Nat → Nat → List (List Int)
  | 0, _, _ => []
  | f + 1, n, m => if n = 0 then [[]] else ((List.range (min n m)).map fun i => (dn f (n - (min n m - i)) (min n m - i)).map (((min n m - i : Nat) : Int) :: ·)).flatten
def dnp (f n m i : Nat) : List (List Int) := ((List.range i).map fun i => (dn f (n - (min n m - i)) (min n m - i)).map (((min n m - i : Nat) : Int) :: ·)).flatten
theorem dn_eq {f n m : Nat} (h : n ≠ 0) : dn (f + 1) n m = dnp f n m (min n m) := by
  show (if n = 0 then _ else _) = _
  rw [if_neg h]; rfl
theorem dnp_succ (f n m i : Nat) : dnp f n m (i + 1) = dnp f n m i ++ (dn f (n - (min n m - i)) (min n m - i)).map (((min n m - i : Nat) : Int) :: ·) := by
  unfold dnp
  rw [List.range_succ, List.map_append, List.flatten_append]
  simp
theorem dn_len : ∀ (f n m : Nat), (dn f n m).length ≤ 2 ^ n
  | 0, n, m => by show 0 ≤ _; exact Nat.zero_le _
  | f + 1, n, m => by
    by_cases h : n = 0
    · subst h
      show (if 0 = 0 then [[]] else _ : List (List Int)).length ≤ _
      rw [if_pos rfl]; simp
    · rw [dn_eq h]
      have key : ∀ i, i ≤ min n m → (dnp f n m i).length ≤ 2 ^ (n - min n m + i) := fun i => by
        induction i with
        | zero => intro _; show 0 ≤ _; exact Nat.zero_le _
        | succ i ih =>
          intro hi
          have z := ih (by omega)
          have y := dn_len f (n - (min n m - i)) (min n m - i)
          rw [dnp_succ, List.length_append, List.length_map]
          rw [show n - (min n m - i) = n - min n m + i by omega] at y ⊢
          rw [show n - min n m + (i + 1) = (n - min n m + i) + 1 by omega, Nat.pow_succ]
          omega
      have z := key (min n m) (Nat.le_refl _)
      rw [show n - min n m + min n m = n by omega] at z
      exact z
theorem dnp_len {f n m i : Nat} (h : i ≤ min n m) : (dnp f n m i).length ≤ 2 ^ n := by
  induction i with
  | zero => show 0 ≤ _; exact Nat.zero_le _
  | succ i ih =>
    have key : ∀ i, i ≤ min n m → (dnp f n m i).length ≤ 2 ^ (n - min n m + i) := fun i => by
      induction i with
      | zero => intro _; show 0 ≤ _; exact Nat.zero_le _
      | succ i ih =>
        intro hi
        have z := ih (by omega)
        have y := dn_len f (n - (min n m - i)) (min n m - i)
        rw [dnp_succ, List.length_append, List.length_map]
        rw [show n - (min n m - i) = n - min n m + i by omega] at y ⊢
        rw [show n - min n m + (i + 1) = (n - min n m + i) + 1 by omega, Nat.pow_succ]
        omega
    exact Nat.le_trans (key (i + 1) h) (Nat.pow_le_pow_right (by omega) (by omega))
theorem dn_item : ∀ (f n m : Nat) (q : List Int), q ∈ dn f n m → q.length ≤ n
  | 0, n, m, q, h => by cases h
  | f + 1, n, m, q, h => by
    by_cases hn : n = 0
    · subst hn
      have h : q ∈ (if 0 = 0 then [[]] else _ : List (List Int)) := h
      rw [if_pos rfl] at h
      rw [List.mem_singleton.mp h]; exact Nat.le_refl _
    · rw [dn_eq hn] at h
      unfold dnp at h
      obtain ⟨l, hl, hq⟩ := List.mem_flatten.mp h
      obtain ⟨i, hi, rfl⟩ := List.mem_map.mp hl
      have hi := List.mem_range.mp hi
      obtain ⟨r, hr, rfl⟩ := List.mem_map.mp hq
      have := dn_item f _ _ r hr
      rw [List.length_cons]; omega
theorem pow18 {n : Nat} (h : n ≤ 18) : 2 ^ n ≤ 262144 := Nat.le_trans (Nat.pow_le_pow_right (by omega) h) (by decide)
end L2
end
section
set_option maxHeartbeats 2000000
set_option maxRecDepth 100000
set_option linter.unusedVariables false
set_option linter.unusedSimpArgs false
namespace LC
open PySem PySem.SeqAt
open PySem.AutoSeq1 (wpAny_loadPart')
open PySem.MeetsSeq PySem.MeetsSeq2 PySem.MeetsSeq3 PySem.SeqRoads2
def lexLt : List Int → List Int → Bool
  | [], [] => false
  | [], _ :: _ => true
  | _ :: _, [] => false
  | x :: xs, y :: ys => if x = y then lexLt xs ys else decide (x < y)
def Nums (xs : Array Value) (ns : List Int) : Prop := xs.size = ns.length ∧ ∀ (i : Nat) (h : i < xs.size) (g : i < ns.length), ∃ t, xs[i] = .int ns[i] t
theorem loop_gt (l b : Addr) (xs ys : Array Value) (ns ms : List Int) (hx : Nums xs ns) (hy : Nums ys ms) (u1 u2 : Nat) (d1 d2 : Option Addr) (z1 z2 : Array (Option Value)) (k : Nat) :
    ∀ i : Nat, min xs.size ys.size - i = k → i ≤ min xs.size ys.size → Meets (Builtin.«list.__eq__.loop» ⟨[.ref l, .ref b, rawInt i, rawInt 4], []⟩)
      (fun _ R s => s.heap.get? l = some { cls := .type "list", dict := d1, data := .seq xs u1, slots := z1 } ∧ s.heap.get? b = some { cls := .type "list", dict := d2, data := .seq ys u2, slots := z2 } ∧
        R (.ok (.ret (.bool (lexLt (ms.drop i) (ns.drop i))))) s) := by
  have lx := hx.1
  have ly := hy.1
  induction k with
  | zero =>
    intro i hk hle prog w A R s h
    obtain ⟨hp, g, d, tk, os⟩ := s
    obtain ⟨e1, e2, h⟩ := h
    wp_walk using wpAny_loadPart' e1, wpAny_loadPart' e2
    have no : xs[((i : Nat) : Int).toNat]? = none ∨ ys[((i : Nat) : Int).toNat]? = none := by
      simp only [Int.toNat_natCast, Array.getElem?_eq_none_iff]; omega
    have fin : R (.ok (.ret (.bool (decide (xs.size > ys.size))))) ⟨hp, g, d, tk, os⟩ := by
      have e : (lexLt (ms.drop i) (ns.drop i)) = decide (xs.size > ys.size) := by
        by_cases c : xs.size ≤ i
        · rw [List.drop_eq_nil_iff.mpr (by omega : ns.length ≤ i)]
          by_cases c2 : ys.size ≤ i
          · rw [List.drop_eq_nil_iff.mpr (by omega : ms.length ≤ i)]
            simp only [lexLt]; symm; simp; omega
          · rw [List.drop_eq_getElem_cons (by omega : i < ms.length)]
            simp only [lexLt]; symm; simp; omega
        · have c2 : ys.size ≤ i := by omega
          rw [List.drop_eq_nil_iff.mpr (by omega : ms.length ≤ i), List.drop_eq_getElem_cons (by omega : i < ns.length)]
          simp only [lexLt]; symm; simp; omega
      rw [e] at h; exact h
    cases cx : xs[((i : Nat) : Int).toNat]? with
    | none =>
      wp_walk using wpAny_loadPart' e1, wpAny_loadPart' e2
      exact fin
    | some v =>
      cases cy : ys[((i : Nat) : Int).toNat]? with
      | none =>
        wp_walk using wpAny_loadPart' e1, wpAny_loadPart' e2
        exact fin
      | some v2 => rcases no with z | z <;> simp_all
  | succ k ih =>
    intro i hk hle prog w A R s h
    obtain ⟨hp, g, d, tk, os⟩ := s
    obtain ⟨e1, e2, h⟩ := h
    wp_walk using wpAny_loadPart' e1, wpAny_loadPart' e2
    have l1 : i < xs.size := by omega
    have l2 : i < ys.size := by omega
    obtain ⟨t1, v1⟩ := hx.2 i l1 (by omega)
    obtain ⟨t2, v2⟩ := hy.2 i l2 (by omega)
    have a1 : xs[((i : Nat) : Int).toNat]? = some (.int (ns[i]'(by omega)) t1) := by rw [Int.toNat_natCast, Array.getElem?_eq_getElem l1, v1]
    have a2 : ys[((i : Nat) : Int).toNat]? = some (.int (ms[i]'(by omega)) t2) := by rw [Int.toNat_natCast, Array.getElem?_eq_getElem l2, v2]
    have up : ((i : Int) + 1) = ((i + 1 : Nat) : Int) := by push_cast; rfl
    rw [List.drop_eq_getElem_cons (show i < ns.length by omega), List.drop_eq_getElem_cons (show i < ms.length by omega)] at h
    rw [a1, a2]
    refine wpAny_bind (EqAt.int_int _ t1 _ t2 prog w _ _ ?_)
    generalize ns[i]'(by omega) = p at *
    generalize ms[i]'(by omega) = q at *
    simp only [lexLt] at h
    by_cases c : p = q
    · rw [show (p == q) = true by simpa using c]
      rw [if_pos c.symm] at h
      wp_walk
      rw [up]
      exact ⟨plainId_quiet plain_eq_loop _, codeAny_builtin entry_eq_loop (by rw [Around.under_plainId plain_eq_loop _]; exact ih (i + 1) (by omega) (by omega) prog w A R _ ⟨e1, e2, h⟩)⟩
    · rw [show (p == q) = false by simpa using c]
      rw [if_neg (Ne.symm c)] at h
      wp_walk using wpAny_loadPart' e1, wpAny_loadPart' e2
      rw [a1, a2]
      refine wpAny_bind (richCompare_gives (op := .Gt) (typeIs_int _ p t1) (typeIs_int _ q t2) F.slot_int_gt F.entry_int_gt (F.args_int_gt_2 _ _) (gives_int_gt p q t1 t2) (fun x => nomatch x) ?_)
      show wpAny (model prog w) A.in1 (ret (Value.bool _)) _ _ _
      wp_walk
      exact h
theorem list_gt (l b : Addr) (xs ys : Array Value) (ns ms : List Int) (hx : Nums xs ns) (hy : Nums ys ms) (u1 u2 : Nat) (d1 d2 : Option Addr) (z1 z2 : Array (Option Value)) : Meets (Builtin.«list.__gt__» ⟨[.ref l, .ref b], []⟩)
      (fun _ R s => s.heap.get? l = some { cls := .type "list", dict := d1, data := .seq xs u1, slots := z1 } ∧ s.heap.get? b = some { cls := .type "list", dict := d2, data := .seq ys u2, slots := z2 } ∧
        R (.ok (.ret (.bool (lexLt ms ns)))) s) := by
  intro prog w A R s h
  obtain ⟨hp, g, d, tk, os⟩ := s
  obtain ⟨e1, e2, h⟩ := h
  have f3 := AutoSeq1.sub_list_list
  wp_walk using wpAny_loadPart' e1, wpAny_loadPart' e2
  exact ⟨plainId_quiet plain_eq_loop _, codeAny_builtin entry_eq_loop (by rw [Around.under_plainId plain_eq_loop _]; exact loop_gt l b xs ys ns ms hx hy u1 u2 d1 d2 z1 z2 _ 0 rfl (Nat.zero_le _) prog w A R _ ⟨e1, e2, h⟩)⟩
theorem rc_gt {prog : Program} {w : World} {A : Around} {E : Value → Shared → Prop} {s : Shared} {l b : Addr} {xs ys : Array Value} {ns ms : List Int} {Q : Value → Shared → Prop} (hl : s.heap.IsList l xs) (hb : s.heap.IsList b ys) (hx : Nums xs ns) (hy : Nums ys ms) (hu : A.units < cLine)
    (h : Q (.bool (lexLt ms ns)) s) : wpAny (model prog w) A (richCompare .Gt (.ref l) (.ref b)) Q E s := by
  obtain ⟨⟨c1, d1, a1, z1⟩, g1, y1, u1, k1⟩ := id hl
  obtain ⟨⟨c2, d2, a2, z2⟩, g2, y2, u2, k2⟩ := id hb
  simp only at y1 k1 y2 k2
  subst y1 k1 y2 k2
  exact richCompare_meets_room (op := .Gt) ⟨_, g1, rfl⟩ ⟨_, g2, rfl⟩ F.slot_list_gt F.entry_list_gt (F.args_list_gt_2 _ _) (list_gt l b xs ys ns ms hx hy u1 u2 d1 d2 z1 z2)
    ⟨g1, g2, show Value.bool _ ≠ Value.notImplemented ∧ Q (.bool _) s from ⟨(fun x => nomatch x), h⟩⟩ hu
end LC
namespace LC
open PySem
def Keeps (g h : Heap) : Prop := ∀ b o, g.get? b = some o → h.get? b = some o
section
variable {prog : Program} {w : World} {A : Around} {R : Result → Shared → Prop} {I ax S : Addr} {items : Array Value} {g : Heap} {bt : Nat → Nat → Bool}
def Best (prog : Program) (w : World) (A : Around) (items : Array Value) (g : Heap) (bt : Nat → Nat → Bool) : Prop :=
  ∀ i j x y (s : Shared) (Q : Value → Shared → Prop) (E : Value → Shared → Prop), Keeps g s.heap → items[i]? = some x → items[j]? = some y → Q (.bool (bt i j)) s → wpAny (model prog w) A (richCompare .Gt x y) Q E s
theorem mx_loop (hh : A.in1.handled = none) (hne : ax ≠ I) (nI : S ≠ I) (nx : S ≠ ax) (gI : g.get? I = none) (gS : g.get? S = none) (hc : Best prog w A.in1 items g bt) :
    ∀ (k j : Nat) (s : Shared) (y : Value) (c : Nat), items.size - (j + 1) = k → j + 1 ≤ items.size → (s.heap.IsListIter I ax (j + 1) ∧ s.heap.IsList ax items) → items[argBest bt j]? = some y → Keeps g s.heap →
    s.heap.get? S = some { cls := .type "list", dict := none, data := .seq #[y, y] c, slots := #[] } →
    (∀ v h' tk, items[argBest bt (items.size - 1)]? = some v → Keeps g h' → R (.ok (.ret v)) { s with heap := h', toks := tk }) → codeAny (model prog w) A (.builtin "max.loop" ⟨[.ref I, .none, .ref S], []⟩) R s := by
  have W := Walks.list (prog := prog) (w := w) hh I ax hne items
  have nm : (toString "max" ++ toString ".loop" : String) = "max.loop" := by decide
  have other : ∀ {h : Heap} {o : Obj} {b : Addr} {u : Obj}, b ≠ S → h.get? b = some o → (h.update S fun _ => u).get? b = some o := fun nb e => (Heap.get?_update_other _ _ (Ne.symm nb)).trans e
  have ne_of_g : ∀ {b : Addr} {o : Obj} {z : Addr}, g.get? b = some o → g.get? z = none → b ≠ z := fun e z q => by rw [q, z] at e; cases e
  intro k
  induction k with
  | zero =>
    intro j s y c hk hj st hy kp eS fin
    have hin : j + 1 = items.size := by omega
    refine codeAny_builtin F.entry_max_loop ?_; rw [Around.under_plainId F.plain_max_loop _]
    show wpAny _ A.in1 (seqItems? (.ref S) >>= _) _ _ s
    refine wpAny_bind (wpAny_seqItems eS rfl (show wpAny _ A.in1 (tryCatch (pyNext (.ref I)) _ >>= _) _ _ s from wpAny_bind (wpAny_tryCatch (W.done s _ _ (hin ▸ st) fun h1 tk k1 => ?_))))
    have eS1 := k1 S _ (by simpa using nI) eS
    show wpAny _ A.in1 (updateSeq S (fun _ => #[]) >>= _) _ _ _
    refine wpAny_bind (wpAny_updateSeq eS1 rfl (wpAny_bind (wpAny_letGo (wpAny_pure (fin y _ tk (by rw [← hin]; exact hy) fun b o e => ?_)))))
    exact (Heap.get?_update_other _ _ (Ne.symm (ne_of_g e gS))).trans (k1 b o (by simpa using ne_of_g e gI) (kp b o e))
  | succ k ih =>
    intro j s y c hk hj st hy kp eS fin
    have hlt : j + 1 < items.size := by omega
    refine codeAny_builtin F.entry_max_loop ?_; rw [Around.under_plainId F.plain_max_loop _]
    show wpAny _ A.in1 (seqItems? (.ref S) >>= _) _ _ s
    refine wpAny_bind (wpAny_seqItems eS rfl (show wpAny _ A.in1 (tryCatch (pyNext (.ref I)) _ >>= _) _ _ s from wpAny_bind (wpAny_tryCatch (W.item (j + 1) s _ _ hlt st fun v h1 tk hv st1 k1 => ?_))))
    have eS1 := k1 S _ (by simpa using nI) eS
    have kp1 : Keeps g h1 := fun b o e => k1 b o (by simpa using ne_of_g e gI) (kp b o e)
    show wpAny _ A.in1 (tryCatch (holding [v, v] (richCompare .Gt v y >>= _)) _ >>= _) _ _ _
    refine wpAny_bind (wpAny_tryCatch (wpAny_holding (wpAny_bind (hc (j + 1) (argBest bt j) v y { s with heap := h1, toks := tk } _ _ kp1 hv hy (wpAny_bind (wpAny_holding (wpAny_truthy_bool (wpAny_bind (wpAny_letGo (wpAny_pure ?_))))))))))
    cases hb : bt (j + 1) (argBest bt j) with
    | true =>
      simp only [if_true]
      refine wpAny_bind (wpAny_updateSeq eS1 rfl (wpAny_bind (wpAny_letGo ?_))); rw [nm]
      refine wpAny_pure ⟨plainId_quiet F.plain_max_loop _, ih (j + 1) _ v _ (by omega) hlt (W.frame _ _ _ st1 fun b hbf o e => ?_) (by simp only [argBest, hb, if_true]; exact hv) (fun b o e => ?_) (Heap.get?_update_self _ eS1 rfl) fun v' h'' tk'' q1 q2 => fin v' h'' tk'' q1 q2⟩
      · refine (Heap.get?_update_other _ _ (fun z : S = b => ?_)).trans e
        rcases List.mem_cons.mp hbf with y | y
        · exact nI (z.trans y)
        · exact nx (z.trans (List.mem_singleton.mp y))
      · exact (Heap.get?_update_other _ _ (Ne.symm (ne_of_g e gS))).trans (kp1 b o e)
    | false =>
      simp only [Bool.false_eq_true, if_false]
      refine wpAny_bind (wpAny_letGo ?_); rw [nm]
      exact wpAny_pure ⟨plainId_quiet F.plain_max_loop _, ih (j + 1) _ y c (by omega) hlt st1 (by simp only [argBest, hb, Bool.false_eq_true, if_false]; exact hy) kp1 eS1 fun v' h'' tk'' q1 q2 => fin v' h'' tk'' q1 q2⟩
theorem mx_first (hh : A.in1.handled = none) (hne : ax ≠ I) (nI : S ≠ I) (nx : S ≠ ax) (gI : g.get? I = none) (gS : g.get? S = none) (hc : Best prog w A.in1 items g bt) (hn : 0 < items.size) {s : Shared} {c : Nat} (st : s.heap.IsListIter I ax 0 ∧ s.heap.IsList ax items) (kp : Keeps g s.heap)
    (eS : s.heap.get? S = some { cls := .type "list", dict := none, data := .seq #[] c, slots := #[] }) (fin : ∀ v h' tk, items[argBest bt (items.size - 1)]? = some v → Keeps g h' → R (.ok (.ret v)) { s with heap := h', toks := tk }) :
    codeAny (model prog w) A (.builtin "max.loop" ⟨[.ref I, .none, .ref S], []⟩) R s := by
  have W := Walks.list (prog := prog) (w := w) hh I ax hne items
  have nm : (toString "max" ++ toString ".loop" : String) = "max.loop" := by decide
  have ne_of_g : ∀ {b : Addr} {o : Obj} {z : Addr}, g.get? b = some o → g.get? z = none → b ≠ z := fun e z q => by rw [q, z] at e; cases e
  refine codeAny_builtin F.entry_max_loop ?_; rw [Around.under_plainId F.plain_max_loop _]
  show wpAny _ A.in1 (seqItems? (.ref S) >>= _) _ _ s
  refine wpAny_bind (wpAny_seqItems eS rfl (show wpAny _ A.in1 (tryCatch (pyNext (.ref I)) _ >>= _) _ _ s from wpAny_bind (wpAny_tryCatch (W.item 0 s _ _ hn st fun v h1 tk hv st1 k1 => ?_))))
  have eS1 := k1 S _ (by simpa using nI) eS
  have kp1 : Keeps g h1 := fun b o e => k1 b o (by simpa using ne_of_g e gI) (kp b o e)
  show wpAny _ A.in1 (updateSeq S (fun _ => #[v, v]) >>= _) _ _ _
  refine wpAny_bind (wpAny_updateSeq eS1 rfl ?_); rw [nm]
  refine wpAny_pure ⟨plainId_quiet F.plain_max_loop _, mx_loop hh hne nI nx gI gS hc _ 0 _ v _ rfl hn (W.frame _ _ _ st1 fun b hbf o e => ?_) hv (fun b o e => ?_) (Heap.get?_update_self _ eS1 rfl) fun v' h'' tk'' q1 q2 => fin v' h'' tk'' q1 q2⟩
  · refine (Heap.get?_update_other _ _ (fun z : S = b => ?_)).trans e
    rcases List.mem_cons.mp hbf with y | y
    · exact nI (z.trans y)
    · exact nx (z.trans (List.mem_singleton.mp y))
  · exact (Heap.get?_update_other _ _ (Ne.symm (ne_of_g e gS))).trans (kp1 b o e)
end
theorem max_old {prog : Program} {w : World} {A : Around} {E : Value → Shared → Prop} {s : Shared} {l : Addr} {items : Array Value} {bt : Nat → Nat → Bool} {Q : Value → Shared → Prop} (hh : A.in1.handled = none) (hl : s.heap.IsList l items) (hn : 0 < items.size) (hc : Best prog w A.in1 items s.heap bt)
    (h : ∀ v h' tk, items[argBest bt (items.size - 1)]? = some v → Keeps s.heap h' → Q v { s with heap := h', toks := tk }) : wpAny (model prog w) A (call (.builtin "max") [.ref l]) Q E s := by
  have nm : (toString "max" ++ toString ".loop" : String) = "max.loop" := by decide
  have lt : l < s.heap.objs.size := by obtain ⟨_, e, _⟩ := hl; exact Heap.lt_size e
  refine call_function_tree F.kind_max F.plain_max F.entry_max (F.args_max1 _) ?_
  show wpAny _ A.in1 (Builtin.Builtins.bindParams "max" ["key", "default"] 0 ⟨[], []⟩ >>= _) _ _ s
  refine wpAny_bind (wpAny_of_eq (show Builtin.Builtins.bindParams "max" ["key", "default"] 0 ⟨[], []⟩ = pure [none, none] from rfl) (wpAny_bind (wpAny_pure (wpAny_bind (wpAny_pyIter_list hl (wpAny_bind (wpAny_newObj_type ?_)))))))
  generalize hs2 : s.heap.push { cls := .type "list_iterator", data := .fields #[.ref l, .int 0 0] } = h2
  have z2 : h2.objs.size = s.heap.objs.size + 1 := by rw [← hs2, Heap.size_push]
  have kp2 : Keeps s.heap h2 := fun b o e => by rw [← hs2]; exact Heap.get?_push_of_some _ e
  have none_of : ∀ {b : Addr}, s.heap.objs.size ≤ b → s.heap.get? b = none := fun hb => by
    cases q : s.heap.get? _ with
    | none => rfl
    | some o => exact absurd (Nat.lt_of_lt_of_le (Heap.lt_size q) hb) (Nat.lt_irrefl _)
  rw [nm]
  refine wpAny_pure ⟨plainId_quiet F.plain_max_loop _, mx_first (g := s.heap) (ax := l) hh (Nat.ne_of_lt lt) ?_ ?_ (none_of (Nat.le_refl _)) (none_of (by show s.heap.objs.size ≤ h2.objs.size; rw [z2]; exact Nat.le_succ _)) hc hn ⟨?_, ?_⟩ (fun b o e => Heap.get?_push_of_some _ (kp2 b o e)) (Heap.get?_push_size _ rfl) fun v h' tk q1 q2 => h v h' tk q1 q2⟩
  · exact fun z => by have z : h2.objs.size = s.heap.objs.size := z; omega
  · exact fun z => Nat.lt_irrefl l (Nat.lt_trans lt (by have z : h2.objs.size = l := z; rw [← z, z2]; exact Nat.lt_succ_self _))
  · refine ⟨_, Heap.get?_push_of_some _ (by rw [← hs2]; exact Heap.get?_push_size _ rfl), rfl, rfl⟩
  · obtain ⟨o, e, q⟩ := hl
    exact ⟨o, Heap.get?_push_of_some _ (kp2 l o e), q⟩
end LC
end
section
set_option maxHeartbeats 2000000
set_option maxRecDepth 100000
set_option linter.unusedVariables false
set_option linter.unusedSimpArgs false
namespace Srt
open PySem PyProof.Rows
abbrev Pend := Array (Nat × Nat × Nat)
structure TB (a₀ : Array Keyed) (p : Pend) (st : SortSt) : Prop where
  perm : (arrOf st).Perm a₀
  kd : kindOf st = oneType'
  ff : failedOf st = none
  pd : pendingOf st = p
@[reducible] def rkKind (rk : Value → Int) : KeyKind where
  α := Int
  blt a b := decide (a < b)
  irrefl a := by simp
  trans a b c h1 h2 := by simp only [decide_eq_true_eq] at *; omega
  negTrans a b c h := by simp only [decide_eq_true_eq] at *; omega
  total a b h1 h2 := by simp only [decide_eq_false_iff_not] at *; omega
  keyOf v := some (rk v)
  dflt := 0
section
variable {prog : Program} {w : World} {A : Around} {E : Value → Shared → Prop} {s : Shared} {a₀ : Array Keyed} {p : Pend} {st : SortSt} {rk : Value → Int}
theorem TB.size (h : TB a₀ p st) : (arrOf st).size = a₀.size := h.perm.size_eq
end
def up (lo a nrem : Nat) : StateT SortSt Sem (Option (Option Nat) × Nat) :=
  forIn [a:nrem] ((none, a) : Option (Option Nat) × Nat) fun _ c => do
    let x ← ltAt' (lo + c.2) (lo + c.2 - 1)
    match x with
    | some b => if b = true then pure (.done (none, c.2)) else pure (.yield (none, c.2 + 1))
    | _ => pure (.done (some none, c.2))
def fin3 (lo n nrem : Nat) : StateT SortSt Sem (Option Nat) := do
  reverseSlice' lo (lo + n)
  let c ← up lo n nrem
  match c.1 with
  | some r => pure r
  | none => pure (some c.2)
def down (lo n nrem : Nat) : StateT SortSt Sem (Option (Option Nat) × Nat × Nat) :=
  forIn [n:nrem] ((none, n, 0) : Option (Option Nat) × Nat × Nat) fun _ c => do
    let x ← ltAt' (lo + c.2.1) (lo + c.2.1 - 1)
    match x with
    | some b =>
      if b = true then
        if c.2.2 > 0 then do
          reverseSlice' (lo + c.2.1 - (c.2.2 + 1)) (lo + c.2.1)
          pure (.yield (none, c.2.1 + 1, 0))
        else pure (.yield (none, c.2.1 + 1, 0))
      else do
        let y ← ltAt' (lo + c.2.1 - 1) (lo + c.2.1)
        match y with
        | some d => if d = true then pure (.done (none, c.2.1, c.2.2)) else pure (.yield (none, c.2.1 + 1, c.2.2 + 1))
        | _ => pure (.done (some none, c.2.1, c.2.2))
    | _ => pure (.done (some none, c.2.1, c.2.2))
def dpart (lo n nrem : Nat) : StateT SortSt Sem (Option Nat) := do
  liftM (rule "list.sort.descending-run")
  let c ← down lo (n + 1) nrem
  match c.1 with
  | some r => pure r
  | none => if c.2.2 > 0 then do reverseSlice' (lo + c.2.1 - (c.2.2 + 1)) (lo + c.2.1); fin3 lo c.2.1 nrem else fin3 lo c.2.1 nrem
section
variable {prog : Program} {w : World} {A : Around} {E : Value → Shared → Prop} {s : Shared} {a₀ : Array Keyed} {p : Pend} {st : SortSt} {rk : Value → Int}
end
section
variable {prog : Program} {w : World} {A : Around} {E : Value → Shared → Prop} {s : Shared} {a₀ : Array Keyed} {st : SortSt} {rk : Value → Int}
end
end Srt
namespace LC
open PySem
theorem lexLt_irrefl : ∀ a : List Int, lexLt a a = false
  | [] => rfl
  | x :: r => by simp only [lexLt, if_true]; exact lexLt_irrefl r
theorem lexLt_trans : ∀ {a b c : List Int}, lexLt a b = true → lexLt b c = true → lexLt a c = true
  | [], [], _, h, _ => by simp [lexLt] at h
  | [], _ :: _, [], _, h => by simp [lexLt] at h
  | [], _ :: _, _ :: _, _, _ => rfl
  | _ :: _, [], _, h, _ => by simp [lexLt] at h
  | _ :: _, _ :: _, [], _, h => by simp [lexLt] at h
  | x :: a, y :: b, z :: c, h1, h2 => by
    simp only [lexLt] at h1 h2 ⊢
    by_cases e1 : x = y
    · subst e1
      rw [if_pos rfl] at h1
      by_cases e2 : x = z
      · subst e2
        rw [if_pos rfl] at h2 ⊢
        exact lexLt_trans h1 h2
      · rw [if_neg e2] at h2 ⊢; exact h2
    · rw [if_neg e1] at h1
      by_cases e2 : y = z
      · subst e2
        rw [if_neg e1]; exact h1
      · rw [if_neg e2] at h2
        simp only [decide_eq_true_eq] at h1 h2
        rw [if_neg (by omega)]
        simp only [decide_eq_true_eq]; omega
theorem lexLt_total : ∀ {a b : List Int}, lexLt a b = false → lexLt b a = false → a = b
  | [], [], _, _ => rfl
  | [], _ :: _, h, _ => by simp [lexLt] at h
  | _ :: _, [], _, h => by simp [lexLt] at h
  | x :: a, y :: b, h1, h2 => by
    simp only [lexLt] at h1 h2
    by_cases e : x = y
    · subst e
      rw [if_pos rfl] at h1 h2
      rw [lexLt_total h1 h2]
    · rw [if_neg e] at h1
      rw [if_neg (Ne.symm e)] at h2
      simp only [decide_eq_false_iff_not] at h1 h2
      omega
end LC
namespace Srt
open PySem PyProof.Rows LC
section
variable {prog : Program} {w : World} {A : Around} {E : Value → Shared → Prop} {s : Shared}
end
end Srt
namespace Srt
open PySem PyProof.Rows LC
section
variable {prog : Program} {w : World} {A : Around} {E : Value → Shared → Prop} {s : Shared}
end
end Srt
end
section
set_option maxHeartbeats 2000000
set_option maxRecDepth 100000
set_option linter.unusedVariables false
set_option linter.unusedSimpArgs false
namespace L2
structure Sm (n m : Nat) (q : List Int) : Prop where
  ord : q.Pairwise (· ≥ ·)
  pos : ∀ x ∈ q, 1 ≤ x
  sum : q.sum = n
  le : ∀ x ∈ q, x ≤ m
theorem Sm.cons {n m : Nat} {p : Int} {r : List Int} : Sm n m (p :: r) ↔ ∃ k : Nat, p = k ∧ 1 ≤ k ∧ k ≤ n ∧ k ≤ m ∧ Sm (n - k) k r := by
  constructor
  · intro h
    have hp := h.pos p List.mem_cons_self
    have hl := h.le p List.mem_cons_self
    obtain ⟨h1, h2⟩ := List.pairwise_cons.mp h.ord
    have hs := h.sum
    rw [List.sum_cons] at hs
    have rp : ∀ x ∈ r, 1 ≤ x := fun x hx => h.pos x (List.mem_cons_of_mem _ hx)
    have r0 : 0 ≤ r.sum := by have := sum_ge_len rp; omega
    refine ⟨p.toNat, by omega, by omega, by omega, by omega, h2, rp, by omega, fun x hx => ?_⟩
    have := h1 x hx
    omega
  · rintro ⟨k, rfl, k1, k2, k3, h⟩
    refine ⟨List.pairwise_cons.mpr ⟨fun x hx => ?_, h.ord⟩, fun x hx => ?_, ?_, fun x hx => ?_⟩
    · have := h.le x hx; show (k : Int) ≥ x; omega
    · rcases List.mem_cons.mp hx with z | z
      · omega
      · exact h.pos x z
    · rw [List.sum_cons, h.sum]; omega
    · rcases List.mem_cons.mp hx with z | z
      · omega
      · have := h.le x z; omega
theorem Sm.nil {n m : Nat} : Sm n m [] ↔ n = 0 := ⟨fun h => by have := h.sum; simp at this; omega, fun h => ⟨List.Pairwise.nil, fun _ h => by simp at h, by subst h; rfl, fun _ h => by simp at h⟩⟩
theorem Sm.setting {n : Nat} {q : List Int} : Sm n n q ↔ Setting n q :=
  ⟨fun h => ⟨h.ord, h.pos, h.sum⟩, fun h => ⟨h.ord, h.pos, h.sum, fun x hx => h.le hx⟩⟩
def allBy (g : Nat → Nat → Nat) : Nat → Nat → Nat → List (List Int)
  | 0, _, _ => []
  | f + 1, n, m => if n = 0 then [[]] else ((List.range (min n m)).map fun i => (allBy g f (n - g (min n m) i) (g (min n m) i)).map (((g (min n m) i : Nat) : Int) :: ·)).flatten
def allPre (g : Nat → Nat → Nat) (f n m i : Nat) : List (List Int) := ((List.range i).map fun i => (allBy g f (n - g (min n m) i) (g (min n m) i)).map (((g (min n m) i : Nat) : Int) :: ·)).flatten
theorem allBy_eq {g : Nat → Nat → Nat} {f n m : Nat} (h : n ≠ 0) : allBy g (f + 1) n m = allPre g f n m (min n m) := by
  show (if n = 0 then _ else _) = _
  rw [if_neg h]; rfl
structure Goes (g : Nat → Nat → Nat) : Prop where
  lo : ∀ k i, i < k → 1 ≤ g k i ∧ g k i ≤ k
  inj : ∀ k i j, i < k → j < k → g k i = g k j → i = j
  onto : ∀ k p, 1 ≤ p → p ≤ k → ∃ i, i < k ∧ g k i = p
theorem goes_down : Goes fun k i => k - i := ⟨fun k i h => by omega, fun k i j h1 h2 h => by omega, fun k p h1 h2 => ⟨k - p, by omega, by omega⟩⟩
theorem mem_all {g : Nat → Nat → Nat} (G : Goes g) : ∀ (f n m : Nat) (q : List Int), n < f → (q ∈ allBy g f n m ↔ Sm n m q)
  | 0, n, m, q, h => by omega
  | f + 1, n, m, q, h => by
    by_cases hn : n = 0
    · subst hn
      show q ∈ (if 0 = 0 then [[]] else _ : List (List Int)) ↔ _
      rw [if_pos rfl, List.mem_singleton]
      constructor
      · rintro rfl; exact Sm.nil.mpr rfl
      · intro z
        cases q with
        | nil => rfl
        | cons p r =>
          obtain ⟨k, _, k1, k2, _⟩ := Sm.cons.mp z
          omega
    · rw [allBy_eq hn]
      unfold allPre
      rw [List.mem_flatten]
      constructor
      · rintro ⟨l, hl, hq⟩
        obtain ⟨i, hi, rfl⟩ := List.mem_map.mp hl
        have hi := List.mem_range.mp hi
        obtain ⟨r, hr, rfl⟩ := List.mem_map.mp hq
        obtain ⟨g1, g2⟩ := G.lo _ i hi
        exact Sm.cons.mpr ⟨g (min n m) i, rfl, g1, by omega, by omega, (mem_all G f _ _ r (by omega)).mp hr⟩
      · intro z
        cases q with
        | nil => exact absurd (Sm.nil.mp z) hn
        | cons p r =>
          obtain ⟨k, rfl, k1, k2, k3, z⟩ := Sm.cons.mp z
          obtain ⟨i, hi, e⟩ := G.onto (min n m) k k1 (by omega)
          refine ⟨_, List.mem_map.mpr ⟨i, List.mem_range.mpr hi, rfl⟩, List.mem_map.mpr ⟨r, ?_, by rw [e]⟩⟩
          rw [e]
          exact (mem_all G f _ _ r (by omega)).mpr z
theorem dn_all : ∀ f n m : Nat, dn f n m = allBy (fun k i => k - i) f n m
  | 0, _, _ => rfl
  | f + 1, n, m => by
    show (if n = 0 then _ else _) = (if n = 0 then _ else _ : List (List Int))
    split
    · rfl
    · congr 1
      exact List.map_congr_left fun i _ => by rw [dn_all f]
end L2
namespace LC
end LC
end
section
set_option maxHeartbeats 2000000
set_option maxRecDepth 100000
set_option linter.unusedVariables false
set_option linter.unusedSimpArgs false
namespace L2
def md : Nat → Int → List (List Int)
  | 0, r => if r < 0 ∨ 0 < r then [] else [[]]
  | k + 1, r => if r < 0 ∨ ((k + 1 : Nat) : Int) < r then [] else (md k (r - 1)).map (1 :: ·) ++ (md k r).map (0 :: ·)
def leadB (ms : List Int) : Bool := (List.range ms.length).all fun c => !LC.lexLt ms (ms.drop c ++ ms.take c)
theorem mem_md : ∀ (k : Nat) (r : Int) (q : List Int), q ∈ md k r ↔ q.length = k ∧ (∀ x ∈ q, x = 0 ∨ x = 1) ∧ q.sum = r
  | 0, r, q => by
    unfold md
    by_cases c : r < 0 ∨ 0 < r
    · rw [if_pos c]
      refine ⟨fun h => (nomatch h), fun ⟨h1, _, h3⟩ => ?_⟩
      rw [List.length_eq_zero_iff.mp h1] at h3
      simp at h3; omega
    · rw [if_neg c, List.mem_singleton]
      refine ⟨fun h => ?_, fun ⟨h1, _, _⟩ => List.length_eq_zero_iff.mp h1⟩
      subst h
      exact ⟨rfl, fun _ h => by simp at h, by simp; omega⟩
  | k + 1, r, q => by
    have bnd : ∀ q : List Int, (∀ x ∈ q, x = 0 ∨ x = 1) → 0 ≤ q.sum ∧ q.sum ≤ q.length := fun q => by
      induction q with
      | nil => intro _; simp
      | cons x t ih =>
        intro h
        have := ih fun y hy => h y (List.mem_cons_of_mem _ hy)
        have := h x List.mem_cons_self
        rw [List.sum_cons, List.length_cons]
        omega
    unfold md
    by_cases c : r < 0 ∨ ((k + 1 : Nat) : Int) < r
    · rw [if_pos c]
      refine ⟨fun h => (nomatch h), fun ⟨h1, h2, h3⟩ => ?_⟩
      have := bnd q h2
      omega
    · rw [if_neg c, List.mem_append, List.mem_map, List.mem_map]
      constructor
      · rintro (⟨t, ht, rfl⟩ | ⟨t, ht, rfl⟩)
        · obtain ⟨a, b, d⟩ := (mem_md k (r - 1) t).mp ht
          refine ⟨by rw [List.length_cons, a], fun x hx => ?_, by rw [List.sum_cons, d]; omega⟩
          rcases List.mem_cons.mp hx with z | z
          · exact .inr z
          · exact b x z
        · obtain ⟨a, b, d⟩ := (mem_md k r t).mp ht
          refine ⟨by rw [List.length_cons, a], fun x hx => ?_, by rw [List.sum_cons, d]; omega⟩
          rcases List.mem_cons.mp hx with z | z
          · exact .inl z
          · exact b x z
      · rintro ⟨h1, h2, h3⟩
        cases q with
        | nil => simp at h1
        | cons x t =>
          rw [List.length_cons] at h1
          rw [List.sum_cons] at h3
          have ht : ∀ y ∈ t, y = 0 ∨ y = 1 := fun y hy => h2 y (List.mem_cons_of_mem _ hy)
          rcases h2 x List.mem_cons_self with rfl | rfl
          · exact .inr ⟨t, (mem_md k r t).mpr ⟨by omega, ht, by omega⟩, rfl⟩
          · exact .inl ⟨t, (mem_md k (r - 1) t).mpr ⟨by omega, ht, by omega⟩, rfl⟩
theorem md_len : ∀ (k : Nat) (r : Int), (md k r).length ≤ 2 ^ k
  | 0, r => by unfold md; split <;> simp
  | k + 1, r => by
    unfold md
    split
    · exact Nat.zero_le _
    · rw [List.length_append, List.length_map, List.length_map, Nat.pow_succ]
      have := md_len k (r - 1)
      have := md_len k r
      omega
theorem lead_max {ms M : List Int} {l : List (List Int)} (hl : ∀ x, x ∈ l ↔ ∃ c, c < ms.length ∧ x = ms.drop c ++ ms.take c) (h0 : 0 < ms.length) (hM : M ∈ l) (hx : ∀ x ∈ l, LC.lexLt M x = false) : decide (ms = M) = leadB ms := by
  rw [Bool.eq_iff_iff, decide_eq_true_eq]
  unfold leadB
  rw [List.all_eq_true]
  constructor
  · rintro rfl c hc
    rw [hx _ ((hl _).mpr ⟨c, List.mem_range.mp hc, rfl⟩)]; rfl
  · intro h
    obtain ⟨c, hc, rfl⟩ := (hl M).mp hM
    have a := h c (List.mem_range.mpr hc)
    have b := hx ms ((hl ms).mpr ⟨0, h0, by simp⟩)
    exact LC.lexLt_total (by simpa using a) b
theorem cuts_mem {ms x : List Int} : x ∈ (List.range ms.length).map (fun c => ms.drop c ++ ms.take c) ↔ ∃ c, c < ms.length ∧ x = ms.drop c ++ ms.take c := by
  rw [List.mem_map]
  exact ⟨fun ⟨c, hc, e⟩ => ⟨c, List.mem_range.mp hc, e.symm⟩, fun ⟨c, hc, e⟩ => ⟨c, List.mem_range.mpr hc, e.symm⟩⟩
def leads (k : Nat) (r : Int) : List (List Int) := (md k r).filter leadB
end L2
end
section
set_option maxHeartbeats 2000000
set_option maxRecDepth 100000
set_option linter.unusedVariables false
set_option linter.unusedSimpArgs false
namespace L2
open PySem PySem.Spec PyProof.Rows
theorem getD_at {α : Type} (l : List α) (d : α) {i : Nat} (h : i < l.length) : l.getD i d = l[i] := by rw [List.getD_eq_getElem?_getD, List.getElem?_eq_getElem h]; rfl
theorem best_lex (x : Nat → List Int) : ∀ k, argBest (fun i j => LC.lexLt (x j) (x i)) k ≤ k ∧ ∀ j, j ≤ k → LC.lexLt (x (argBest (fun i j => LC.lexLt (x j) (x i)) k)) (x j) = false
  | 0 => ⟨Nat.le_refl _, fun j hj => by rw [show j = 0 by omega]; exact LC.lexLt_irrefl _⟩
  | k + 1 => by
    obtain ⟨h1, h2⟩ := best_lex x k
    show (if LC.lexLt (x (argBest (fun i j => LC.lexLt (x j) (x i)) k)) (x (k + 1)) = true then k + 1 else argBest (fun i j => LC.lexLt (x j) (x i)) k) ≤ k + 1 ∧ ∀ j, j ≤ k + 1 → LC.lexLt (x (if LC.lexLt (x (argBest (fun i j => LC.lexLt (x j) (x i)) k)) (x (k + 1)) = true then k + 1 else argBest (fun i j => LC.lexLt (x j) (x i)) k)) (x j) = false
    cases c : LC.lexLt (x (argBest (fun i j => LC.lexLt (x j) (x i)) k)) (x (k + 1)) with
    | true =>
      rw [if_pos rfl]
      refine ⟨Nat.le_refl _, fun j hj => ?_⟩
      by_cases e : j = k + 1
      · rw [e]; exact LC.lexLt_irrefl _
      · cases d : LC.lexLt (x (k + 1)) (x j) with
        | false => rfl
        | true => have := LC.lexLt_trans c d; rw [h2 j (by omega)] at this; cases this
    | false =>
      rw [if_neg (by decide)]
      refine ⟨by omega, fun j hj => ?_⟩
      by_cases e : j = k + 1
      · rw [e]; exact c
      · exact h2 j (by omega)
section
variable {X : Cx}
theorem nums_of {ns : List Int} {us : List Value} (h : IntsAre us ns) : LC.Nums us.toArray ns := by
  have hl : us.length = ns.length := IntsAre.length h
  refine ⟨by simpa using hl, fun i h1 h2 => ?_⟩
  induction h generalizing i with
  | nil => simp at h1
  | cons n t _ ih =>
    cases i with
    | zero => exact ⟨t, rfl⟩
    | succ i =>
      have := ih (by simpa using hl) i (by simpa using h1) (by simpa using h2)
      simpa using this
def rMaxLL (K : PySem.W.Frag) : List V → Hp → VK → Prop := fun xs H Q => ∃ p rs qss, xs = [.ref p] ∧ SqL K H p (rs.map V.ref) ∧ Lists H rs qss ∧ 0 < rs.length ∧ ∀ (r : Addr) (M : List Int), M ∈ qss → H r = some (.lst (M.map V.int)) → (∀ x ∈ qss, LC.lexLt M x = false) → Q (.ref r) H
theorem call_maxLL (hc : X.calm = true) (hu : X.A.units + 65 < cLine) : CallR X (.builtin "max") (rMaxLL X.K) := by
  intro pins s σ H xs us Q I r h
  obtain ⟨p, rs, qss, rfl, hq, hL, h0, q⟩ := h
  obtain ⟨u, rfl, rx⟩ := vals1 r
  cases rx
  obtain ⟨its, rv, pl, _⟩ := I.list hq
  have hl := rv.length
  rw [List.length_map] at hl
  have ql := hL.len
  have get : ∀ (i : Nat) (hi : i < rs.length), its[i]? = some (.ref rs[i]) := fun i hi => by
    obtain ⟨u, h1, h2⟩ := rv.get (i := i) (x := .ref rs[i]) (by simp [hi])
    rw [h1, show u = .ref rs[i] from h2]
  have best : LC.Best X.prog X.w X.A.in1 its.toArray s.heap (fun i j => LC.lexLt (qss.getD j []) (qss.getD i [])) := by
    intro i j vi vj s' Q' E' kp hi hj hQ
    have ii : i < rs.length := by
      rw [List.getElem?_toArray] at hi
      have := (List.getElem?_eq_some_iff.mp hi).1; omega
    have jj : j < rs.length := by
      rw [List.getElem?_toArray] at hj
      have := (List.getElem?_eq_some_iff.mp hj).1; omega
    rw [List.getElem?_toArray, get i ii] at hi
    rw [List.getElem?_toArray, get j jj] at hj
    cases hi
    cases hj
    have zi := hL.at_ i rs[i] (qss[i]'(by omega)) (by simp [ii]) (List.getElem?_eq_getElem (by omega))
    have zj := hL.at_ j rs[j] (qss[j]'(by omega)) (by simp [jj]) (List.getElem?_eq_getElem (by omega))
    obtain ⟨v1, r1, p1, _⟩ := I.list (show SqL X.K H rs[i] ((qss[i]'(by omega)).map V.int) from SqL.of zi)
    obtain ⟨v2, r2, p2, _⟩ := I.list (show SqL X.K H rs[j] ((qss[j]'(by omega)).map V.int) from SqL.of zj)
    have k1 : s'.heap.IsList rs[i] v1.toArray := by obtain ⟨o, e, z⟩ := p1.isList; exact ⟨o, kp _ _ e, z⟩
    have k2 : s'.heap.IsList rs[j] v2.toArray := by obtain ⟨o, e, z⟩ := p2.isList; exact ⟨o, kp _ _ e, z⟩
    have e1 : qss.getD i [] = qss[i]'(by omega) := by simp [show i < qss.length by omega]
    have e2 : qss.getD j [] = qss[j]'(by omega) := by simp [show j < qss.length by omega]
    dsimp only at hQ
    rw [e1, e2] at hQ
    exact LC.rc_gt k1 k2 (nums_of (intsAre_of r1)) (nums_of (intsAre_of r2)) (by show X.A.units + 1 < cLine; omega) hQ
  refine LC.max_old (I.ok.hd hc) pl.isList (by simpa using (by omega : 0 < its.length)) best fun v h' tk hv hk => ?_
  obtain ⟨b1, b2⟩ := best_lex (fun i => qss.getD i []) (its.toArray.size - 1)
  have sz : its.toArray.size = rs.length := by simp; omega
  rw [sz] at hv b1 b2
  have bl : argBest (fun i j => LC.lexLt (qss.getD j []) (qss.getD i [])) (rs.length - 1) < rs.length := by omega
  rw [List.getElem?_toArray, get _ bl] at hv
  cases hv
  have bq : argBest (fun i j => LC.lexLt (qss.getD j []) (qss.getD i [])) (rs.length - 1) < qss.length := by omega
  refine ⟨.ref _, H, I.kept hk, rfl, q _ (qss[argBest (fun i j => LC.lexLt (qss.getD j []) (qss.getD i [])) (rs.length - 1)]'bq) (List.getElem_mem bq) (hL.at_ _ _ _ (List.getElem?_eq_getElem bl) (List.getElem?_eq_getElem bq)) fun x hx => ?_⟩
  obtain ⟨j, hj, rfl⟩ := List.getElem_of_mem hx
  have z := b2 j (by omega)
  rw [getD_at qss [] hj, getD_at qss [] bq] at z
  exact z
end
theorem sl_listK {X : Cx} {K : PySem.W.Frag} (e : X.K = K) : SlR X (rSlL K) := by subst e; exact sl_list
structure L3 (H : Hp) (qs : List Addr) (tt : List (List (List Int))) : Prop where
  len : qs.length = tt.length
  at_ : ∀ (i : Nat) q ts, qs[i]? = some q → tt[i]? = some ts → ∃ us : List Addr, H q = some (.lst (us.map V.ref)) ∧ Lists H us ts
theorem L3.nil {H : Hp} : L3 H [] [] := ⟨rfl, fun i q ts h => by simp at h⟩
section
variable {K : PySem.W.Frag} {tc : TT} {te : TE} {D : Addr} {H : Hp} {Q : VK}
theorem paired_l3 {H0 H' : Hp} {f : V → List (List Int)} : ∀ {xs : List V} {vs : List V}, Paired (fun x v => ∃ q us, v = V.ref q ∧ q ≠ D ∧ H0 q = none ∧ H' q = some (.lst (us.map V.ref)) ∧ Lists H' us (f x) ∧ ∀ u ∈ us, u ≠ D ∧ H0 u = none ∧ u ≠ q) xs vs →
    ∃ qs : List Addr, vs = qs.map V.ref ∧ L3 H' qs (xs.map f) ∧ ∀ q ∈ qs, H0 q = none ∧ q ≠ D ∧ ∃ us : List Addr, H' q = some (.lst (us.map V.ref)) ∧ ∀ u ∈ us, u ≠ D ∧ H0 u = none ∧ u ≠ q
  | [], _, .nil => ⟨[], rfl, L3.nil, fun _ h => by simp at h⟩
  | x :: xs, _, .cons ⟨q, us, e, n, z, a, L, k0⟩ r => by
    obtain ⟨qs, e2, T, k⟩ := paired_l3 r
    subst e e2
    refine ⟨q :: qs, rfl, ⟨by simp [T.len], fun i q' ts a' b' => ?_⟩, fun q' hq => ?_⟩
    · cases i with
      | zero => simp at a' b'; subst a' b'; exact ⟨us, a, L⟩
      | succ i => exact T.at_ i q' ts (by simpa using a') (by simpa using b')
    · rcases List.mem_cons.mp hq with y | y
      · subst y; exact ⟨z, n, us, a, k0⟩
      · exact k q' y
theorem comp_L3 {a : Addr} (rs : List Addr) (qss : List (List Int)) (p : List Int → Bool) (f : List Int → List (List Int)) (fr : St) (hn : rs.length < sizeLine) (ha : SqL K H a (rs.map V.ref)) (hL : Lists H rs qss) (hD : H D = none)
    (hc : ∀ r qs, qs ∈ qss → ∀ H' Q', Same H H' → H' r = some (.lst (qs.map V.int)) → (∀ H2, Same H' H2 → Q' (p qs) H2) → tc (some (.ref r) :: fr) H' Q')
    (he : ∀ r qs, qs ∈ qss → p qs = true → ∀ H' Q', Same H H' → H' r = some (.lst (qs.map V.int)) → (∀ H2 q us, H' q = none → Same H' H2 → H2 q = some (.lst (us.map V.ref)) → Lists H2 us (f qs) → (∀ u ∈ us, H' u = none ∧ u ≠ q) → Q' (.ref q) H2) → te (some (.ref r) :: fr) H' Q')
    (hQ : ∀ H' qs, Same H H' → H' D = some (.lst (qs.map V.ref)) → L3 H' qs ((qss.filter p).map f) → (∀ q ∈ qs, H q = none ∧ q ≠ D ∧ ∃ us : List Addr, H' q = some (.lst (us.map V.ref)) ∧ ∀ u ∈ us, u ≠ D ∧ H u = none ∧ u ≠ q) → Q (.ref D) H') :
    ∃ W : Nat → Nat → St → Hp → Prop, (∃ m, W 0 m (none :: fr) (upd H D (.lst []))) ∧ CTurn (Itl K a) (gName 0) tc te D W Q := by
  have at0 : ∀ x ∈ rs.map V.ref, ∃ r qs, x = .ref r ∧ qs ∈ qss ∧ H r = some (.lst (qs.map V.int)) := fun x hx => by
    obtain ⟨r, hr, rfl⟩ := List.mem_map.mp hx
    obtain ⟨qs, h1, h2⟩ := hL.mem hr
    exact ⟨r, qs, rfl, h1, h2⟩
  refine comp_relL (rs.map V.ref) (fun x => p (cont H x)) (fun x v H2 => ∃ q us, v = V.ref q ∧ q ≠ D ∧ H q = none ∧ H2 q = some (.lst (us.map V.ref)) ∧ Lists H2 us (f (cont H x)) ∧ ∀ u ∈ us, u ≠ D ∧ H u = none ∧ u ≠ q) fr (by simpa using hn) ha hD (fun x hx H' Q' s l q => ?_) (fun x hx hp H' Q' s l q => ?_)
    (fun x v H1 H2 h k => by
      obtain ⟨q, us, e, n, z, y, L, m⟩ := h
      exact ⟨q, us, e, n, z, k q _ n y, L.off fun r hr o e => k r o (m r hr).1 e, m⟩) fun H' vs s pr e => ?_
  · obtain ⟨r, qs, rfl, h1, h2⟩ := at0 x hx
    rw [cont_of h2] at q
    exact hc r qs h1 H' Q' s (s _ _ h2) q
  · obtain ⟨r, qs, rfl, h1, h2⟩ := at0 x hx
    rw [cont_of h2] at q hp
    obtain ⟨l, hl⟩ := l
    exact he r qs h1 hp H' Q' s (s _ _ h2) fun H2 u us hu s2 e2 L m => q H2 _ s2 ⟨u, us, rfl, (ne_of_none hl hu).symm, s.free hu, e2, L, fun w hw => ⟨(ne_of_none hl (m w hw).1).symm, s.free (m w hw).1, (m w hw).2⟩⟩
  · obtain ⟨qs, rfl, T, k⟩ := paired_l3 (f := fun x => f (cont H x)) pr
    refine hQ H' qs s e ?_ k
    have e3 : ((rs.map V.ref).filter fun x => p (cont H x)).map (fun x => f (cont H x)) = (qss.filter p).map f := by
      rw [← hL.conts]
      simp only [List.filter_map, List.map_map]
      rfl
    rw [e3] at T
    exact T
end
def rgStep (acc : List (List Int)) (q : List Int) : List (List Int) := if q ∈ acc then acc else acc ++ [q]
theorem rg_its {ps : List Int} {d : Nat} (h : Ring ps d) : ∀ i, ((List.range i).map fun t => it t ps).foldl rgStep [] = its (min i d) ps
  | 0 => rfl
  | i + 1 => by
    rw [List.range_succ, List.map_append, List.foldl_append, rg_its h i]
    show rgStep (its (min i d) ps) (it i ps) = _
    unfold rgStep
    by_cases c : d ≤ i
    · rw [if_pos (h.mem.mpr c), Nat.min_eq_right c, Nat.min_eq_right (by omega)]
    · rw [if_neg (fun z => c (h.mem.mp z)), Nat.min_eq_left (by omega), Nat.min_eq_left (by omega), its_succ]
end L2
end
section
set_option maxHeartbeats 2000000
set_option maxRecDepth 100000
set_option linter.unusedVariables false
set_option linter.unusedSimpArgs false
namespace PS
open PySem
structure Gd (t : SetTable) (L : Bool) : Prop where
  led : t.led = L
  dum : t.dummies = #[]
  ris : t.place.toList.Pairwise (· < ·)
end PS
namespace PS
open PySem PySem.Spec PyProof.Rows
def ival : Value → Int
  | .int k _ => k
  | _ => 0
structure SetE (h : Heap) (a : Addr) (L : Bool) (es : Array (Int × Value)) (ep : Nat) (t : SetTable) : Prop where
  obj : ∃ o, h.get? a = some o ∧ o.ExactSet ∧ o.data = .set es ep t
  itg : ∀ e ∈ es.toList, ∃ k u, e = (hashInt k, Value.int k u)
  small : es.size < scanBound
  fit : t.fits es.size = true
  gd : Gd t L
def SetI (h : Heap) (a : Addr) (L : Bool) (ks : List Int) : Prop := ∃ es ep t, SetE h a L es ep t ∧ (es.toList.map fun e => ival e.2).Perm ks
theorem SetE.at {h h' : Heap} {a : Addr} {L : Bool} {es : Array (Int × Value)} {ep : Nat} {t : SetTable} (x : SetE h a L es ep t) (k : ∀ o, h.get? a = some o → h'.get? a = some o) : SetE h' a L es ep t :=
  ⟨let ⟨o, e, r⟩ := x.obj; ⟨o, k o e, r⟩, x.itg, x.small, x.fit, x.gd⟩
theorem SetI.at {h h' : Heap} {a : Addr} {L : Bool} {ks : List Int} (x : SetI h a L ks) (k : ∀ o, h.get? a = some o → h'.get? a = some o) : SetI h' a L ks :=
  let ⟨es, ep, t, e, p⟩ := x; ⟨es, ep, t, e.at k, p⟩
section
variable {prog : Program} {w : World} {A : Around} {E : Value → Shared → Prop} {s : Shared}
end
end PS
namespace PS
open PySem PySem.Spec PyProof.Rows
section
variable {prog : Program} {w : World} {A : Around} {E : Value → Shared → Prop} {s : Shared}
end
end PS
namespace PS
open PySem PySem.Spec PyProof.Rows
def IsSI (h : Heap) (I S : Addr) (first : Value) (i n ep : Nat) : Prop := ∃ o, h.get? I = some o ∧ o.cls = .type "set_iterator" ∧ o.data = .fields #[first, .int i 0, .ref S, .int n 0, .int ep 0]
theorem IsSI.at {h h' : Heap} {I S : Addr} {first : Value} {i n ep : Nat} (x : IsSI h I S first i n ep) (k : ∀ o, h.get? I = some o → h'.get? I = some o) : IsSI h' I S first i n ep := let ⟨o, e, r⟩ := x; ⟨o, k o e, r⟩
section
variable {prog : Program} {w : World} {A : Around} {E : Value → Shared → Prop} {s : Shared}
end
end PS
namespace PS
open PySem PySem.Spec PyProof.Rows
section
variable {prog : Program} {w : World} {A : Around} {E : Value → Shared → Prop} {s : Shared} {I S : Addr} {L : Bool} {es : Array (Int × Value)} {ep : Nat} {t : SetTable} {i n : Nat}
end
end PS
namespace PS
open PySem PySem.Spec PyProof.Rows
section
variable {prog : Program} {w : World} {A : Around} {E : Value → Shared → Prop} {s : Shared} {I S T : Addr} {L : Bool} {es : Array (Int × Value)} {ep : Nat} {t : SetTable} {i n : Nat}
end
end PS
namespace PS
open PySem PySem.Spec PyProof.Rows
section
variable {prog : Program} {w : World} {A : Around} {E : Value → Shared → Prop} {s : Shared} {S : Addr} {es : Array (Int × Value)} {ep : Nat} {t : SetTable}
end
end PS
namespace PS
open PySem PySem.Spec PyProof.Rows
section
variable {prog : Program} {w : World} {A : Around} {E : Value → Shared → Prop} {s : Shared} {S : Addr} {es : Array (Int × Value)} {ep : Nat} {t : SetTable}
end
end PS
namespace L2
open PySem PySem.Spec PyProof.Rows
section
variable {X : Cx} {pins : List (Addr × Obj)} {σ : St} {H : Hp} {s s' : Shared}
def rSortSet (K : PySem.W.Frag) : List V → Hp → VK → Prop := fun xs H Q => ∃ (p : Addr) (ns : List Int), xs = [.ref p] ∧ SqL K H p (ns.map V.int) ∧ ns.length < 128 ∧
  ∀ q (us : List Int), H q = none → us.Pairwise (· < ·) → (∀ x, x ∈ us ↔ x ∈ ns) → Q (.ref q) (upd H q (.lst (us.map V.int)))
def rLenSet (K : PySem.W.Frag) : List V → Hp → VK → Prop := fun xs H Q => ∃ (p : Addr) (ns : List Int), xs = [.ref p] ∧ SqL K H p (ns.map V.int) ∧ ns.length < 128 ∧ ∀ us : List Int, us.Nodup → (∀ x, x ∈ us ↔ x ∈ ns) → Q (.int us.length) H
def rRemove : V → List V → Hp → VK → Prop := fun x vs H Q => ∃ (l : Addr) (ns : List Int) (y : Int), x = .ref l ∧ vs = [.int y] ∧ H l = some (.lst (ns.map V.int)) ∧ y ∈ ns ∧ Q .non (upd H l (.lst ((ns.erase y).map V.int)))
end
end L2
namespace L2
open PySem PySem.Spec PyProof.Rows
section
variable {X : Cx}
def rSortedLL (K : PySem.W.Frag) : List V → Hp → VK → Prop := fun xs H Q => ∃ (p : Addr) (rs : List Addr) (qss : List (List Int)), xs = [.ref p] ∧ SqL K H p (rs.map V.ref) ∧ Lists H rs qss ∧ rs.length < 64 ∧
  ∀ (q : Addr) (us : List Addr) (tss : List (List Int)), H q = none → us.Perm rs → Lists H us tss → tss.Perm qss → tss.Pairwise (fun a b => LC.lexLt b a = false) → Q (.ref q) (upd H q (.lst (us.map V.ref)))
def rGeL (K : PySem.W.Frag) : R2 := fun x y H Q => ∃ (p q : Addr) (ns ms : List Int), x = .ref p ∧ y = .ref q ∧ SqL K H p (ns.map V.int) ∧ SqL K H q (ms.map V.int) ∧ Q (.bl (!LC.lexLt ns ms)) H
def rEqLL (K : PySem.W.Frag) : R2 := fun x y H Q => ∃ (p q : Addr) (rs us : List Addr) (qss tss : List (List Int)), x = .ref p ∧ y = .ref q ∧ SqL K H p (rs.map V.ref) ∧ SqL K H q (us.map V.ref) ∧ Lists H rs qss ∧ Lists H us tss ∧ Q (.bl (decide (qss = tss))) H
end
end L2
namespace L2
open PySem PySem.Spec PyProof.Rows
theorem op_inLLK {X : Cx} {K : PySem.W.Frag} (e : X.K = K) (hu : X.A.units + 65 < cLine) : OpR X (compareOp .In) (rInLL K false) := by subst e; exact op_inLL hu
end L2
end
section
set_option maxHeartbeats 2000000
set_option maxRecDepth 100000
set_option linter.unusedVariables false
set_option linter.unusedSimpArgs false
namespace L2
open PySem PySem.Spec PyProof.Rows
structure CScX (X : Cx) (x0 : Str) (own fr : List Str) (ixs : List Nat) (scope : Scope) : Prop where
  kind : scope.kind = .function
  lay : ∀ n cl, cellsFrom n scope.names cl = (x0, n) :: cl
  push : ∀ h, pushCells h scope.names = h.push { cls := .type "cell", data := .cell none }
  one : scope.names.all (fun y => y.2 != .cell || y.1 == x0) = true
  xfree : scope.names.all (fun y => y.2 != .free || y.1 != x0) = true
  free : scope.names.all (fun y => y.2 != .free || X.env.kindOf y.1 == some .cell || X.env.kindOf y.1 == some .free) = true
  locs : scope.names.all (fun y => y.2 != .local || scope.names.lookup y.1 == some .local) = true
  frs : ixs.map (fun i => X.N[i]?) = fr.map some
  vis : fr.all (fun x => X.env.kindOf x == some .cell || X.env.kindOf x == some .free) = true
  nofr : fr.all (fun x => scope.names.lookup x != some .local && x != x0) = true
def cxD (X : Cx) (x0 : Str) (own fr : List Str) (scope : Scope) (fp : List Addr) (pins : List (Addr × Obj)) (s3 : Shared) (H3 : Hp) : Cx :=
  { X with N := own ++ fr, s₀ := s3, H₀ := H3, env := compEnvC scope ((x0, s3.heap.objs.size + 1) :: clOf scope X.env) s3.heap.objs.size X.env, outer := X.stack, stack := X.stack, ex := fp, fn := fun x => x == x0, pn := X.pn ++ pins, xe := fun _ _ => False }
section
variable {X : Cx} {x0 : Str} {own fr : List Str} {ixs : List Nat} {scope : Scope} {fp : List Addr} {pins : List (Addr × Obj)} {σ : St} {H : Hp} {s : Shared}
theorem CScX.cellIn (S : CScX X x0 own fr ixs scope) (ok : X.Ok) {x : Str} (h : (x, NameKind.free) ∈ scope.names) : ∃ c, X.env.cells.lookup x = some c := by
  have z := (List.all_eq_true.mp S.free) _ h
  simp only [bne_self_eq_false, Bool.false_or, Bool.or_eq_true, beq_iff_eq] at z
  exact ok.has x z
theorem CScX.hcl (S : CScX X x0 own fr ixs scope) (ok : X.Ok) : ∀ y ∈ scope.names, y.2 = .free → (X.env.cells.lookup y.1).isSome = true := fun ⟨x, k⟩ hy hk => by
  have hk : k = .free := hk
  subst hk
  obtain ⟨c, e⟩ := S.cellIn ok hy
  rw [e]; rfl
theorem CScX.look (S : CScX X x0 own fr ixs scope) (ok : X.Ok) {c0 : Addr} {x : Str} {c : Addr} (h : ((x0, c0) :: clOf scope X.env).lookup x = some c) : (x = x0 ∧ c = c0) ∨ (x ≠ x0 ∧ X.env.cells.lookup x = some c ∧ (x, NameKind.free) ∈ scope.names) := by
  rw [List.lookup_cons] at h
  by_cases e : x = x0
  · subst e
    simp only [beq_self_eq_true, if_true, Option.some.injEq] at h
    exact .inl ⟨rfl, h.symm⟩
  · have eb : (x == x0) = false := beq_eq_false_iff_ne.mpr e
    rw [eb] at h
    rcases mem_clFrom (PySem.mem_of_lookup h) with z | ⟨z1, z2⟩
    · simp at z
    · obtain ⟨d, e'⟩ := S.cellIn ok z1
      rw [e'] at z2
      exact .inr ⟨e, by rw [e', z2]; rfl, z1⟩
theorem CScX.mine (S : CScX X x0 own fr ixs scope) {c0 : Addr} : ((x0, c0) :: clOf scope X.env).lookup x0 = some c0 := by rw [List.lookup_cons]; simp
theorem CScX.other (S : CScX X x0 own fr ixs scope) {c0 : Addr} {x : Str} (h : (x, NameKind.free) ∈ scope.names) : ∃ c, ((x0, c0) :: clOf scope X.env).lookup x = some c := by
  obtain ⟨c, e⟩ := keys_clFrom (env := X.env) (acc := []) (.inl h)
  obtain ⟨d, e⟩ := lookup_of_key e
  rw [List.lookup_cons]
  cases x == x0 with
  | true => exact ⟨_, rfl⟩
  | false => exact ⟨d, e⟩
theorem CScX.seen (S : CScX X x0 own fr ixs scope) {x : Str} (h : (relabel scope X.env).names.lookup x = some .cell ∨ (relabel scope X.env).names.lookup x = some .free) : x = x0 ∨ (x, NameKind.free) ∈ scope.names := by
  rcases h with h | h
  · rcases relabel_mem h with z | ⟨z, _⟩
    · have q := (List.all_eq_true.mp S.one) _ z
      simp only [bne_self_eq_false, Bool.false_or, beq_iff_eq] at q
      exact .inl q
    · exact .inr z
  · rcases relabel_mem h with z | ⟨z, _⟩
    · exact .inr z
    · exact .inr z
theorem inv_compX {s4 : Shared} {m4 : Str → Option Value} (S : CScX X x0 own fr ixs scope) (I : Inv X pins σ H s) (hf : ∀ b ∈ fp, FpOk X pins H b) (hlt : ∀ b ∈ fp, b < s.heap.objs.size)
    (os : s4.os = s.os) (bare : AllBare s4.gens) (kept : ∀ b o, s.heap.get? b = some o → s4.heap.get? b = some o) (ns : s4.heap.Ns s.heap.objs.size m4) (cel : s4.heap.IsCell (s.heap.objs.size + 1) none) :
    Inv (cxD X x0 own fr scope fp pins s H) [] (stC own ixs σ) H s4 := by
  have C0 : H s.heap.objs.size = none := I.hok.fresh (Nat.le_refl _)
  have C1 : H (s.heap.objs.size + 1) = none := I.hok.fresh (Nat.le_succ _)
  have old : ∀ x c, X.env.cells.lookup x = some c → c < s.heap.objs.size := fun x c e => by
    obtain ⟨v, q⟩ := I.cell x c e
    exact q.lt
  refine ⟨⟨I.ok.mod, S.kind, I.ok.glob, I.ok.blt, Nat.le_refl _, fun x y c h1 h2 => ?_, fun x hx => ?_, fun x c h e => ?_, I.ok.hd, I.ok.frames, .inl rfl, fun b hb => ⟨Nat.ne_of_lt (hlt b hb), fun x c e z => ?_⟩, I.bs, Nat.le_trans I.ok.bsz I.sz, fun b o e hb => ?_, fun b hb hbs => ?_, I.stack, I.stkFree⟩,
    os, bare, Un.kept kept, ⟨m4, ns, fun i x v h1 h2 h3 => ?_⟩, fun x c e => ?_, C0, fun x c e => ?_, fun q hq => ?_, I.hok.kept kept, ?_⟩
  · rcases S.look I.ok h1 with ⟨a1, a2⟩ | ⟨a1, a2, _⟩
    · rcases S.look I.ok h2 with ⟨b1, _⟩ | ⟨_, b2, _⟩
      · rw [a1, b1]
      · have := old _ _ b2; rw [a2] at this; exact absurd (Nat.lt_trans (Nat.lt_succ_self _) this) (Nat.lt_irrefl _)
    · rcases S.look I.ok h2 with ⟨_, b2⟩ | ⟨_, b2, _⟩
      · have := old _ _ a2; rw [b2] at this; exact absurd (Nat.lt_trans (Nat.lt_succ_self _) this) (Nat.lt_irrefl _)
      · exact I.ok.inj x y c a2 b2
  · rcases S.seen hx with rfl | z
    · exact ⟨_, S.mine⟩
    · exact S.other z
  · have hx : x = x0 := by simpa [cxD] using h
    rcases S.look I.ok e with ⟨_, a2⟩ | ⟨a1, _⟩
    · rw [a2]; exact Nat.le_succ _
    · exact absurd hx a1
  · rcases S.look I.ok e with ⟨_, a2⟩ | ⟨_, a2, _⟩
    · have := hlt b hb
      rw [← z, a2] at this
      exact absurd (Nat.lt_trans (Nat.lt_succ_self _) this) (Nat.lt_irrefl _)
    · exact (hf b hb).2.2.2.2.1 x c a2 z
  · have f := (hf b hb).2.2.2.1
    rcases f with f | f
    · exact I.ok.noex b o e f
    · exact absurd (Nat.lt_of_lt_of_le (Heap.lt_size e) (Nat.le_trans I.ok.bsz f)) (Nat.lt_irrefl _)
  · rcases List.mem_cons.mp (I.stkSub b hbs) with z | z
    · exact (hf b hb).2.1 z
    · exact (hf b hb).2.2.1 z
  · have h1 : (own ++ fr)[i]? = some x := h1
    have h2 : (List.replicate own.length none ++ ixs.map fun i => (σ[i]?).join)[i]? = some (some v) := h2
    by_cases hi : i < own.length
    · rw [List.getElem?_append_left (by simpa using hi), List.getElem?_replicate, if_pos hi] at h2
      cases h2
    · rw [List.getElem?_append_right (by omega)] at h1
      rw [List.getElem?_append_right (by simpa using hi), List.length_replicate, List.getElem?_map] at h2
      have e3 := congrArg (fun l => l[i - own.length]?) S.frs
      simp only [List.getElem?_map, h1, Option.map_some] at e3
      cases e4 : ixs[i - own.length]? with
      | none => rw [e4] at h2; cases h2
      | some j =>
        rw [e4] at h2 e3
        simp only [Option.map_some, Option.some.injEq] at h2 e3
        have e5 : σ[j]? = some (some v) := by
          cases e6 : σ[j]? with
          | none => rw [e6] at h2; cases h2
          | some o => rw [e6] at h2; cases o with
            | none => cases h2
            | some v' => cases h2; rfl
        have vz := (List.all_eq_true.mp S.vis) x (List.mem_of_getElem? h1)
        simp only [Bool.or_eq_true, beq_iff_eq] at vz
        have vis : Vis X.env.scope x := by
          rcases vz with z | z
          · exact .inr (.inl z)
          · exact .inr (.inr z)
        obtain ⟨m, hn, hl⟩ := I.loc
        obtain ⟨u, r, lk⟩ := hl j x v e3 e5 vis
        refine ⟨u, r, ?_⟩
        rcases lk with ⟨k1, _⟩ | ⟨k1, c, e, z⟩
        · rcases vz with z | z
          · rw [z] at k1; cases k1
          · rw [z] at k1; cases k1
        · have nl := (List.all_eq_true.mp S.nofr) x (List.mem_of_getElem? h1)
          rw [Bool.and_eq_true] at nl
          have kk : (relabel scope X.env).names.lookup x = some .cell ∨ (relabel scope X.env).names.lookup x = some .free := by
            rcases h3 with z | z | z
            · exfalso
              have z : (relabel scope X.env).names.lookup x = some .local := z
              rcases relabel_mem z with y | ⟨_, y⟩
              · have q := (List.all_eq_true.mp S.locs) _ y
                simp only [bne_self_eq_false, Bool.false_or, beq_iff_eq] at q
                have n1 := nl.1
                rw [q] at n1
                simp at n1
              · cases y
            · exact .inl z
            · exact .inr z
          have nx : x ≠ x0 := by simpa using nl.2
          have fm : (x, NameKind.free) ∈ scope.names := (S.seen kk).resolve_left nx
          obtain ⟨c', e'⟩ := S.other (c0 := s.heap.objs.size + 1) fm
          rcases S.look I.ok e' with ⟨a1, _⟩ | ⟨_, ec, _⟩
          · exact absurd a1 nx
          · rw [e] at ec
            cases ec
            obtain ⟨oc, ho, hd⟩ := z
            exact .inr ⟨kk, c, e', ⟨oc, kept c oc ho, hd⟩⟩
  · rcases S.look I.ok e with ⟨_, a2⟩ | ⟨_, a2, _⟩
    · exact ⟨none, a2 ▸ cel⟩
    · obtain ⟨v, oc, ho, hd⟩ := I.cell x c a2
      exact ⟨v, oc, kept c oc ho, hd⟩
  · rcases S.look I.ok e with ⟨_, a2⟩ | ⟨_, a2, _⟩
    · rw [a2]; exact C1
    · exact I.freeC x c a2
  · have hq : q ∈ X.pn ++ pins := by simpa [cxD] using hq
    obtain ⟨a1, a2, a3, a4, a5⟩ := I.pin q hq
    refine ⟨kept _ _ a1, a2, Nat.ne_of_lt (Heap.lt_size a1), fun z => ?_, a5⟩
    rcases List.mem_cons.mp (I.stkSub _ z) with y | y
    · exact a3 y
    · exact a4 y
  · show (List.replicate own.length none ++ ixs.map fun i => (σ[i]?).join).length = (own ++ fr).length
    have e := congrArg List.length S.frs
    simp only [List.length_map] at e
    simp [e]
theorem Inv.blockX {H' : Hp} {s5 : Shared} {σ' : St} {pins' : List (Addr × Obj)} (I : Inv X pins σ H s) (hf : ∀ b ∈ fp, FpOk X pins H b) (J : Inv (cxD X x0 own fr scope fp pins s H) pins' σ' H' s5) : Inv X pins σ H' s5 :=
  I.call' (ch := fp) J.os J.base J.hok J.bare fun b hb => ⟨(hf b hb).2.2.2.1, (hf b hb).2.1, (hf b hb).2.2.2.2.1, (hf b hb).2.2.2.2.2⟩
structure CBlX (X : Cx) (x0 : Str) (own fr : List Str) (scope : Scope) (tg elt : Expr) (ifs : List Expr) (g : TG) (tc : TT) (te : TE) : Prop where
  tg : ∀ fp pins s3 H3, PG (cxD X x0 own fr scope fp pins s3 H3) tg g
  ts : ∀ fp pins s3 H3, PTs (cxD X x0 own fr scope fp pins s3 H3) ifs tc
  el : ∀ fp pins s3 H3, PE (cxD X x0 own fr scope fp pins s3 H3) elt te
theorem new_envX {E : Value → Shared → Prop} {cl : List (Str × Addr)} {G : Addr} {ql : Str} {Q : Env → Shared → Prop} (S : CScX X x0 own fr ixs scope)
    (q : Q (newEnv scope s.heap.objs.size G ((x0, s.heap.objs.size + 1) :: cl) ql none .none (some X.env) builtinsNs) { s with heap := (s.heap.push { cls := .type "dict", data := .dict #[] }).push { cls := .type "cell", data := .cell none } }) :
    wpAny (model X.prog X.w) X.A (newFunctionEnv scope G cl [] ql none .none (some X.env)) Q E s := by
  simp only [newFunctionEnv, Option.isSome_some, if_true]
  refine wpAny_bind (wpAny_alloc (wpAny_bind (wpAny_layCells _ (fun name kind cells => by cases hkc : kind == NameKind.cell <;> simp [hkc]) _ _ _ _ ?_)))
  rw [S.lay, S.push]
  rw [List.forIn_nil]
  refine wpAny_bind (wpAny_pure (wpAny_pure ?_))
  have e : (s.heap.push { cls := .type "dict", data := .dict #[] }).objs.size = s.heap.objs.size + 1 := Heap.size_push ..
  dsimp only
  rw [e]
  exact q
theorem comp_blockX {tg elt iter : Expr} {ifs : List Expr} {pos : Pos} {g : TG} {tc : TT} {te : TE} {it : Addr} {tn : Nat → Heap → Prop} {J : It} {Q : VK} {E : Value → Shared → Prop} {RR : Value → Addr → Result → Shared → Prop} (hc : X.calm = true) (S : CScX X x0 own fr ixs scope)
    (B : CBlX X x0 own fr scope tg elt ifs g tc te) (I : Inv X pins σ H s) (T : Turn X.prog X.w X.K tg J fp it tn) (st : tn 0 s.heap) (f : ∀ b ∈ fp, FpOk X pins H b)
    (h : ∀ D, H D = none → ∃ W : Nat → Nat → St → Hp → Prop, (∃ m, W 0 m (stC own ixs σ) (upd H D (.lst []))) ∧ CTurn J g tc te D W Q)
    (hRR : ∀ (D C : Addr) (s5 : Shared) (H5 : Hp) (m : Str → Option Value), Inv X pins σ H5 s5 → Q (.ref D) H5 → s5.heap.Ns C m → H5 C = none → C ≠ X.env.locals → X.s₀.heap.objs.size ≤ C → (∀ x c, X.env.cells.lookup x = some c → c ≠ C) → (∀ p ∈ X.pn ++ pins, p.1 ≠ C) → RR (.ref D) C (.ok .next) s5) :
    wpAny (model X.prog X.w) X.A (newList []) (fun acc s₃ => wpAny (model X.prog X.w) X.A (newFunctionEnv scope X.env.globals (clOf scope X.env) [] X.env.qual none .none (some X.env)) (fun cenv s₄ =>
      codeAny (model X.prog X.w) X.A (.compStart (.ListComp elt [⟨tg, iter, ifs, 0⟩] scope pos) 0 (.ref it) acc { cenv with scope := relabel scope X.env }) (RR acc cenv.locals) s₄) E s₃) E s := by
  obtain ⟨W, ⟨m0, w0⟩, turn⟩ := h s.heap.objs.size I.fresh
  have I3 : Inv X pins σ (upd H s.heap.objs.size (.lst [])) { s with heap := s.heap.push { cls := .type "list", data := .seq ([] : List Value).toArray } } := I.lnew (its := []) (ys := []) (t' := s.toks) .nil (Nat.zero_le _)
  have lt0 : ∀ b ∈ fp, b < s.heap.objs.size := fun b hb => by
    obtain ⟨o, e, _⟩ := T.obj _ _ st b hb
    exact Heap.lt_size e
  have f3 : ∀ b ∈ fp, FpOk X pins (upd H s.heap.objs.size (.lst [])) b := fun b hb => ⟨by rw [upd_ne (Nat.ne_of_lt (lt0 b hb))]; exact (f b hb).1, (f b hb).2⟩
  refine wpAny_newObj_type (new_envX S ?_)
  generalize hs3 : ({ s with heap := s.heap.push { cls := .type "list", data := .seq ([] : List Value).toArray } } : Shared) = s3 at I3 ⊢
  have z3 : s.heap.objs.size < s3.heap.objs.size := by rw [← hs3]; show _ < (s.heap.push _).objs.size; rw [Heap.size_push]; exact Nat.lt_succ_self _
  have d1 : (s3.heap.push { cls := .type "dict", data := .dict #[] }).objs.size = s3.heap.objs.size + 1 := Heap.size_push ..
  have kept : ∀ b o, s3.heap.get? b = some o → ((s3.heap.push { cls := .type "dict", data := .dict #[] }).push { cls := .type "cell", data := .cell none }).get? b = some o := fun b o e => Heap.get?_push_of_some _ (Heap.get?_push_of_some _ e)
  have ns1 : ((s3.heap.push { cls := .type "dict", data := .dict #[] }).push { cls := .type "cell", data := .cell none }).Ns s3.heap.objs.size fun _ => none := (Heap.Ns.new _ _).at' fun o e => Heap.get?_push_of_some _ e
  have cel : ((s3.heap.push { cls := .type "dict", data := .dict #[] }).push { cls := .type "cell", data := .cell none }).IsCell (s3.heap.objs.size + 1) none := ⟨_, by rw [← d1]; exact Heap.get?_push_size _ rfl, rfl⟩
  generalize (s3.heap.push { cls := .type "dict", data := .dict #[] }).push { cls := .type "cell", data := .cell none } = h₁ at kept ns1 cel ⊢
  have lt3 : ∀ b ∈ fp, b < s3.heap.objs.size := fun b hb => Nat.lt_trans (lt0 b hb) z3
  have st1 : tn 0 h₁ := T.keep _ _ _ st fun b hb o e => kept b o (by rw [← hs3]; exact Heap.get?_push_of_some _ e)
  have I4 : Inv (cxD X x0 own fr scope fp pins s3 (upd H s.heap.objs.size (.lst []))) [] (stC own ixs σ) (upd H s.heap.objs.size (.lst [])) { s3 with heap := h₁ } :=
    inv_compX S I3 f3 lt3 rfl I3.bare kept ns1 cel
  have fY : ∀ b ∈ fp, FpOk (cxD X x0 own fr scope fp pins s3 (upd H s.heap.objs.size (.lst []))) [] (upd H s.heap.objs.size (.lst [])) b := fun b hb => by
    obtain ⟨a1, a2, a3, a4, a5, a6⟩ := f3 b hb
    refine ⟨a1, Nat.ne_of_lt (lt3 b hb), fun z => ?_, .inl hb, fun x c e z => ?_, fun p hp => a6 p (by simpa [cxD] using hp)⟩
    · rcases List.mem_cons.mp (I.stkSub b z) with y | y
      · exact a2 y
      · exact a3 y
    · rcases S.look I.ok e with ⟨_, b2⟩ | ⟨_, b2, _⟩
      · have := lt3 b hb
        rw [← z, b2] at this
        exact absurd (Nat.lt_trans (Nat.lt_succ_self _) this) (Nat.lt_irrefl _)
      · exact a5 x c b2 z
  have loop : codeAny (model X.prog X.w) X.A (.compLoop (.ListComp elt [⟨tg, iter, ifs, 0⟩] scope pos) 0 (.ref it) (.ref s.heap.objs.size) (compEnvC scope ((x0, s3.heap.objs.size + 1) :: clOf scope X.env) s3.heap.objs.size X.env)) (RR (.ref s.heap.objs.size) s3.heap.objs.size) { s3 with heap := h₁ } := by
    refine comp_loop (Y := cxD X x0 own fr scope fp pins s3 (upd H s.heap.objs.size (.lst []))) hc rfl T (B.tg _ _ _ _) (B.ts _ _ _ _) (B.el _ _ _ _) I4 st1 fY w0 turn fun s5 σ5 H5 J5 q5 => ?_
    obtain ⟨m5, hn5, _⟩ := J5.loc
    refine hRR _ _ s5 H5 m5 (Inv.blockX I3 f3 J5) q5 hn5 J5.free (Nat.ne_of_gt I3.lt) I3.sz (fun x c e z => ?_) fun p hp z => ?_
    · obtain ⟨v, q⟩ := I3.cell x c e
      exact absurd q.lt (by rw [z]; exact Nat.lt_irrefl _)
    · exact absurd (Heap.lt_size (I3.pin p hp).1) (by rw [z]; exact Nat.lt_irrefl _)
  exact codeAny_compStart_list loop (T.self X.A 0 _ _ _ st1 loop)
theorem pe_compX {tg elt iter : Expr} {ifs : List Expr} {pos : Pos} {wi : TI} {g : TG} {tc : TT} {te : TE} (hc : X.calm = true) (S : CScX X x0 own fr ixs scope) (B : CBlX X x0 own fr scope tg elt ifs g tc te) (hi : PI X tg iter wi) (hs : ∀ x, foldedSetIterable iter X.env x = pure x := by intro _; rfl) :
    PE X (.ListComp elt [⟨tg, iter, ifs, 0⟩] scope pos) (tComp own ixs wi g tc te) := by
  intro pins s σ H Q I h
  have hl : ∀ x ∈ scope.names, x.2 = .local → scope.names.lookup x.1 = some .local := fun y hy z => by
    have q := (List.all_eq_true.mp S.locs) y hy
    rw [z] at q; simpa using q
  rw [eval_ListComp]
  refine wpAny_comprehension_free (use := none) rfl hs (closure_eq (S.hcl I.ok)) S.kind hl (thn (hi pins s σ H _ I h) fun v s1 h1 => thn h1 fun itv s2 h2 => ?_)
  obtain ⟨it, fp, tn, J, H2, e, I2, T, st2, f2, q⟩ := h2
  subst e
  refine comp_blockX (RR := fun acc C => compPost (model X.prog X.w) X.A X.xe none (EP X pins σ Q) acc C) hc S B I2 T st2 f2 q ?_
  intro D C s5 H5 m J5 q5 hn n1 n2 n3 n4 n5
  exact ⟨m, hn, fun h' hs' => ⟨.ref D, H5, J5.turned (t' := s5.toks) (it := C) (fun b o hb e => hs'.extBut b o hb e) n1 n2 (.inr n3) n4 n5, rfl, q5⟩⟩
end
end L2
end
section
set_option maxHeartbeats 2000000
set_option maxRecDepth 100000
set_option linter.unusedVariables false
set_option linter.unusedSimpArgs false
namespace L2
def wayF (k : Int) : Nat → List Int → List Int
  | 0, q => q
  | f + 1, q => if marksB (aboveL k q) then q else wayF k f (turn q)
theorem wayF_round {k : Int} {q : List Int} (h : marksB (aboveL k q) = true) (f : Nat) : wayF k f q = q := by
  cases f with
  | zero => rfl
  | succ f => show (if _ then _ else _) = _; rw [if_pos h]
theorem wayF_step {k : Int} {q : List Int} (h : marksB (aboveL k q) = false) (f : Nat) : wayF k (f + 1) q = wayF k f (turn q) := by
  show (if _ then _ else _) = _; rw [if_neg (by rw [h]; decide)]
theorem it_turn (j : Nat) (q : List Int) : it j (turn q) = it (j + 1) q := by
  induction j with
  | zero => rfl
  | succ j ih => show turn (it j (turn q)) = _; rw [ih]; rfl
theorem wayF_it {k : Int} : ∀ {f : Nat} {q : List Int}, marksB (aboveL k (wayF k f q)) = true → ∃ v, v ≤ f ∧ wayF k f q = it v q ∧ ∀ j, j < v → marksB (aboveL k (it j q)) = false
  | 0, q, h => ⟨0, Nat.le_refl _, rfl, fun j hj => by omega⟩
  | f + 1, q, h => by
    cases c : marksB (aboveL k q) with
    | true => exact ⟨0, Nat.zero_le _, by rw [wayF_round c]; rfl, fun j hj => by omega⟩
    | false =>
      rw [wayF_step c] at h ⊢
      obtain ⟨v, hv, e, no⟩ := wayF_it h
      refine ⟨v + 1, by omega, by rw [e, it_turn], fun j hj => ?_⟩
      cases j with
      | zero => exact c
      | succ j => rw [← it_turn]; exact no j (by omega)
def stN (n : Nat) : Nat := if n ≤ 1 then 1 else if n ≤ 3 then 2 else if n ≤ 6 then 3 else if n ≤ 10 then 4 else if n ≤ 15 then 5 else 6
def reN (n : Nat) : Nat := n - stN n * (stN n - 1) / 2
def rgL (ms : List Int) : List (List Int) := ((List.range ms.length).map fun t => it t (byMarks ms)).foldl rgStep []
def rsN (n : Nat) : List (List (List Int)) := (leads (stN n) (reN n)).map rgL
def fsN (n : Nat) (q : List Int) : List Int := wayF (stN n) 40 q
def okA (n : Nat) : Bool := (dn 19 n n).all fun q => marksB (aboveL (stN n) (fsN n q)) && (rsN n).any fun R => decide (fsN n q ∈ R)
def okB (n : Nat) : Bool := (List.range (rsN n).length).all fun j => ((rsN n).getD j []).all fun t => decide (t ∈ dn 19 n n) && marksB (aboveL (stN n) t) && decide (turn t ∈ (rsN n).getD j []) && (List.range (rsN n).length).all fun i => Nat.beq i j || !decide (t ∈ (rsN n).getD i [])
theorem ok_A : ((List.range 18).all fun i => okA (i + 1)) = true := by decide +kernel
theorem ok_B : ((List.range 18).all fun i => okB (i + 1)) = true := by decide +kernel
end L2
end
section
set_option maxHeartbeats 2000000
set_option maxRecDepth 100000
set_option linter.unusedVariables false
set_option linter.unusedSimpArgs false
namespace L2
open PySem PySem.Spec PyProof.Rows
section
variable {X : Cx}
def rSorted64 (K : PySem.W.Frag) : List V → Hp → VK → Prop := fun xs H Q => ∃ (p : Addr) (ns : List Int), xs = [.ref p] ∧ SqL K H p (ns.map V.int) ∧ ns.length < 64 ∧
  ∀ q (ms : List Int), H q = none → ms.Perm ns → ms.Pairwise (· ≤ ·) → Q (.ref q) (upd H q (.lst (ms.map V.int)))
def rSortedR64 (K : PySem.W.Frag) : List V → Hp → VK → Prop := fun xs H Q => ∃ (p : Addr) (ns : List Int), xs = [.ref p] ∧ SqL K H p (ns.map V.int) ∧ ns.length < 64 ∧
  ∀ q (ms : List Int), H q = none → ms.Perm ns → ms.Pairwise (· ≥ ·) → Q (.ref q) (upd H q (.lst (ms.map V.int)))
end
theorem mem_dn {n : Nat} (h : n ≤ 18) {q : List Int} : q ∈ dn 19 n n ↔ Setting n q := by rw [dn_all, mem_all goes_down 19 n n q (by omega)]; exact Sm.setting
theorem stair_all : ∀ i : Fin 18, (1 : Int) ≤ stN (i.val + 1) ∧ ((stN (i.val + 1) : Int) - 1) * stN (i.val + 1) < 2 * ((i.val + 1 : Nat) : Int) ∧ 2 * ((i.val + 1 : Nat) : Int) ≤ (stN (i.val + 1) : Int) * ((stN (i.val + 1) : Int) + 1) ∧ ((i.val + 1 : Nat) : Int) - (stN (i.val + 1) : Int) * ((stN (i.val + 1) : Int) - 1) / 2 = reN (i.val + 1) ∧ stN (i.val + 1) ≤ 6 ∧ 1 ≤ reN (i.val + 1) := by decide +kernel
section
variable {n : Nat} (h0 : 1 ≤ n) (h1 : n ≤ 18)
include h0 h1
theorem stN_is : IsStair n (stN n) ∧ (n : Int) - (stN n : Int) * ((stN n : Int) - 1) / 2 = reN n ∧ stN n ≤ 6 ∧ 1 ≤ reN n := by
  have z := stair_all ⟨n - 1, by omega⟩
  simp only [show n - 1 + 1 = n by omega] at z
  exact ⟨⟨z.1, z.2.1, z.2.2.1⟩, z.2.2.2⟩
theorem okA_at {q : List Int} (st : Setting n q) : marksB (aboveL (stN n) (fsN n q)) = true ∧ ∃ R ∈ rsN n, fsN n q ∈ R := by
  have z := List.all_eq_true.mp ok_A (n - 1) (List.mem_range.mpr (by omega))
  rw [show n - 1 + 1 = n by omega] at z
  have y := List.all_eq_true.mp z q ((mem_dn h1).mpr st)
  rw [Bool.and_eq_true, List.any_eq_true] at y
  obtain ⟨a, R, hR, b⟩ := y
  exact ⟨a, R, hR, of_decide_eq_true b⟩
theorem okB_at {j : Nat} (hj : j < (rsN n).length) {t : List Int} (ht : t ∈ (rsN n)[j]) : Setting n t ∧ marksB (aboveL (stN n) t) = true ∧ turn t ∈ (rsN n)[j] ∧ ∀ i (hi : i < (rsN n).length), t ∈ (rsN n)[i] → i = j := by
  have gd : ∀ i (hi : i < (rsN n).length), (rsN n).getD i [] = (rsN n)[i] := fun i hi => by rw [List.getD_eq_getElem?_getD, List.getElem?_eq_getElem hi]; rfl
  have z := List.all_eq_true.mp ok_B (n - 1) (List.mem_range.mpr (by omega))
  rw [show n - 1 + 1 = n by omega] at z
  have y := List.all_eq_true.mp z j (List.mem_range.mpr hj)
  rw [gd j hj] at y
  have x := List.all_eq_true.mp y t ht
  rw [Bool.and_eq_true, Bool.and_eq_true, Bool.and_eq_true] at x
  obtain ⟨⟨⟨a, b⟩, c⟩, d⟩ := x
  refine ⟨(mem_dn h1).mp (of_decide_eq_true a), b, of_decide_eq_true c, fun i hi hti => ?_⟩
  have v := List.all_eq_true.mp d i (List.mem_range.mpr hi)
  rw [gd i hi, Bool.or_eq_true] at v
  rcases v with v | v
  · exact Nat.eq_of_beq_eq_true v
  · rw [decide_eq_true hti] at v; cases v
theorem fs_come {q : List Int} (st : Setting n q) : ∃ v d : Nat, v ≤ 40 ∧ d ≤ 6 ∧ Comes (stN n) q v d ∧ fsN n q = it v q := by
  obtain ⟨hk, _, k6, _⟩ := stN_is h0 h1
  have py := (okA_at h0 h1 st).1
  obtain ⟨v, hv, e, no⟩ := wayF_it py
  have e : fsN n q = it v q := e
  rw [e] at py
  have sv := st.it (by omega) v
  obtain ⟨m1, m2, m3⟩ := marks_round sv hk py
  have all := m1.rots (by omega)
  have back : it (aboveL (stN n) (it v q)).length (it v q) = it v q := by
    have := (all (aboveL (stN n) (it v q)).length).2.1
    rw [rots_all, m2] at this; exact this
  obtain ⟨d, dk, rg⟩ := Ring.of m1.ne back
  refine ⟨v, d, hv, by omega, ⟨no, fun j hj => ?_, rg⟩, e⟩
  obtain ⟨a1, a2, a3⟩ := all (j - v)
  rw [m2, ← it_add, show v + (j - v) = j by omega] at a2
  rw [a2]
  have a4 := above_marks a1.bit (fun z => by have := a1.ne; rw [z] at this; simp at this)
  rw [a3, m3] at a4
  rw [a4]
  exact List.all_eq_true.mpr fun x hx => decide_eq_true (a1.bit x hx)
end
def irN (n : Nat) (q : List Int) : Nat := (rsN n).findIdx fun R => decide (fsN n q ∈ R)
section
variable {n : Nat} (h0 : 1 ≤ n) (h1 : n ≤ 18)
include h0 h1
theorem ix_lt {q : List Int} (st : Setting n q) : irN n q < (rsN n).length := by
  obtain ⟨_, R, hR, hq⟩ := okA_at h0 h1 st
  exact List.findIdx_lt_length_of_exists ⟨R, hR, decide_eq_true hq⟩
theorem ix_in {q : List Int} (st : Setting n q) : fsN n q ∈ (rsN n)[irN n q]'(ix_lt h0 h1 st) :=
  of_decide_eq_true (List.findIdx_getElem (w := ix_lt h0 h1 st))
theorem fs_iff {q : List Int} (st : Setting n q) {j : Nat} (hj : j < (rsN n).length) : fsN n q ∈ (rsN n)[j] ↔ irN n q = j := by
  constructor
  · intro h; exact (okB_at h0 h1 hj h).2.2.2 _ _ (ix_in h0 h1 st)
  · rintro rfl; exact ix_in h0 h1 st
end
def cnN (n j : Nat) : Nat := ((dn 19 n n).filter fun q => decide (irN n q = j)).length
section
variable {n : Nat} (h0 : 1 ≤ n) (h1 : n ≤ 18)
include h0 h1
theorem cn_eq {j : Nat} (hj : j < (rsN n).length) : ((dn 19 n n).filter fun q => decide (fsN n q ∈ (rsN n)[j])).length = cnN n j := by
  unfold cnN
  congr 1
  exact List.filter_congr fun q hq => decide_eq_decide.mpr (fs_iff h0 h1 ((mem_dn h1).mp hq) hj)
end
theorem len_all : ((List.range 18).all fun i => Nat.ble (dn 19 (i + 1) (i + 1)).length 385 && Nat.ble (rsN (i + 1)).length 20 && (rsN (i + 1)).all fun R => Nat.ble R.length 6) = true := by decide +kernel
theorem len_few {n : Nat} (h0 : 1 ≤ n) (h1 : n ≤ 18) : (dn 19 n n).length ≤ 385 ∧ (rsN n).length ≤ 20 ∧ ∀ R ∈ rsN n, R.length ≤ 6 := by
  have z := List.all_eq_true.mp len_all (n - 1) (List.mem_range.mpr (by omega))
  rw [show n - 1 + 1 = n by omega, Bool.and_eq_true, Bool.and_eq_true] at z
  exact ⟨Nat.le_of_ble_eq_true z.1.1, Nat.le_of_ble_eq_true z.1.2, fun R hR => Nat.le_of_ble_eq_true (List.all_eq_true.mp z.2 R hR)⟩
end L2
end
set_option maxHeartbeats 4000000
set_option linter.unusedVariables false
set_option maxRecDepth 100000
set_option linter.unusedSimpArgs false
namespace My
open PySem L2
def top (i : Nat) : Stmt := PySem.Challenge.pw_pilewheel_k17_numbers_out_of_bounds.main.body.getD i (.Pass ⟨0, 0, 0, 0⟩)
abbrev s_is_setting : Stmt := top 9
theorem sc_is_setting : FnScope ["piles"] ["piles"] (defScope s_is_setting) := ⟨rfl, rfl, rfl, by decide +kernel, rfl, by decide +kernel, by decide +kernel⟩
abbrev s_check_setting : Stmt := top 10
theorem sc_check_setting : FnScope ["piles"] ["piles"] (defScope s_check_setting) := ⟨rfl, rfl, rfl, by decide +kernel, rfl, by decide +kernel, by decide +kernel⟩
abbrev s_turned : Stmt := top 11
theorem sc_turned : FnScope ["piles", "left"] ["piles"] (defScope s_turned) := ⟨rfl, rfl, rfl, by decide +kernel, rfl, by decide +kernel, by decide +kernel⟩
abbrev s_after : Stmt := top 12
theorem sc_after : FnScope ["piles", "turns", "trail", "start"] ["piles", "turns"] (defScope s_after) := ⟨rfl, rfl, rfl, by decide +kernel, rfl, by decide +kernel, by decide +kernel⟩
abbrev s_check_turns : Stmt := top 13
theorem sc_check_turns : FnScope ["turns"] ["turns"] (defScope s_check_turns) := ⟨rfl, rfl, rfl, by decide +kernel, rfl, by decide +kernel, by decide +kernel⟩
abbrev s_trail_of : Stmt := top 14
theorem sc_trail_of : FnScope ["piles", "seen", "trail", "setting"] ["piles"] (defScope s_trail_of) := ⟨rfl, rfl, rfl, by decide +kernel, rfl, by decide +kernel, by decide +kernel⟩
abbrev s_stair_of : Stmt := top 16
theorem sc_stair_of : FnScope ["coins", "stair"] ["coins"] (defScope s_stair_of) := ⟨rfl, rfl, rfl, by decide +kernel, rfl, by decide +kernel, by decide +kernel⟩
abbrev s_above_stair : Stmt := top 17
theorem sc_above_stair : FnScope ["piles", "stair", "filled"] ["piles"] (defScope s_above_stair) := ⟨rfl, rfl, rfl, by decide +kernel, rfl, by decide +kernel, by decide +kernel⟩
abbrev s_all_marks : Stmt := top 18
theorem sc_all_marks : FnScope ["numbers"] ["numbers"] (defScope s_all_marks) := ⟨rfl, rfl, rfl, by decide +kernel, rfl, by decide +kernel, by decide +kernel⟩
abbrev s_is_round : Stmt := top 19
theorem sc_is_round : FnScope ["piles"] ["piles"] (defScope s_is_round) := ⟨rfl, rfl, rfl, by decide +kernel, rfl, by decide +kernel, by decide +kernel⟩
abbrev s_setting_of : Stmt := top 20
theorem sc_setting_of : FnScope ["marks"] ["marks"] (defScope s_setting_of) := ⟨rfl, rfl, rfl, by decide +kernel, rfl, by decide +kernel, by decide +kernel⟩
abbrev s_piles_from : Stmt := top 21
theorem sc_piles_from : FnScope ["marks", "heights"] ["marks"] (defScope s_piles_from) := ⟨rfl, rfl, rfl, by decide +kernel, rfl, by decide +kernel, by decide +kernel⟩
abbrev s_way_of : Stmt := top 22
theorem sc_way_of : FnScope ["piles", "way", "setting"] ["piles"] (defScope s_way_of) := ⟨rfl, rfl, rfl, by decide +kernel, rfl, by decide +kernel, by decide +kernel⟩
abbrev s_ring_of : Stmt := top 23
theorem sc_ring_of : FnScope ["piles", "first", "ring", "setting"] ["piles"] (defScope s_ring_of) := ⟨rfl, rfl, rfl, by decide +kernel, rfl, by decide +kernel, by decide +kernel⟩
abbrev s_check_coins : Stmt := top 28
theorem sc_check_coins : FnScope ["coins", "most"] ["coins", "most"] (defScope s_check_coins) := ⟨rfl, rfl, rfl, by decide +kernel, rfl, by decide +kernel, by decide +kernel⟩
abbrev s_settings_of : Stmt := top 29
theorem sc_settings_of : FnScope ["coins"] ["coins"] (defScope s_settings_of) := ⟨rfl, rfl, rfl, by decide +kernel, rfl, by decide +kernel, by decide +kernel⟩
abbrev s_piles_down : Stmt := top 30
theorem sc_piles_down : FnScope ["coins", "most", "found", "pile"] ["coins", "most"] (defScope s_piles_down) := ⟨rfl, rfl, rfl, by decide +kernel, rfl, by decide +kernel, by decide +kernel⟩
abbrev s_rest_of : Stmt := top 31
theorem sc_rest_of : FnScope ["coins", "stair"] ["coins"] (defScope s_rest_of) := ⟨rfl, rfl, rfl, by decide +kernel, rfl, by decide +kernel, by decide +kernel⟩
abbrev s_rings_of : Stmt := top 32
theorem sc_rings_of : FnScope ["coins", "every"] ["coins"] (defScope s_rings_of) := ⟨rfl, rfl, rfl, by decide +kernel, rfl, by decide +kernel, by decide +kernel⟩
abbrev s_marks_down : Stmt := top 33
theorem sc_marks_down : FnScope ["many", "ones", "with_one"] ["many", "ones"] (defScope s_marks_down) := ⟨rfl, rfl, rfl, by decide +kernel, rfl, by decide +kernel, by decide +kernel⟩
abbrev s_leads_its_ring : Stmt := top 34
theorem sc_leads_its_ring : FnScope ["marks"] ["marks"] (defScope s_leads_its_ring) := ⟨rfl, rfl, rfl, by decide +kernel, rfl, by decide +kernel, by decide +kernel⟩
abbrev s_rings_many : Stmt := top 35
theorem sc_rings_many : FnScope ["coins", "stair", "rest"] ["coins"] (defScope s_rings_many) := ⟨rfl, rfl, rfl, by decide +kernel, rfl, by decide +kernel, by decide +kernel⟩
abbrev s_many_again : Stmt := top 36
theorem sc_many_again : FnScope ["stair", "rest", "turns", "part", "parts"] ["stair", "rest", "turns"] (defScope s_many_again) := ⟨rfl, rfl, rfl, by decide +kernel, rfl, by decide +kernel, by decide +kernel⟩
abbrev s_greatest_part : Stmt := top 37
theorem sc_greatest_part : FnScope ["stair", "turns"] ["stair", "turns"] (defScope s_greatest_part) := ⟨rfl, rfl, rfl, by decide +kernel, rfl, by decide +kernel, by decide +kernel⟩
abbrev s_many_choices : Stmt := top 38
theorem sc_many_choices : FnScope ["places", "ones", "choices", "taken"] ["places", "ones"] (defScope s_many_choices) := ⟨rfl, rfl, rfl, by decide +kernel, rfl, by decide +kernel, by decide +kernel⟩
abbrev s_drawn_in : Stmt := top 39
theorem sc_drawn_in : FnScope ["coins", "reached"] ["coins"] (defScope s_drawn_in) := ⟨rfl, rfl, rfl, by decide +kernel, rfl, by decide +kernel, by decide +kernel⟩
abbrev s__law_cell : Stmt := top 41
theorem sc__law_cell : FnScope ["script", "k", "base"] ["script", "k"] (defScope s__law_cell) := ⟨rfl, rfl, rfl, by decide +kernel, rfl, by decide +kernel, by decide +kernel⟩
abbrev s__law_next : Stmt := top 42
theorem sc__law_next : FnScope ["step"] ["step"] (defScope s__law_next) := ⟨rfl, rfl, rfl, by decide +kernel, rfl, by decide +kernel, by decide +kernel⟩
abbrev s__law_fallen : Stmt := top 43
theorem sc__law_fallen : FnScope ["piles"] ["piles"] (defScope s__law_fallen) := ⟨rfl, rfl, rfl, by decide +kernel, rfl, by decide +kernel, by decide +kernel⟩
abbrev s__law_stair : Stmt := top 45
theorem sc__law_stair : FnScope ["coins", "stair"] ["coins"] (defScope s__law_stair) := ⟨rfl, rfl, rfl, by decide +kernel, rfl, by decide +kernel, by decide +kernel⟩
abbrev s__law_by_marks : Stmt := top 46
theorem sc__law_by_marks : FnScope ["marks", "piles"] ["marks"] (defScope s__law_by_marks) := ⟨rfl, rfl, rfl, by decide +kernel, rfl, by decide +kernel, by decide +kernel⟩
abbrev s__law_drawn_marks : Stmt := top 47
theorem sc__law_drawn_marks : FnScope ["script", "k", "coins", "stair", "ones", "step", "marks", "j"] ["script", "k", "coins"] (defScope s__law_drawn_marks) := ⟨rfl, rfl, rfl, by decide +kernel, rfl, by decide +kernel, by decide +kernel⟩
abbrev s__law_elder : Stmt := top 48
theorem sc__law_elder : FnScope ["piles", "number", "many", "some", "at", "rest"] ["piles", "number"] (defScope s__law_elder) := ⟨rfl, rfl, rfl, by decide +kernel, rfl, by decide +kernel, by decide +kernel⟩
abbrev s__law_drawn_piles : Stmt := top 49
theorem sc__law_drawn_piles : FnScope ["script", "k", "coins", "cap", "step", "piles", "left"] ["script", "k", "coins", "cap"] (defScope s__law_drawn_piles) := ⟨rfl, rfl, rfl, by decide +kernel, rfl, by decide +kernel, by decide +kernel⟩
abbrev s__law_setting : Stmt := top 50
theorem sc__law_setting : FnScope ["script", "k", "coins", "way", "cap", "piles", "step", "turn"] ["script", "k", "coins"] (defScope s__law_setting) := ⟨rfl, rfl, rfl, by decide +kernel, rfl, by decide +kernel, by decide +kernel⟩
abbrev s__law_which : Stmt := top 51
theorem sc__law_which : FnScope ["e", "told"] ["e"] (defScope s__law_which) := ⟨rfl, rfl, rfl, by decide +kernel, rfl, by decide +kernel, by decide +kernel⟩
abbrev s__law_asked : Stmt := top 52
theorem sc__law_asked : FnScope ["way", "coins"] ["way", "coins"] (defScope s__law_asked) := ⟨rfl, rfl, rfl, by decide +kernel, rfl, by decide +kernel, by decide +kernel⟩
abbrev s__law_met : Stmt := top 53
theorem sc__law_met : FnScope ["way", "coins", "which", "e"] ["way", "coins"] (defScope s__law_met) := ⟨rfl, rfl, rfl, by decide +kernel, rfl, by decide +kernel, by decide +kernel⟩
abbrev s__law_turns_met : Stmt := top 54
theorem sc__law_turns_met : FnScope ["piles", "turns", "which", "e"] ["piles", "turns"] (defScope s__law_turns_met) := ⟨rfl, rfl, rfl, by decide +kernel, rfl, by decide +kernel, by decide +kernel⟩
abbrev s_law : Stmt := top 55
theorem sc_law : FnScope ["script", "far", "way", "most", "coins", "piles", "turns"] ["script"] (defScope s_law) := ⟨rfl, rfl, rfl, by decide +kernel, rfl, by decide +kernel, by decide +kernel⟩
def caOf (c0 c1 c2 c3 c4 c5 : Addr) : Nat → Addr
  | 0 => c0
  | 1 => c1
  | 2 => c2
  | 3 => c3
  | 4 => c4
  | _ => c5
def cvOf (v0 v1 v2 v3 v4 v5 : Value) : Nat → Value
  | 0 => v0
  | 1 => v1
  | 2 => v2
  | 3 => v3
  | 4 => v4
  | _ => v5
abbrev UM := (Nat → Value) × (Nat → Addr)
structure Txt (K : PySem.W.Frag) (mg : Str → Option Value) (uM : UM) : Prop where
  n_len : mg "len" = none
  n_range : mg "range" = none
  n_list : mg "list" = none
  n_reversed : mg "reversed" = none
  n_sorted : mg "sorted" = none
  n_sum : mg "sum" = none
  n_min : mg "min" = none
  n_max : mg "max" = none
  n_int : mg "int" = none
  n_isinstance : mg "isinstance" = none
  n_bool : mg "bool" = none
  n_all : mg "all" = none
  n_enumerate : mg "enumerate" = none
  n_tuple : mg "tuple" = none
  n_ValueError : mg "ValueError" = none
  c_MOST_COINS : mg "MOST_COINS" = some (uM.1 0)
  r_MOST_COINS : RelV (.int 100) (uM.1 0)
  c_MOST_FOR_SETTINGS : mg "MOST_FOR_SETTINGS" = some (uM.1 1)
  r_MOST_FOR_SETTINGS : RelV (.int 18) (uM.1 1)
  c_MOST_FOR_RINGS : mg "MOST_FOR_RINGS" = some (uM.1 2)
  r_MOST_FOR_RINGS : RelV (.int 36) (uM.1 2)
  c_MOST_FOR_MANY : mg "MOST_FOR_MANY" = some (uM.1 3)
  r_MOST_FOR_MANY : RelV (.int 2000) (uM.1 3)
  kib : PySem.W.kitOne K (.type "int") (.type "bool") = some false
  c_PileError : mg "PileError" = some (.ref (uM.2 0))
  r_PileError : RelV (.ref (uM.2 0)) (.ref (uM.2 0))
  c_NoPiles : mg "NoPiles" = some (.ref (uM.2 1))
  r_NoPiles : RelV (.ref (uM.2 1)) (.ref (uM.2 1))
  c_NotRound : mg "NotRound" = some (.ref (uM.2 2))
  r_NotRound : RelV (.ref (uM.2 2)) (.ref (uM.2 2))
  c_NoMarks : mg "NoMarks" = some (.ref (uM.2 3))
  r_NoMarks : RelV (.ref (uM.2 3)) (.ref (uM.2 3))
  c_NoNumber : mg "NoNumber" = some (.ref (uM.2 4))
  r_NoNumber : RelV (.ref (uM.2 4)) (.ref (uM.2 4))
  c_NoNote : mg "NoNote" = some (.ref (uM.2 5))
  r_NoNote : RelV (.ref (uM.2 5)) (.ref (uM.2 5))
  o_NoPiles : OwnE K (uM.2 1)
  x_NoPiles : XC.ExC K (uM.2 1)
  v_NoPiles : PySem.W.kitOne K (.ref (uM.2 1)) (.type "ValueError") = some true
  m_NoPiles : PySem.W.exmOne K (.ref (uM.2 1)) (.ref (uM.2 0)) = some true
  k_NoPiles_NoPiles : PySem.W.kitOne K (.ref (uM.2 1)) (.ref (uM.2 1)) = some true
  k_NoPiles_NotRound : PySem.W.kitOne K (.ref (uM.2 1)) (.ref (uM.2 2)) = some false
  k_NoPiles_NoMarks : PySem.W.kitOne K (.ref (uM.2 1)) (.ref (uM.2 3)) = some false
  k_NoPiles_NoNumber : PySem.W.kitOne K (.ref (uM.2 1)) (.ref (uM.2 4)) = some false
  k_NoPiles_NoNote : PySem.W.kitOne K (.ref (uM.2 1)) (.ref (uM.2 5)) = some false
  o_NotRound : OwnE K (uM.2 2)
  x_NotRound : XC.ExC K (uM.2 2)
  v_NotRound : PySem.W.kitOne K (.ref (uM.2 2)) (.type "ValueError") = some true
  m_NotRound : PySem.W.exmOne K (.ref (uM.2 2)) (.ref (uM.2 0)) = some true
  k_NotRound_NoPiles : PySem.W.kitOne K (.ref (uM.2 2)) (.ref (uM.2 1)) = some false
  k_NotRound_NotRound : PySem.W.kitOne K (.ref (uM.2 2)) (.ref (uM.2 2)) = some true
  k_NotRound_NoMarks : PySem.W.kitOne K (.ref (uM.2 2)) (.ref (uM.2 3)) = some false
  k_NotRound_NoNumber : PySem.W.kitOne K (.ref (uM.2 2)) (.ref (uM.2 4)) = some false
  k_NotRound_NoNote : PySem.W.kitOne K (.ref (uM.2 2)) (.ref (uM.2 5)) = some false
  o_NoMarks : OwnE K (uM.2 3)
  x_NoMarks : XC.ExC K (uM.2 3)
  v_NoMarks : PySem.W.kitOne K (.ref (uM.2 3)) (.type "ValueError") = some true
  m_NoMarks : PySem.W.exmOne K (.ref (uM.2 3)) (.ref (uM.2 0)) = some true
  k_NoMarks_NoPiles : PySem.W.kitOne K (.ref (uM.2 3)) (.ref (uM.2 1)) = some false
  k_NoMarks_NotRound : PySem.W.kitOne K (.ref (uM.2 3)) (.ref (uM.2 2)) = some false
  k_NoMarks_NoMarks : PySem.W.kitOne K (.ref (uM.2 3)) (.ref (uM.2 3)) = some true
  k_NoMarks_NoNumber : PySem.W.kitOne K (.ref (uM.2 3)) (.ref (uM.2 4)) = some false
  k_NoMarks_NoNote : PySem.W.kitOne K (.ref (uM.2 3)) (.ref (uM.2 5)) = some false
  o_NoNumber : OwnE K (uM.2 4)
  x_NoNumber : XC.ExC K (uM.2 4)
  v_NoNumber : PySem.W.kitOne K (.ref (uM.2 4)) (.type "ValueError") = some true
  m_NoNumber : PySem.W.exmOne K (.ref (uM.2 4)) (.ref (uM.2 0)) = some true
  k_NoNumber_NoPiles : PySem.W.kitOne K (.ref (uM.2 4)) (.ref (uM.2 1)) = some false
  k_NoNumber_NotRound : PySem.W.kitOne K (.ref (uM.2 4)) (.ref (uM.2 2)) = some false
  k_NoNumber_NoMarks : PySem.W.kitOne K (.ref (uM.2 4)) (.ref (uM.2 3)) = some false
  k_NoNumber_NoNumber : PySem.W.kitOne K (.ref (uM.2 4)) (.ref (uM.2 4)) = some true
  k_NoNumber_NoNote : PySem.W.kitOne K (.ref (uM.2 4)) (.ref (uM.2 5)) = some false
  o_NoNote : OwnE K (uM.2 5)
  x_NoNote : XC.ExC K (uM.2 5)
  v_NoNote : PySem.W.kitOne K (.ref (uM.2 5)) (.type "ValueError") = some true
  m_NoNote : PySem.W.exmOne K (.ref (uM.2 5)) (.ref (uM.2 0)) = some true
  k_NoNote_NoPiles : PySem.W.kitOne K (.ref (uM.2 5)) (.ref (uM.2 1)) = some false
  k_NoNote_NotRound : PySem.W.kitOne K (.ref (uM.2 5)) (.ref (uM.2 2)) = some false
  k_NoNote_NoMarks : PySem.W.kitOne K (.ref (uM.2 5)) (.ref (uM.2 3)) = some false
  k_NoNote_NoNumber : PySem.W.kitOne K (.ref (uM.2 5)) (.ref (uM.2 4)) = some false
  k_NoNote_NoNote : PySem.W.kitOne K (.ref (uM.2 5)) (.ref (uM.2 5)) = some true
theorem at0_cons (v : V) (l : List V) : atI (v :: l) 0 = some v := by
  have z := HT.sIx_nat 0 0 0
  simp [atI, ixN]
def spNext : Sp := fun vs H Q _ => ∃ n : Int, vs = [.int n] ∧ ∀ v : Int, 0 ≤ v → v < 2147483647 → Q (.int v) H
def spCell (K : PySem.W.Frag) : Sp := fun vs H Q _ => ∃ (a : Addr) (ns : List Int) (k : Int), vs = [.ref a, .int k] ∧ IL K H a ns ∧ ns.length ≤ 63 ∧ 0 ≤ k ∧ k ≤ 1000 ∧ ∀ v : Int, Q (.int v) H
def spFallen (K : PySem.W.Frag) : Sp := fun vs H Q _ => ∃ (a : Addr) (ns : List Int), vs = [.ref a] ∧ IL K H a ns ∧ ns.length < 128 ∧
  ∀ (p : Addr) (H' : Hp) (ms : List Int), H p = none → Same H H' → H' p = some (.lst (ms.map V.int)) → ms.Perm ns → ms.Pairwise (· ≥ ·) → Q (.ref p) H'
def spStair : Sp := fun vs H Q _ => ∃ n : Int, vs = [.int n] ∧ 1 ≤ n ∧ n ≤ 10000 ∧ ∀ k : Int, 1 ≤ k → (k - 1) * k < 2 * n → 2 * n ≤ k * (k + 1) → Q (.int k) H
local macro_rules | `(tactic| row_cond $x:ident) => `(tactic| simp only [tSeq, tRet, tRetN, tNext, tOp, tUn, tVar, tC, tAsg, gName, tIfS, tTest, tB, tNot, tNotV, tOr, tAnd, tAndV, tOrV, tChain, tCB, tCall, tCons, tNil, tLst, tDrop, tBM, tBM0, tSl, tNoPart, tPart, gSub, rI, rI0, rU, rIxL, cxOf, cxC, rEq, rNe, rEqL, rNeL, scal, L2.start, tComp, iList, iRng1, iRng2, iEnum, tYes, stC, List.map_cons, List.map_nil, List.cons_append, List.nil_append, List.append_nil, List.length_cons, List.length_nil, List.replicate_succ, List.replicate_zero, List.set_cons_zero, List.set_cons_succ, List.getElem?_cons_zero, List.getElem?_cons_succ, Option.some.injEq, List.cons.injEq, V.int.injEq, V.ref.injEq, V.bl.injEq, exists_eq_left, exists_eq_left', exists_and_left, true_and, and_true, Option.join_some, Option.join_none, Nat.reduceAdd, Nat.reduceSub, Nat.sub_self, Nat.sub_zero, List.length_map, Int.toNat_natCast, rSlL, rCat, rAppend, rReverse, rClear, rCount, rIndex, tTup, rRep, rIn, tRaise, tTryC, tDNewT, tDNotIn, sDPut, iZip, rInLL, rIndexLL, rMaxLL, rSorted64, rSortedR64, rSortSet, rLenSet, rRemove, rSortedLL, rGeL, rEqLL, iRngD, rExtend, rPop, $x:ident])
local macro_rules | `(tactic| one_place) => `(tactic| simp only [tSeq, tRet, tRetN, tNext, tOp, tUn, tVar, tC, tAsg, gName, tIfS, tTest, tB, tNot, tNotV, tOr, tAnd, tAndV, tOrV, tChain, tCB, tCall, tCons, tNil, tLst, tDrop, tBM, tBM0, tSl, tNoPart, tPart, gSub, rI, rI0, rU, rIxL, cxOf, cxC, rEq, rNe, rEqL, rNeL, scal, L2.start, tComp, iList, iRng1, iRng2, iEnum, tYes, stC, List.map_cons, List.map_nil, List.cons_append, List.nil_append, List.append_nil, List.length_cons, List.length_nil, List.replicate_succ, List.replicate_zero, List.set_cons_zero, List.set_cons_succ, List.getElem?_cons_zero, List.getElem?_cons_succ, Option.some.injEq, List.cons.injEq, V.int.injEq, V.ref.injEq, V.bl.injEq, exists_eq_left, exists_eq_left', exists_and_left, true_and, and_true, Option.join_some, Option.join_none, Nat.reduceAdd, Nat.reduceSub, Nat.sub_self, Nat.sub_zero, List.length_map, Int.toNat_natCast, rSlL, rCat, rAppend, rReverse, rClear, rCount, rIndex, tTup, rRep, rIn, tRaise, tTryC, tDNewT, tDNotIn, sDPut, iZip, rInLL, rIndexLL, rMaxLL, rSorted64, rSortedR64, rSortSet, rLenSet, rRemove, rSortedLL, rGeL, rEqLL, iRngD, rExtend, rPop])
section
variable {P : Program} {w : World} {K : PySem.W.Frag} {mg : Str → Option Value} {base : Heap} {uM : UM}
theorem d__law_next (D : Dfn K mg "_law_next" s__law_next ["step"]) (T : Txt K mg uM) : OkD P w K mg base 1 "_law_next" ["step"] spNext := by
  have SC := sc__law_next
  refine D.ok SC (fun vs H Q E h => ?_) (fun f cdv A outer s H vs Q E hr h => ?_)
  · obtain ⟨n, rfl, _⟩ := h; rfl
  · obtain ⟨n, rfl, k⟩ := h
    refine ⟨_, (pss_one (ps_ret (pe_op op_mod (pe_op op_add (pe_op op_mul (pv 0) pe_int) pe_int) pe_int))), ?_⟩
    one_place
    refine ⟨.inr ⟨by decide, by decide⟩, by decide, k _ (Int.emod_nonneg _ (by decide)) (Int.emod_lt_of_pos _ (by decide))⟩
theorem d__law_cell (D : Dfn K mg "_law_cell" s__law_cell ["script", "k"]) (T : Txt K mg uM) : OkD P w K mg base 1 "_law_cell" ["script", "k"] (spCell K) := by
  have SC := sc__law_cell
  refine D.ok SC (fun vs H Q E h => ?_) (fun f cdv A outer s H vs Q E hr h => ?_)
  · obtain ⟨a, ns, n, rfl, _⟩ := h; rfl
  · obtain ⟨a, ns, n, rfl, hS, hl, h0, h1, k⟩ := h
    refine ⟨_, (pss_cons (ps_if (pt_cmpR op_lt (pv 1) (pe_callB call_len_seq rfl T.n_len PySem.boot_len (pa_cons (pv 0) pa_nil)) (nomark _)) (pss_one (ps_ret (pe_ix ix_list (pv 0) (pv 1) (fun _ _ => rfl)))) pss_nil)
      (pss_cons (ps_set (i := 2) SC.nd rfl (Or.inl rfl) pe_int)
      (pss_cons (ps_if (pt_cmpR op_gt (pe_callB call_len_seq rfl T.n_len PySem.boot_len (pa_cons (pv 0) pa_nil)) pe_int (nomark _)) (pss_one (ps_set (i := 2) SC.nd rfl (Or.inl rfl) (pe_ix ix_list (pv 0) pe_int (fun _ _ => rfl)))) pss_nil)
      (pss_one (ps_ret (pe_op op_mod (pe_op op_add (pe_op op_mul (pe_op op_mod (pv 2) pe_int) pe_int) (pe_op op_mul (pv 1) pe_int)) pe_int)))))), ?_⟩
    one_place
    refine ⟨_, .inl hS, ite2 (fun c => ?_) fun c => ?_⟩
    · have c : n < ((ns.map V.int).length : Int) := of_decide_eq_true c
      rw [List.length_map] at c
      exact ⟨_, hS, _, at_int h0 c, k _⟩
    · have m1 : ∀ x : Int, CMul (x % 65521) 48271 := fun x => .inr ⟨by decide, by decide⟩
      have m2 : CMul n 30103 := .inr ⟨by decide, by decide⟩
      refine ⟨_, .inl hS, ite2 (fun c => ?_) fun c => ?_⟩
      · have c : (0 : Int) < ((ns.map V.int).length : Int) := of_decide_eq_true c
        rw [List.length_map] at c
        exact ⟨_, hS, _, at_int (Int.le_refl 0) c, _, rfl, by decide, m1 _, m2, by decide, k _⟩
      · exact ⟨by decide, m1 _, m2, by decide, k _⟩
theorem d__law_fallen (D : Dfn K mg "_law_fallen" s__law_fallen ["piles"]) (T : Txt K mg uM) : OkD P w K mg base 1 "_law_fallen" ["piles"] (spFallen K) := by
  have SC := sc__law_fallen
  refine D.ok SC (fun vs H Q E h => ?_) (fun f cdv A outer s H vs Q E hr h => ?_)
  · obtain ⟨a, ns, rfl, _⟩ := h; rfl
  · obtain ⟨a, ns, rfl, hS, hl, k⟩ := h
    refine ⟨_, (pss_one (ps_ret (pe_listrev rfl rfl T.n_list rfl T.n_reversed PyProof.Rows.boot_list (pa_cons (pe_callB call_sorted rfl T.n_sorted PyProof.Rows.boot_sorted (pa_cons (pv 0) pa_nil)) pa_nil)))), ?_⟩
    simp only [tSeq, tRet, tRetN, tNext, tOp, tUn, tVar, tC, tAsg, gName, tIfS, tTest, tB, tNot, tNotV, tOr, tAnd, tAndV, tOrV, tChain, tCB, tCall, tCons, tNil, tLst, tDrop, tBM, tBM0, tSl, tNoPart, tPart, gSub, rI, rI0, rU, rIxL, cxOf, cxC, rEq, rNe, rEqL, rNeL, scal, L2.start, tComp, iList, iRng1, iRng2, iEnum, tYes, stC, List.map_cons, List.map_nil, List.cons_append, List.nil_append, List.append_nil, List.length_cons, List.length_nil, List.replicate_succ, List.replicate_zero, List.set_cons_zero, List.set_cons_succ, List.getElem?_cons_zero, List.getElem?_cons_succ, Option.some.injEq, List.cons.injEq, V.int.injEq, V.ref.injEq, V.bl.injEq, exists_eq_left, exists_eq_left', exists_and_left, true_and, and_true, Option.join_some, Option.join_none, Nat.reduceAdd, Nat.reduceSub, Nat.sub_self, Nat.sub_zero, List.length_map, Int.toNat_natCast, rSlL, rCat, rAppend, rReverse, rClear, rCount, rIndex, tTup, rRep, rIn, tRaise, tTryC, tDNewT, tDNotIn, sDPut, iZip, rInLL, rIndexLL, rMaxLL, rSorted64, rSortedR64, rSortSet, rLenSet, rRemove, rSortedLL, rGeL, rEqLL, iRngD, rExtend, rPop, rSorted, rRev]
    refine ⟨_, hS, hl, fun q ms hq pm so => ⟨_, SqL.of upd_same, fun r hr' => ?_⟩⟩
    have hr0 : H r = none := (Same.put hq).free hr'
    refine k r _ ms.reverse hr0 ((Same.put hq).trans (Same.put hr')) (by rw [upd_same, List.map_reverse]) ((List.reverse_perm _).trans pm) ?_
    rw [List.pairwise_reverse]
    exact so
def wStair (n : Int) (H : Hp) (m : Nat) (σ : St) (H' : Hp) : Prop := H' = H ∧ ∃ j : Int, σ = [some (.int n), some (.int j)] ∧ 1 ≤ j ∧ (j - 1) * j < 2 * n ∧ m = (20000 - j).toNat
theorem d__law_stair (D : Dfn K mg "_law_stair" s__law_stair ["coins"]) (T : Txt K mg uM) : OkD P w K mg base 1 "_law_stair" ["coins"] spStair := by
  have SC := sc__law_stair
  refine D.ok SC (fun vs H Q E h => ?_) (fun f cdv A outer s H vs Q E hr h => ?_)
  · obtain ⟨n, rfl, _⟩ := h; rfl
  · obtain ⟨n, rfl, h0, h1, k⟩ := h
    refine ⟨_, (pss_cons (ps_set (i := 1) SC.nd rfl (Or.inl rfl) pe_int)
      (pss_cons (ps_while PassesOwn.never (pt_cmpR op_lt (pe_op op_mul (pv 1) (pe_op op_add (pv 1) pe_int)) (pe_op op_mul pe_int (pv 0)) (nomark _))
        (pss_one (ps_set (i := 1) SC.nd rfl (Or.inl rfl) (pe_op op_add (pv 1) pe_int))))
      (pss_one (ps_ret (pv 1))))), ?_⟩
    one_place
    refine ⟨wStair n H, ⟨_, rfl, 1, rfl, by omega, by omega, rfl⟩, ?_⟩
    rintro m σ H' ⟨rfl, j, rfl, j1, j2, rfl⟩
    have jb : j < 20000 := by
      rcases Int.lt_or_le j 20000 with z | z
      · exact z
      · have : 19999 * 20000 ≤ (j - 1) * j := Int.mul_le_mul (by omega) (by omega) (by omega) (by omega)
        omega
    one_place
    refine ⟨.inl ⟨by omega, by omega⟩, .inl ⟨by decide, by decide⟩, ite2 (fun c => ?_) fun c => ?_⟩
    · have c : j * (j + 1) < 2 * n := of_decide_eq_true c
      exact ⟨fun σ' H1 => ∃ m', m' < (20000 - j).toNat ∧ wStair n H' m' σ' H1, fun _ _ z => z, _, by omega, rfl, j + 1, rfl, by omega, by rw [show j + 1 - 1 = j from by omega]; exact c, rfl⟩
    · have c : ¬ j * (j + 1) < 2 * n := fun z => c (decide_eq_true z)
      exact k j j1 j2 (by omega)
end
def spByMarks (K : PySem.W.Frag) : Sp := fun vs H Q _ => ∃ (a : Addr) (ms : List Int), vs = [.ref a] ∧ IL K H a ms ∧ ms.length ≤ 1000 ∧
  ∀ (p : Addr) (H' : Hp), H p = none → Same H H' → H' p = some (.lst ((byMarks ms).map V.int)) → Q (.ref p) H'
def spDrawnMarks (K : PySem.W.Frag) : Sp := fun vs H Q _ => ∃ (a : Addr) (ns : List Int) (k n : Int), vs = [.ref a, .int k, .int n] ∧ IL K H a ns ∧ ns.length ≤ 63 ∧ 0 ≤ k ∧ k ≤ 1000 ∧ 1 ≤ n ∧ n ≤ 100 ∧
  ∀ (p : Addr) (H' : Hp) (ms : List Int), H p = none → Same H H' → H' p = some (.lst (ms.map V.int)) → Marks n ms → Q (.ref p) H'
section
variable {P : Program} {w : World} {K : PySem.W.Frag} {mg : Str → Option Value} {base : Heap} {uM : UM}
theorem d__law_by_marks (D : Dfn K mg "_law_by_marks" s__law_by_marks ["marks"]) (T : Txt K mg uM) : OkD P w K mg base 1 "_law_by_marks" ["marks"] (spByMarks K) := by
  have SC := sc__law_by_marks
  refine D.ok SC (fun vs H Q E h => ?_) (fun f cdv A outer s H vs Q E hr h => ?_)
  · obtain ⟨a, ns, rfl, _⟩ := h; rfl
  · obtain ⟨a, ms, rfl, hS, hl, k⟩ := h
    refine ⟨_, (pss_cons (ps_setC (i := 1) (own := ["k"]) (fr := ["marks"]) (ixs := [0]) rfl ⟨rfl, rfl, rfl, rfl, rfl, rfl, rfl⟩ ⟨fun _ _ _ _ => pg_name (i := 0) (by decide +kernel : (["k", "marks"] : List Str).Nodup) rfl (Or.inl rfl) (.inr rfl), fun _ _ _ _ => pts_nil, fun _ _ _ _ => (pe_op op_add (pe_op op_sub (pe_op op_sub (pe_callB (call_lenK (K := K) rfl) rfl T.n_len PySem.boot_len (pa_cons (pv 1) pa_nil)) pe_int) (pv 0)) (pe_ix (ix_listK (K := K) rfl) (pv 1) (pv 0) (fun _ _ => rfl)))⟩ (pi_range1 rfl T.n_range (pa_cons (pe_callB call_len_seq rfl T.n_len PySem.boot_len (pa_cons (pv 0) pa_nil)) pa_nil)) SC.nd rfl rfl)
      (pss_one (ps_ret (pe_comp (own := ["pile"]) (fr := []) (ixs := []) rfl ⟨rfl, rfl, rfl, rfl, rfl, rfl, rfl⟩ ⟨fun _ _ _ _ => pg_name (i := 0) (by decide +kernel : (["pile"] : List Str).Nodup) rfl (Or.inl rfl) (.inr rfl), fun _ _ _ _ => pts_one (pt_cmpR op_gt (pv 0) pe_int (nomark _)), fun _ _ _ _ => (pv 0)⟩ (pi_list (pv 1)))))), ?_⟩
    one_place
    refine ⟨_, .inl hS, ?_, ?_, fun D1 hD1 => ?_⟩
    · omega
    · rw [List.length_map]; omega
    · rw [List.length_map]
      refine comp_rangeI (lo := 0) ms.length (fun _ => true) (fun i => (ms.length : Int) - 1 - i + ms.getD i.toNat 0) [some (.ref a)] (small1000 hl) hD1 (fun i _ _ H' Q' _ q => q) (fun i i1 i2 _ H' Q' sm q => ?_) ?_
      · one_place
        refine ⟨_, .inl (sm.seq hS), _, sm.seq hS, _, at_int i1 (by omega), _, rfl, ?_⟩
        rw [List.length_map]; exact q
      · refine ⟨D1, rfl, ⟨_, SqL.of upd_same⟩, fun D2 hD2 => ?_⟩
        refine comp_listI (K := K) (((((List.range ms.length).map fun (i : Nat) => (0 : Int) + (i : Int)).filter fun _ => true).map fun i => (ms.length : Int) - 1 - i + ms.getD i.toNat 0)) (fun x => decide (0 < x)) id [] (by rw [range_all, List.length_map, List.length_range]; exact small1000 hl) (SqL.of upd_same) hD2 (fun x _ H' Q' _ q => ?_) (fun x _ _ H' Q' _ q => ?_) ?_
        · one_place; exact q
        · one_place; exact q
        · refine k D2 _ ((Same.put hD1).free hD2) ((Same.put hD1).trans (Same.put hD2)) ?_
          rw [upd_same, range_all, List.map_id]
          rfl
def wMarks (a : Addr) (kk n st ones : Int) (p : Addr) (H : Hp) (i : Nat) (σ : St) (H' : Hp) : Prop := ∃ (step : Int) (j : Option V) (ms : List Int), σ = [some (.ref a), some (.int kk), some (.int n), some (.int st), some (.int ones), some (.int step), some (.ref p), j] ∧
  Same H H' ∧ H' p = some (.lst (ms.map V.int)) ∧ ms.length = i ∧ (∀ m ∈ ms, m = 0 ∨ m = 1) ∧ ms.sum = min (i : Int) ones ∧ 0 ≤ step
theorem ins_len {α : Type} (l : List α) (i : Nat) (x : α) : (l.take i ++ x :: l.drop i).length = l.length + 1 := by
  rw [List.length_append, List.length_cons, List.length_take, List.length_drop]; omega
theorem ins_perm {α : Type} (l : List α) (i : Nat) (x : α) : (l.take i ++ x :: l.drop i).Perm (x :: l) := by
  have z : (l.take i ++ x :: l.drop i).Perm (x :: (l.take i ++ l.drop i)) := List.perm_middle
  rwa [List.take_append_drop] at z
theorem d__law_drawn_marks (D : Dfn K mg "_law_drawn_marks" s__law_drawn_marks ["script", "k", "coins"]) (T : Txt K mg uM) (D__law_stair : OkD P w K mg base 1 "_law_stair" ["coins"] spStair) (D__law_next : OkD P w K mg base 1 "_law_next" ["step"] spNext)
    (D__law_cell : OkD P w K mg base 1 "_law_cell" ["script", "k"] (spCell K)) : OkD P w K mg base 2 "_law_drawn_marks" ["script", "k", "coins"] (spDrawnMarks K) := by
  have SC := sc__law_drawn_marks
  refine D.ok SC (fun vs H Q E h => ?_) (fun f cdv A outer s H vs Q E hr h => ?_)
  · obtain ⟨a, ns, kk, n, rfl, _⟩ := h; rfl
  · obtain ⟨a, ns, kk, n, rfl, hS, hl, k0, k1, n0, n1, k⟩ := h
    refine ⟨_, (pss_cons (ps_set (i := 3) SC.nd rfl (Or.inl rfl) (pe_callD D__law_stair (hr.mono (by first | decide | omega)) rfl (pa_cons (pv 2) pa_nil)))
      (pss_cons (ps_set (i := 4) SC.nd rfl (Or.inl rfl) (pe_op op_sub (pv 2) (pe_op op_fdiv (pe_op op_mul (pv 3) (pe_op op_sub (pv 3) pe_int)) pe_int)))
      (pss_cons (ps_set (i := 5) SC.nd rfl (Or.inl rfl) (pe_callD D__law_next (hr.mono (by first | decide | omega)) rfl (pa_cons (pe_op op_add (pe_op op_mod (pe_op op_mul (pe_callD D__law_cell (hr.mono (by first | decide | omega)) rfl (pa_cons (pv 0) (pa_cons (pv 1) pa_nil))) pe_int) pe_int) pe_int) pa_nil)))
      (pss_cons (ps_set (i := 6) SC.nd rfl (Or.inl rfl) (pe_lst pa_nil))
      (pss_cons (ps_for PassesOwn.never rfl (pi_range1 rfl T.n_range (pa_cons (pv 3) pa_nil)) (pg_name (i := 7) SC.nd rfl (Or.inl rfl))
        (pss_cons (ps_set (i := 5) SC.nd rfl (Or.inl rfl) (pe_callD D__law_next (hr.mono (by first | decide | omega)) rfl (pa_cons (pv 5) pa_nil)))
        (pss_one (ps_expr (pe_bm PySem.F.plainAttrs_list PySem.F.slot_list_insert PySem.F.type_list_insert mt_insert (pv 6) (pa_cons (pe_op op_mod (pe_op op_fdiv (pv 5) pe_int) (pe_op op_add (pv 7) pe_int)) (pa_cons (pe_callTy call_int1 rfl T.n_int PyProof.Rows.boot_int (pa_cons (pe_cmpR op_lt (pv 7) (pv 4) (nomark _)) pa_nil)) pa_nil)))))))
      (pss_one (ps_ret (pv 6)))))))), ?_⟩
    one_place
    refine ⟨n, rfl, n0, by omega, fun st s1 s2 s3 => ?_⟩
    have sb : st ≤ 15 := by
      rcases Int.lt_or_le 15 st with z | z
      · have : 15 * 16 ≤ (st - 1) * st := Int.mul_le_mul (by omega) (by omega) (by omega) (by omega)
        omega
      · exact z
    one_place
    refine ⟨.inl ⟨by omega, by omega⟩, ⟨by decide, by decide⟩, a, ns, kk, rfl, hS, hl, k0, k1, fun v => ?_⟩
    one_place
    refine ⟨.inr ⟨by decide, by decide⟩, by decide, _, rfl, fun v0 v1 v2 => ?_⟩
    refine ⟨by decide, fun p hp => ?_⟩
    have n15 : st.toNat ≤ 15 := by omega
    have xx : st * (st + 1) = st * (st - 1) + 2 * st := by rw [Int.mul_add, Int.mul_sub]; omega
    have x0 : 0 ≤ st * (st - 1) := Int.mul_nonneg (by omega) (by omega)
    have xy : (st - 1) * st = st * (st - 1) := Int.mul_comm _ _
    refine ⟨_, rfl, _, rfl, by omega, by omega, for_range (lo := 0) (n := st.toNat) (wMarks a kk n st (n - st * (st - 1) / 2) p H) ?_ ?_ ?_⟩
    · refine ⟨v0, none, [], rfl, Same.put hp, upd_same, rfl, fun m hm => by simp at hm, ?_, v1⟩
      show (0 : Int) = min ((0 : Nat) : Int) _
      omega
    · rintro i σ H' hi ⟨step, j, ms, rfl, sm, hm, hlen, hbit, hsum, hst⟩
      row_cond spNext
      intro v v1 v2
      refine ⟨.inl ⟨rfl, _, SqL.of hm⟩, ⟨by decide, by decide⟩, by omega, .inr ?_⟩
      generalize n - st * (st - 1) / 2 = ones at hsum ⊢
      have q0 := Int.emod_nonneg (v / 64) (show (0 + (i : Int) + 1) ≠ 0 by omega)
      have q1 := Int.emod_lt_of_pos (v / 64) (show 0 < (0 + (i : Int) + 1) by omega)
      refine ⟨p, _, _, _, rfl, rfl, hm, q0, by omega, by rw [List.length_map, hlen, sizeLine_eq]; omega, ?_⟩
      generalize (v / 64 % (0 + (i : Int) + 1)).toNat = at'
      have pm := ins_perm ms at' (if decide (0 + (i : Int) < ones) = true then (1 : Int) else 0)
      refine ⟨v, some (.int (0 + i)), ms.take at' ++ (if decide (0 + (i : Int) < ones) = true then (1 : Int) else 0) :: ms.drop at', rfl, fun b o e => ?_, ?_, ?_, fun m hm' => ?_, ?_, v1⟩
      · rw [upd_ne (ne_of_none e hp)]; exact sm b o e
      · rw [upd_same, List.map_append, List.map_cons, List.map_take, List.map_drop]
      · rw [ins_len, hlen]
      · rcases List.mem_cons.mp (pm.mem_iff.mp hm') with z | z
        · rw [z]; split <;> simp
        · exact hbit m z
      · rw [sum_perm pm, List.sum_cons, hsum]
        by_cases c : 0 + (i : Int) < ones
        · rw [if_pos (decide_eq_true c)]; omega
        · rw [if_neg (by simpa using c)]; omega
    · rintro σ H' ⟨step, j, ms, rfl, sm, hm, hlen, hbit, hsum, hst⟩
      one_place
      have el : (ms.length : Int) = st := by omega
      refine k p H' ms hp sm hm ⟨by omega, by rw [el]; exact s2, by rw [el]; exact s3, hbit, ?_⟩
      rw [hsum, el]
      omega
end
def spElder (K : PySem.W.Frag) : Sp := fun vs H Q _ => ∃ (a : Addr) (ps : List Int) (num n : Int), vs = [.ref a, .int num] ∧ H a = some (.lst (ps.map V.int)) ∧ Setting n ps ∧ 1 ≤ n ∧ n ≤ 100 ∧
  ∀ (p : Addr) (H' : Hp) (qs : List Int), Same H H' → H' p = some (.lst (qs.map V.int)) → Setting n qs → Q (.ref p) H'
section
variable {P : Program} {w : World} {K : PySem.W.Frag} {mg : Str → Option Value} {base : Heap} {uM : UM}
theorem d__law_elder (D : Dfn K mg "_law_elder" s__law_elder ["piles", "number"]) (T : Txt K mg uM) : OkD P w K mg base 1 "_law_elder" ["piles", "number"] (spElder K) := by
  have SC := sc__law_elder
  refine D.ok SC (fun vs H Q E h => ?_) (fun f cdv A outer s H vs Q E hr h => ?_)
  · obtain ⟨a, ps, num, n, rfl, _⟩ := h; rfl
  · obtain ⟨a, ps, num, n, rfl, ha, hs, n0, n1, k⟩ := h
    have hS : IL K H a ps := SqL.of ha
    have pl := hs.len
    have pn := hs.ne n0
    refine ⟨_, (pss_cons (ps_set (i := 2) SC.nd rfl (Or.inr rfl) (pe_callB call_len_seq rfl T.n_len PySem.boot_len (pa_cons (pv 0) pa_nil)))
      (pss_cons (ps_setC (i := 3) (own := ["at"]) (fr := ["piles", "many"]) (ixs := [0, 2]) rfl ⟨rfl, rfl, rfl, rfl, rfl, rfl, rfl⟩ ⟨fun _ _ _ _ => pg_name (i := 0) (by decide +kernel : (["at", "piles", "many"] : List Str).Nodup) rfl (Or.inl rfl) (.inr rfl), fun _ _ _ _ => pts_one (pt_cmpR op_ge (pe_ix (ix_listK (K := K) rfl) (pv 1) (pv 0) (fun _ _ => rfl)) (pe_op op_sub (pv 2) pe_int) (nomark _)), fun _ _ _ _ => (pv 0)⟩ (pi_range1 rfl T.n_range (pa_cons (pv 2) pa_nil)) SC.nd rfl rfl)
      (pss_cons (ps_if (pt_cmpR op_eq (pe_callB call_len_seq rfl T.n_len PySem.boot_len (pa_cons (pv 3) pa_nil)) pe_int (nomark _)) (pss_one (ps_ret (pv 0))) pss_nil)
      (pss_cons (ps_set (i := 4) SC.nd rfl (Or.inl rfl) (pe_ix ix_list (pv 3) (pe_op op_mod (pv 1) (pe_callB call_len_seq rfl T.n_len PySem.boot_len (pa_cons (pv 3) pa_nil))) (fun _ _ => rfl)))
      (pss_cons (ps_setC (i := 5) (own := ["pile"]) (fr := []) (ixs := []) rfl ⟨rfl, rfl, rfl, rfl, rfl, rfl, rfl⟩ ⟨fun _ _ _ _ => pg_name (i := 0) (by decide +kernel : (["pile"] : List Str).Nodup) rfl (Or.inl rfl) (.inr rfl), fun _ _ _ _ => pts_nil, fun _ _ _ _ => (pe_op op_add (pv 0) pe_int)⟩ (pi_list (pe_op op_cat (pe_slice sl_list (pv 0) po_none (po_some (pv 4))) (pe_slice sl_list (pv 0) (po_some (pe_op op_add (pv 4) pe_int)) po_none))) SC.nd rfl rfl)
      (pss_one (ps_ret (pe_op op_cat (pv 5) (pe_comp (own := ["k"]) (fr := []) (ixs := []) rfl ⟨rfl, rfl, rfl, rfl, rfl, rfl, rfl⟩ ⟨fun _ _ _ _ => pg_name (i := 0) (by decide +kernel : (["k"] : List Str).Nodup) rfl (Or.inl rfl) (.inr rfl), fun _ _ _ _ => pts_nil, fun _ _ _ _ => pe_int⟩ (pi_range1 rfl T.n_range (pa_cons (pe_op op_sub (pe_ix ix_list (pv 0) (pv 4) (fun _ _ => rfl)) (pe_callB call_len_seq rfl T.n_len PySem.boot_len (pa_cons (pv 5) pa_nil))) pa_nil))))))))))), ?_⟩
    one_place
    refine ⟨_, .inl hS, by omega, by rw [List.length_map]; omega, fun D1 hD1 => ?_⟩
    one_place
    refine comp_rangeI (lo := 0) ps.length (fun i => decide ((ps.length : Int) - 1 ≤ ps.getD i.toNat 0)) id [some (.ref a), some (.int ps.length)] (small1000 (by omega)) hD1 (fun i i0 i1 H' Q' sm q => ?_) (fun i i0 i1 _ H' Q' sm q => ?_) ?_
    · one_place
      exact ⟨_, sm.seq hS, _, at_int i0 (by omega), _, rfl, q⟩
    · one_place; exact q
    · have ce : ((((List.range ps.length).map fun (i : Nat) => (0 : Int) + (i : Int)).filter fun i => decide ((ps.length : Int) - 1 ≤ ps.getD i.toNat 0)).map id) = cand ps.length fun i => decide ((ps.length : Int) - 1 ≤ ps.getD i.toNat 0) := rfl
      rw [ce]
      have cm : ∀ i ∈ cand ps.length (fun i => decide ((ps.length : Int) - 1 ≤ ps.getD i.toNat 0)), 0 ≤ i ∧ i < ps.length ∧ (ps.length : Int) - 1 ≤ ps.getD i.toNat 0 := fun i hi => by
        obtain ⟨a1, a2, a3⟩ := cand_mem hi
        exact ⟨a1, a2, of_decide_eq_true a3⟩
      have cl := cand_len (n := ps.length) (q := fun i => decide ((ps.length : Int) - 1 ≤ ps.getD i.toNat 0))
      generalize cand ps.length (fun i => decide ((ps.length : Int) - 1 ≤ ps.getD i.toNat 0)) = cs at cm cl ⊢
      have S1 : Same H (upd H D1 (.lst (cs.map V.int))) := Same.put hD1
      one_place
      refine ⟨_, .inl (SqL.of upd_same), ite2 (fun c => ?_) fun c => ?_⟩
      · exact k a _ ps S1 (S1 _ _ ha) hs
      · have c : ¬ ((cs.map V.int).length : Int) = 0 := fun z => c (decide_eq_true z)
        rw [List.length_map] at c
        have cp : 0 < (cs.length : Int) := by omega
        refine ⟨_, .inl (SqL.of upd_same), by rw [List.length_map]; exact cp, _, SqL.of upd_same, _, at_int (Int.emod_nonneg _ (by rw [List.length_map]; omega)) (by rw [List.length_map]; exact Int.emod_lt_of_pos _ cp), ?_⟩
        have im : cs.getD (num % ((cs.map V.int).length : Int)).toNat 0 ∈ cs := getD_mem' (by
          have e0 := Int.emod_nonneg num (show (cs.length : Int) ≠ 0 by omega)
          have e1 := Int.emod_lt_of_pos num cp
          rw [List.length_map]; omega)
        generalize cs.getD (num % ((cs.map V.int).length : Int)).toNat 0 = i at im ⊢
        obtain ⟨i0, i1, i2⟩ := cm i im
        generalize upd H D1 (.lst (cs.map V.int)) = H1 at S1 ⊢
        refine ⟨i, rfl, _, S1.seq hS, fun p hp => ⟨i, rfl, _, (S1.put' hp).seq hS, fun r hr' => ?_⟩⟩
        have pr : p ≠ r := fun z => by rw [← z, upd_same] at hr'; cases hr'
        rw [cut_to _ i0] at hr' ⊢
        rw [cut_from _ (by omega), show (i + 1).toNat = i.toNat + 1 from by omega, ← List.map_take, ← List.map_drop]
        rw [← List.map_take] at hr'
        refine ⟨_, by rw [upd_ne pr, upd_same], _, upd_same, by rw [List.length_map, List.length_map, List.length_take, List.length_drop, sizeLine_eq]; omega, fun u hu => ?_⟩
        rw [← List.map_append]
        have S2 : Same H (upd (upd (upd H1 p (.lst ((ps.take i.toNat).map V.int))) r (.lst ((ps.drop (i.toNat + 1)).map V.int))) u (.lst ((ps.take i.toNat ++ ps.drop (i.toNat + 1)).map V.int))) := ((S1.put' hp).put' hr').put' hu
        have e2 : upd (upd (upd H1 p (.lst ((ps.take i.toNat).map V.int))) r (.lst ((ps.drop (i.toNat + 1)).map V.int))) u (.lst ((ps.take i.toNat ++ ps.drop (i.toNat + 1)).map V.int)) u = some (.lst ((ps.take i.toNat ++ ps.drop (i.toNat + 1)).map V.int)) := upd_same
        generalize upd (upd (upd H1 p (.lst ((ps.take i.toNat).map V.int))) r (.lst ((ps.drop (i.toNat + 1)).map V.int))) u (.lst ((ps.take i.toNat ++ ps.drop (i.toNat + 1)).map V.int)) = H2 at S2 e2 ⊢
        have el : (ps.take i.toNat ++ ps.drop (i.toNat + 1)).length ≤ 1000 := by rw [List.length_append, List.length_take, List.length_drop]; omega
        refine ⟨⟨_, SqL.of e2⟩, fun D2 hD2 => ?_⟩
        refine comp_listI (K := K) (ps.take i.toNat ++ ps.drop (i.toNat + 1)) (fun _ => true) (· + 1) [] (small1000 el) (SqL.of e2) hD2 (fun x _ H' Q' _ q => q) (fun x _ _ H' Q' _ q => ?_) ?_
        · one_place; exact q
        · rw [all_list]
          have S3 := S2.put' (o := .lst (((ps.take i.toNat ++ ps.drop (i.toNat + 1)).map (· + 1)).map V.int)) hD2
          have e3 : upd H2 D2 (.lst (((ps.take i.toNat ++ ps.drop (i.toNat + 1)).map (· + 1)).map V.int)) D2 = some (.lst (((ps.take i.toNat ++ ps.drop (i.toNat + 1)).map (· + 1)).map V.int)) := upd_same
          generalize upd H2 D2 (.lst (((ps.take i.toNat ++ ps.drop (i.toNat + 1)).map (· + 1)).map V.int)) = H3 at S3 e3 ⊢
          have ad : ps.getD i.toNat 0 ≤ n := hs.le (getD_mem' (by omega))
          have eld := hs.elder (at' := i.toNat) (by omega) i2
          have erl : ((ps.take i.toNat ++ ps.drop (i.toNat + 1)).map (· + 1)).length = ps.length - 1 := by rw [List.length_map, List.length_append, List.length_take, List.length_drop]; omega
          generalize (ps.take i.toNat ++ ps.drop (i.toNat + 1)).map (· + 1) = rest at S3 e3 eld erl ⊢
          have al : ps.getD i.toNat 0 - (rest.length : Int) ≤ 100 := by omega
          refine ⟨_, i, rfl, S3.seq hS, _, at_int i0 (by omega), D2, rfl, _, .inl (SqL.of e3), _, rfl, by rw [List.length_map]; omega, by rw [List.length_map]; omega, fun D3 hD3 => ?_⟩
          rw [List.length_map]
          refine comp_rangeI (lo := 0) (ps.getD i.toNat 0 - (rest.length : Int)).toNat (fun _ => true) (fun _ => 1) [] (small1000 (by omega)) hD3 (fun _ _ _ H' Q' _ q => q) (fun _ _ _ _ H' Q' _ q => q) ?_
          rw [ones_eq]
          have n3 : D2 ≠ D3 := ne_of_none e3 hD3
          refine ⟨D2, rfl, D3, rfl, _, by rw [upd_ne n3]; exact e3, _, upd_same, by rw [List.length_map, List.length_map, List.length_replicate, erl, sizeLine_eq]; omega, fun r hr' => ?_⟩
          rw [← List.map_append]
          exact k r _ _ ((S3.put' hD3).put' hr') upd_same eld
def spDrawnPiles (K : PySem.W.Frag) : Sp := fun vs H Q _ => ∃ (a : Addr) (ns : List Int) (kk n cap : Int), vs = [.ref a, .int kk, .int n, .int cap] ∧ IL K H a ns ∧ ns.length ≤ 63 ∧ 0 ≤ kk ∧ kk ≤ 1000 ∧ 1 ≤ n ∧ n ≤ 100 ∧ 1 ≤ cap ∧
  ∀ (p : Addr) (H' : Hp) (qs : List Int), Same H H' → H' p = some (.lst (qs.map V.int)) → Setting n qs → Q (.ref p) H'
def wPiles (a : Addr) (kk n cap : Int) (p : Addr) (H : Hp) (m : Nat) (σ : St) (H' : Hp) : Prop := ∃ (step left : Int) (qs : List Int), σ = [some (.ref a), some (.int kk), some (.int n), some (.int cap), some (.int step), some (.ref p), some (.int left)] ∧
  Same H H' ∧ H' p = some (.lst (qs.map V.int)) ∧ (∀ x ∈ qs, 1 ≤ x) ∧ qs.sum + left = n ∧ 0 ≤ left ∧ m = left.toNat
theorem d__law_drawn_piles (D : Dfn K mg "_law_drawn_piles" s__law_drawn_piles ["script", "k", "coins", "cap"]) (T : Txt K mg uM) (D__law_next : OkD P w K mg base 1 "_law_next" ["step"] spNext)
    (D__law_cell : OkD P w K mg base 1 "_law_cell" ["script", "k"] (spCell K)) (D__law_fallen : OkD P w K mg base 1 "_law_fallen" ["piles"] (spFallen K)) : OkD P w K mg base 2 "_law_drawn_piles" ["script", "k", "coins", "cap"] (spDrawnPiles K) := by
  have SC := sc__law_drawn_piles
  refine D.ok SC (fun vs H Q E h => ?_) (fun f cdv A outer s H vs Q E hr h => ?_)
  · obtain ⟨a, ns, kk, n, cap, rfl, _⟩ := h; rfl
  · obtain ⟨a, ns, kk, n, cap, rfl, hS, hl, k0, k1, n0, n1, c0, k⟩ := h
    refine ⟨_, (pss_cons (ps_set (i := 4) SC.nd rfl (Or.inl rfl) (pe_callD D__law_next (hr.mono (by first | decide | omega)) rfl (pa_cons (pe_op op_add (pe_op op_mod (pe_op op_mul (pe_callD D__law_cell (hr.mono (by first | decide | omega)) rfl (pa_cons (pv 0) (pa_cons (pv 1) pa_nil))) pe_int) pe_int) pe_int) pa_nil)))
      (pss_cons (ps_set (i := 5) SC.nd rfl (Or.inl rfl) (pe_lst pa_nil))
      (pss_cons (ps_set (i := 6) SC.nd rfl (Or.inl rfl) (pv 2))
      (pss_cons (ps_while PassesOwn.never (pt_cmpR op_gt (pv 6) pe_int (nomark _))
        (pss_cons (ps_set (i := 4) SC.nd rfl (Or.inl rfl) (pe_callD D__law_next (hr.mono (by first | decide | omega)) rfl (pa_cons (pv 4) pa_nil)))
        (pss_cons (ps_expr (pe_bm PySem.F.plainAttrs_list PySem.F.slot_list_append PySem.F.type_list_append mt_append (pv 5) (pa_cons (pe_op op_add pe_int (pe_op op_mod (pe_op op_fdiv (pv 4) pe_int) (pe_callB (call_min2 rfl) rfl T.n_min PyProof.Rows.boot_min (pa_cons (pv 6) (pa_cons (pv 3) pa_nil))))) pa_nil)))
        (pss_one (ps_set (i := 6) SC.nd rfl (Or.inl rfl) (pe_op op_sub (pv 6) (pe_ix ix_list (pv 5) (pe_un un_neg pe_int) (fun _ _ => rfl))))))))
      (pss_one (ps_ret (pe_callD D__law_fallen (hr.mono (by first | decide | omega)) rfl (pa_cons (pv 5) pa_nil)))))))), ?_⟩
    one_place
    refine ⟨a, ns, kk, rfl, hS, hl, k0, k1, fun v => ?_⟩
    one_place
    refine ⟨.inr ⟨by decide, by decide⟩, by decide, _, rfl, fun v0 v1 v2 => ⟨by decide, fun p hp => ?_⟩⟩
    refine ⟨wPiles a kk n cap p H, ⟨_, v0, n, [], rfl, Same.put hp, upd_same, fun x hx => by simp at hx, by simp, by omega, rfl⟩, ?_⟩
    rintro m σ H' ⟨step, left, qs, rfl, sm, hq, hpos, hsum, hleft, rfl⟩
    simp only [tSeq, tRet, tRetN, tNext, tOp, tUn, tVar, tC, tAsg, gName, tIfS, tTest, tB, tNot, tNotV, tOr, tAnd, tAndV, tOrV, tChain, tCB, tCall, tCons, tNil, tLst, tDrop, tBM, tBM0, tSl, tNoPart, tPart, gSub, rI, rI0, rU, rIxL, cxOf, cxC, rEq, rNe, rEqL, rNeL, scal, L2.start, tComp, iList, iRng1, iRng2, iEnum, tYes, stC, List.map_cons, List.map_nil, List.cons_append, List.nil_append, List.append_nil, List.length_cons, List.length_nil, List.replicate_succ, List.replicate_zero, List.set_cons_zero, List.set_cons_succ, List.getElem?_cons_zero, List.getElem?_cons_succ, Option.some.injEq, List.cons.injEq, V.int.injEq, V.ref.injEq, V.bl.injEq, exists_eq_left, exists_eq_left', exists_and_left, true_and, and_true, Option.join_some, Option.join_none, Nat.reduceAdd, Nat.reduceSub, Nat.sub_self, Nat.sub_zero, List.length_map, Int.toNat_natCast, rSlL, rCat, rAppend, rReverse, rClear, rCount, rIndex, tTup, rRep, rIn, tRaise, tTryC, tDNewT, tDNotIn, sDPut, iZip, rInLL, rIndexLL, rMaxLL, rSorted64, rSortedR64, rSortSet, rLenSet, rRemove, rSortedLL, rGeL, rEqLL, iRngD, rExtend, rPop, spNext, spFallen]
    refine ite2 (fun c => ?_) fun c => ?_
    · have c : 0 < left := of_decide_eq_true c
      refine ⟨fun σ' H1 => ∃ m', m' < left.toNat ∧ wPiles a kk n cap p H m' σ' H1, fun _ _ z => z, fun v w1 w2 => ⟨.inl ⟨rfl, _, SqL.of hq⟩, ⟨by decide, by decide⟩, left, cap, ⟨rfl, rfl⟩, ?_⟩⟩
      have mp : 0 < (if cap < left then cap else left) := by split <;> omega
      have ml : (if cap < left then cap else left) ≤ left := by split <;> omega
      refine ⟨mp, _, hq, by rw [List.length_map, sizeLine_eq]; have := sum_ge_len hpos; omega, ?_⟩
      generalize (if cap < left then cap else left) = b at mp ml ⊢
      have q0 := Int.emod_nonneg (v / 64) (show b ≠ 0 by omega)
      have q1 := Int.emod_lt_of_pos (v / 64) mp
      generalize v / 64 % b = x at q0 q1 ⊢
      refine ⟨_, SqL.of upd_same, _, atI_last _ _, _, rfl, (left - (1 + x)).toNat, by omega, v, left - (1 + x), qs ++ [1 + x], rfl, fun b' o e => ?_, ?_, fun y hy => ?_, ?_, by omega, rfl⟩
      · rw [upd_ne (ne_of_none e hp)]; exact sm b' o e
      · rw [upd_same, List.map_append]; rfl
      · rcases List.mem_append.mp hy with z | z
        · exact hpos y z
        · rw [List.mem_singleton.mp z]; omega
      · rw [sum_app, List.sum_cons, List.sum_nil]; omega
    · have c : ¬ 0 < left := fun z => c (decide_eq_true z)
      have := sum_ge_len hpos
      exact ⟨qs, SqL.of hq, by omega, fun r H1 ms hr1 hr2 hr3 hr4 hr5 => k r H1 ms (sm.trans hr2) hr3 (Setting.of_perm hr4 hr5 hpos (by omega))⟩
def spSetting (K : PySem.W.Frag) : Sp := fun vs H Q _ => ∃ (a : Addr) (ns : List Int) (kk n : Int), vs = [.ref a, .int kk, .int n] ∧ IL K H a ns ∧ ns.length ≤ 63 ∧ 0 ≤ kk ∧ kk ≤ 100 ∧ 1 ≤ n ∧ n ≤ 100 ∧
  ∀ (p : Addr) (H' : Hp) (qs : List Int), Same H H' → H' p = some (.lst (qs.map V.int)) → Setting n qs → Q (.ref p) H'
def wSet (a : Addr) (kk n way cap : Int) (H : Hp) (K : PySem.W.Frag) (i : Nat) (σ : St) (H' : Hp) : Prop := ∃ (p : Addr) (step : Int) (j : Option V) (qs : List Int), σ = [some (.ref a), some (.int kk), some (.int n), some (.int way), some (.int cap), some (.ref p), some (.int step), j] ∧
  Same H H' ∧ H' p = some (.lst (qs.map V.int)) ∧ Setting n qs
theorem d__law_setting (D : Dfn K mg "_law_setting" s__law_setting ["script", "k", "coins"]) (T : Txt K mg uM) (D__law_next : OkD P w K mg base 1 "_law_next" ["step"] spNext)
    (D__law_cell : OkD P w K mg base 1 "_law_cell" ["script", "k"] (spCell K)) (D__law_drawn_piles : OkD P w K mg base 2 "_law_drawn_piles" ["script", "k", "coins", "cap"] (spDrawnPiles K)) (D__law_by_marks : OkD P w K mg base 1 "_law_by_marks" ["marks"] (spByMarks K))
    (D__law_drawn_marks : OkD P w K mg base 2 "_law_drawn_marks" ["script", "k", "coins"] (spDrawnMarks K)) (D__law_elder : OkD P w K mg base 1 "_law_elder" ["piles", "number"] (spElder K)) : OkD P w K mg base 3 "_law_setting" ["script", "k", "coins"] (spSetting K) := by
  have SC := sc__law_setting
  refine D.ok SC (fun vs H Q E h => ?_) (fun f cdv A outer s H vs Q E hr h => ?_)
  · obtain ⟨a, ns, kk, n, rfl, _⟩ := h; rfl
  · obtain ⟨a, ns, kk, n, rfl, hS, hl, k0, k1, n0, n1, k⟩ := h
    refine ⟨_, (pss_cons (ps_set (i := 3) SC.nd rfl (Or.inl rfl) (pe_op op_mod (pe_callD D__law_cell (hr.mono (by first | decide | omega)) rfl (pa_cons (pv 0) (pa_cons (pv 1) pa_nil))) pe_int))
      (pss_cons (ps_set (i := 4) SC.nd rfl (Or.inl rfl) (pe_op op_add pe_int (pe_op op_mod (pe_callD D__law_cell (hr.mono (by first | decide | omega)) rfl (pa_cons (pv 0) (pa_cons (pe_op op_add (pv 1) pe_int) pa_nil))) (pv 2))))
      (pss_cons (ps_if (PW.pt (pw_or (pt_cmpR op_eq (pv 3) pe_int (nomark _)) (pw_or1 (pt_cmpR op_eq (pv 3) pe_int (nomark _))))) (pss_one (ps_ret (pe_callD D__law_drawn_piles (hr.mono (by first | decide | omega)) rfl (pa_cons (pv 0) (pa_cons (pe_op op_add (pv 1) pe_int) (pa_cons (pv 2) (pa_cons (pv 4) pa_nil))))))) pss_nil)
      (pss_cons (ps_if (pt_cmpR op_eq (pv 3) pe_int (nomark _)) (pss_one (ps_ret (pe_ix ix_list (pe_lst (pa_consL (pe_lst (pa_cons (pv 2) pa_nil)) (pa_cons (pe_comp (own := ["j"]) (fr := []) (ixs := []) rfl ⟨rfl, rfl, rfl, rfl, rfl, rfl, rfl⟩ ⟨fun _ _ _ _ => pg_name (i := 0) (by decide +kernel : (["j"] : List Str).Nodup) rfl (Or.inl rfl) (.inr rfl), fun _ _ _ _ => pts_nil, fun _ _ _ _ => pe_int⟩ (pi_range1 rfl T.n_range (pa_cons (pv 2) pa_nil))) pa_nil))) (pe_op op_mod (pe_callD D__law_cell (hr.mono (by first | decide | omega)) rfl (pa_cons (pv 0) (pa_cons (pe_op op_add (pv 1) pe_int) pa_nil))) pe_int) (fun _ _ => rfl)))) pss_nil)
      (pss_cons (ps_set (i := 5) SC.nd rfl (Or.inl rfl) (pe_callD D__law_by_marks (hr.mono (by first | decide | omega)) rfl (pa_cons (pe_callD D__law_drawn_marks (hr.mono (by first | decide | omega)) rfl (pa_cons (pv 0) (pa_cons (pe_op op_add (pv 1) pe_int) (pa_cons (pv 2) pa_nil)))) pa_nil)))
      (pss_cons (ps_set (i := 6) SC.nd rfl (Or.inl rfl) (pe_callD D__law_next (hr.mono (by first | decide | omega)) rfl (pa_cons (pe_op op_add (pe_op op_mod (pe_op op_mul (pe_callD D__law_cell (hr.mono (by first | decide | omega)) rfl (pa_cons (pv 0) (pa_cons (pe_op op_add (pv 1) pe_int) pa_nil))) pe_int) pe_int) pe_int) pa_nil)))
      (pss_cons (ps_if (pt_cmpR op_gt (pv 3) pe_int (nomark _)) (pss_one (ps_for PassesOwn.never rfl (pi_range1 rfl T.n_range (pa_cons (pe_op op_mod (pe_callD D__law_cell (hr.mono (by first | decide | omega)) rfl (pa_cons (pv 0) (pa_cons (pe_op op_add (pv 1) pe_int) pa_nil))) pe_int) pa_nil)) (pg_name (i := 7) SC.nd rfl (Or.inl rfl))
          (pss_cons (ps_set (i := 6) SC.nd rfl (Or.inl rfl) (pe_callD D__law_next (hr.mono (by first | decide | omega)) rfl (pa_cons (pv 6) pa_nil)))
          (pss_one (ps_set (i := 5) SC.nd rfl (Or.inl rfl) (pe_callD D__law_elder (hr.mono (by first | decide | omega)) rfl (pa_cons (pv 5) (pa_cons (pe_op op_fdiv (pv 6) pe_int) pa_nil)))))))) pss_nil)
      (pss_one (ps_ret (pv 5)))))))))), ?_⟩
    one_place
    refine ⟨a, ns, kk, rfl, hS, hl, k0, by omega, fun v1 => ?_⟩
    one_place
    refine ⟨by decide, a, ns, kk + 1, rfl, hS, hl, by omega, by omega, fun v2 => ?_⟩
    one_place
    refine ⟨by omega, ?_⟩
    have cap1 : 1 ≤ 1 + v2 % n := by have := Int.emod_nonneg v2 (show n ≠ 0 by omega); omega
    have dp : spDrawnPiles K [V.ref a, V.int (kk + 2), V.int n, V.int (1 + v2 % n)] H Q E0 := ⟨a, ns, kk + 2, n, _, rfl, hS, hl, by omega, by omega, n0, n1, cap1, k⟩
    generalize v1 % 6 = way
    by_cases c0 : way = 0
    · simp only [c0, decide_true, if_true]; exact dp
    by_cases c1 : way = 1
    · simp only [c1, decide_true, if_true]; exact dp
    simp only [c0, c1, decide_false, Bool.false_eq_true, if_false]
    by_cases c2 : way = 2
    · simp only [c2, decide_true, if_true]
      refine ⟨by decide, fun p hp => ⟨by omega, by omega, fun D1 hD1 => ?_⟩⟩
      refine comp_rangeI (lo := 0) n.toNat (fun _ => true) (fun _ => 1) [] (small1000 (by omega)) hD1 (fun _ _ _ H' Q' _ q => q) (fun _ _ _ _ H' Q' _ q => q) ?_
      rw [ones_eq]
      have np : p ≠ D1 := fun z => by rw [← z, upd_same] at hD1; cases hD1
      have S1 : Same H (upd (upd H p (.lst [V.int n])) D1 (.lst ((List.replicate n.toNat (1 : Int)).map V.int))) := (Same.put hp).put' hD1
      have e1 : upd (upd H p (.lst [V.int n])) D1 (.lst ((List.replicate n.toNat (1 : Int)).map V.int)) p = some (.lst ([n].map V.int)) := by rw [upd_ne np, upd_same]; rfl
      have e2 : upd (upd H p (.lst [V.int n])) D1 (.lst ((List.replicate n.toNat (1 : Int)).map V.int)) D1 = some (.lst ((List.replicate n.toNat (1 : Int)).map V.int)) := upd_same
      generalize upd (upd H p (.lst [V.int n])) D1 (.lst ((List.replicate n.toNat (1 : Int)).map V.int)) = H1 at S1 e1 e2 ⊢
      refine ⟨by decide, fun r hr' => ⟨a, ns, kk + 1, rfl, (S1.put' hr').seq hS, hl, by omega, by omega, fun v3 => ?_⟩⟩
      refine ⟨_, rfl, by decide, _, SqL.of upd_same, ?_⟩
      have S2 := S1.put' (o := .lst [V.ref p, V.ref D1]) hr'
      have nr1 : p ≠ r := ne_of_none e1 hr'
      have nr2 : D1 ≠ r := ne_of_none e2 hr'
      have v0 := Int.emod_nonneg v3 (show (2 : Int) ≠ 0 by decide)
      have v4 := Int.emod_lt_of_pos v3 (show (0 : Int) < 2 by decide)
      rcases (show v3 % 2 = 0 ∨ v3 % 2 = 1 by omega) with z | z
      · rw [z]
        refine ⟨.ref p, rfl, k p _ [n] S2 (by rw [upd_ne nr1]; exact e1) ⟨List.pairwise_singleton _ _, fun x hx => by rw [List.mem_singleton.mp hx]; exact n0, by simp⟩⟩
      · rw [z]
        refine ⟨.ref D1, rfl, k D1 _ (List.replicate n.toNat 1) S2 (by rw [upd_ne nr2]; exact e2) ⟨List.pairwise_replicate.mpr (.inr (Int.le_refl _)), fun x hx => by rw [List.eq_of_mem_replicate hx]; exact Int.le_refl _, by rw [sum_rep]; omega⟩⟩
    · simp only [c2, decide_false, Bool.false_eq_true, if_false]
      refine ⟨a, ns, kk + 2, n, rfl, hS, hl, by omega, by omega, n0, n1, fun p H1 ms hp S1 e1 hm => ?_⟩
      have ml : ms.length ≤ 1000 := by
        have z := hm.lo
        rcases Nat.lt_or_ge 1000 ms.length with y | y
        · have : 1000 * 1001 ≤ ((ms.length : Int) - 1) * ms.length := Int.mul_le_mul (by omega) (by omega) (by omega) (by omega)
          omega
        · exact y
      refine ⟨p, ms, rfl, SqL.of e1, ml, fun r H2 hr1 S2 e2 => ?_⟩
      have S3 := S1.trans S2
      refine ⟨a, ns, kk + 3, rfl, S3.seq hS, hl, by omega, by omega, fun v3 => ⟨_, rfl, .inr ⟨by decide, by decide⟩, by decide, _, rfl, fun v4 v5 v6 => ?_⟩⟩
      have hset := hm.setting
      refine ite2 (fun c => ?_) fun c => ?_
      · refine ⟨_, rfl, _, rfl, _, _, rfl, rfl, a, ns, kk + 1, rfl, S3.seq hS, hl, by omega, by omega, fun v7 => ⟨_, _, rfl, rfl, (by show (0 : Int) < 120; decide), ?_⟩⟩
        have w0 := Int.emod_nonneg v7 (show (120 : Int) ≠ 0 by decide)
        have w1 := Int.emod_lt_of_pos v7 (show (0 : Int) < 120 by decide)
        refine ⟨_, rfl, by omega, by omega, for_range (lo := 0) (n := (v7 % 120).toNat) (wSet a kk n way (1 + v2 % n) H K) ⟨r, v4, none, _, rfl, S3, e2, hset⟩ ?_ ?_⟩
        · rintro i σ H' hi ⟨p', step, j, qs, rfl, sm, hq, hset'⟩
          row_cond spNext
          intro v8 v9 v10
          refine ⟨⟨by decide, by decide⟩, p', qs, _, n, rfl, hq, hset', n0, n1, fun u H3 us S4 e4 h4 => ?_⟩
          exact ⟨u, v8, _, us, rfl, sm.trans S4, e4, h4⟩
        · rintro σ H' ⟨p', step, j, qs, rfl, sm, hq, hset'⟩
          one_place
          exact k p' H' qs sm hq hset'
      · exact k r H2 _ S3 e2 hset
end
def spGood (K : PySem.W.Frag) : Sp := fun vs H Q _ => ∃ (a : Addr) (ps : List Int), vs = [.ref a] ∧ IL K H a ps ∧ ps.length < 128 ∧ ∀ H', Same H H' → Q (.bl (goodB ps)) H'
section
variable {P : Program} {w : World} {K : PySem.W.Frag} {mg : Str → Option Value} {base : Heap} {uM : UM}
theorem d_is_setting (D : Dfn K mg "is_setting" s_is_setting ["piles"]) (T : Txt K mg uM) : OkD P w K mg base 1 "is_setting" ["piles"] (spGood K) := by
  have SC := sc_is_setting
  refine D.ok SC (fun vs H Q E h => ?_) (fun f cdv A outer s H vs Q E hr h => ?_)
  · obtain ⟨a, ps, rfl, _⟩ := h; rfl
  · obtain ⟨a, ps, rfl, hS, hl, k⟩ := h
    have hu := hr.units
    refine ⟨_, (pss_cons (ps_if (pt_cmpR (op_neL hu) (pv 0) (pe_sortedR rfl T.n_sorted (pa_cons (pv 0) pa_nil)) (nomark _)) (pss_one (ps_ret pe_bl)) pss_nil)
      (pss_one (ps_ret (pe_and (pe_chain op_le op_le pe_int (pe_callB (call_sumL rfl) rfl T.n_sum PyProof.Rows.boot_sum (pa_cons (pv 0) pa_nil)) (pe_glob rfl T.c_MOST_COINS T.r_MOST_COINS)) (pe_one (pe_cmpR op_ge (pe_callB (call_minL rfl) rfl T.n_min PyProof.Rows.boot_min (pa_cons (pv 0) pa_nil)) pe_int (nomark _))))))), ?_⟩
    row_cond rSortedR
    refine ⟨_, hS, hl, fun p ms hp pm so => ?_⟩
    have S1 := Same.put (o := .lst (ms.map V.int)) hp
    refine ⟨ps, S1.seq hS, ms, SqL.of upd_same, ite2 (fun c => ?_) fun c => ?_⟩
    · have c : ¬ ps = ms := by simpa using c
      have z := k _ S1
      have e : goodB ps = false := by
        unfold goodB
        exact decide_eq_false fun y => c (perm_eq pm.symm y.2.2.2 so)
      rw [e] at z
      exact z
    · have c : ps = ms := by simpa using c
      subst c
      refine ⟨_, S1.seq hS, ?_⟩
      have fin : ∀ b : Bool, b = goodB ps → Q (.bl b) (upd H p (.lst (ps.map V.int))) := fun b e => by rw [e]; exact k _ S1
      have bad : ¬ (ps ≠ [] ∧ ps.sum ≤ 100 ∧ (∀ x ∈ ps, 1 ≤ x) ∧ ps.Pairwise (· ≥ ·)) → Q (.bl false) (upd H p (.lst (ps.map V.int))) := fun z => fin false (decide_eq_false z).symm
      by_cases c1 : 1 ≤ ps.sum
      · rw [if_pos (decide_eq_true c1)]
        by_cases c2 : ps.sum ≤ 100
        · rw [if_pos (decide_eq_true c2)]
          have ne : ps ≠ [] := fun z => by rw [z] at c1; simp at c1
          refine ⟨ps, S1.seq hS, ne, fun M m1 m2 => fin _ ?_⟩
          unfold goodB
          by_cases c3 : 1 ≤ M
          · rw [decide_eq_true c3]
            exact (decide_eq_true ⟨ne, c2, fun x hx => Int.le_trans c3 (m2 x hx), so⟩).symm
          · rw [decide_eq_false c3]
            exact (decide_eq_false fun z => c3 (z.2.2.1 M m1)).symm
        · rw [if_neg (by simpa using c2)]
          exact bad fun z => c2 z.2.1
      · rw [if_neg (by simpa using c1), if_neg Bool.false_ne_true]
        refine bad fun z => c1 ?_
        have := sum_ge_len z.2.2.1
        have : 0 < ps.length := List.length_pos_iff.mpr z.1
        omega
end
def spCheck (K : PySem.W.Frag) : Sp := fun vs H Q _ => ∃ (a : Addr) (ps : List Int), vs = [.ref a] ∧ IL K H a ps ∧ ps.length < 128 ∧ goodB ps = true ∧ ∀ H', Same H H' → Q .non H'
def spTurned (K : PySem.W.Frag) : Sp := fun vs H Q _ => ∃ (a : Addr) (ps : List Int) (n : Int), vs = [.ref a] ∧ IL K H a ps ∧ Setting n ps ∧ 1 ≤ n ∧ n ≤ 100 ∧
  ∀ (p : Addr) (H' : Hp), H p = none → Same H H' → H' p = some (.lst ((turn ps).map V.int)) → Q (.ref p) H'
section
variable {P : Program} {w : World} {K : PySem.W.Frag} {mg : Str → Option Value} {base : Heap} {uM : UM}
theorem d_check_setting (D : Dfn K mg "check_setting" s_check_setting ["piles"]) (T : Txt K mg uM) (D_is_setting : OkD P w K mg base 1 "is_setting" ["piles"] (spGood K)) : OkD P w K mg base 2 "check_setting" ["piles"] (spCheck K) := by
  have SC := sc_check_setting
  refine D.ok SC (fun vs H Q E h => ?_) (fun f cdv A outer s H vs Q E hr h => ?_)
  · obtain ⟨a, ps, rfl, _⟩ := h; rfl
  · obtain ⟨a, ps, rfl, hS, hl, hg, k⟩ := h
    refine ⟨_, (pss_one (ps_if (pt_not (pt_val (pe_callD D_is_setting (hr.mono (by first | decide | omega)) rfl (pa_cons (pv 0) pa_nil)))) (pss_one ps_never) pss_nil)), ?_⟩
    row_cond tNever
    refine ⟨a, ps, rfl, hS, hl, fun H1 sm => ?_⟩
    rw [hg]
    refine ⟨true, rfl, ?_⟩
    rw [if_neg (by decide)]
    exact k H1 sm
theorem d_turned (D : Dfn K mg "turned" s_turned ["piles"]) (T : Txt K mg uM) (D_check_setting : OkD P w K mg base 2 "check_setting" ["piles"] (spCheck K)) : OkD P w K mg base 3 "turned" ["piles"] (spTurned K) := by
  have SC := sc_turned
  refine D.ok SC (fun vs H Q E h => ?_) (fun f cdv A outer s H vs Q E hr h => ?_)
  · obtain ⟨a, ps, n, rfl, _⟩ := h; rfl
  · obtain ⟨a, ps, n, rfl, hS, st, n0, n1, k⟩ := h
    have pl := st.len
    refine ⟨_, (pss_cons (ps_expr (pe_callD D_check_setting (hr.mono (by first | decide | omega)) rfl (pa_cons (pv 0) pa_nil)))
      (pss_cons (ps_setC (i := 1) (own := ["pile"]) (fr := []) (ixs := []) rfl ⟨rfl, rfl, rfl, rfl, rfl, rfl, rfl⟩ ⟨fun _ _ _ _ => pg_name (i := 0) (by decide +kernel : (["pile"] : List Str).Nodup) rfl (Or.inl rfl) (.inr rfl), fun _ _ _ _ => pts_one (pt_cmpR op_gt (pv 0) pe_int (nomark _)), fun _ _ _ _ => (pe_op op_sub (pv 0) pe_int)⟩ (pi_list (pv 0)) SC.nd rfl rfl)
      (pss_one (ps_ret (pe_sortedR rfl T.n_sorted (pa_cons (pe_op op_cat (pv 1) (pe_lst (pa_cons (pe_callB call_len_seq rfl T.n_len PySem.boot_len (pa_cons (pv 0) pa_nil)) pa_nil))) pa_nil)))))), ?_⟩
    row_cond rSortedR
    refine ⟨a, ps, rfl, hS, by omega, st.good n0 (by omega), fun H1 sm1 => ?_⟩
    refine ⟨⟨_, sm1.seq hS⟩, fun D1 hD1 => ?_⟩
    refine comp_listI (K := K) ps (fun x => decide (1 < x)) (fun x => x - 1) [] (small1000 (by omega)) (sm1.seq hS) hD1 (fun x _ H' Q' _ q => ?_) (fun x _ _ H' Q' _ q => ?_) ?_
    · one_place; exact q
    · one_place; exact q
    · have sm2 := sm1.put' (o := .lst ((leftOf ps).map V.int)) hD1
      have e1 : upd H1 D1 (.lst ((leftOf ps).map V.int)) D1 = some (.lst ((leftOf ps).map V.int)) := upd_same
      have ce : (ps.filter fun x => decide (1 < x)).map (fun x => x - 1) = leftOf ps := rfl
      rw [ce]
      generalize upd H1 D1 (.lst ((leftOf ps).map V.int)) = H2 at sm2 e1 ⊢
      have l2 := leftOf_two st.pos
      have hsum := st.sum
      refine ⟨_, .inl (sm2.seq hS), by decide, fun p hp => ⟨D1, rfl, _, by rw [upd_ne (ne_of_none e1 hp)]; exact e1, _, upd_same, by rw [List.length_map, sizeLine_eq]; simp only [List.length_cons, List.length_nil]; omega, fun r hr' => ?_⟩⟩
      have sm3 := (sm2.put' (o := .lst [V.int ((ps.map V.int).length : Int)]) hp).put' (o := .lst ((leftOf ps).map V.int ++ [V.int ((ps.map V.int).length : Int)])) hr'
      refine ⟨leftOf ps ++ [(ps.length : Int)], SqL.of (by rw [upd_same, List.map_append, List.length_map]; rfl), by rw [List.length_append, List.length_singleton]; omega, fun q ms hq pm so => ?_⟩
      refine k q _ (sm3.free hq) (sm3.put' hq) ?_
      rw [upd_same, turn_of st.ord pm so]
end
def spWhich (K : PySem.W.Frag) (C : Addr) (r : Int) : Sp := fun vs H Q _ => ∃ (e : Addr), vs = [.ref e] ∧ H e = some (excO C e) ∧ ∀ H', Same H H' → Q (.int r) H'
section
variable {P : Program} {w : World} {K : PySem.W.Frag} {mg : Str → Option Value} {base : Heap} {uM : UM}
theorem d__law_which (D : Dfn K mg "_law_which" s__law_which ["e"]) (T : Txt K mg uM) {C : Addr} {r : Nat} {b1 b2 b3 b4 b5 : Bool} (hx : XC.ExC K C) (h1 : PySem.W.kitOne K (.ref C) (.ref (uM.2 1)) = some b1) (h2 : PySem.W.kitOne K (.ref C) (.ref (uM.2 2)) = some b2) (h3 : PySem.W.kitOne K (.ref C) (.ref (uM.2 3)) = some b3)
    (h4 : PySem.W.kitOne K (.ref C) (.ref (uM.2 4)) = some b4) (h5 : PySem.W.kitOne K (.ref C) (.ref (uM.2 5)) = some b5) (hv : PySem.W.kitOne K (.ref C) (.type "ValueError") = some true)
    (hc : ([V.bl b1, V.bl b2, V.bl b3, V.bl b4, V.bl b5].countP fun z => eqV z (.bl true)) = 1) (hi : ([V.bl b1, V.bl b2, V.bl b3, V.bl b4, V.bl b5][r]?.elim false fun z => eqV z (.bl true)) = true)
    (hb : ∀ m, m < r → ([V.bl b1, V.bl b2, V.bl b3, V.bl b4, V.bl b5][m]?.elim true fun z => eqV z (.bl true)) = false) : OkM P w K mg base 1 "_law_which" ["e"] (spWhich K C r) := by
  have SC := sc__law_which
  refine D.okM SC (fun vs H Q E h => ?_) (fun f cdv A outer s H vs Q hr h => ?_)
  · obtain ⟨e, rfl, _⟩ := h; rfl
  · obtain ⟨e, rfl, he, k⟩ := h
    refine ⟨_, (pss_cons (ps_set (i := 1) SC.nd rfl (Or.inl rfl) (pe_lst (pa_cons (pe_callB call_isE rfl T.n_isinstance PyProof.Rows.boot_isinstance (pa_cons (pv 0) (pa_cons (pe_glob rfl T.c_NoPiles T.r_NoPiles) pa_nil))) (pa_cons (pe_callB call_isE rfl T.n_isinstance PyProof.Rows.boot_isinstance (pa_cons (pv 0) (pa_cons (pe_glob rfl T.c_NotRound T.r_NotRound) pa_nil))) (pa_cons (pe_callB call_isE rfl T.n_isinstance PyProof.Rows.boot_isinstance (pa_cons (pv 0) (pa_cons (pe_glob rfl T.c_NoMarks T.r_NoMarks) pa_nil))) pa_nil)))))
      (pss_cons (ps_set (i := 1) SC.nd rfl (Or.inl rfl) (pe_op op_cat (pv 1) (pe_lst (pa_cons (pe_callB call_isE rfl T.n_isinstance PyProof.Rows.boot_isinstance (pa_cons (pv 0) (pa_cons (pe_glob rfl T.c_NoNumber T.r_NoNumber) pa_nil))) (pa_cons (pe_callB call_isE rfl T.n_isinstance PyProof.Rows.boot_isinstance (pa_cons (pv 0) (pa_cons (pe_glob rfl T.c_NoNote T.r_NoNote) pa_nil))) pa_nil)))))
      (pss_cons (ps_if (PW.pt (pw_or (pt_not (pt_val (pe_callB call_isE rfl T.n_isinstance PyProof.Rows.boot_isinstance (pa_cons (pv 0) (pa_cons (pe_bltn (v := .ty "ValueError") rfl T.n_ValueError PyProof.Rows.Boot.«ValueError» rfl) pa_nil))))) (pw_or1 (pt_cmpR op_ne (pe_bm PySem.F.plainAttrs_list PySem.F.slot_list_count PySem.F.type_list_count mt_count (pv 1) (pa_cons pe_bl pa_nil)) pe_int (nomark _))))) (pss_one (ps_ret pe_int)) pss_nil)
      (pss_one (ps_ret (pe_bm PySem.F.plainAttrs_list PySem.F.slot_list_index PySem.F.type_list_index mt_index (pv 1) (pa_cons pe_bl pa_nil))))))), ?_⟩
    refine cut (fun σ H' => ∃ t, σ = [some (.ref e), some (.ref t)] ∧ Same H H' ∧ H' t = some (.lst [.bl b1, .bl b2, .bl b3])) (fun R hR => ?_) ?_
    · row_cond rIsE
      exact ⟨e, C, _, ⟨rfl, rfl⟩, he, hx, _, rfl, b1, h1, e, C, _, ⟨rfl, rfl⟩, he, hx, _, rfl, b2, h2, e, C, _, ⟨rfl, rfl⟩, he, hx, _, rfl, b3, h3, by decide, fun t ht => hR _ _ ⟨t, rfl, Same.put ht, upd_same⟩⟩
    rintro σ1 H1 ⟨t, rfl, s1, e1⟩
    refine cut (fun σ H' => ∃ t, σ = [some (.ref e), some (.ref t)] ∧ Same H H' ∧ H' t = some (.lst [.bl b1, .bl b2, .bl b3, .bl b4, .bl b5])) (fun R hR => ?_) ?_
    · row_cond rIsE
      have he1 := s1 _ _ he
      exact ⟨e, C, _, ⟨rfl, rfl⟩, he1, hx, _, rfl, b4, h4, e, C, _, ⟨rfl, rfl⟩, he1, hx, _, rfl, b5, h5, by decide, fun p hp => ⟨_, (Same.put hp) _ _ e1, _, upd_same, (show 5 ≤ sizeLine by decide), fun q hq => hR _ _ ⟨q, rfl, (s1.put' hp).put' hq, upd_same⟩⟩⟩
    rintro σ2 H2 ⟨t, rfl, s2, e2⟩
    row_cond rIsE
    have he2 := s2 _ _ he
    refine ⟨e, C, _, ⟨rfl, rfl⟩, he2, hx, _, rfl, true, hv, ?_⟩
    rw [if_neg (by decide)]
    have ty : tyV K "list" (V.ref t) H2 := .inl ⟨rfl, _, SqL.of e2⟩
    have fl : ([V.bl b1, V.bl b2, V.bl b3, V.bl b4, V.bl b5] : List V).all flatV = true := rfl
    refine ⟨ty, _, e2, rfl, fl, ?_⟩
    rw [hc, if_neg (by decide)]
    exact ⟨ty, _, e2, rfl, fl, r, hi, hb, k H2 s2⟩
end
def spStairOf : Sp := fun vs H Q _ => ∃ n : Int, vs = [.int n] ∧ 1 ≤ n ∧ n ≤ 10000 ∧ ∀ k : Int, IsStair n k → Q (.int k) H
def spAbove (K : PySem.W.Frag) : Sp := fun vs H Q _ => ∃ (a : Addr) (ps : List Int) (n k : Int), vs = [.ref a] ∧ H a = some (.lst (ps.map V.int)) ∧ Setting n ps ∧ 1 ≤ n ∧ n ≤ 100 ∧ IsStair n k ∧
  ∀ (p : Addr) (H' : Hp), H p = none → Same H H' → H' p = some (.lst ((aboveL k ps).map V.int)) → Q (.ref p) H'
def spAllMarks (K : PySem.W.Frag) : Sp := fun vs H Q _ => ∃ (a : Addr) (ms : List Int), vs = [.ref a] ∧ IL K H a ms ∧ ms.length ≤ 1000 ∧ ∀ H', Same H H' → Q (.bl (marksB ms)) H'
def wStairOf (n : Int) (H : Hp) (m : Nat) (σ : St) (H' : Hp) : Prop := H' = H ∧ ∃ j : Int, σ = [some (.int n), some (.int j)] ∧ 1 ≤ j ∧ (j - 1) * j < 2 * n ∧ m = (20000 - j).toNat
section
variable {P : Program} {w : World} {K : PySem.W.Frag} {mg : Str → Option Value} {base : Heap} {uM : UM}
theorem d_stair_of (D : Dfn K mg "stair_of" s_stair_of ["coins"]) (T : Txt K mg uM) : OkD P w K mg base 1 "stair_of" ["coins"] spStairOf := by
  have SC := sc_stair_of
  refine D.ok SC (fun vs H Q E h => ?_) (fun f cdv A outer s H vs Q E hr h => ?_)
  · obtain ⟨n, rfl, _⟩ := h; rfl
  · obtain ⟨n, rfl, h0, h1, k⟩ := h
    refine ⟨_, (pss_cons (ps_set (i := 1) SC.nd rfl (Or.inl rfl) pe_int)
      (pss_cons (ps_while PassesOwn.never (pt_cmpR op_lt (pe_op op_fdiv (pe_op op_mul (pv 1) (pe_op op_add (pv 1) pe_int)) pe_int) (pv 0) (nomark _))
        (pss_one (ps_aug (i := 1) SC.nd rfl (Or.inl rfl) pe_int ip_add)))
      (pss_one (ps_ret (pv 1))))), ?_⟩
    one_place
    refine ⟨wStairOf n H, ⟨_, rfl, 1, rfl, by omega, by omega, rfl⟩, ?_⟩
    rintro m σ H' ⟨rfl, j, rfl, j1, j2, rfl⟩
    have jb : j < 20000 := by
      rcases Int.lt_or_le j 20000 with z | z
      · exact z
      · have : 19999 * 20000 ≤ (j - 1) * j := Int.mul_le_mul (by omega) (by omega) (by omega) (by omega)
        omega
    have ev : 2 * (j * (j + 1) / 2) = j * (j + 1) := by
      have := even_mul (j + 1)
      rw [show j + 1 - 1 = j from by omega, Int.mul_comm (j + 1) j] at this
      exact this
    simp only [tSeq, tRet, tRetN, tNext, tOp, tUn, tVar, tC, tAsg, gName, tIfS, tTest, tB, tNot, tNotV, tOr, tAnd, tAndV, tOrV, tChain, tCB, tCall, tCons, tNil, tLst, tDrop, tBM, tBM0, tSl, tNoPart, tPart, gSub, rI, rI0, rU, rIxL, cxOf, cxC, rEq, rNe, rEqL, rNeL, scal, L2.start, tComp, iList, iRng1, iRng2, iEnum, tYes, stC, List.map_cons, List.map_nil, List.cons_append, List.nil_append, List.append_nil, List.length_cons, List.length_nil, List.replicate_succ, List.replicate_zero, List.set_cons_zero, List.set_cons_succ, List.getElem?_cons_zero, List.getElem?_cons_succ, Option.some.injEq, List.cons.injEq, V.int.injEq, V.ref.injEq, V.bl.injEq, exists_eq_left, exists_eq_left', exists_and_left, true_and, and_true, Option.join_some, Option.join_none, Nat.reduceAdd, Nat.reduceSub, Nat.sub_self, Nat.sub_zero, List.length_map, Int.toNat_natCast, rSlL, rCat, rAppend, rReverse, rClear, rCount, rIndex, tTup, rRep, rIn, tRaise, tTryC, tDNewT, tDNotIn, sDPut, iZip, rInLL, rIndexLL, rMaxLL, rSorted64, rSortedR64, rSortSet, rLenSet, rRemove, rSortedLL, rGeL, rEqLL, iRngD, rExtend, rPop, tAug, ipI]
    refine ⟨.inl ⟨by omega, by omega⟩, ⟨by decide, by decide⟩, ite2 (fun c => ?_) fun c => ?_⟩
    · have c : j * (j + 1) / 2 < n := of_decide_eq_true c
      exact ⟨fun σ' H1 => ∃ m', m' < (20000 - j).toNat ∧ wStairOf n H' m' σ' H1, fun _ _ z => z, _, by omega, rfl, j + 1, rfl, by omega, by rw [show j + 1 - 1 = j from by omega]; omega, rfl⟩
    · have c : ¬ j * (j + 1) / 2 < n := fun z => c (decide_eq_true z)
      exact k j ⟨j1, j2, by omega⟩
theorem d_above_stair (D : Dfn K mg "above_stair" s_above_stair ["piles"]) (T : Txt K mg uM) (D_stair_of : OkD P w K mg base 1 "stair_of" ["coins"] spStairOf) : OkD P w K mg base 2 "above_stair" ["piles"] (spAbove K) := by
  have SC := sc_above_stair
  refine D.ok SC (fun vs H Q E h => ?_) (fun f cdv A outer s H vs Q E hr h => ?_)
  · obtain ⟨a, ps, n, k, rfl, _⟩ := h; rfl
  · obtain ⟨a, ps, n, kk, rfl, ha, st, n0, n1, hk, k⟩ := h
    have pl := st.len
    have kb := hk.le (by omega)
    have k1 := hk.1
    refine ⟨_, (pss_cons (ps_set (i := 1) SC.nd rfl (Or.inr rfl) (pe_callD D_stair_of (hr.mono (by first | decide | omega)) rfl (pa_cons (pe_callB (call_sumL rfl) rfl T.n_sum PyProof.Rows.boot_sum (pa_cons (pv 0) pa_nil)) pa_nil)))
      (pss_cons (ps_set (i := 2) SC.nd rfl (Or.inl rfl) (pe_op op_cat (pv 0) (pe_op op_rep (pe_lst (pa_cons pe_int pa_nil)) (pe_op op_sub (pv 1) (pe_callB call_len_seq rfl T.n_len PySem.boot_len (pa_cons (pv 0) pa_nil))))))
      (pss_one (ps_ret (pe_comp (own := ["place", "pile"]) (fr := ["stair"]) (ixs := [1]) rfl ⟨rfl, rfl, rfl, rfl, rfl, rfl, rfl⟩ ⟨fun _ _ _ _ => pg_tupK (K := K) (n := 2) rfl rfl (pgs_cons (pg_name (i := 0) (by decide +kernel : (["place", "pile", "stair"] : List Str).Nodup) rfl (Or.inl rfl) (.inr rfl)) (pgs_cons (pg_name (i := 1) (by decide +kernel : (["place", "pile", "stair"] : List Str).Nodup) rfl (Or.inl rfl) (.inr rfl)) pgs_nil)), fun _ _ _ _ => pts_nil, fun _ _ _ _ => (pe_op op_sub (pv 1) (pe_op op_sub (pe_op op_sub (pv 2) pe_int) (pv 0)))⟩ (pi_enum rfl T.n_enumerate (pa_cons (pv 2) pa_nil))))))), ?_⟩
    one_place
    refine ⟨ps, SqL.of ha, ps.sum, rfl, by rw [st.sum]; exact n0, by rw [st.sum]; omega, fun j hj => ?_⟩
    rw [st.sum] at hj
    have e := hj.uniq hk
    subst e
    one_place
    refine ⟨by decide, fun p hp => ?_⟩
    have s1 := Same.put (o := .lst [V.int 0]) hp
    refine ⟨_, .inl (s1.seq (SqL.of ha)), _, upd_same, by rw [List.length_map]; omega, by rw [List.length_map]; omega, ?_, fun p1 hp1 => ?_⟩
    · rw [List.length_map, sizeLine_eq]; simp only [List.length_cons, List.length_nil]; omega
    have s2 := s1.put' (o := .lst (List.replicate (j - ((ps.map V.int).length : Int)).toNat [V.int 0]).flatten) hp1
    refine ⟨_, s2 _ _ ha, _, upd_same, ?_, fun p2 hp2 => ?_⟩
    · rw [len_rep, List.length_map, sizeLine_eq]; simp only [List.length_cons, List.length_nil]; omega
    have ef : ps.map V.int ++ (List.replicate (j - ((ps.map V.int).length : Int)).toNat [V.int 0]).flatten = (filledL j ps).map V.int := by
      unfold filledL
      rw [List.map_append, List.map_replicate, List.length_map]
      congr 1
      generalize (j - (ps.length : Int)).toNat = z
      induction z with
      | zero => rfl
      | succ z ih => rw [List.replicate_succ, List.flatten_cons, ih, List.replicate_succ]; rfl
    rw [ef]
    have s3 := s2.put' (o := .lst ((filledL j ps).map V.int)) hp2
    have fl : (filledL j ps).length ≤ 1000 := by unfold filledL; rw [List.length_append, List.length_replicate]; omega
    have e3 : upd (upd (upd H p (.lst [V.int 0])) p1 (.lst (List.replicate (j - ((ps.map V.int).length : Int)).toNat [V.int 0]).flatten)) p2 (.lst ((filledL j ps).map V.int)) p2 = some (.lst ((filledL j ps).map V.int)) := upd_same
    generalize upd (upd (upd H p (.lst [V.int 0])) p1 (.lst (List.replicate (j - ((ps.map V.int).length : Int)).toNat [V.int 0]).flatten)) p2 (.lst ((filledL j ps).map V.int)) = H3 at s3 e3 ⊢
    refine ⟨⟨_, SqL.of e3⟩, fun D1 hD1 => ?_⟩
    refine comp_enumI (K := K) (filledL j ps) (fun i p => p - (j - 1 - (i : Int))) [some (.int j)] (small1000 fl) (SqL.of e3) hD1 (fun i x hx H' Q' _ q => ?_) (fun H4 s4 e4 => k D1 H4 (s3.free hD1) (s3.trans s4) e4)
    one_place
    exact q
theorem d_all_marks (D : Dfn K mg "all_marks" s_all_marks ["numbers"]) (T : Txt K mg uM) : OkD P w K mg base 1 "all_marks" ["numbers"] (spAllMarks K) := by
  have SC := sc_all_marks
  refine D.ok SC (fun vs H Q E h => ?_) (fun f cdv A outer s H vs Q E hr h => ?_)
  · obtain ⟨a, ms, rfl, _⟩ := h; rfl
  · obtain ⟨a, ms, rfl, hS, hl, k⟩ := h
    refine ⟨_, (pss_one (ps_ret (pe_callB (call_allL rfl) rfl T.n_all PyProof.Rows.boot_all (pa_cons (pe_comp (own := ["number"]) (fr := []) (ixs := []) rfl ⟨rfl, rfl, rfl, rfl, rfl, rfl, rfl⟩ ⟨fun _ _ _ _ => pg_name (i := 0) (by decide +kernel : (["number"] : List Str).Nodup) rfl (Or.inl rfl) (.inr rfl), fun _ _ _ _ => pts_nil, fun _ _ _ _ => (pe_cmpR (op_inK (K := K) rfl) (pv 0) (pe_tup (pa_cons pe_int (pa_cons pe_int pa_nil))) (by with_unfolding_all rfl))⟩ (pi_list (pv 0))) pa_nil)))), ?_⟩
    one_place
    refine ⟨⟨_, hS⟩, fun D1 hD1 => ?_⟩
    refine comp_growL (K := K) (ms.map V.int) (fun _ => true) (fun v => .bl (inV v [.int 0, .int 1])) [] (by rw [List.length_map]; exact small1000 hl) hS hD1 (fun x hx H' Q' _ q => q H' (Same.refl _)) (fun x hx _ H' Q' _ q => ?_) (fun H2 s2 e2 => ?_)
    · obtain ⟨n, _, rfl⟩ := List.mem_map.mp hx
      one_place
      exact ⟨by decide, fun p hp => ⟨_, .inr (SqT.of upd_same), rfl, rfl, q _ (Same.put hp)⟩⟩
    · have e : ((ms.map V.int).filter fun _ => true).map (fun v => V.bl (inV v [.int 0, .int 1])) = (ms.map isMark).map V.bl := by
        rw [List.filter_eq_self.mpr (fun _ _ => rfl), List.map_map, List.map_map]
        exact List.map_congr_left fun m _ => congrArg V.bl (isMark_in m)
      rw [e] at e2
      have z := k H2 s2
      refine ⟨D1, rfl, _, SqL.of e2, ?_⟩
      have e3 : (ms.map isMark).all id = marksB ms := by unfold marksB; rw [List.all_map]; rfl
      rw [e3]; exact z
end
def spRound (K : PySem.W.Frag) : Sp := fun vs H Q _ => ∃ (a : Addr) (ps : List Int) (n k : Int), vs = [.ref a] ∧ H a = some (.lst (ps.map V.int)) ∧ Setting n ps ∧ 1 ≤ n ∧ n ≤ 100 ∧ IsStair n k ∧ ∀ H', Same H H' → Q (.bl (marksB (aboveL k ps))) H'
section
variable {P : Program} {w : World} {K : PySem.W.Frag} {mg : Str → Option Value} {base : Heap} {uM : UM}
theorem d_is_round (D : Dfn K mg "is_round" s_is_round ["piles"]) (T : Txt K mg uM) (D_check_setting : OkD P w K mg base 2 "check_setting" ["piles"] (spCheck K)) (D_above_stair : OkD P w K mg base 2 "above_stair" ["piles"] (spAbove K)) (D_all_marks : OkD P w K mg base 1 "all_marks" ["numbers"] (spAllMarks K)) :
    OkD P w K mg base 3 "is_round" ["piles"] (spRound K) := by
  have SC := sc_is_round
  refine D.ok SC (fun vs H Q E h => ?_) (fun f cdv A outer s H vs Q E hr h => ?_)
  · obtain ⟨a, ps, n, k, rfl, _⟩ := h; rfl
  · obtain ⟨a, ps, n, kk, rfl, ha, st, n0, n1, hk, k⟩ := h
    have pl := st.len
    have kb := hk.le (by omega)
    refine ⟨_, (pss_cons (ps_expr (pe_callD D_check_setting (hr.mono (by first | decide | omega)) rfl (pa_cons (pv 0) pa_nil)))
      (pss_one (ps_ret (pe_callD D_all_marks (hr.mono (by first | decide | omega)) rfl (pa_cons (pe_callD D_above_stair (hr.mono (by first | decide | omega)) rfl (pa_cons (pv 0) pa_nil)) pa_nil))))), ?_⟩
    one_place
    refine ⟨a, ps, rfl, SqL.of ha, by omega, st.good n0 (by omega), fun H1 s1 => ?_⟩
    refine ⟨a, ps, n, kk, rfl, s1 _ _ ha, st, n0, n1, hk, fun p H2 hp s2 e2 => ?_⟩
    refine ⟨p, _, rfl, SqL.of e2, ?_, fun H3 s3 => k H3 ((s1.trans s2).trans s3)⟩
    unfold aboveL filledL; rw [List.length_mapIdx, List.length_append, List.length_replicate]; omega
end
def spPilesFrom (K : PySem.W.Frag) : Sp := fun vs H Q _ => ∃ (a : Addr) (ms : List Int), vs = [.ref a] ∧ IL K H a ms ∧ ms.length ≤ 1000 ∧ ∀ (p : Addr) (H' : Hp), H p = none → Same H H' → H' p = some (.lst ((byMarks ms).map V.int)) → Q (.ref p) H'
theorem by_len (ms : List Int) : (byMarks ms).length ≤ ms.length := by
  unfold byMarks
  refine Nat.le_trans (List.length_filter_le _ _) ?_
  rw [List.length_map, List.length_range]; exact Nat.le_refl _
section
variable {P : Program} {w : World} {K : PySem.W.Frag} {mg : Str → Option Value} {base : Heap} {uM : UM}
theorem d_piles_from (D : Dfn K mg "piles_from" s_piles_from ["marks"]) (T : Txt K mg uM) : OkD P w K mg base 1 "piles_from" ["marks"] (spPilesFrom K) := by
  have SC := sc_piles_from
  refine D.ok SC (fun vs H Q E h => ?_) (fun f cdv A outer s H vs Q E hr h => ?_)
  · obtain ⟨a, ms, rfl, _⟩ := h; rfl
  · obtain ⟨a, ms, rfl, hS, hl, k⟩ := h
    refine ⟨_, (pss_cons (ps_setC (i := 1) (own := ["place", "mark"]) (fr := ["marks"]) (ixs := [0]) rfl ⟨rfl, rfl, rfl, rfl, rfl, rfl, rfl⟩ ⟨fun _ _ _ _ => pg_tupK (K := K) (n := 2) rfl rfl (pgs_cons (pg_name (i := 0) (by decide +kernel : (["place", "mark", "marks"] : List Str).Nodup) rfl (Or.inl rfl) (.inr rfl)) (pgs_cons (pg_name (i := 1) (by decide +kernel : (["place", "mark", "marks"] : List Str).Nodup) rfl (Or.inl rfl) (.inr rfl)) pgs_nil)), fun _ _ _ _ => pts_nil, fun _ _ _ _ => (pe_op op_add (pe_op op_sub (pe_op op_sub (pe_callB (call_lenK (K := K) rfl) rfl T.n_len PySem.boot_len (pa_cons (pv 2) pa_nil)) pe_int) (pv 0)) (pv 1))⟩ (pi_enum rfl T.n_enumerate (pa_cons (pv 0) pa_nil)) SC.nd rfl rfl)
      (pss_one (ps_ret (pe_comp (own := ["height"]) (fr := []) (ixs := []) rfl ⟨rfl, rfl, rfl, rfl, rfl, rfl, rfl⟩ ⟨fun _ _ _ _ => pg_name (i := 0) (by decide +kernel : (["height"] : List Str).Nodup) rfl (Or.inl rfl) (.inr rfl), fun _ _ _ _ => pts_one (pt_cmpR op_gt (pv 0) pe_int (nomark _)), fun _ _ _ _ => (pv 0)⟩ (pi_list (pv 1)))))), ?_⟩
    refine cut (fun σ H' => ∃ p, σ = [some (.ref a), some (.ref p)] ∧ Same H H' ∧ H' p = some (.lst ((ms.mapIdx fun i m => (ms.length : Int) - 1 - (i : Int) + m).map V.int)) ∧ H p = none) (fun R hR => ?_) ?_
    · one_place
      refine ⟨⟨_, hS⟩, fun D1 hD1 => ?_⟩
      refine comp_enumI (K := K) ms (fun i m => (ms.length : Int) - 1 - (i : Int) + m) [some (.ref a)] (small1000 hl) hS hD1 (fun i x hx H' Q' sm q => ?_) (fun H4 s4 e4 => hR _ _ ⟨D1, rfl, s4, e4, hD1⟩)
      one_place
      refine ⟨_, .inl (sm.seq hS), ?_⟩
      rw [List.length_map]; exact q
    rintro σ1 H1 ⟨p, rfl, s1, e1, f1⟩
    one_place
    refine ⟨⟨_, SqL.of e1⟩, fun D2 hD2 => ?_⟩
    refine comp_listI (K := K) (ms.mapIdx fun i m => (ms.length : Int) - 1 - (i : Int) + m) (fun x => decide (0 < x)) id [] (by rw [List.length_mapIdx]; exact small1000 hl) (SqL.of e1) hD2 (fun x _ H' Q' _ q => ?_) (fun x _ _ H' Q' _ q => ?_) ?_
    · one_place; exact q
    · one_place; exact q
    · refine k D2 _ (s1.free hD2) (s1.put' hD2) ?_
      rw [upd_same, List.map_id, byMarks_idx]
end
section
variable {P : Program} {w : World} {K : PySem.W.Frag} {mg : Str → Option Value} {base : Heap} {uM : UM}
end
def spSettingOf (K : PySem.W.Frag) : Sp := fun vs H Q _ => ∃ (a : Addr) (ms : List Int), vs = [.ref a] ∧ IL K H a ms ∧ ms.length ≤ 100 ∧ okM ms = true ∧ ∀ (p : Addr) (H' : Hp), H p = none → Same H H' → H' p = some (.lst ((byMarks ms).map V.int)) → Q (.ref p) H'
section
variable {P : Program} {w : World} {K : PySem.W.Frag} {mg : Str → Option Value} {base : Heap} {uM : UM}
theorem d_setting_of (D : Dfn K mg "setting_of" s_setting_of ["marks"]) (T : Txt K mg uM) (D_all_marks : OkD P w K mg base 1 "all_marks" ["numbers"] (spAllMarks K)) (D_is_setting : OkD P w K mg base 1 "is_setting" ["piles"] (spGood K)) (D_piles_from : OkD P w K mg base 1 "piles_from" ["marks"] (spPilesFrom K)) :
    OkD P w K mg base 2 "setting_of" ["marks"] (spSettingOf K) := by
  have SC := sc_setting_of
  refine D.ok SC (fun vs H Q E h => ?_) (fun f cdv A outer s H vs Q E hr h => ?_)
  · obtain ⟨a, ms, rfl, _⟩ := h; rfl
  · obtain ⟨a, ms, rfl, hS, hl, hok, kT⟩ := h
    have bl := by_len ms
    obtain ⟨hok, h2⟩ := Bool.and_eq_true_iff.mp hok
    obtain ⟨hb, h1⟩ := Bool.and_eq_true_iff.mp hok
    have h1 : (1 : Int) ∈ ms := of_decide_eq_true h1
    refine ⟨_, (pss_cons (ps_if (PW.pt (pw_or (pt_not (pt_val (pe_callD D_all_marks (hr.mono (by first | decide | omega)) rfl (pa_cons (pv 0) pa_nil)))) (pw_or (pt_cmpR op_notIn_seq pe_int (pv 0) (by with_unfolding_all rfl)) (pw_or1 (pt_not (pt_val (pe_callD D_is_setting (hr.mono (by first | decide | omega)) rfl (pa_cons (pe_callD D_piles_from (hr.mono (by first | decide | omega)) rfl (pa_cons (pv 0) pa_nil)) pa_nil)))))))) (pss_one ps_never) pss_nil)
      (pss_one (ps_ret (pe_callD D_piles_from (hr.mono (by first | decide | omega)) rfl (pa_cons (pv 0) pa_nil))))), ?_⟩
    row_cond tNever
    refine ⟨a, ms, rfl, hS, by omega, fun H1 s1 => ⟨_, rfl, ?_⟩⟩
    rw [hb, if_neg (by decide)]
    refine ⟨_, .inl (s1.seq hS), rfl, flat_ints ms, ?_⟩
    simp only [if_true, inV_int]
    rw [if_neg (by simpa using h1)]
    refine ⟨a, ms, rfl, s1.seq hS, by omega, fun p H2 hp s2 e2 => ⟨p, byMarks ms, rfl, SqL.of e2, by omega, fun H3 s3 => ⟨_, rfl, ?_⟩⟩⟩
    rw [good_by (marksB_bits hb) h1, h2, if_neg (by decide)]
    have s123 := (s1.trans s2).trans s3
    exact ⟨a, ms, rfl, s123.seq hS, by omega, fun q H4 hq s4 e4 => kT q H4 (s123.free hq) (s123.trans s4) e4⟩
end
theorem hu65_of {A : Around} {k : Nat} (hr : Room k A) : A.units + 65 < cLine := by have := hr.un; omega
structure Trail (ps : List Int) (d : Nat) : Prop where
  pos : 1 ≤ d
  no : ∀ i j, i < j → j < d → it i ps ≠ it j ps
  back : ∃ s, s < d ∧ it d ps = it s ps
theorem le29 {t : Int} (h : t ≤ 1000) : t ≤ 10 ^ 29 := Int.le_trans h (by decide)
def spTurnsOk : Sp := fun vs H Q _ => ∃ t : Int, vs = [.int t] ∧ 0 ≤ t ∧ t ≤ 10 ^ 29 ∧ Q .non H
def spTrail (K : PySem.W.Frag) : Sp := fun vs H Q _ => ∃ (a : Addr) (ps : List Int) (n : Int) (d : Nat), vs = [.ref a] ∧ IL K H a ps ∧ Setting n ps ∧ 1 ≤ n ∧ n ≤ 100 ∧ Trail ps d ∧ d ≤ 1000 ∧
  ∀ (p : Addr) (H' : Hp) (rs : List Addr), H p = none → Same H H' → H' p = some (.lst (rs.map V.ref)) → Lists H' rs (its d ps) → (∀ r ∈ rs, H r = none) → Q (.ref p) H'
theorem Trail.come {k : Int} {ps : List Int} {v d : Nat} (h : Comes k ps v d) : Trail ps (v + d) := ⟨by have := h.ring.pos; omega, h.dist, v, by have := h.ring.pos; omega, h.back⟩
def spAfter (K : PySem.W.Frag) : Sp := fun vs H Q _ => ∃ (a : Addr) (ps : List Int) (n : Int) (t : Nat), vs = [.ref a, .int t] ∧ IL K H a ps ∧ Setting n ps ∧ 1 ≤ n ∧ n ≤ 100 ∧ (t : Int) ≤ 10 ^ 29 ∧
  ∀ (p : Addr) (H' : Hp), H p = none → Same H H' → H' p = some (.lst ((it t ps).map V.int)) → Q (.ref p) H'
def spWay (K : PySem.W.Frag) : Sp := fun vs H Q _ => ∃ (a : Addr) (ps : List Int) (n k : Int) (v : Nat), vs = [.ref a] ∧ H a = some (.lst (ps.map V.int)) ∧ Setting n ps ∧ 1 ≤ n ∧ n ≤ 100 ∧ IsStair n k ∧
  (∀ j, j < v → marksB (aboveL k (it j ps)) = false) ∧ marksB (aboveL k (it v ps)) = true ∧ ∀ H', Same H H' → Q (.int v) H'
def spRingOf (K : PySem.W.Frag) : Sp := fun vs H Q _ => ∃ (a : Addr) (ps : List Int) (n k : Int) (v D d : Nat), vs = [.ref a] ∧ H a = some (.lst (ps.map V.int)) ∧ Setting n ps ∧ 1 ≤ n ∧ n ≤ 100 ∧ IsStair n k ∧
  (∀ j, j < v → marksB (aboveL k (it j ps)) = false) ∧ marksB (aboveL k (it v ps)) = true ∧ Trail ps D ∧ D ≤ 1000 ∧ v < D ∧ Ring (it v ps) d ∧ d ≤ 1000 ∧
  ∀ (p : Addr) (H' : Hp) (rs : List Addr), H p = none → Same H H' → H' p = some (.lst (rs.map V.ref)) → Lists H' rs (its d (it v ps)) → (∀ r ∈ rs, H r = none) → Q (.ref p) H'
def keyOf (ps : List Int) : List Key := ps.map Sum.inl
theorem keyOf_map (ps : List Int) : (keyOf ps).map kV = ps.map V.int := by unfold keyOf; rw [List.map_map]; rfl
theorem keyOf_inj {a b : List Int} (h : keyOf a = keyOf b) : a = b := by
  have := congrArg (List.map kV) h
  rw [keyOf_map, keyOf_map] at this
  exact ints_inj this
def seenOf (i : Nat) (ps : List Int) : List (List Key × V) := (its i ps).map fun q => (keyOf q, V.bl true)
theorem seen_none {i : Nat} {ps q : List Int} (h : q ∉ its i ps) : valV (seenOf i ps) (keyOf q) = none := by
  unfold valV seenOf
  rw [List.find?_map, Option.map_eq_none_iff, Option.map_eq_none_iff, List.find?_eq_none]
  intro x hx
  simp only [Function.comp_apply, decide_eq_true_eq]
  exact fun z => h (by rw [← keyOf_inj z]; exact hx)
theorem seen_some {i : Nat} {ps q : List Int} (h : q ∈ its i ps) : (valV (seenOf i ps) (keyOf q)).isSome = true := by
  unfold valV seenOf
  rw [List.find?_map, Option.isSome_map, Option.isSome_map, List.find?_isSome]
  exact ⟨q, h, by simp⟩
theorem seen_succ (i : Nat) (ps : List Int) : seenOf (i + 1) ps = seenOf i ps ++ [(keyOf (it i ps), V.bl true)] := by unfold seenOf; rw [its_succ, List.map_append]; rfl
theorem refs_ne {ps : List Int} {rs : List Addr} (h : 0 < ps.length) : HO.lst (ps.map V.int) ≠ HO.lst (rs.map V.ref) := fun z => by
  have z := HO.lst.inj z
  cases ps with
  | nil => simp at h
  | cons a r => cases rs with
    | nil => simp at z
    | cons b t => simp at z
theorem Trail.notin {ps : List Int} {d i : Nat} (h : Trail ps d) (hi : i < d) : it i ps ∉ its i ps := fun z => by
  obtain ⟨t, ht, e⟩ := mem_its.mp z
  exact h.no t i ht hi e
theorem Trail.isin {ps : List Int} {d : Nat} (h : Trail ps d) : it d ps ∈ its d ps := by
  obtain ⟨s, hs, e⟩ := h.back
  exact mem_its.mpr ⟨s, hs, e.symm⟩
def wTrail (a sa tr : Addr) (ps : List Int) (d : Nat) (H : Hp) (m : Nat) (σ : St) (H' : Hp) : Prop := ∃ (i : Nat) (cur : Addr) (rs : List Addr), m = d - i ∧ i ≤ d ∧ σ = [some (.ref a), some (.ref sa), some (.ref tr), some (.ref cur)] ∧ Same H H' ∧ H sa = none ∧ H tr = none ∧
  H' sa = some (.dT (seenOf i ps)) ∧ H' tr = some (.lst (rs.map V.ref)) ∧ Lists H' rs (its i ps) ∧ (∀ r ∈ rs, H r = none) ∧ H' cur = some (.lst ((it i ps).map V.int)) ∧ H cur = none
section
variable {P : Program} {w : World} {K : PySem.W.Frag} {mg : Str → Option Value} {base : Heap} {uM : UM}
theorem d_check_turns (D : Dfn K mg "check_turns" s_check_turns ["turns"]) (T : Txt K mg uM) : OkD P w K mg base 1 "check_turns" ["turns"] spTurnsOk := by
  have SC := sc_check_turns
  refine D.ok SC (fun vs H Q E h => ?_) (fun f cdv A outer s H vs Q E hr h => ?_)
  · obtain ⟨t, rfl, _⟩ := h; rfl
  · obtain ⟨t, rfl, t0, t1, k⟩ := h
    refine ⟨_, (pss_one (ps_if (PW.pt (pw_or (pt_cmpR op_lt (pv 0) pe_int (nomark _)) (pw_or1 (pt_cmpR op_gt (pv 0) (pe_op op_pow pe_int pe_int) (nomark _))))) (pss_one ps_never) pss_nil)), ?_⟩
    row_cond tNever
    rw [if_neg (by simp only [decide_eq_true_eq]; omega)]
    refine ⟨⟨by decide, by decide, by decide⟩, ?_⟩
    rw [if_neg (by simp only [decide_eq_true_eq]; have : (10 : Int) ^ Int.toNat 29 = 10 ^ 29 := rfl; omega)]
    exact k
theorem d_trail_of (D : Dfn K mg "trail_of" s_trail_of ["piles"]) (T : Txt K mg uM) (D_turned : OkD P w K mg base 3 "turned" ["piles"] (spTurned K)) : OkD P w K mg base 4 "trail_of" ["piles"] (spTrail K) := by
  have SC := sc_trail_of
  refine D.ok SC (fun vs H Q E h => ?_) (fun f cdv A outer s H vs Q E hr h => ?_)
  · obtain ⟨a, ps, n, d, rfl, _⟩ := h; rfl
  · obtain ⟨a, ps, n, d, rfl, hS, st, n0, n1, tl, dl, k⟩ := h
    have hu := hr.units
    have hu1 := hu_of hr
    refine ⟨_, (pss_cons (ps_set (i := 1) SC.nd rfl (Or.inl rfl) pe_dnewT)
      (pss_cons (ps_set (i := 2) SC.nd rfl (Or.inl rfl) (pe_lst pa_nil))
      (pss_cons (ps_set (i := 3) SC.nd rfl (Or.inl rfl) (pe_callTy call_list_of rfl T.n_list PyProof.Rows.boot_list (pa_cons (pv 0) pa_nil)))
      (pss_cons (ps_while PassesOwn.never (pt_cmp (pc_dnotin hu1 (pe_callTy call_tuple_of rfl T.n_tuple PyProof.Rows.boot_tuple (pa_cons (pv 3) pa_nil)) (pv 1)))
        (pss_cons (ps_dput hu1 (pv 1) (pe_callTy call_tuple_of rfl T.n_tuple PyProof.Rows.boot_tuple (pa_cons (pv 3) pa_nil)) pe_bl rfl)
        (pss_cons (ps_expr (pe_bm PySem.F.plainAttrs_list PySem.F.slot_list_append PySem.F.type_list_append mt_append (pv 2) (pa_cons (pv 3) pa_nil)))
        (pss_one (ps_set (i := 3) SC.nd rfl (Or.inl rfl) (pe_callD D_turned (hr.mono (by first | decide | omega)) rfl (pa_cons (pv 3) pa_nil)))))))
      (pss_one (ps_ret (pv 2))))))), ?_⟩
    refine cut (fun σ H' => ∃ sa, σ = [some (.ref a), some (.ref sa), none, none] ∧ Same H H' ∧ H sa = none ∧ H' sa = some (.dT [])) (fun R hR => ?_) ?_
    · exact fun sa hsa => hR _ _ ⟨sa, rfl, Same.put hsa, hsa, upd_same⟩
    rintro σ1 H1 ⟨sa, rfl, s1, f1, e1⟩
    refine cut (fun σ H' => ∃ tr, σ = [some (.ref a), some (.ref sa), some (.ref tr), none] ∧ Same H1 H' ∧ H1 tr = none ∧ H' tr = some (.lst [])) (fun R hR => ?_) ?_
    · exact ⟨by decide, fun tr htr => hR _ _ ⟨tr, rfl, Same.put htr, htr, upd_same⟩⟩
    rintro σ2 H2 ⟨tr, rfl, s2, f2, e2⟩
    refine cut (fun σ H' => ∃ cur, σ = [some (.ref a), some (.ref sa), some (.ref tr), some (.ref cur)] ∧ Same H2 H' ∧ H2 cur = none ∧ H' cur = some (.lst (ps.map V.int))) (fun R hR => ?_) ?_
    · one_place
      exact ⟨_, .inl (s2.seq (s1.seq hS)), fun c hc => hR _ _ ⟨c, rfl, Same.put hc, hc, upd_same⟩⟩
    rintro σ3 H3 ⟨cur, rfl, s3, f3, e3⟩
    have s13 := (s1.trans s2).trans s3
    refine ⟨wTrail a sa tr ps d H, ⟨d, 0, cur, [], by omega, Nat.zero_le _, rfl, s13, f1, s1.free f2, s3 _ _ (s2 _ _ e1), s3 _ _ e2, Lists.nil, fun r hr' => by simp at hr', e3, s1.free (s2.free f3)⟩, ?_⟩
    clear s1 s2 s3 f1 f2 f3 e1 e2 e3 s13
    rintro m σ H4 ⟨i, cur, rs, rfl, hi, rfl, s4, fs, ft, es, et, hL, hfr, ec, fc⟩
    have sti := st.it n0 i
    have ln := sti.ne n0
    have lnI := sti.len
    row_cond tTest
    refine ⟨_, .inl ⟨SqL.of ec, fun l hl => ?_⟩⟩
    have s5 := Same.put (o := .tup ((it i ps).map V.int)) hl
    have el : upd H4 l (.tup ((it i ps).map V.int)) l = some (.tup ((keyOf (it i ps)).map kV)) := by rw [upd_same, keyOf_map]
    generalize upd H4 l (.tup ((it i ps).map V.int)) = H5 at s5 el ⊢
    refine ⟨_, DGet.t (s5 _ _ es) el, ?_⟩
    by_cases c : i < d
    · have nin := seen_none (tl.notin c)
      rw [nin, if_pos (by decide)]
      refine ⟨fun σ' H' => ∃ m', m' < d - i ∧ wTrail a sa tr ps d H m' σ' H', fun _ _ z => z, _, .inl ⟨SqL.of (s5 _ _ ec), fun l2 hl2 => ?_⟩⟩
      have s6 := Same.put (o := .tup ((it i ps).map V.int)) hl2
      have el2 : upd H5 l2 (.tup ((it i ps).map V.int)) l2 = some (.tup ((keyOf (it i ps)).map kV)) := by rw [upd_same, keyOf_map]
      generalize upd H5 l2 (.tup ((it i ps).map V.int)) = H6 at s6 el2 ⊢
      have s46 := s5.trans s6
      have es6 := s46 _ _ es
      have et6 := s46 _ _ et
      have ec6 := s46 _ _ ec
      have sl : (seenOf i ps).length = i := by unfold seenOf; rw [List.length_map, its_len]
      refine ⟨_, DPut.t es6 el2 (by rw [sl, sizeLine_eq]; omega), ?_⟩
      have nst : tr ≠ sa := ne_of et6 es6 (fun z => nomatch z)
      have ncs : cur ≠ sa := ne_of ec6 es6 (fun z => nomatch z)
      have nct : cur ≠ tr := ne_of ec6 et6 (refs_ne (by omega))
      have et7 : upd H6 sa (.dT (putK (seenOf i ps) (keyOf (it i ps)) (.bl true))) tr = some (.lst (rs.map V.ref)) := by rw [upd_ne nst]; exact et6
      have rl : rs.length = i := by rw [hL.len, its_len]
      refine ⟨.inl ⟨rfl, _, SqL.of et7⟩, _, et7, by rw [List.length_map, rl, sizeLine_eq]; omega, ?_⟩
      have ec8 : upd (upd H6 sa (.dT (putK (seenOf i ps) (keyOf (it i ps)) (.bl true)))) tr (.lst (rs.map V.ref ++ [.ref cur])) cur = some (.lst ((it i ps).map V.int)) := by rw [upd_ne nct, upd_ne ncs]; exact ec6
      have es8 : upd (upd H6 sa (.dT (putK (seenOf i ps) (keyOf (it i ps)) (.bl true)))) tr (.lst (rs.map V.ref ++ [.ref cur])) sa = some (.dT (seenOf (i + 1) ps)) := by
        rw [upd_ne (Ne.symm nst), upd_same, putK_new _ nin, seen_succ]
      have et8 : upd (upd H6 sa (.dT (putK (seenOf i ps) (keyOf (it i ps)) (.bl true)))) tr (.lst (rs.map V.ref ++ [.ref cur])) tr = some (.lst ((rs ++ [cur]).map V.ref)) := by
        rw [upd_same, List.map_append]; rfl
      have o8 : ∀ b u, H4 b = some u → b ≠ sa → b ≠ tr → upd (upd H6 sa (.dT (putK (seenOf i ps) (keyOf (it i ps)) (.bl true)))) tr (.lst (rs.map V.ref ++ [.ref cur])) b = some u := fun b u e n1 n2 => by
        rw [upd_ne n2, upd_ne n1]; exact s46 _ _ e
      generalize upd (upd H6 sa (.dT (putK (seenOf i ps) (keyOf (it i ps)) (.bl true)))) tr (.lst (rs.map V.ref ++ [.ref cur])) = H8 at ec8 es8 et8 o8 ⊢
      refine ⟨cur, it i ps, n, rfl, SqL.of ec8, sti, n0, n1, fun r H9 hr9 s9 e9 => ?_⟩
      have s49 : Same H H9 := fun b u e => s9 _ _ (o8 b u (s4 _ _ e) (ne_of_none e fs) (ne_of_none e ft))
      refine ⟨d - (i + 1), by omega, i + 1, r, rs ++ [cur], rfl, c, rfl, s49, fs, ft, s9 _ _ es8, s9 _ _ et8, ?_, ?_, e9, ?_⟩
      · rw [its_succ]
        refine Lists.snoc ⟨hL.len, fun j r' qs a1 a2 => s9 _ _ (o8 _ _ (hL.at_ j r' qs a1 a2) (ne_of (hL.at_ j r' qs a1 a2) es (fun z => nomatch z)) (ne_of (hL.at_ j r' qs a1 a2) et ?_))⟩ (s9 _ _ ec8)
        have hm := List.mem_of_getElem? a2
        obtain ⟨t, ht, e⟩ := mem_its.mp hm
        refine refs_ne ?_
        rw [← e]; exact (st.it n0 t).ne n0
      · intro r' hr'
        rcases List.mem_append.mp hr' with z | z
        · exact hfr r' z
        · rw [List.mem_singleton.mp z]; exact fc
      · cases q : H r with
        | none => rfl
        | some u => rw [o8 r u (s4 _ _ q) (ne_of_none q fs) (ne_of_none q ft)] at hr9; cases hr9
    · have e : i = d := by omega
      subst e
      have isin := seen_some tl.isin
      rw [if_neg (by rw [isin]; decide)]
      exact k tr H5 rs ft (s4.trans s5) (s5 _ _ et) (hL.mono s5) hfr
theorem d_after (D : Dfn K mg "after" s_after ["piles", "turns"]) (T : Txt K mg uM) (D_check_setting : OkD P w K mg base 2 "check_setting" ["piles"] (spCheck K)) (D_check_turns : OkD P w K mg base 1 "check_turns" ["turns"] spTurnsOk) (D_trail_of : OkD P w K mg base 4 "trail_of" ["piles"] (spTrail K))
    (D_turned : OkD P w K mg base 3 "turned" ["piles"] (spTurned K)) : OkD P w K mg base 5 "after" ["piles", "turns"] (spAfter K) := by
  have SC := sc_after
  refine D.ok SC (fun vs H Q E h => ?_) (fun f cdv A outer s H vs Q E hr h => ?_)
  · obtain ⟨a, ps, n, t, rfl, _⟩ := h; rfl
  · obtain ⟨a, ps, n, t, rfl, hS, st, n0, n1, t29, k⟩ := h
    have hu65 := hu65_of hr
    have pl := st.len
    obtain ⟨kk, hk⟩ := IsStair.of n0
    obtain ⟨v, d, v182, _, d14, cm⟩ := comes st n0 n1 hk
    have dp := cm.ring.pos
    refine ⟨_, (pss_cons (ps_expr (pe_callD D_check_setting (hr.mono (by first | decide | omega)) rfl (pa_cons (pv 0) pa_nil)))
      (pss_cons (ps_expr (pe_callD D_check_turns (hr.mono (by first | decide | omega)) rfl (pa_cons (pv 1) pa_nil)))
      (pss_cons (ps_set (i := 2) SC.nd rfl (Or.inl rfl) (pe_callD D_trail_of (hr.mono (by first | decide | omega)) rfl (pa_cons (pv 0) pa_nil)))
      (pss_cons (ps_if (pt_cmpR op_lt (pv 1) (pe_callB call_len_seq rfl T.n_len PySem.boot_len (pa_cons (pv 2) pa_nil)) (nomark _)) (pss_one (ps_ret (pe_ix ix_list (pv 2) (pv 1) (fun _ _ => rfl)))) pss_nil)
      (pss_cons (ps_set (i := 3) SC.nd rfl (Or.inl rfl) (pe_bm PySem.F.plainAttrs_list PySem.F.slot_list_index PySem.F.type_list_index (mt_indexLL hu65) (pv 2) (pa_cons (pe_callD D_turned (hr.mono (by first | decide | omega)) rfl (pa_cons (pe_ix ix_list (pv 2) (pe_un un_neg pe_int) (fun _ _ => rfl)) pa_nil)) pa_nil)))
      (pss_one (ps_ret (pe_ix ix_list (pv 2) (pe_op op_add (pv 3) (pe_op op_mod (pe_op op_sub (pv 1) (pv 3)) (pe_op op_sub (pe_callB call_len_seq rfl T.n_len PySem.boot_len (pa_cons (pv 2) pa_nil)) (pv 3)))) (fun _ _ => rfl))))))))), ?_⟩
    refine cut (fun σ H' => σ = [some (.ref a), some (.int t), none, none] ∧ Same H H') (fun R hR => ?_) ?_
    · one_place
      exact ⟨a, ps, rfl, hS, by omega, st.good n0 n1, fun H1 s1 => hR _ _ ⟨rfl, s1⟩⟩
    rintro σ1 H1 ⟨rfl, s1⟩
    refine cut (fun σ H' => σ = [some (.ref a), some (.int t), none, none] ∧ H' = H1) (fun R hR => ?_) ?_
    · one_place
      exact ⟨t, rfl, by omega, t29, hR _ _ ⟨rfl, rfl⟩⟩
    rintro σ2 H2 ⟨rfl, rfl⟩
    refine cut (fun σ H' => ∃ p rs, σ = [some (.ref a), some (.int t), some (.ref p), none] ∧ Same H2 H' ∧ H' p = some (.lst (rs.map V.ref)) ∧ Lists H' rs (its (v + d) ps) ∧ ∀ r ∈ rs, H2 r = none) (fun R hR => ?_) ?_
    · one_place
      exact ⟨a, ps, n, v + d, rfl, s1.seq hS, st, n0, n1, Trail.come cm, by omega, fun p H3 rs hp s3 e3 hL hf => hR _ _ ⟨p, rs, rfl, s3, e3, hL, hf⟩⟩
    rintro σ3 H3 ⟨p, rs, rfl, s3, e3, hL, hf⟩
    have rl : rs.length = v + d := by rw [hL.len, its_len]
    have done : ∀ (j : Nat) (hj : j < rs.length) H', Same H3 H' → it j ps = it t ps → Q (.ref rs[j]) H' := fun j hj H' s4 e4 =>
      k rs[j] H' (s1.free (hf _ (List.getElem_mem hj))) ((s1.trans s3).trans s4) (by rw [← e4]; exact s4 _ _ (hL.at_ j rs[j] _ (by simp [hj]) (its_get (by omega))))
    by_cases c : t < v + d
    · one_place
      refine ⟨_, .inl (SqL.of e3), ?_⟩
      rw [List.length_map, if_pos (by simp only [decide_eq_true_eq]; omega)]
      have tr : t < rs.length := by omega
      exact ⟨_, SqL.of e3, .ref rs[t], atI_nat (by simp [tr]), done t tr H3 (Same.refl _) rfl⟩
    refine cut (fun σ H' => σ = [some (.ref a), some (.int t), some (.ref p), none] ∧ H' = H3) (fun R hR => ?_) ?_
    · one_place
      refine ⟨_, .inl (SqL.of e3), ?_⟩
      rw [List.length_map, if_neg (by simp only [decide_eq_true_eq]; omega)]
      exact hR _ _ ⟨rfl, rfl⟩
    rintro σ4 H4 ⟨rfl, rfl⟩
    refine cut (fun σ H' => σ = [some (.ref a), some (.int t), some (.ref p), some (.int v)] ∧ Same H4 H') (fun R hR => ?_) ?_
    · obtain ⟨u', l, rfl⟩ : ∃ u' l, rs = u' ++ [l] := ⟨rs.dropLast, rs.getLast (fun z => by rw [z] at rl; simp at rl; omega), (List.dropLast_concat_getLast _).symm⟩
      have ul' : u'.length = v + d - 1 := by simp at rl; omega
      have el := hL.at_ (v + d - 1) l (it (v + d - 1) ps) (by rw [← ul']; simp) (its_get (by omega))
      have al : atI ((u' ++ [l]).map V.ref) (-1) = some (.ref l) := by rw [List.map_append]; exact atI_last _ _
      have e7 : turn (it (v + d - 1) ps) = it v ps := by rw [← it_succ, show v + d - 1 + 1 = v + d by omega]; exact cm.back
      one_place
      refine ⟨.inl ⟨rfl, _, SqL.of e3⟩, _, SqL.of e3, _, al, l, it (v + d - 1) ps, n, rfl, SqL.of el, st.it n0 _, n0, n1, fun r H6 hr6 s6 e6 => ?_⟩
      rw [e7] at e6
      exact ⟨r, rfl, it v ps, u' ++ [l], s6 _ _ e3, its (v + d) ps, hL.mono s6, SqL.of e6, v, its_get (by omega), fun m hm z => by rw [its_get (by omega)] at z; exact cm.dist m v hm (by omega) (Option.some.inj z), hR _ _ ⟨rfl, s6⟩⟩
    rintro σ5 H5 ⟨rfl, s5⟩
    have e5 := s5 _ _ e3
    have md := Nat.mod_lt (t - v) dp
    have jr : v + (t - v) % d < rs.length := by omega
    have ej : it (v + (t - v) % d) ps = it t ps := (cm.mod t (by omega)).symm
    one_place
    refine ⟨_, .inl (SqL.of e5), by rw [List.length_map]; omega, _, SqL.of e5, .ref rs[v + (t - v) % d], ?_, done _ jr H5 s5 ej⟩
    have ei : (v : Int) + ((t : Int) - v) % (((rs.map V.ref).length : Int) - v) = ((v + (t - v) % d : Nat) : Int) := by
      rw [List.length_map, rl, show ((v + d : Nat) : Int) - v = d by omega, show (t : Int) - v = ((t - v : Nat) : Int) by omega, Int.natCast_add, Int.natCast_emod]
    rw [ei]
    exact atI_nat (by simp [jr])
def wWay (K : PySem.W.Frag) (a : Addr) (ps : List Int) (v : Nat) (H : Hp) (m : Nat) (σ : St) (H' : Hp) : Prop := ∃ (i : Nat) (cur : Addr), m = v - i ∧ i ≤ v ∧ σ = [some (.ref a), some (.int i), some (.ref cur)] ∧ Same H H' ∧ H' cur = some (.lst ((it i ps).map V.int))
theorem d_way_of (D : Dfn K mg "way_of" s_way_of ["piles"]) (T : Txt K mg uM) (D_is_round : OkD P w K mg base 3 "is_round" ["piles"] (spRound K)) (D_turned : OkD P w K mg base 3 "turned" ["piles"] (spTurned K)) : OkD P w K mg base 4 "way_of" ["piles"] (spWay K) := by
  have SC := sc_way_of
  refine D.ok SC (fun vs H Q E h => ?_) (fun f cdv A outer s H vs Q E hr h => ?_)
  · obtain ⟨a, ps, n, kk, v, rfl, _⟩ := h; rfl
  · obtain ⟨a, ps, n, kk, v, rfl, ha, st, n0, n1, hk, hno, hyes, k⟩ := h
    refine ⟨_, (pss_cons (ps_set (i := 1) SC.nd rfl (Or.inl rfl) pe_int)
      (pss_cons (ps_set (i := 2) SC.nd rfl (Or.inl rfl) (pv 0))
      (pss_cons (ps_while PassesOwn.never (pt_not (pt_val (pe_callD D_is_round (hr.mono (by first | decide | omega)) rfl (pa_cons (pv 2) pa_nil))))
        (pss_cons (ps_set (i := 2) SC.nd rfl (Or.inl rfl) (pe_callD D_turned (hr.mono (by first | decide | omega)) rfl (pa_cons (pv 2) pa_nil)))
        (pss_one (ps_aug (i := 1) SC.nd rfl (Or.inl rfl) pe_int ip_add))))
      (pss_one (ps_ret (pv 1)))))), ?_⟩
    one_place
    refine ⟨wWay K a ps v H, ⟨v, 0, a, by omega, Nat.zero_le _, rfl, Same.refl _, ha⟩, ?_⟩
    rintro m σ H1 ⟨i, cur, rfl, hi, rfl, s1, e1⟩
    have sti := st.it n0 i
    simp only [tSeq, tRet, tRetN, tNext, tOp, tUn, tVar, tC, tAsg, gName, tIfS, tTest, tB, tNot, tNotV, tOr, tAnd, tAndV, tOrV, tChain, tCB, tCall, tCons, tNil, tLst, tDrop, tBM, tBM0, tSl, tNoPart, tPart, gSub, rI, rI0, rU, rIxL, cxOf, cxC, rEq, rNe, rEqL, rNeL, scal, L2.start, tComp, iList, iRng1, iRng2, iEnum, tYes, stC, List.map_cons, List.map_nil, List.cons_append, List.nil_append, List.append_nil, List.length_cons, List.length_nil, List.replicate_succ, List.replicate_zero, List.set_cons_zero, List.set_cons_succ, List.getElem?_cons_zero, List.getElem?_cons_succ, Option.some.injEq, List.cons.injEq, V.int.injEq, V.ref.injEq, V.bl.injEq, exists_eq_left, exists_eq_left', exists_and_left, true_and, and_true, Option.join_some, Option.join_none, Nat.reduceAdd, Nat.reduceSub, Nat.sub_self, Nat.sub_zero, List.length_map, Int.toNat_natCast, rSlL, rCat, rAppend, rReverse, rClear, rCount, rIndex, tTup, rRep, rIn, tRaise, tTryC, tDNewT, tDNotIn, sDPut, iZip, rInLL, rIndexLL, rMaxLL, rSorted64, rSortedR64, rSortSet, rLenSet, rRemove, rSortedLL, rGeL, rEqLL, iRngD, rExtend, rPop, tAug, ipI]
    refine ⟨cur, it i ps, n, kk, rfl, e1, sti, n0, n1, hk, fun H2 s2 => ⟨_, rfl, ?_⟩⟩
    by_cases c : i < v
    · rw [hno i c, if_pos (by decide)]
      refine ⟨fun σ' H' => ∃ m', m' < v - i ∧ wWay K a ps v H m' σ' H', fun _ _ z => z, ?_⟩
      refine ⟨cur, it i ps, n, rfl, SqL.of (s2 _ _ e1), sti, n0, n1, fun r H3 hr3 s3 e3 => ?_⟩
      exact ⟨v - (i + 1), by omega, i + 1, r, rfl, c, rfl, (s1.trans s2).trans s3, e3⟩
    · have e : i = v := by omega
      subst e
      rw [hyes, if_neg (by decide)]
      exact k H2 (s1.trans s2)
def wRing (a fi rg : Addr) (ps : List Int) (d : Nat) (H : Hp) (m : Nat) (σ : St) (H' : Hp) : Prop := ∃ (i : Nat) (cur : Addr) (rs : List Addr), m = d - i ∧ 1 ≤ i ∧ i ≤ d ∧ σ = [some (.ref a), some (.ref fi), some (.ref rg), some (.ref cur)] ∧ Same H H' ∧ H rg = none ∧ H' rg = some (.lst (rs.map V.ref)) ∧
  Lists H' rs (its i ps) ∧ (∀ r ∈ rs, H r = none) ∧ H' fi = some (.lst (ps.map V.int)) ∧ H' cur = some (.lst ((it i ps).map V.int)) ∧ H cur = none
theorem d_ring_of (D : Dfn K mg "ring_of" s_ring_of ["piles"]) (T : Txt K mg uM) (D_after : OkD P w K mg base 5 "after" ["piles", "turns"] (spAfter K)) (D_way_of : OkD P w K mg base 4 "way_of" ["piles"] (spWay K)) (D_turned : OkD P w K mg base 3 "turned" ["piles"] (spTurned K)) :
    OkD P w K mg base 6 "ring_of" ["piles"] (spRingOf K) := by
  have SC := sc_ring_of
  refine D.ok SC (fun vs H Q E h => ?_) (fun f cdv A outer s H vs Q E hr h => ?_)
  · obtain ⟨a, ps, n, kk, v, d0, d, rfl, _⟩ := h; rfl
  · obtain ⟨a, ps, n, kk, v, d0, d, rfl, ha, st, n0, n1, hk, hno, hyes, tl, dl, vd, rg, dd, k⟩ := h
    have hu := hr.units
    have stv := st.it n0 v
    refine ⟨_, (pss_cons (ps_set (i := 1) SC.nd rfl (Or.inl rfl) (pe_callD D_after (hr.mono (by first | decide | omega)) rfl (pa_cons (pv 0) (pa_cons (pe_callD D_way_of (hr.mono (by first | decide | omega)) rfl (pa_cons (pv 0) pa_nil)) pa_nil))))
      (pss_cons (ps_set (i := 2) SC.nd rfl (Or.inl rfl) (pe_lst (pa_cons (pv 1) pa_nil)))
      (pss_cons (ps_set (i := 3) SC.nd rfl (Or.inl rfl) (pe_callD D_turned (hr.mono (by first | decide | omega)) rfl (pa_cons (pv 1) pa_nil)))
      (pss_cons (ps_while PassesOwn.never (pt_cmpR (op_neL hu) (pv 3) (pv 1) (nomark _))
        (pss_cons (ps_expr (pe_bm PySem.F.plainAttrs_list PySem.F.slot_list_append PySem.F.type_list_append mt_append (pv 2) (pa_cons (pv 3) pa_nil)))
        (pss_one (ps_set (i := 3) SC.nd rfl (Or.inl rfl) (pe_callD D_turned (hr.mono (by first | decide | omega)) rfl (pa_cons (pv 3) pa_nil))))))
      (pss_one (ps_ret (pv 2))))))), ?_⟩
    refine cut (fun σ H' => ∃ fi, σ = [some (.ref a), some (.ref fi), none, none] ∧ Same H H' ∧ H fi = none ∧ H' fi = some (.lst ((it v ps).map V.int))) (fun R hR => ?_) ?_
    · one_place
      refine ⟨a, ps, n, kk, v, rfl, ha, st, n0, n1, hk, hno, hyes, fun H1 s1 => ?_⟩
      exact ⟨a, ps, n, v, rfl, SqL.of (s1 _ _ ha), st, n0, n1, le29 (by omega), fun p H2 hp s2 e2 => hR _ _ ⟨p, rfl, s1.trans s2, s1.free hp, e2⟩⟩
    rintro σ1 H1 ⟨fi, rfl, s1, f1, e1⟩
    refine cut (fun σ H' => ∃ r, σ = [some (.ref a), some (.ref fi), some (.ref r), none] ∧ Same H1 H' ∧ H1 r = none ∧ H' r = some (.lst [V.ref fi])) (fun R hR => ?_) ?_
    · one_place
      exact ⟨by decide, fun r hr' => hR _ _ ⟨r, rfl, Same.put hr', hr', upd_same⟩⟩
    rintro σ2 H2 ⟨r, rfl, s2, f2, e2⟩
    refine cut (fun σ H' => ∃ c, σ = [some (.ref a), some (.ref fi), some (.ref r), some (.ref c)] ∧ Same H2 H' ∧ H2 c = none ∧ H' c = some (.lst ((turn (it v ps)).map V.int))) (fun R hR => ?_) ?_
    · one_place
      exact ⟨fi, it v ps, n, rfl, SqL.of (s2 _ _ e1), stv, n0, n1, fun c H3 hc s3 e3 => hR _ _ ⟨c, rfl, s3, hc, e3⟩⟩
    rintro σ3 H3 ⟨c0, rfl, s3, f3, e3⟩
    have dp := rg.pos
    refine ⟨wRing a fi r (it v ps) d H, ⟨d - 1, 1, c0, [fi], rfl, Nat.le_refl _, dp, rfl, (s1.trans s2).trans s3, s1.free f2, s3 _ _ e2, ?_, fun r' hr' => by rw [List.mem_singleton.mp hr']; exact f1, s3 _ _ (s2 _ _ e1), e3, s1.free (s2.free f3)⟩, ?_⟩
    · exact Lists.snoc (rs := []) (qss := []) Lists.nil (s3 _ _ (s2 _ _ e1))
    clear e3 f3 s3 e2 s2
    rintro m σ H4 ⟨i, cur, rs, rfl, i1, hi, rfl, s4, fr, er, hL, hfr, ef, ec, fc⟩
    have sti := stv.it n0 i
    have rl : rs.length = i := by rw [hL.len, its_len]
    one_place
    refine ⟨it i (it v ps), SqL.of ec, it v ps, SqL.of ef, ?_⟩
    by_cases c : i < d
    · have ne : it i (it v ps) ≠ it v ps := fun z => rg.no 0 i (by omega) c z.symm
      rw [if_pos (by simpa using ne)]
      refine ⟨fun σ' H' => ∃ m', m' < d - i ∧ wRing a fi r (it v ps) d H m' σ' H', fun _ _ z => z, ?_⟩
      have ncr : cur ≠ r := ne_of ec er (refs_ne (sti.ne n0))
      have nfr : fi ≠ r := ne_of ef er (refs_ne (stv.ne n0))
      refine ⟨.inl ⟨rfl, _, SqL.of er⟩, _, er, by rw [List.length_map, rl, sizeLine_eq]; omega, ?_⟩
      have ec5 : upd H4 r (.lst (rs.map V.ref ++ [.ref cur])) cur = some (.lst ((it i (it v ps)).map V.int)) := by rw [upd_ne ncr]; exact ec
      have o5 : ∀ b u, H4 b = some u → b ≠ r → upd H4 r (.lst (rs.map V.ref ++ [.ref cur])) b = some u := fun b u e n1 => by rw [upd_ne n1]; exact e
      have er5 : upd H4 r (.lst (rs.map V.ref ++ [.ref cur])) r = some (.lst ((rs ++ [cur]).map V.ref)) := by rw [upd_same, List.map_append]; rfl
      generalize upd H4 r (.lst (rs.map V.ref ++ [.ref cur])) = H5 at ec5 o5 er5 ⊢
      refine ⟨cur, it i (it v ps), n, rfl, SqL.of ec5, sti, n0, n1, fun c' H6 hc' s6 e6 => ?_⟩
      refine ⟨d - (i + 1), by omega, i + 1, c', rs ++ [cur], rfl, by omega, c, rfl, fun b u e => s6 _ _ (o5 b u (s4 _ _ e) (ne_of_none e fr)), fr, s6 _ _ er5, ?_, ?_, s6 _ _ (o5 _ _ ef nfr), e6, ?_⟩
      · rw [its_succ]
        refine Lists.snoc ⟨hL.len, fun j r' qs a1 a2 => s6 _ _ (o5 _ _ (hL.at_ j r' qs a1 a2) (ne_of (hL.at_ j r' qs a1 a2) er ?_))⟩ (s6 _ _ ec5)
        obtain ⟨t, ht, e⟩ := mem_its.mp (List.mem_of_getElem? a2)
        refine refs_ne ?_
        rw [← e]; exact (stv.it n0 t).ne n0
      · intro r' hr'
        rcases List.mem_append.mp hr' with z | z
        · exact hfr r' z
        · rw [List.mem_singleton.mp z]; exact fc
      · cases q : H c' with
        | none => rfl
        | some u => rw [o5 c' u (s4 _ _ q) (ne_of_none q fr)] at hc'; cases hc'
    · have e : i = d := by omega
      subst e
      rw [if_neg (by rw [rg.back]; simp)]
      exact k r H4 rs fr s4 er hL hfr
end
def spCoins : Sp := fun vs H Q _ => ∃ n m : Int, vs = [.int n, .int m] ∧ 1 ≤ n ∧ n ≤ m ∧ Q .non H
def spRest : Sp := fun vs H Q _ => ∃ n k : Int, vs = [.int n] ∧ 1 ≤ n ∧ n ≤ 10000 ∧ IsStair n k ∧ Q (.int (n - k * (k - 1) / 2)) H
def spChoices : Sp := fun vs H Q _ => ∃ p t : Nat, vs = [.int p, .int t] ∧ t ≤ p ∧ p ≤ 1000 ∧ Q (.int (RC.chN p t)) H
def spGreat (K : PySem.W.Frag) : Sp := fun vs H Q _ => ∃ k t : Nat, vs = [.int k, .int t] ∧ 1 ≤ k ∧ k ≤ 1000 ∧ ∀ H', Same H H' → Q (.int (Nat.gcd k t : Nat)) H'
def spAgain (K : PySem.W.Frag) : Sp := fun vs H Q _ => ∃ k r t : Nat, vs = [.int k, .int r, .int t] ∧ 1 ≤ k ∧ k ≤ 1000 ∧ r ≤ k ∧ ∀ H', Same H H' → Q (.int (RC.again k r t : Nat)) H'
def spMany (K : PySem.W.Frag) : Sp := fun vs H Q _ => ∃ (n : Int) (k r : Nat), vs = [.int n] ∧ 1 ≤ n ∧ n ≤ 2000 ∧ IsStair n k ∧ n - (k : Int) * ((k : Int) - 1) / 2 = r ∧ ∀ H', Same H H' → Q (.int (RC.S k r / k : Nat)) H'
def wChoices (p t : Nat) (H : Hp) (i : Nat) (σ : St) (H' : Hp) : Prop := H' = H ∧ ∃ o, σ = [some (.int p), some (.int t), some (.int (RC.chN p i)), o]
section
variable {P : Program} {w : World} {K : PySem.W.Frag} {mg : Str → Option Value} {base : Heap} {uM : UM}
theorem d_check_coins (D : Dfn K mg "check_coins" s_check_coins ["coins", "most"]) (T : Txt K mg uM) : OkD P w K mg base 1 "check_coins" ["coins", "most"] spCoins := by
  have SC := sc_check_coins
  refine D.ok SC (fun vs H Q E h => ?_) (fun f cdv A outer s H vs Q E hr h => ?_)
  · obtain ⟨n, m, rfl, _⟩ := h; rfl
  · obtain ⟨n, m, rfl, h0, h1, k⟩ := h
    refine ⟨_, (pss_one (ps_if (PW.pt (pw_or (pt_cmpR op_lt (pv 0) pe_int (nomark _)) (pw_or1 (pt_cmpR op_gt (pv 0) (pv 1) (nomark _))))) (pss_one ps_never) pss_nil)), ?_⟩
    row_cond tNever
    rw [if_neg (by simp; omega), if_neg (by simp; omega)]
    exact k
theorem d_rest_of (D : Dfn K mg "rest_of" s_rest_of ["coins"]) (T : Txt K mg uM) (D_stair_of : OkD P w K mg base 1 "stair_of" ["coins"] spStairOf) : OkD P w K mg base 2 "rest_of" ["coins"] spRest := by
  have SC := sc_rest_of
  refine D.ok SC (fun vs H Q E h => ?_) (fun f cdv A outer s H vs Q E hr h => ?_)
  · obtain ⟨n, k, rfl, _⟩ := h; rfl
  · obtain ⟨n, kk, rfl, h0, h1, hk, k⟩ := h
    refine ⟨_, (pss_cons (ps_set (i := 1) SC.nd rfl (Or.inl rfl) (pe_callD D_stair_of (hr.mono (by first | decide | omega)) rfl (pa_cons (pv 0) pa_nil)))
      (pss_one (ps_ret (pe_op op_sub (pv 0) (pe_op op_fdiv (pe_op op_mul (pv 1) (pe_op op_sub (pv 1) pe_int)) pe_int))))), ?_⟩
    one_place
    refine ⟨n, rfl, h0, h1, fun j hj => ?_⟩
    have e := hj.uniq hk
    subst e
    have jb : j < 20000 := by
      have z := hk.2.1
      rcases Int.lt_or_le j 20000 with y | y
      · exact y
      · have : 19999 * 20000 ≤ (j - 1) * j := Int.mul_le_mul (by omega) (by omega) (by omega) (by omega)
        omega
    have j1 := hk.1
    one_place
    exact ⟨.inl ⟨by omega, by omega⟩, ⟨by decide, by decide⟩, k⟩
theorem d_many_choices (D : Dfn K mg "many_choices" s_many_choices ["places", "ones"]) (T : Txt K mg uM) : OkD P w K mg base 1 "many_choices" ["places", "ones"] spChoices := by
  have SC := sc_many_choices
  refine D.ok SC (fun vs H Q E h => ?_) (fun f cdv A outer s H vs Q E hr h => ?_)
  · obtain ⟨p, t, rfl, _⟩ := h; rfl
  · obtain ⟨p, t, rfl, h0, h1, k⟩ := h
    refine ⟨_, (pss_cons (ps_set (i := 2) SC.nd rfl (Or.inl rfl) pe_int)
      (pss_cons (ps_for PassesOwn.never rfl (pi_range1 rfl T.n_range (pa_cons (pv 1) pa_nil)) (pg_name (i := 3) SC.nd rfl (Or.inl rfl))
        (pss_one (ps_set (i := 2) SC.nd rfl (Or.inl rfl) (pe_op op_fdiv (pe_op op_mul (pv 2) (pe_op op_sub (pv 0) (pv 3))) (pe_op op_add (pv 3) pe_int)))))
      (pss_one (ps_ret (pv 2))))), ?_⟩
    one_place
    refine ⟨_, rfl, _, rfl, by omega, by omega, for_range (lo := 0) (n := ((t : Int)).toNat) (wChoices p t H) ⟨rfl, none, rfl⟩ ?_ ?_⟩
    · rintro i σ H' hi ⟨rfl, o, rfl⟩
      have hi : i < t := by omega
      one_place
      refine ⟨.inr ⟨by omega, by omega⟩, ⟨by omega, by omega⟩, rfl, some (.int (0 + (i : Int))), ?_⟩
      rw [RC.ch_step (show i < p by omega)]
    · rintro σ H' ⟨rfl, o, rfl⟩
      one_place
      exact k
theorem d_greatest_part (D : Dfn K mg "greatest_part" s_greatest_part ["stair", "turns"]) (T : Txt K mg uM) : OkD P w K mg base 1 "greatest_part" ["stair", "turns"] (spGreat K) := by
  have SC := sc_greatest_part
  refine D.ok SC (fun vs H Q E h => ?_) (fun f cdv A outer s H vs Q E hr h => ?_)
  · obtain ⟨k, t, rfl, _⟩ := h; rfl
  · obtain ⟨kk, t, rfl, h0, h1, k⟩ := h
    refine ⟨_, (pss_one (ps_ret (pe_callB (call_maxL rfl) rfl T.n_max PyProof.Rows.boot_max (pa_cons (pe_comp (own := ["part"]) (fr := ["stair", "turns"]) (ixs := [0, 1]) rfl ⟨rfl, rfl, rfl, rfl, rfl, rfl, rfl⟩ ⟨fun _ _ _ _ => pg_name (i := 0) (by decide +kernel : (["part", "stair", "turns"] : List Str).Nodup) rfl (Or.inl rfl) (.inr rfl), fun _ _ _ _ => pts_one (PW.pt (pw_and (pt_cmpR op_eq (pe_op op_mod (pv 1) (pv 0)) pe_int (nomark _)) (pw_and1 (pt_cmpR op_eq (pe_op op_mod (pv 2) (pv 0)) pe_int (nomark _))))), fun _ _ _ _ => (pv 0)⟩ (pi_range2 rfl T.n_range (pa_cons pe_int (pa_cons (pe_op op_add (pv 0) pe_int) pa_nil)))) pa_nil)))), ?_⟩
    one_place
    refine ⟨1, (kk : Int) + 1, ⟨rfl, rfl⟩, ⟨by omega, by omega, by omega, by omega⟩, fun D1 hD1 => ?_⟩
    refine comp_rangeI (lo := 1) ((kk : Int) + 1 - 1).toNat (fun i => decide ((kk : Int) % i = 0) && decide ((t : Int) % i = 0)) id [some (.int kk), some (.int t)] (small1000 (by omega)) hD1 (fun i i0 i1 H' Q' sm q => ?_) (fun i i0 i1 _ H' Q' sm q => ?_) ?_
    · one_place
      refine ⟨by omega, ?_⟩
      by_cases c : (kk : Int) % i = 0
      · rw [if_pos (by simpa using c)]
        refine ⟨by omega, ?_⟩
        simpa [c] using q
      · rw [if_neg (by simpa using c)]
        simpa [c] using q
    · one_place; exact q
    · have mem : ∀ x, x ∈ (((List.range ((kk : Int) + 1 - 1).toNat).map fun (i : Nat) => (1 : Int) + (i : Int)).filter fun i => decide ((kk : Int) % i = 0) && decide ((t : Int) % i = 0)) ↔ 1 ≤ x ∧ x ≤ kk ∧ (kk : Int) % x = 0 ∧ (t : Int) % x = 0 := fun x => by
        rw [List.mem_filter, List.mem_map, Bool.and_eq_true, decide_eq_true_eq, decide_eq_true_eq]
        constructor
        · rintro ⟨⟨j, hj, rfl⟩, c⟩
          have hj := List.mem_range.mp hj
          exact ⟨by omega, by omega, c⟩
        · rintro ⟨x0, x1, c⟩
          exact ⟨⟨(x - 1).toNat, List.mem_range.mpr (by omega), by omega⟩, c⟩
      rw [List.map_id]
      generalize hl : (((List.range ((kk : Int) + 1 - 1).toNat).map fun (i : Nat) => (1 : Int) + (i : Int)).filter fun i => decide ((kk : Int) % i = 0) && decide ((t : Int) % i = 0)) = l at mem ⊢
      refine ⟨D1, rfl, l, SqL.of upd_same, fun z => ?_, fun M m1 m2 => ?_⟩
      · have := (mem 1).mpr ⟨by omega, by omega, Int.emod_one _, Int.emod_one _⟩
        rw [z] at this; cases this
      · obtain ⟨a0, a1, a2, a3⟩ := (mem M).mp m1
        rw [RC.gcd_max h0 a0 a2 a3 fun b b0 b1 b2 b3 => m2 b ((mem b).mpr ⟨b0, b1, b2, b3⟩)]
        exact k _ (Same.put hD1)
theorem d_many_again (D : Dfn K mg "many_again" s_many_again ["stair", "rest", "turns"]) (T : Txt K mg uM) (D_greatest_part : OkD P w K mg base 1 "greatest_part" ["stair", "turns"] (spGreat K)) (D_many_choices : OkD P w K mg base 1 "many_choices" ["places", "ones"] spChoices) : OkD P w K mg base 2 "many_again" ["stair", "rest", "turns"] (spAgain K) := by
  have SC := sc_many_again
  refine D.ok SC (fun vs H Q E h => ?_) (fun f cdv A outer s H vs Q E hr h => ?_)
  · obtain ⟨k, r, t, rfl, _⟩ := h; rfl
  · obtain ⟨kk, r, t, rfl, h0, h1, h2, k⟩ := h
    refine ⟨_, (pss_cons (ps_set (i := 3) SC.nd rfl (Or.inl rfl) (pe_callD D_greatest_part (hr.mono (by first | decide | omega)) rfl (pa_cons (pv 0) (pa_cons (pv 2) pa_nil))))
      (pss_cons (ps_set (i := 4) SC.nd rfl (Or.inl rfl) (pe_op op_fdiv (pv 0) (pv 3)))
      (pss_cons (ps_if (pt_cmpR op_ne (pe_op op_mod (pv 1) (pv 4)) pe_int (nomark _)) (pss_one (ps_ret pe_int)) pss_nil)
      (pss_one (ps_ret (pe_callD D_many_choices (hr.mono (by first | decide | omega)) rfl (pa_cons (pv 3) (pa_cons (pe_op op_fdiv (pv 1) (pv 4)) pa_nil)))))))), ?_⟩
    one_place
    refine ⟨kk, t, rfl, h0, h1, fun H1 s1 => ?_⟩
    have g0 := Nat.gcd_pos_of_pos_left t (show 0 < kk by omega)
    have g1 := Nat.le_of_dvd (show 0 < kk by omega) (Nat.gcd_dvd_left kk t)
    have q0 : 1 ≤ kk / Nat.gcd kk t := Nat.div_pos g1 g0
    have kc := k H1 s1
    unfold RC.again at kc
    have hq : kk / Nat.gcd kk t * Nat.gcd kk t = kk := Nat.div_mul_cancel (Nat.gcd_dvd_left kk t)
    have ec : ((kk : Int) / ((Nat.gcd kk t : Nat) : Int)) = ((kk / Nat.gcd kk t : Nat) : Int) := (Int.natCast_ediv _ _).symm
    one_place
    refine ⟨⟨by omega, by omega⟩, ?_⟩
    rw [ec]
    refine ⟨by omega, ?_⟩
    have em : ((r : Int) % ((kk / Nat.gcd kk t : Nat) : Int)) = ((r % (kk / Nat.gcd kk t) : Nat) : Int) := (Int.natCast_emod _ _).symm
    rw [em]
    by_cases c : r % (kk / Nat.gcd kk t) = 0
    · rw [if_pos c] at kc
      rw [if_neg (by rw [c]; simp)]
      have qs : kk / Nat.gcd kk t ≤ kk := Nat.div_le_self _ _
      refine ⟨⟨by omega, by omega⟩, Nat.gcd kk t, r / (kk / Nat.gcd kk t), ?_, ?_, by omega, kc⟩
      · rw [show ((r : Int) / ((kk / Nat.gcd kk t : Nat) : Int)) = ((r / (kk / Nat.gcd kk t) : Nat) : Int) from (Int.natCast_ediv _ _).symm]
      · refine Nat.div_le_of_le_mul ?_
        rw [hq]; exact h2
    · rw [if_neg c] at kc
      rw [if_pos (by rw [decide_eq_false (show ¬ ((r % (kk / Nat.gcd kk t) : Nat) : Int) = 0 by omega)]; rfl)]
      exact kc
theorem d_rings_many (D : Dfn K mg "rings_many" s_rings_many ["coins"]) (T : Txt K mg uM) (D_check_coins : OkD P w K mg base 1 "check_coins" ["coins", "most"] spCoins) (D_stair_of : OkD P w K mg base 1 "stair_of" ["coins"] spStairOf) (D_rest_of : OkD P w K mg base 2 "rest_of" ["coins"] spRest)
    (D_many_again : OkD P w K mg base 2 "many_again" ["stair", "rest", "turns"] (spAgain K)) : OkD P w K mg base 3 "rings_many" ["coins"] (spMany K) := by
  have SC := sc_rings_many
  refine D.ok SC (fun vs H Q E h => ?_) (fun f cdv A outer s H vs Q E hr h => ?_)
  · obtain ⟨n, k, r, rfl, _⟩ := h; rfl
  · obtain ⟨n, kk, r, rfl, h0, h1, hk, hre, k⟩ := h
    refine ⟨_, (pss_cons (ps_expr (pe_callD D_check_coins (hr.mono (by first | decide | omega)) rfl (pa_cons (pv 0) (pa_cons (pe_glob rfl T.c_MOST_FOR_MANY T.r_MOST_FOR_MANY) pa_nil))))
      (pss_cons (ps_set (i := 1) SC.nd rfl (Or.inr rfl) (pe_callD D_stair_of (hr.mono (by first | decide | omega)) rfl (pa_cons (pv 0) pa_nil)))
      (pss_cons (ps_set (i := 2) SC.nd rfl (Or.inr rfl) (pe_callD D_rest_of (hr.mono (by first | decide | omega)) rfl (pa_cons (pv 0) pa_nil)))
      (pss_one (ps_ret (pe_op op_fdiv (pe_callB (call_sumL rfl) rfl T.n_sum PyProof.Rows.boot_sum (pa_cons (pe_comp (own := ["turns"]) (fr := ["stair", "rest"]) (ixs := [1, 2]) rfl ⟨rfl, rfl, rfl, rfl, rfl, rfl, rfl⟩ ⟨fun _ _ _ _ => pg_name (i := 0) (by decide +kernel : (["turns", "stair", "rest"] : List Str).Nodup) rfl (Or.inl rfl) (.inr rfl), fun _ _ _ _ => pts_nil, fun _ _ _ _ => (pe_callD D_many_again (hr.mono (by first | decide | omega)) rfl (pa_cons (pv 1) (pa_cons (pv 2) (pa_cons (pv 0) pa_nil))))⟩ (pi_range1 rfl T.n_range (pa_cons (pv 1) pa_nil))) pa_nil)) (pv 1))))))), ?_⟩
    have k63 := hk.le63 h1
    have k1 := hk.1
    obtain ⟨r', e1, e2, e3⟩ := hk.rest
    have er : r' = r := by omega
    subst er
    refine cut (fun σ H' => σ = [some (.int n), none, none] ∧ H' = H) (fun R hR => ?_) ?_
    · one_place
      exact ⟨n, 2000, rfl, h0, h1, hR _ _ ⟨rfl, rfl⟩⟩
    rintro σ1 H1 ⟨rfl, rfl⟩
    refine cut (fun σ H' => σ = [some (.int n), some (.int kk), none] ∧ H' = H1) (fun R hR => ?_) ?_
    · one_place
      refine ⟨n, rfl, h0, by omega, fun j hj => ?_⟩
      have e := hj.uniq hk
      subst e
      exact hR _ _ ⟨rfl, rfl⟩
    rintro σ2 H2 ⟨rfl, rfl⟩
    refine cut (fun σ H' => σ = [some (.int n), some (.int kk), some (.int r')] ∧ H' = H2) (fun R hR => ?_) ?_
    · one_place
      exact ⟨n, kk, rfl, h0, by omega, hk, by rw [hre]; exact hR _ _ ⟨rfl, rfl⟩⟩
    rintro σ3 H3 ⟨rfl, rfl⟩
    one_place
    refine ⟨by omega, by omega, fun D1 hD1 => ?_⟩
    refine comp_growR (lo := 0) ((kk : Int)).toNat (fun i => (RC.again kk r' i : Int)) _ (small1000 (by omega)) hD1 rfl (fun i hi H' Q' s q => ?_) (fun H' s e => ?_)
    · one_place
      exact ⟨kk, r', i, by simp, by omega, by omega, by omega, q⟩
    · refine ⟨D1, rfl, _, SqL.of e, ⟨by omega, by omega⟩, ?_⟩
      have es : (((List.range (kk : Int).toNat).map fun i => (RC.again kk r' i : Int)).sum) = ((RC.S kk r' : Nat) : Int) := by
        unfold RC.S
        rw [← RC.sum_cast, List.map_map]
        rfl
      rw [es, ← Int.natCast_ediv]
      exact k H' s
end
def spMD (K : PySem.W.Frag) (f : Nat) : Sp := fun vs H Q _ => ∃ (n : Nat) (r : Int), vs = [.int n, .int r] ∧ n < f ∧ n ≤ 8 ∧
  ∀ (p : Addr) (H' : Hp) (us : List Addr), H p = none → Same H H' → H' p = some (.lst (us.map V.ref)) → Lists H' us (md n r) → (∀ u ∈ us, H u = none ∧ u ≠ p) → Q (.ref p) H'
section
variable {P : Program} {w : World} {K : PySem.W.Frag} {mg : Str → Option Value} {base : Heap} {uM : UM}
theorem d_marks_down (D : Dfn K mg "marks_down" s_marks_down ["many", "ones"]) (T : Txt K mg uM) : ∀ f, OkD P w K mg base (f + 1) "marks_down" ["many", "ones"] (spMD K f)
  | 0 => Dfn.none D |>.imp fun vs H Q E ⟨n, m, _, h, _⟩ => by omega
  | f + 1 => by
    have D_marks_down := d_marks_down D T f
    have SC := sc_marks_down
    refine D.ok SC (fun vs H Q E h => ?_) (fun f' cdv A outer s H vs Q E hr h => ?_)
    · obtain ⟨n, r, rfl, _⟩ := h; rfl
    · obtain ⟨n, r, rfl, hf, hn, k⟩ := h
      refine ⟨_, (pss_cons (ps_if (PW.pt (pw_or (pt_cmpR op_lt (pv 1) pe_int (nomark _)) (pw_or1 (pt_cmpR op_gt (pv 1) (pv 0) (nomark _))))) (pss_one (ps_ret (pe_lst pa_nil))) pss_nil)
      (pss_cons (ps_if (pt_cmpR op_eq (pv 0) pe_int (nomark _)) (pss_one (ps_ret (pe_lst (pa_consL (pe_lst pa_nil) pa_nil)))) pss_nil)
      (pss_cons (ps_setC (i := 2) (own := ["others"]) (fr := []) (ixs := []) rfl ⟨rfl, rfl, rfl, rfl, rfl, rfl, rfl⟩ ⟨fun _ _ _ _ => pg_name (i := 0) (by decide +kernel : (["others"] : List Str).Nodup) rfl (Or.inl rfl) (.inr rfl), fun _ _ _ _ => pts_nil, fun _ _ _ _ => (pe_op op_cat (pe_lst (pa_cons pe_int pa_nil)) (pv 0))⟩ (pi_list (pe_callD D_marks_down (hr.mono (by first | decide | omega)) rfl (pa_cons (pe_op op_sub (pv 0) pe_int) (pa_cons (pe_op op_sub (pv 1) pe_int) pa_nil)))) SC.nd rfl rfl)
      (pss_one (ps_ret (pe_op op_cat (pv 2) (pe_comp (own := ["others"]) (fr := []) (ixs := []) rfl ⟨rfl, rfl, rfl, rfl, rfl, rfl, rfl⟩ ⟨fun _ _ _ _ => pg_name (i := 0) (by decide +kernel : (["others"] : List Str).Nodup) rfl (Or.inl rfl) (.inr rfl), fun _ _ _ _ => pts_nil, fun _ _ _ _ => (pe_op op_cat (pe_lst (pa_cons pe_int pa_nil)) (pv 0))⟩ (pi_list (pe_callD D_marks_down (hr.mono (by first | decide | omega)) rfl (pa_cons (pe_op op_sub (pv 0) pe_int) (pa_cons (pv 1) pa_nil))))))))))), ?_⟩
      refine cut (fun σ H' => 0 ≤ r ∧ r ≤ n ∧ σ = [some (.int n), some (.int r), none] ∧ H' = H) (fun R hR => ?_) ?_
      · one_place
        have out : r < 0 ∨ (n : Int) < r → md n r = [] := fun z => by
          cases n with
          | zero => unfold md; exact if_pos (by simpa using z)
          | succ n => unfold md; rw [if_pos z]
        by_cases c1 : r < 0
        · rw [if_pos (decide_eq_true c1), if_pos True.intro]
          exact ⟨by decide, fun p hp => k p _ [] hp (Same.put hp) upd_same (by rw [out (.inl c1)]; exact Lists.nil) fun u hu => by simp at hu⟩
        · rw [if_neg (by simpa using c1)]
          by_cases c2 : (n : Int) < r
          · rw [if_pos (decide_eq_true c2)]
            exact ⟨by decide, fun p hp => k p _ [] hp (Same.put hp) upd_same (by rw [out (.inr c2)]; exact Lists.nil) fun u hu => by simp at hu⟩
          · rw [if_neg (by simpa using c2)]
            exact hR _ _ ⟨by omega, by omega, rfl, rfl⟩
      rintro σ1 H1 ⟨r0, r1, rfl, rfl⟩
      refine cut (fun σ H' => n ≠ 0 ∧ σ = [some (.int n), some (.int r), none] ∧ H' = H1) (fun R hR => ?_) ?_
      · one_place
        refine ite2 (fun c => ?_) fun c => hR _ _ ⟨fun z => c (by rw [z]; rfl), rfl, rfl⟩
        have c : n = 0 := by simpa using c
        subst c
        refine ⟨by decide, fun p hp => ⟨by decide, fun q hq => ?_⟩⟩
        have s1 := Same.put (o := .lst []) hp
        have np : p ≠ q := ne_of_none upd_same hq
        refine k q _ [p] (s1.free hq) (s1.put' hq) upd_same ?_ fun u hu => ?_
        · unfold md
          rw [if_neg (by omega)]
          exact Lists.snoc (rs := []) (qss := []) Lists.nil (by rw [upd_ne np]; exact upd_same)
        · rw [List.mem_singleton.mp hu]; exact ⟨hp, np⟩
      rintro σ2 H2 ⟨n0, rfl, rfl⟩
      obtain ⟨m, rfl⟩ : ∃ m, n = m + 1 := ⟨n - 1, by omega⟩
      have em : (((m + 1 : Nat) : Int) - 1) = (m : Int) := by omega
      have lenm : ∀ r, (md m r).length ≤ 256 := fun r => Nat.le_trans (md_len m r) (Nat.le_trans (Nat.pow_le_pow_right (by decide) (show m ≤ 8 by omega)) (by decide))
      have lenq : ∀ r q, q ∈ md m r → q.length = m := fun r q hq => ((mem_md m r q).mp hq).1
      refine cut (fun σ H' => ∃ w1 us, σ = [some (.int ((m + 1 : Nat) : Int)), some (.int r), some (.ref w1)] ∧ H2 w1 = none ∧ Same H2 H' ∧ H' w1 = some (.lst (us.map V.ref)) ∧ Lists H' us ((md m (r - 1)).map (1 :: ·)) ∧ ∀ u ∈ us, H2 u = none ∧ u ≠ w1) (fun R hR => ?_) ?_
      · one_place
        rw [em]
        refine ⟨m, r - 1, rfl, by omega, by omega, fun q H4 vs hq s4 e4 L4 k4 => ?_⟩
        refine ⟨q, rfl, ⟨_, SqL.of e4⟩, fun D1 hD1 => ?_⟩
        have vl : vs.length ≤ 256 := by rw [L4.len]; exact lenm _
        refine comp_LL (K := K) vs _ (fun _ => true) (fun q => 1 :: q) _ (small1000 (by omega)) (SqL.of e4) L4 hD1 (fun r qs hqs H' Q' sm hr1 q => q _ (Same.refl _)) (fun r qs hqs _ H5 Q' sm hr5 q5 => ?_) (fun H5 ws s5 e5 L5 k5 => ?_)
        · one_place
          have := lenq _ _ hqs
          refine ⟨by decide, fun x hx => ⟨_, upd_same, _, Same.put hx _ _ hr5, by rw [List.length_map, sizeLine_eq]; simp only [List.length_cons, List.length_nil]; omega, fun y hy => ?_⟩⟩
          exact q5 _ y ((Same.put hx).free hy) ((Same.put hx).put' hy) (by rw [upd_same, List.map_cons]; rfl)
        · rw [List.filter_eq_self.mpr (fun _ _ => rfl)] at L5
          exact hR _ _ ⟨D1, ws, rfl, s4.free hD1, s4.trans s5, e5, L5, fun u hu => ⟨s4.free (k5 u hu).1, (k5 u hu).2⟩⟩
      rintro σ3 H3 ⟨w1, us, rfl, f3, s3, e3, L3', k3⟩
      one_place
      rw [em]
      refine ⟨m, r, rfl, by omega, by omega, fun q H4 vs hq s4 e4 L4 k4 => ?_⟩
      refine ⟨q, rfl, ⟨_, SqL.of e4⟩, fun D1 hD1 => ?_⟩
      have vl : vs.length ≤ 256 := by rw [L4.len]; exact lenm _
      refine comp_LL (K := K) vs _ (fun _ => true) (fun q => 0 :: q) _ (small1000 (by omega)) (SqL.of e4) L4 hD1 (fun r qs hqs H' Q' sm hr1 q => q _ (Same.refl _)) (fun r qs hqs _ H5 Q' sm hr5 q5 => ?_) (fun H5 ws s5 e5 L5 k5 => ?_)
      · one_place
        have := lenq _ _ hqs
        refine ⟨by decide, fun x hx => ⟨_, upd_same, _, Same.put hx _ _ hr5, by rw [List.length_map, sizeLine_eq]; simp only [List.length_cons, List.length_nil]; omega, fun y hy => ?_⟩⟩
        exact q5 _ y ((Same.put hx).free hy) ((Same.put hx).put' hy) (by rw [upd_same, List.map_cons]; rfl)
      · rw [List.filter_eq_self.mpr (fun _ _ => rfl)] at L5
        have s45 := s4.trans s5
        have e35 := s45 _ _ e3
        have ul : us.length ≤ 256 := by rw [L3'.len, List.length_map]; exact lenm _
        have wl : ws.length ≤ 256 := by rw [L5.len, List.length_map]; exact lenm _
        refine ⟨D1, rfl, _, e35, _, e5, by rw [List.length_map, List.length_map, sizeLine_eq]; omega, fun z hz => ?_⟩
        have kw : ∀ u ∈ us ++ ws, H2 u = none ∧ u ≠ z := fun u hu => by
          rcases List.mem_append.mp hu with y | y
          · refine ⟨(k3 u y).1, ?_⟩
            obtain ⟨qs, _, eu⟩ := (L3'.mono s45).mem y
            exact ne_of_none eu hz
          · refine ⟨s3.free (s4.free (k5 u y).1), ?_⟩
            obtain ⟨qs, _, eu⟩ := L5.mem y
            exact ne_of_none eu hz
        have s6 := (s3.trans s45).put' (o := .lst (us.map V.ref ++ ws.map V.ref)) hz
        refine k z _ (us ++ ws) ((s3.trans s45).free hz) s6 (by rw [upd_same, List.map_append]) ?_ kw
        have emd : md (m + 1) r = (md m (r - 1)).map (1 :: ·) ++ (md m r).map (0 :: ·) := by
          conv => lhs; unfold md
          rw [if_neg (by omega)]
        rw [emd]
        exact Lists.app ((L3'.mono s45).mono (Same.put hz)) (L5.mono (Same.put hz))
end
theorem marks_ok {n : Int} {ms : List Int} (h : Marks n ms) (n0 : 1 ≤ n) (n1 : n ≤ 100) : okM ms = true := by
  have hb : marksB ms = true := List.all_eq_true.mpr fun m hm => decide_eq_true (h.bit m hm)
  have hs := h.setting
  have s1 : (byMarks ms).sum ≤ 100 := by rw [hs.sum]; omega
  have one : (1 : Int) ∈ ms := by
    have e := byMarks_sum h.bit
    rw [hs.sum] at e
    have lo := h.lo
    have ee : ((ms.length : Int) - 1) * ms.length = (ms.length : Int) * (ms.length - 1) := Int.mul_comm _ _
    have sp : 1 ≤ ms.sum := by omega
    by_cases c : (1 : Int) ∈ ms
    · exact c
    · exfalso
      have z : ∀ m ∈ ms, m = 0 := fun m hm => by
        rcases h.bit m hm with y | y
        · exact y
        · rw [y] at hm; exact absurd hm c
      have : ms.sum = 0 := by
        clear sp ee lo e s1 hs hb h c
        induction ms with
        | nil => rfl
        | cons a r ih =>
          rw [List.sum_cons, z a List.mem_cons_self, ih fun m hm => z m (List.mem_cons_of_mem _ hm)]; rfl
      omega
  unfold okM
  rw [hb, decide_eq_true one, decide_eq_true s1]; rfl
def spLeads (K : PySem.W.Frag) : Sp := fun vs H Q _ => ∃ (a : Addr) (ms : List Int), vs = [.ref a] ∧ H a = some (.lst (ms.map V.int)) ∧ 1 ≤ ms.length ∧ ms.length ≤ 100 ∧ ∀ H', Same H H' → Q (.bl (leadB ms)) H'
theorem range_allL {β : Type} (n : Nat) (g : Int → β) : (((List.range n).map fun (i : Nat) => (0 : Int) + (i : Int)).filter fun _ => true).map g = (List.range n).map fun (i : Nat) => g (i : Int) := by
  rw [List.filter_eq_self.mpr (fun _ _ => rfl), List.map_map]
  exact List.map_congr_left fun i _ => by show g (0 + (i : Int)) = g i; rw [Int.zero_add]
theorem _root_.L2.IsStair.le8 {n k : Int} (h : IsStair n k) (hn : n ≤ 36) : k ≤ 8 := by
  obtain ⟨h1, h2, h3⟩ := h
  rcases Int.lt_or_le 8 k with z | z
  · have : 8 * 9 ≤ (k - 1) * k := Int.mul_le_mul (by omega) (by omega) (by omega) (by omega)
    omega
  · exact z
theorem md_marks {n : Int} {k r : Nat} {ms : List Int} (hk : IsStair n k) (hr : n - (k : Int) * ((k : Int) - 1) / 2 = r) (h : ms ∈ md k r) : Marks n ms ∧ ms.length = k := by
  obtain ⟨a, b, c⟩ := (mem_md k r ms).mp h
  obtain ⟨h1, h2, h3⟩ := hk
  subst a
  exact ⟨⟨by omega, h2, h3, b, by rw [c, ← hr]⟩, rfl⟩
theorem marks_come {n : Int} {ms : List Int} (h : Marks n ms) (n0 : 1 ≤ n) : ∃ d, d ≤ ms.length ∧ Comes ms.length (byMarks ms) 0 d ∧ rgL ms = its d (byMarks ms) := by
  have all := h.rots n0
  have back : it ms.length (byMarks ms) = byMarks ms := by rw [(all ms.length).2.1, rots_all]
  obtain ⟨d, dl, rg⟩ := Ring.of h.ne back
  refine ⟨d, dl, ⟨fun j hj => by omega, fun j _ => ?_, rg⟩, by unfold rgL; rw [rg_its rg, Nat.min_eq_right dl]⟩
  obtain ⟨a1, a2, a3⟩ := all j
  rw [a2, ← a3, above_marks a1.bit (fun z => by have := a1.ne; rw [z] at this; simp at this)]
  exact List.all_eq_true.mpr fun x hx => decide_eq_true (a1.bit x hx)
def spRingsOf (K : PySem.W.Frag) : Sp := fun vs H Q _ => ∃ (n : Int) (k r : Nat), vs = [.int n] ∧ 1 ≤ n ∧ n ≤ 36 ∧ IsStair n k ∧ n - (k : Int) * ((k : Int) - 1) / 2 = r ∧
  ∀ (p : Addr) (H' : Hp) (qs : List Addr), H p = none → Same H H' → H' p = some (.lst (qs.map V.ref)) → L3 H' qs ((leads k r).map rgL) → (∀ q ∈ qs, H q = none ∧ q ≠ p ∧ ∃ us : List Addr, H' q = some (.lst (us.map V.ref)) ∧ ∀ u ∈ us, u ≠ p ∧ H u = none ∧ u ≠ q) → Q (.ref p) H'
section
variable {P : Program} {w : World} {K : PySem.W.Frag} {mg : Str → Option Value} {base : Heap} {uM : UM}
theorem d_leads_its_ring (D : Dfn K mg "leads_its_ring" s_leads_its_ring ["marks"]) (T : Txt K mg uM) : OkD P w K mg base 1 "leads_its_ring" ["marks"] (spLeads K) := by
  have SC := sc_leads_its_ring
  refine D.ok SC (fun vs H Q E h => ?_) (fun f cdv A outer s H vs Q E hr h => ?_)
  · obtain ⟨a, ms, rfl, _⟩ := h; rfl
  · obtain ⟨a, ms, rfl, ha, l1, l2, k⟩ := h
    have hu := hr.units
    have hu65 := hu65_of hr
    refine ⟨_, (pss_one (ps_ret (pe_cmpR (op_eqL hu) (pv 0) (pe_callB (call_maxLL rfl hu65) rfl T.n_max PyProof.Rows.boot_max (pa_cons (pe_comp (own := ["cut"]) (fr := ["marks"]) (ixs := [0]) rfl ⟨rfl, rfl, rfl, rfl, rfl, rfl, rfl⟩ ⟨fun _ _ _ _ => pg_name (i := 0) (by decide +kernel : (["cut", "marks"] : List Str).Nodup) rfl (Or.inl rfl) (.inr rfl), fun _ _ _ _ => pts_nil, fun _ _ _ _ => (pe_op op_cat (pe_slice (sl_listK (K := K) rfl) (pv 1) (po_some (pv 0)) po_none) (pe_slice (sl_listK (K := K) rfl) (pv 1) po_none (po_some (pv 0))))⟩ (pi_range1 rfl T.n_range (pa_cons (pe_callB call_len_seq rfl T.n_len PySem.boot_len (pa_cons (pv 0) pa_nil)) pa_nil))) pa_nil)) (nomark _)))), ?_⟩
    one_place
    refine ⟨_, .inl (SqL.of ha), ?_⟩
    rw [List.length_map]
    refine ⟨by omega, by omega, fun D1 hD1 => ?_⟩
    refine comp_RL (lo := 0) ((ms.length : Int)).toNat (fun _ => true) (fun i => ms.drop i.toNat ++ ms.take i.toNat) _ (small1000 (by omega)) hD1 (fun i _ _ H' Q' _ q => q _ (Same.refl _)) (fun i i0 i1 _ H' Q' sm q => ?_) (fun H2 us s2 e2 Lm2 k2 => ?_)
    · one_place
      have ha' := sm _ _ ha
      refine ⟨_, SqL.of ha', fun p hp => ⟨_, SqL.of (Same.put hp _ _ ha'), fun q' hq => ?_⟩⟩
      rw [cut_from _ i0, ← List.map_drop] at hq
      rw [cut_from _ i0, cut_to _ i0, ← List.map_drop, ← List.map_take]
      have np : p ≠ q' := ne_of_none upd_same hq
      refine ⟨_, by rw [upd_ne np]; exact upd_same, _, upd_same, by rw [List.length_map, List.length_map, List.length_drop, List.length_take, sizeLine_eq]; omega, fun z hz => ?_⟩
      have s1 : Same H' (upd H' p (.lst ((ms.drop i.toNat).map V.int))) := Same.put hp
      have s2 := s1.put' (o := .lst ((ms.take i.toNat).map V.int)) hq
      refine q _ z (s2.free hz) (s2.put' hz) ?_
      rw [upd_same, List.map_append]
    · rw [Int.toNat_natCast, range_allL] at Lm2
      have Lm2 : Lists H2 us ((List.range ms.length).map fun c => ms.drop c ++ ms.take c) := Lm2
      refine ⟨D1, rfl, us, SqL.of e2, _, Lm2, by rw [Lm2.len, List.length_map, List.length_range]; omega, fun z M hM hz hmax => ?_⟩
      refine ⟨ms, SqL.of (s2 _ _ ha), M, SqL.of hz, ?_⟩
      rw [lead_max (l := (List.range ms.length).map fun c => ms.drop c ++ ms.take c) (fun x => cuts_mem) (by omega) hM hmax]
      exact k _ s2
theorem d_rings_of (D : Dfn K mg "rings_of" s_rings_of ["coins"]) (T : Txt K mg uM) (D_check_coins : OkD P w K mg base 1 "check_coins" ["coins", "most"] spCoins) (D_stair_of : OkD P w K mg base 1 "stair_of" ["coins"] spStairOf) (D_rest_of : OkD P w K mg base 2 "rest_of" ["coins"] spRest)
    (D_marks_down : OkD P w K mg base 10 "marks_down" ["many", "ones"] (spMD K 9)) (D_leads_its_ring : OkD P w K mg base 1 "leads_its_ring" ["marks"] (spLeads K)) (D_setting_of : OkD P w K mg base 2 "setting_of" ["marks"] (spSettingOf K)) (D_ring_of : OkD P w K mg base 6 "ring_of" ["piles"] (spRingOf K)) : OkD P w K mg base 11 "rings_of" ["coins"] (spRingsOf K) := by
  have SC := sc_rings_of
  refine D.ok SC (fun vs H Q E h => ?_) (fun f cdv A outer s H vs Q E hr h => ?_)
  · obtain ⟨n, k, r, rfl, _⟩ := h; rfl
  · obtain ⟨n, kk, r, rfl, n0, n1, hk, hre, k⟩ := h
    have k8 := hk.le8 n1
    have k1 := hk.1
    refine ⟨_, (pss_cons (ps_expr (pe_callD D_check_coins (hr.mono (by first | decide | omega)) rfl (pa_cons (pv 0) (pa_cons (pe_glob rfl T.c_MOST_FOR_RINGS T.r_MOST_FOR_RINGS) pa_nil))))
      (pss_cons (ps_set (i := 1) SC.nd rfl (Or.inl rfl) (pe_callD D_marks_down (hr.mono (by first | decide | omega)) rfl (pa_cons (pe_callD D_stair_of (hr.mono (by first | decide | omega)) rfl (pa_cons (pv 0) pa_nil)) (pa_cons (pe_callD D_rest_of (hr.mono (by first | decide | omega)) rfl (pa_cons (pv 0) pa_nil)) pa_nil))))
      (pss_one (ps_ret (pe_comp (own := ["marks"]) (fr := []) (ixs := []) rfl ⟨rfl, rfl, rfl, rfl, rfl, rfl, rfl⟩ ⟨fun _ _ _ _ => pg_name (i := 0) (by decide +kernel : (["marks"] : List Str).Nodup) rfl (Or.inl rfl) (.inr rfl), fun _ _ _ _ => pts_one (pt_val (pe_callD D_leads_its_ring (hr.mono (by first | decide | omega)) rfl (pa_cons (pv 0) pa_nil))), fun _ _ _ _ => (pe_callD D_ring_of (hr.mono (by first | decide | omega)) rfl (pa_cons (pe_callD D_setting_of (hr.mono (by first | decide | omega)) rfl (pa_cons (pv 0) pa_nil)) pa_nil))⟩ (pi_list (pv 1))))))), ?_⟩
    refine cut (fun σ H' => σ = [some (.int n), none] ∧ H' = H) (fun R hR => ?_) ?_
    · one_place
      exact ⟨n, 36, rfl, n0, n1, hR _ _ ⟨rfl, rfl⟩⟩
    rintro σ1 H1 ⟨rfl, rfl⟩
    refine cut (fun σ H' => ∃ e us, σ = [some (.int n), some (.ref e)] ∧ Same H1 H' ∧ H' e = some (.lst (us.map V.ref)) ∧ Lists H' us (md kk r)) (fun R hR => ?_) ?_
    · one_place
      refine ⟨n, rfl, n0, by omega, fun j hj => ?_⟩
      have e := hj.uniq hk
      subst e
      one_place
      refine ⟨n, kk, rfl, n0, by omega, hk, ?_⟩
      rw [hre]
      exact ⟨kk, r, rfl, by omega, by omega, fun p H' us hp sm e L _ => hR _ _ ⟨p, us, rfl, sm, e, L⟩⟩
    rintro σ2 H2 ⟨e, us, rfl, s2, e2, Lm2⟩
    one_place
    refine ⟨⟨_, SqL.of e2⟩, fun D1 hD1 => ?_⟩
    have ul : us.length ≤ 256 := by rw [Lm2.len]; exact Nat.le_trans (md_len _ _) (Nat.le_trans (Nat.pow_le_pow_right (by decide) (show kk ≤ 8 by omega)) (by decide))
    refine comp_L3 (K := K) us _ leadB rgL _ (small1000 (by omega)) (SqL.of e2) Lm2 hD1 (fun a ms hms H' Q' sm ha q => ?_) (fun a ms hms _ H' Q' sm ha q => ?_) (fun H3 qs s3 e3 Lm3 k3 => ?_)
    · obtain ⟨mk, ml⟩ := md_marks hk hre hms
      one_place
      exact ⟨a, ms, rfl, ha, by omega, by omega, fun H3 s3 => ⟨_, rfl, q _ s3⟩⟩
    · obtain ⟨mk, ml⟩ := md_marks hk hre hms
      obtain ⟨d, dl, cm, er⟩ := marks_come mk n0
      have st := mk.setting
      one_place
      refine ⟨a, ms, rfl, SqL.of ha, by omega, marks_ok mk n0 (by omega), fun b H3 hb s3 e3 => ?_⟩
      one_place
      refine ⟨b, byMarks ms, n, ms.length, 0, 0 + d, d, rfl, e3, st, n0, by omega, mk.stair, cm.no, cm.yes 0 (Nat.le_refl _), Trail.come cm, by omega, by have := cm.ring.pos; omega, cm.ring, by omega, fun p H4 rs hp s4 e4 L4 f4 => ?_⟩
      rw [show it 0 (byMarks ms) = byMarks ms from rfl] at L4
      refine q H4 p rs (s3.free hp) (s3.trans s4) e4 (by rw [er]; exact L4) fun u hu => ⟨s3.free (f4 u hu), ?_⟩
      obtain ⟨t, ht, eu⟩ := L4.mem hu
      obtain ⟨i, _, ei⟩ := mem_its.mp ht
      exact ne_of eu e4 (refs_ne (by rw [← ei]; exact (st.it n0 i).ne n0))
    · exact k D1 H3 qs (s2.free hD1) (s2.trans s3) e3 Lm3 fun q hq => by
        obtain ⟨a1, a2, us', a3, a4⟩ := k3 q hq
        exact ⟨s2.free a1, a2, us', a3, fun u hu => ⟨(a4 u hu).1, s2.free (a4 u hu).2.1, (a4 u hu).2.2⟩⟩
end
def spDown (K : PySem.W.Frag) (f : Nat) : Sp := fun vs H Q _ => ∃ n m : Nat, vs = [.int n, .int m] ∧ n < f ∧ n ≤ 18 ∧ m ≤ 1000 ∧
  ∀ (p : Addr) (H' : Hp) (us : List Addr), H p = none → Same H H' → H' p = some (.lst (us.map V.ref)) → Lists H' us (dn f n m) → (∀ u ∈ us, H u = none ∧ u ≠ p) → Q (.ref p) H'
def wDown (f n m : Nat) (fd : Addr) (H : Hp) (i : Nat) (σ : St) (H' : Hp) : Prop := ∃ (us : List Addr) (o : Option V), σ = [some (.int n), some (.int m), some (.ref fd), o] ∧ H fd = none ∧ Same H H' ∧ H' fd = some (.lst (us.map V.ref)) ∧ Lists H' us (dnp f n m i) ∧ ∀ u ∈ us, H u = none ∧ u ≠ fd
def spSettingsOf (K : PySem.W.Frag) : Sp := fun vs H Q _ => ∃ n : Nat, vs = [.int n] ∧ 1 ≤ n ∧ n ≤ 18 ∧
  ∀ (p : Addr) (H' : Hp) (us : List Addr), H p = none → Same H H' → H' p = some (.lst (us.map V.ref)) → Lists H' us (dn 19 n n) → (∀ u ∈ us, H u = none ∧ u ≠ p) → Q (.ref p) H'
section
variable {P : Program} {w : World} {K : PySem.W.Frag} {mg : Str → Option Value} {base : Heap} {uM : UM}
theorem d_piles_down (D : Dfn K mg "piles_down" s_piles_down ["coins", "most"]) (T : Txt K mg uM) : ∀ f, OkD P w K mg base (f + 1) "piles_down" ["coins", "most"] (spDown K f)
  | 0 => Dfn.none D |>.imp fun vs H Q E ⟨n, m, _, h, _⟩ => by omega
  | f + 1 => by
    have D_piles_down := d_piles_down D T f
    have SC := sc_piles_down
    refine D.ok SC (fun vs H Q E h => ?_) (fun f' cdv A outer s H vs Q E hr h => ?_)
    · obtain ⟨n, m, rfl, _⟩ := h; rfl
    · obtain ⟨n, m, rfl, hf, hn, hm, k⟩ := h
      refine ⟨_, (pss_cons (ps_if (pt_cmpR op_eq (pv 0) pe_int (nomark _)) (pss_one (ps_ret (pe_lst (pa_consL (pe_lst pa_nil) pa_nil)))) pss_nil)
      (pss_cons (ps_set (i := 2) SC.nd rfl (Or.inl rfl) (pe_lst pa_nil))
      (pss_cons (ps_for PassesOwn.never rfl (pi_rangeD rfl T.n_range (pa_cons (pe_callB (call_min2 rfl) rfl T.n_min PyProof.Rows.boot_min (pa_cons (pv 0) (pa_cons (pv 1) pa_nil))) (pa_cons pe_int (pa_cons (pe_un un_neg pe_int) pa_nil)))) (pg_name (i := 3) SC.nd rfl (Or.inr rfl))
        (pss_one (ps_expr (pe_bm PySem.F.plainAttrs_list PySem.F.slot_list_extend PySem.F.type_list_extend mt_extend (pv 2) (pa_cons (pe_comp (own := ["others"]) (fr := ["pile"]) (ixs := [3]) rfl ⟨rfl, rfl, rfl, rfl, rfl, rfl, rfl⟩ ⟨fun _ _ _ _ => pg_name (i := 0) (by decide +kernel : (["others", "pile"] : List Str).Nodup) rfl (Or.inl rfl) (.inr rfl), fun _ _ _ _ => pts_nil, fun _ _ _ _ => (pe_op op_cat (pe_lst (pa_cons (pv 1) pa_nil)) (pv 0))⟩ (pi_list (pe_callD D_piles_down (hr.mono (by first | decide | omega)) rfl (pa_cons (pe_op op_sub (pv 0) (pv 3)) (pa_cons (pv 3) pa_nil))))) pa_nil)))))
      (pss_one (ps_ret (pv 2)))))), ?_⟩
      refine cut (fun σ H' => n ≠ 0 ∧ σ = [some (.int n), some (.int m), none, none] ∧ H' = H) (fun R hR => ?_) ?_
      · one_place
        refine ite2 (fun c => ?_) fun c => hR _ _ ⟨fun z => c (by rw [z]; rfl), rfl, rfl⟩
        have c : n = 0 := by simpa using c
        subst c
        refine ⟨by decide, fun p hp => ⟨by decide, fun q hq => ?_⟩⟩
        have s1 := Same.put (o := .lst []) hp
        have np : p ≠ q := ne_of_none upd_same hq
        refine k q _ [p] (s1.free hq) (s1.put' hq) upd_same ?_ fun u hu => ?_
        · exact Lists.snoc (rs := []) (qss := []) Lists.nil (by rw [upd_ne np]; exact upd_same)
        · rw [List.mem_singleton.mp hu]; exact ⟨hp, np⟩
      rintro σ1 H1 ⟨n0, rfl, rfl⟩
      refine cut (fun σ H' => ∃ fd, σ = [some (.int n), some (.int m), some (.ref fd), none] ∧ H1 fd = none ∧ Same H1 H' ∧ H' fd = some (.lst [])) (fun R hR => ?_) ?_
      · one_place
        exact ⟨by decide, fun p hp => hR _ _ ⟨p, rfl, hp, Same.put hp, upd_same⟩⟩
      rintro σ2 H2 ⟨fd, rfl, f2, s2, e2⟩
      have mi : (if (m : Int) < (n : Int) then (m : Int) else (n : Int)) = ((min n m : Nat) : Int) := by
        by_cases c : (m : Int) < (n : Int)
        · rw [if_pos c, Nat.min_eq_right (by omega)]
        · rw [if_neg c, Nat.min_eq_left (by omega)]
      refine cut (fun σ H' => wDown f n m fd H1 (min n m) σ H') (fun R hR => ?_) ?_
      · refine ⟨_, rfl, _, rfl, _, _, rfl, ?_⟩
        rw [mi]
        refine ⟨_, rfl, _, _, rfl, ⟨by omega, by omega, by omega, by omega⟩, for_down (lo := ((min n m : Nat) : Int)) (n := (((min n m : Nat) : Int) - 0).toNat) (wDown f n m fd H1) ⟨[], none, rfl, f2, s2, e2, Lists.nil, fun u hu => by simp at hu⟩ ?_ ?_⟩
        · rintro i σ H' hi ⟨us, o, rfl, _, s3, e3, L3, k3⟩
          have hi : i < min n m := by omega
          have ep : ((min n m : Nat) : Int) - (i : Int) = ((min n m - i : Nat) : Int) := by omega
          have en : (n : Int) - ((min n m - i : Nat) : Int) = ((n - (min n m - i) : Nat) : Int) := by omega
          one_place
          rw [ep, en]
          refine ⟨.inl ⟨rfl, _, SqL.of e3⟩, n - (min n m - i), min n m - i, rfl, by omega, by omega, by omega, fun q H4 vs hq s4 e4 L4 k4 => ?_⟩
          refine ⟨q, rfl, ⟨_, SqL.of e4⟩, fun D1 hD1 => ?_⟩
          have vl : vs.length ≤ 262144 := by rw [L4.len]; exact Nat.le_trans (dn_len _ _ _) (pow18 (by omega))
          refine comp_LL (K := K) vs _ (fun _ => true) (fun q => ((min n m - i : Nat) : Int) :: q) _ (by rw [sizeLine_eq]; omega) (SqL.of e4) L4 hD1 (fun r qs hqs H' Q' sm hr1 q => q _ (Same.refl _)) (fun r qs hqs _ H5 Q' sm hr5 q5 => ?_) (fun H5 ws s5 e5 L5 k5 => ?_)
          · one_place
            have := dn_item _ _ _ _ hqs
            refine ⟨by decide, fun x hx => ⟨_, upd_same, _, Same.put hx _ _ hr5, by rw [List.length_map, sizeLine_eq]; simp only [List.length_cons, List.length_nil]; omega, fun y hy => ?_⟩⟩
            exact q5 _ y ((Same.put hx).free hy) ((Same.put hx).put' hy) (by rw [upd_same, List.map_cons]; rfl)
          · rw [List.filter_eq_self.mpr (fun _ _ => rfl)] at L5
            have e3' := s5 _ _ (s4 _ _ e3)
            have ul : us.length ≤ 262144 := by rw [L3.len]; exact Nat.le_trans (dnp_len (by omega)) (pow18 hn)
            have wl : ws.length ≤ 262144 := by rw [L5.len, List.length_map, ← L4.len]; exact vl
            have kw : ∀ u ∈ ws, H1 u = none ∧ u ≠ fd := fun u hu => by
              obtain ⟨z, _⟩ := k5 u hu
              exact ⟨(s3.trans s4).free z, (ne_of_none (s4 _ _ e3) z).symm⟩
            refine ⟨D1, rfl, _, e3', _, e5, by rw [List.length_map, List.length_map, sizeLine_eq]; omega, ?_⟩
            refine ⟨us ++ ws, _, rfl, f2, fun b u e => ?_, by rw [upd_same, List.map_append], ?_, fun u hu => ?_⟩
            · rw [upd_ne (ne_of_none e f2)]; exact s5 _ _ (s4 _ _ (s3 _ _ e))
            · rw [dnp_succ]
              refine Lists.app ((L3.mono (s4.trans s5)).off fun r hr1 o e => ?_) (L5.off fun r hr1 o e => ?_)
              · rw [upd_ne (k3 r hr1).2]; exact e
              · rw [upd_ne (kw r hr1).2]; exact e
            · rcases List.mem_append.mp hu with z | z
              · exact k3 u z
              · exact kw u z
        · rintro σ H' z
          rw [show (((min n m : Nat) : Int) - 0).toNat = min n m by omega] at z
          exact hR _ _ z
      rintro σ3 H3 ⟨us, o, rfl, _, s3, e3, L3, k3⟩
      one_place
      exact k fd H3 us f2 s3 e3 (by rw [dn_eq n0]; exact L3) k3
theorem d_settings_of (D : Dfn K mg "settings_of" s_settings_of ["coins"]) (T : Txt K mg uM) (D_check_coins : OkD P w K mg base 1 "check_coins" ["coins", "most"] spCoins) (D_piles_down : OkD P w K mg base 20 "piles_down" ["coins", "most"] (spDown K 19)) : OkD P w K mg base 21 "settings_of" ["coins"] (spSettingsOf K) := by
  have SC := sc_settings_of
  refine D.ok SC (fun vs H Q E h => ?_) (fun f cdv A outer s H vs Q E hr h => ?_)
  · obtain ⟨n, rfl, _⟩ := h; rfl
  · obtain ⟨n, rfl, h0, h1, k⟩ := h
    refine ⟨_, (pss_cons (ps_expr (pe_callD D_check_coins (hr.mono (by first | decide | omega)) rfl (pa_cons (pv 0) (pa_cons (pe_glob rfl T.c_MOST_FOR_SETTINGS T.r_MOST_FOR_SETTINGS) pa_nil))))
      (pss_one (ps_ret (pe_callD D_piles_down (hr.mono (by first | decide | omega)) rfl (pa_cons (pv 0) (pa_cons (pv 0) pa_nil)))))), ?_⟩
    one_place
    exact ⟨n, 18, rfl, by omega, by omega, n, n, rfl, by omega, h1, by omega, k⟩
end
theorem pi_listK {X : Cx} {K : PySem.W.Frag} {tg l : Expr} {tl : TE} (e : X.K = K) (hl : PE X l tl) : PI X tg l (iList K tl) := by subst e; exact pi_list hl
def spDrawn (K : PySem.W.Frag) : Sp := fun vs H Q _ => ∃ n : Nat, vs = [.int n] ∧ 1 ≤ n ∧ n ≤ 18 ∧
  ∀ (p : Addr) (H' : Hp), H p = none → Same H H' → H' p = some (.lst (((List.range (rsN n).length).map fun j => (cnN n j : Int)).map V.int)) → Q (.ref p) H'
def con3 (H : Hp) : V → List (List Int)
  | .ref a => match H a with
    | some (.lst l) => l.map (cont H)
    | _ => []
  | _ => []
theorem con3_of {H : Hp} {a : Addr} {us : List Addr} {ts : List (List Int)} (h : H a = some (.lst (us.map V.ref))) (L : Lists H us ts) : con3 H (.ref a) = ts := by
  show (match H a with | some (.lst l) => l.map (cont H) | _ => []) = ts
  rw [h]
  exact L.conts
def cntR (n : Nat) (R : List (List Int)) : Nat := ((dn 19 n n).filter fun q => decide (fsN n q ∈ R)).length
theorem fil_len {H : Hp} {R : List (List Int)} : ∀ {us : List Addr} {ts : List (List Int)}, Lists H us ts → ((us.map V.ref).filter fun x => decide (cont H x ∈ R)).length = (ts.filter fun t => decide (t ∈ R)).length
  | [], [], _ => rfl
  | [], _ :: _, h => by have := h.len; simp at this
  | _ :: _, [], h => by have := h.len; simp at this
  | u :: us, t :: ts, h => by
    obtain ⟨h1, h2⟩ := h.tail
    have ih := fil_len (R := R) h2
    rw [List.map_cons, List.filter_cons, List.filter_cons, cont_of h1]
    by_cases c : t ∈ R
    · rw [if_pos (decide_eq_true c), if_pos (decide_eq_true c), List.length_cons, List.length_cons, ih]
    · rw [if_neg (by simpa using c), if_neg (by simpa using c), ih]
section
variable {P : Program} {w : World} {K : PySem.W.Frag} {mg : Str → Option Value} {base : Heap} {uM : UM}
theorem d_drawn_in (D : Dfn K mg "drawn_in" s_drawn_in ["coins"]) (T : Txt K mg uM) (D_settings_of : OkD P w K mg base 21 "settings_of" ["coins"] (spSettingsOf K)) (D_ring_of : OkD P w K mg base 6 "ring_of" ["piles"] (spRingOf K)) (D_rings_of : OkD P w K mg base 11 "rings_of" ["coins"] (spRingsOf K)) : OkD P w K mg base 22 "drawn_in" ["coins"] (spDrawn K) := by
  have SC := sc_drawn_in
  refine D.ok SC (fun vs H Q E h => ?_) (fun f cdv A outer s H vs Q E hr h => ?_)
  · obtain ⟨n, rfl, _⟩ := h; rfl
  · obtain ⟨n, rfl, h0, h1, k⟩ := h
    have hu65 := hu65_of hr
    obtain ⟨hk, hre, k6, r1⟩ := stN_is h0 h1
    obtain ⟨l1, l2, l3⟩ := len_few h0 h1
    refine ⟨_, (pss_cons (ps_set (i := 1) SC.nd rfl (Or.inr rfl) (pe_comp (own := ["piles"]) (fr := []) (ixs := []) rfl ⟨rfl, rfl, rfl, rfl, rfl, rfl, rfl⟩ ⟨fun _ _ _ _ => pg_name (i := 0) (by decide +kernel : (["piles"] : List Str).Nodup) rfl (Or.inl rfl) (.inr rfl), fun _ _ _ _ => pts_nil, fun _ _ _ _ => (pe_ix (ix_listK (K := K) rfl) (pe_callD D_ring_of (hr.mono (by first | decide | omega)) rfl (pa_cons (pv 0) pa_nil)) pe_int (fun _ _ => rfl))⟩ (pi_list (pe_callD D_settings_of (hr.mono (by first | decide | omega)) rfl (pa_cons (pv 0) pa_nil)))))
      (pss_one (ps_ret (pe_compX (x0 := "ring") (own := ["ring"]) (fr := ["reached"]) (ixs := [1]) rfl ⟨rfl, fun _ _ => rfl, fun _ => rfl, rfl, rfl, rfl, rfl, rfl, rfl, rfl⟩ ⟨fun _ _ _ _ => pg_name (i := 0) (by decide +kernel : (["ring", "reached"] : List Str).Nodup) rfl (Or.inr rfl) (.inl rfl), fun _ _ _ _ => pts_nil, fun _ _ _ _ => (pe_callB (call_lenK (K := K) rfl) rfl T.n_len PySem.boot_len (pa_cons (pe_comp (own := ["piles"]) (fr := ["ring"]) (ixs := [0]) rfl ⟨rfl, rfl, rfl, rfl, rfl, rfl, rfl⟩ ⟨fun _ _ _ _ => pg_name (i := 0) (by decide +kernel : (["piles", "ring"] : List Str).Nodup) rfl (Or.inl rfl) (.inr rfl), fun _ _ _ _ => pts_one (pt_cmpR (op_inLLK (K := K) rfl hu65) (pv 0) (pv 1) (by with_unfolding_all rfl)), fun _ _ _ _ => (pv 0)⟩ (pi_listK (K := K) rfl (pv 1))) pa_nil))⟩ (pi_list (pe_callD D_rings_of (hr.mono (by first | decide | omega)) rfl (pa_cons (pv 0) pa_nil))))))), ?_⟩
    refine cut (fun σ H' => ∃ rd us, σ = [some (.int n), some (.ref rd)] ∧ Same H H' ∧ H' rd = some (.lst (us.map V.ref)) ∧ Lists H' us ((dn 19 n n).map (fsN n))) (fun R hR => ?_) ?_
    · one_place
      refine ⟨n, rfl, h0, h1, fun q H3 vs hq s3 e3 L3 k3 => ⟨q, rfl, ⟨_, SqL.of e3⟩, fun D1 hD1 => ?_⟩⟩
      have vl : vs.length ≤ 385 := by rw [L3.len]; exact l1
      refine comp_LL (K := K) vs _ (fun _ => true) (fsN n) _ (small1000 (by omega)) (SqL.of e3) L3 hD1 (fun r q hq H' Q' sm hr1 q => q _ (Same.refl _)) (fun r q hq _ H' Q' sm hr1 k1 => ?_) (fun H4 ws s4 e4 L4 k4 => ?_)
      · have st := (mem_dn h1).mp hq
        obtain ⟨v, d, hv, hd, cm, ef⟩ := fs_come h0 h1 st
        have dp := cm.ring.pos
        one_place
        refine ⟨r, q, n, stN n, v, v + d, d, rfl, hr1, st, by omega, by omega, hk, cm.no, cm.yes v (Nat.le_refl _), Trail.come cm, by omega, by omega, cm.ring, by omega, fun p H5 rs hp s5 e5 L5 f5 => ?_⟩
        have rl : rs.length = d := by rw [L5.len, its_len]
        obtain ⟨r0, rr, rfl⟩ : ∃ r0 rr, rs = r0 :: rr := by
          cases rs with
          | nil => simp at rl; omega
          | cons x r => exact ⟨x, r, rfl⟩
        refine ⟨p, rfl, _, SqL.of e5, .ref r0, at0_cons _ _, k1 H5 r0 (f5 r0 (by simp)) s5 ?_⟩
        have e0 := L5.at_ 0 r0 (it v q) rfl (by
          have : (its d (it v q))[0]? = some (it 0 (it v q)) := by unfold its; rw [List.getElem?_map, List.getElem?_range (by omega)]; rfl
          exact this)
        rw [ef]; exact e0
      · rw [List.filter_eq_self.mpr (fun _ _ => rfl)] at L4
        exact hR _ _ ⟨D1, ws, rfl, s3.trans s4, e4, L4⟩
    rintro σ1 H1 ⟨rd, us, rfl, s1, e1, L1⟩
    have ul : us.length ≤ 385 := by rw [L1.len, List.length_map]; exact l1
    one_place
    refine ⟨n, stN n, reN n, rfl, by omega, by omega, hk, hre, fun g H2 qs hg s2 e2 M2 _ => ⟨g, rfl, ⟨_, SqL.of e2⟩, fun D1 hD1 => ?_⟩⟩
    have M2 : L3 H2 qs (rsN n) := M2
    have ql := M2.len
    refine comp_growL (K := K) (qs.map V.ref) (fun _ => true) (fun x => .int (cntR n (con3 H2 x))) _ (small1000 (by rw [List.length_map]; omega)) (SqL.of e2) hD1 (fun x _ H' Q' _ q => q _ (Same.refl _)) (fun x hx _ H' Q' sm q => ?_) (fun H3 s3 e3 => ?_)
    · obtain ⟨qa, hqa, rfl⟩ := List.mem_map.mp hx
      obtain ⟨i, hi, rfl⟩ := List.mem_iff_getElem.mp hqa
      obtain ⟨ws, ew, Lw⟩ := M2.at_ i qs[i] ((rsN n)[i]'(by omega)) (by simp [hi]) (List.getElem?_eq_getElem (by omega))
      rw [con3_of ew Lw] at q
      have s12 := s2.trans sm
      have e12 := s12 _ _ e1
      have L12 := L1.mono s12
      have ew' := sm _ _ ew
      have Lw' := Lw.mono sm
      one_place
      refine ⟨⟨_, SqL.of e12⟩, fun D2 hD2 => ?_⟩
      refine comp_list (K := K) (us.map V.ref) (fun x => decide (cont H' x ∈ (rsN n)[i]'(by omega))) id _ (small1000 (by rw [List.length_map]; omega)) (SqL.of e12) hD2 (fun x hx H'' Q'' sm2 q2 => ?_) (fun x hx _ H'' Q'' _ q2 => ?_) ?_
      · obtain ⟨ua, hua, rfl⟩ := List.mem_map.mp hx
        obtain ⟨t, ht, et⟩ := L12.mem hua
        rw [cont_of et] at q2
        one_place
        exact ⟨_, SqL.of (sm2 _ _ et), ws, SqL.of (sm2 _ _ ew'), _, Lw'.mono sm2, q2⟩
      · one_place; exact q2
      · rw [List.map_id]
        refine ⟨D2, rfl, _, .inl (SqL.of upd_same), ?_⟩
        rw [fil_len L12, List.filter_map, List.length_map]
        exact q _ (Same.put hD2)
    · refine k D1 H3 ((s1.trans s2).free hD1) ((s1.trans s2).trans s3) ?_
      rw [e3, List.filter_eq_self.mpr (fun _ _ => rfl)]
      congr 1
      congr 1
      refine List.ext_getElem (by simp [ql]) fun i a b => ?_
      have hi : i < qs.length := by simpa using a
      obtain ⟨ws, ew, Lw⟩ := M2.at_ i qs[i] ((rsN n)[i]'(by omega)) (by simp [hi]) (List.getElem?_eq_getElem (by omega))
      simp only [List.getElem_map, List.getElem_range]
      rw [con3_of ew Lw]
      exact congrArg (fun z : Nat => V.int z) (cn_eq h0 h1 (by omega))
end
def spCoinsX (C : Addr) : Sp := fun vs H Q E => ∃ n m : Int, vs = [.int n, .int m] ∧ (n < 1 ∨ m < n) ∧ E (.ref C) none H
def spCoinX (C : Addr) (m : Int) : Sp := fun vs H Q E => ∃ n : Int, vs = [.int n] ∧ (n < 1 ∨ m < n) ∧ E (.ref C) none H
def spTurnsX (C : Addr) : Sp := fun vs H Q E => ∃ t : Int, vs = [.int t] ∧ (t < 0 ∨ 10 ^ 29 < t) ∧ E (.ref C) none H
def spAfterX (K : PySem.W.Frag) (C : Addr) : Sp := fun vs H Q E => ∃ (a : Addr) (ps : List Int) (n t : Int), vs = [.ref a, .int t] ∧ IL K H a ps ∧ Setting n ps ∧ 1 ≤ n ∧ n ≤ 100 ∧ (t < 0 ∨ 10 ^ 29 < t) ∧ ∀ H', Same H H' → E (.ref C) none H'
section
variable {P : Program} {w : World} {K : PySem.W.Frag} {mg : Str → Option Value} {base : Heap} {uM : UM}
theorem x_check_coins (D : Dfn K mg "check_coins" s_check_coins ["coins", "most"]) (T : Txt K mg uM) : OkX P w K mg base 1 "check_coins" ["coins", "most"] (spCoinsX (uM.2 4)) := by
  have SC := sc_check_coins
  refine D.okX SC (fun vs H Q E h => ?_) (fun f cdv A outer s H vs Q E hr h => ?_)
  · obtain ⟨n, m, rfl, _⟩ := h; rfl
  · obtain ⟨n, m, rfl, h0, k⟩ := h
    refine ⟨_, (pss_one (ps_if (PW.pt (pw_or (pt_cmpR op_lt (pv 0) pe_int (nomark _)) (pw_or1 (pt_cmpR op_gt (pv 0) (pv 1) (nomark _))))) (pss_one (ps_raise leaves_cx rfl rfl T.c_NoNumber T.o_NoNumber (pa_cons pe_str pa_nil))) pss_nil)), ?_⟩
    one_place
    by_cases c : n < 1
    · rw [if_pos (decide_eq_true c), if_pos trivial]
      exact ⟨by decide, k⟩
    · rw [if_neg (by simpa using c)]
      rw [if_pos (by simp; omega)]
      exact ⟨by decide, k⟩
theorem x_settings_of (D : Dfn K mg "settings_of" s_settings_of ["coins"]) (T : Txt K mg uM) (D_check_coins : OkX P w K mg base 1 "check_coins" ["coins", "most"] (spCoinsX (uM.2 4))) : OkX P w K mg base 2 "settings_of" ["coins"] (spCoinX (uM.2 4) 18) := by
  have SC := sc_settings_of
  refine D.okX SC (fun vs H Q E h => ?_) (fun f cdv A outer s H vs Q E hr h => ?_)
  · obtain ⟨n, rfl, _⟩ := h; rfl
  · obtain ⟨n, rfl, h0, k⟩ := h
    refine ⟨_, (pss_cons (ps_expr (pe_callX D_check_coins (hr.mono (by decide)) rfl (passes_cx (fun _ _ _ z => z)) (pa_cons (pv 0) (pa_cons (pe_glob rfl T.c_MOST_FOR_SETTINGS T.r_MOST_FOR_SETTINGS) pa_nil)))) pss_never), ?_⟩
    row_cond tNever
    exact ⟨n, 18, rfl, h0, k⟩
theorem x_rings_of (D : Dfn K mg "rings_of" s_rings_of ["coins"]) (T : Txt K mg uM) (D_check_coins : OkX P w K mg base 1 "check_coins" ["coins", "most"] (spCoinsX (uM.2 4))) : OkX P w K mg base 2 "rings_of" ["coins"] (spCoinX (uM.2 4) 36) := by
  have SC := sc_rings_of
  refine D.okX SC (fun vs H Q E h => ?_) (fun f cdv A outer s H vs Q E hr h => ?_)
  · obtain ⟨n, rfl, _⟩ := h; rfl
  · obtain ⟨n, rfl, h0, k⟩ := h
    refine ⟨_, (pss_cons (ps_expr (pe_callX D_check_coins (hr.mono (by decide)) rfl (passes_cx (fun _ _ _ z => z)) (pa_cons (pv 0) (pa_cons (pe_glob rfl T.c_MOST_FOR_RINGS T.r_MOST_FOR_RINGS) pa_nil)))) pss_never), ?_⟩
    row_cond tNever
    exact ⟨n, 36, rfl, h0, k⟩
theorem x_rings_many (D : Dfn K mg "rings_many" s_rings_many ["coins"]) (T : Txt K mg uM) (D_check_coins : OkX P w K mg base 1 "check_coins" ["coins", "most"] (spCoinsX (uM.2 4))) : OkX P w K mg base 2 "rings_many" ["coins"] (spCoinX (uM.2 4) 2000) := by
  have SC := sc_rings_many
  refine D.okX SC (fun vs H Q E h => ?_) (fun f cdv A outer s H vs Q E hr h => ?_)
  · obtain ⟨n, rfl, _⟩ := h; rfl
  · obtain ⟨n, rfl, h0, k⟩ := h
    refine ⟨_, (pss_cons (ps_expr (pe_callX D_check_coins (hr.mono (by decide)) rfl (passes_cx (fun _ _ _ z => z)) (pa_cons (pv 0) (pa_cons (pe_glob rfl T.c_MOST_FOR_MANY T.r_MOST_FOR_MANY) pa_nil)))) pss_never), ?_⟩
    row_cond tNever
    exact ⟨n, 2000, rfl, h0, k⟩
theorem x_drawn_in (D : Dfn K mg "drawn_in" s_drawn_in ["coins"]) (T : Txt K mg uM) (D_settings_of : OkX P w K mg base 2 "settings_of" ["coins"] (spCoinX (uM.2 4) 18)) (D_ring_of : OkD P w K mg base 6 "ring_of" ["piles"] (spRingOf K)) : OkX P w K mg base 7 "drawn_in" ["coins"] (spCoinX (uM.2 4) 18) := by
  have SC := sc_drawn_in
  refine D.okX SC (fun vs H Q E h => ?_) (fun f cdv A outer s H vs Q E hr h => ?_)
  · obtain ⟨n, rfl, _⟩ := h; rfl
  · obtain ⟨n, rfl, h0, k⟩ := h
    refine ⟨_, (pss_cons (ps_set (i := 1) SC.nd rfl (Or.inr rfl) (pe_comp (own := ["piles"]) (fr := []) (ixs := []) rfl ⟨rfl, rfl, rfl, rfl, rfl, rfl, rfl⟩ ⟨fun _ _ _ _ => pg_name (i := 0) (by decide +kernel : (["piles"] : List Str).Nodup) rfl (Or.inl rfl) (.inr rfl), fun _ _ _ _ => pts_nil, fun _ _ _ _ => (pe_ix (ix_listK (K := K) rfl) (pe_callD D_ring_of (hr.mono (by first | decide | omega)) rfl (pa_cons (pv 0) pa_nil)) pe_int (fun _ _ => rfl))⟩ (pi_list (pe_callX D_settings_of (hr.mono (by first | decide | omega)) rfl (passes_cx (fun _ _ _ z => z)) (pa_cons (pv 0) pa_nil))))) pss_never), ?_⟩
    row_cond tNever
    exact ⟨n, rfl, h0, k⟩
theorem x_check_turns (D : Dfn K mg "check_turns" s_check_turns ["turns"]) (T : Txt K mg uM) : OkX P w K mg base 1 "check_turns" ["turns"] (spTurnsX (uM.2 4)) := by
  have SC := sc_check_turns
  refine D.okX SC (fun vs H Q E h => ?_) (fun f cdv A outer s H vs Q E hr h => ?_)
  · obtain ⟨t, rfl, _⟩ := h; rfl
  · obtain ⟨t, rfl, h0, k⟩ := h
    refine ⟨_, (pss_one (ps_if (PW.pt (pw_or (pt_cmpR op_lt (pv 0) pe_int (nomark _)) (pw_or1 (pt_cmpR op_gt (pv 0) (pe_op op_pow pe_int pe_int) (nomark _))))) (pss_one (ps_raise leaves_cx rfl rfl T.c_NoNumber T.o_NoNumber (pa_cons pe_str pa_nil))) pss_nil)), ?_⟩
    one_place
    by_cases c : t < 0
    · rw [if_pos (decide_eq_true c), if_pos trivial]
      exact ⟨by decide, k⟩
    · rw [if_neg (by simpa using c)]
      refine ⟨⟨by decide, by decide, by decide⟩, ?_⟩
      rw [if_pos (by simp only [decide_eq_true_eq]; have : (10 : Int) ^ Int.toNat 29 = 10 ^ 29 := rfl; omega)]
      exact ⟨by decide, k⟩
theorem x_after (D : Dfn K mg "after" s_after ["piles", "turns"]) (T : Txt K mg uM) (D_check_setting : OkD P w K mg base 2 "check_setting" ["piles"] (spCheck K)) (D_check_turns : OkX P w K mg base 1 "check_turns" ["turns"] (spTurnsX (uM.2 4))) : OkX P w K mg base 3 "after" ["piles", "turns"] (spAfterX K (uM.2 4)) := by
  have SC := sc_after
  refine D.okX SC (fun vs H Q E h => ?_) (fun f cdv A outer s H vs Q E hr h => ?_)
  · obtain ⟨a, ps, n, t, rfl, _⟩ := h; rfl
  · obtain ⟨a, ps, n, t, rfl, hS, st, n0, n1, h0, k⟩ := h
    have pl := st.len
    refine ⟨_, (pss_cons (ps_expr (pe_callD D_check_setting (hr.mono (by first | decide | omega)) rfl (pa_cons (pv 0) pa_nil))) (pss_cons (ps_expr (pe_callX D_check_turns (hr.mono (by first | decide | omega)) rfl (passes_cx (fun _ _ _ z => z)) (pa_cons (pv 1) pa_nil))) pss_never)), ?_⟩
    row_cond tNever
    exact ⟨a, ps, rfl, hS, by omega, st.good n0 n1, fun H1 s1 => ⟨t, rfl, h0, k H1 s1⟩⟩
end
def mostOf (way : Int) : Int := if way = 1 then 36 else if way = 2 then 2000 else 18
def spAsked (K : PySem.W.Frag) (C : Addr) : Sp := fun vs H Q E => ∃ (way n : Int), vs = [.int way, .int n] ∧ 0 ≤ way ∧ way ≤ 3 ∧ ((n < 1 ∨ mostOf way < n) ∧ E (.ref C) none H ∨ 1 ≤ n ∧ n ≤ mostOf way ∧ ∀ v H', Same H H' → Q v H')
def spMet (K : PySem.W.Frag) : Sp := fun vs H Q _ => ∃ (way n : Int), vs = [.int way, .int n] ∧ 0 ≤ way ∧ way ≤ 3 ∧ ∀ H', Same H H' → Q (.int (if n < 1 ∨ mostOf way < n then 3 else -1)) H'
def spTMet (K : PySem.W.Frag) : Sp := fun vs H Q _ => ∃ (a : Addr) (ps : List Int) (n t : Int), vs = [.ref a, .int t] ∧ IL K H a ps ∧ Setting n ps ∧ 1 ≤ n ∧ n ≤ 100 ∧ ∀ H', Same H H' → Q (.int (if t < 0 ∨ 10 ^ 29 < t then 3 else -1)) H'
section
variable {P : Program} {w : World} {K : PySem.W.Frag} {mg : Str → Option Value} {base : Heap} {uM : UM}
theorem x__law_asked (D : Dfn K mg "_law_asked" s__law_asked ["way", "coins"]) (T : Txt K mg uM)
    (B_settings_of : OkX P w K mg base 2 "settings_of" ["coins"] (spCoinX (uM.2 4) 18)) (B_rings_of : OkX P w K mg base 2 "rings_of" ["coins"] (spCoinX (uM.2 4) 36)) (B_rings_many : OkX P w K mg base 2 "rings_many" ["coins"] (spCoinX (uM.2 4) 2000)) (B_drawn_in : OkX P w K mg base 7 "drawn_in" ["coins"] (spCoinX (uM.2 4) 18))
    (D_settings_of : OkD P w K mg base 21 "settings_of" ["coins"] (spSettingsOf K)) (D_rings_of : OkD P w K mg base 11 "rings_of" ["coins"] (spRingsOf K)) (D_rings_many : OkD P w K mg base 3 "rings_many" ["coins"] (spMany K)) (D_drawn_in : OkD P w K mg base 22 "drawn_in" ["coins"] (spDrawn K)) : OkX P w K mg base 23 "_law_asked" ["way", "coins"] (spAsked K (uM.2 4)) := by
  have SC := sc__law_asked
  refine D.okX SC (fun vs H Q E h => ?_) (fun f cdv A outer s H vs Q E hr h => ?_)
  · obtain ⟨way, n, rfl, _⟩ := h; rfl
  · obtain ⟨way, n, rfl, w0, w1, h | h⟩ := h
    · obtain ⟨h0, k⟩ := h
      replace D_settings_of := B_settings_of
      replace D_rings_of := B_rings_of
      replace D_rings_many := B_rings_many
      replace D_drawn_in := B_drawn_in
      refine ⟨_, (pss_cons (ps_if (pt_cmpR op_eq (pv 0) pe_int (nomark _)) (pss_one (ps_ret (pe_callX D_settings_of (hr.mono (by first | decide | omega)) rfl (passes_cx (fun _ _ _ z => z)) (pa_cons (pv 1) pa_nil)))) pss_nil)
      (pss_cons (ps_if (pt_cmpR op_eq (pv 0) pe_int (nomark _)) (pss_one (ps_ret (pe_callX D_rings_of (hr.mono (by first | decide | omega)) rfl (passes_cx (fun _ _ _ z => z)) (pa_cons (pv 1) pa_nil)))) pss_nil)
      (pss_cons (ps_if (pt_cmpR op_eq (pv 0) pe_int (nomark _)) (pss_one (ps_ret (pe_lst (pa_cons (pe_callX D_rings_many (hr.mono (by first | decide | omega)) rfl (passes_cx (fun _ _ _ z => z)) (pa_cons (pv 1) pa_nil)) pa_nil)))) pss_nil)
      (pss_one (ps_ret (pe_callX D_drawn_in (hr.mono (by first | decide | omega)) rfl (passes_cx (fun _ _ _ z => z)) (pa_cons (pv 1) pa_nil))))))), ?_⟩
      one_place
      refine ite2 (fun c => ?_) fun c0 => ?_
      · have c : way = 0 := by simpa using c
        subst c
        exact ⟨n, rfl, h0, k⟩
      refine ite2 (fun c => ?_) fun c1 => ?_
      · have c : way = 1 := by simpa using c
        subst c
        exact ⟨n, rfl, h0, k⟩
      refine ite2 (fun c => ?_) fun c2 => ?_
      · have c : way = 2 := by simpa using c
        subst c
        exact ⟨n, rfl, h0, k⟩
      have c0 : way ≠ 0 := by simpa using c0
      have c1 : way ≠ 1 := by simpa using c1
      have c2 : way ≠ 2 := by simpa using c2
      have c : way = 3 := by omega
      subst c
      exact ⟨n, rfl, h0, k⟩
    · obtain ⟨n0, n1, k⟩ := h
      obtain ⟨kk, hk⟩ := IsStair.of n0
      obtain ⟨kn, rfl⟩ : ∃ j : Nat, kk = j := ⟨kk.toNat, by have := hk.1; omega⟩
      obtain ⟨r', e1, e2, e3⟩ := hk.rest
      refine ⟨_, (pss_cons (ps_if (pt_cmpR op_eq (pv 0) pe_int (nomark _)) (pss_one (ps_ret (pe_callD D_settings_of (hr.mono (by first | decide | omega)) rfl (pa_cons (pv 1) pa_nil)))) pss_nil)
      (pss_cons (ps_if (pt_cmpR op_eq (pv 0) pe_int (nomark _)) (pss_one (ps_ret (pe_callD D_rings_of (hr.mono (by first | decide | omega)) rfl (pa_cons (pv 1) pa_nil)))) pss_nil)
      (pss_cons (ps_if (pt_cmpR op_eq (pv 0) pe_int (nomark _)) (pss_one (ps_ret (pe_lst (pa_cons (pe_callD D_rings_many (hr.mono (by first | decide | omega)) rfl (pa_cons (pv 1) pa_nil)) pa_nil)))) pss_nil)
      (pss_one (ps_ret (pe_callD D_drawn_in (hr.mono (by first | decide | omega)) rfl (pa_cons (pv 1) pa_nil))))))), ?_⟩
      one_place
      refine ite2 (fun c => ?_) fun c0 => ?_
      · have c : way = 0 := by simpa using c
        subst c
        have n1 : n ≤ 18 := n1
        exact ⟨n.toNat, by rw [Int.toNat_of_nonneg (by omega)], by omega, by omega, fun p H' us _ s _ _ _ => k _ _ s⟩
      refine ite2 (fun c => ?_) fun c1 => ?_
      · have c : way = 1 := by simpa using c
        subst c
        have n1 : n ≤ 36 := n1
        exact ⟨n, kn, r', rfl, n0, n1, hk, by omega, fun p H' qs _ s _ _ _ => k _ _ s⟩
      refine ite2 (fun c => ?_) fun c2 => ?_
      · have c : way = 2 := by simpa using c
        subst c
        have n1 : n ≤ 2000 := n1
        exact ⟨n, kn, r', rfl, n0, n1, hk, by omega, fun H' s => ⟨by decide, fun p hp => k _ _ (s.put' hp)⟩⟩
      have c0 : way ≠ 0 := by simpa using c0
      have c1 : way ≠ 1 := by simpa using c1
      have c2 : way ≠ 2 := by simpa using c2
      have c : way = 3 := by omega
      subst c
      have n1 : n ≤ 18 := n1
      exact ⟨n.toNat, by rw [Int.toNat_of_nonneg (by omega)], by omega, by omega, fun p H' _ s _ => k _ _ s⟩
theorem d__law_met (D : Dfn K mg "_law_met" s__law_met ["way", "coins"]) (T : Txt K mg uM) (D__law_asked : OkX P w K mg base 23 "_law_asked" ["way", "coins"] (spAsked K (uM.2 4))) (D__law_which : OkM P w K mg base 1 "_law_which" ["e"] (spWhich K (uM.2 4) (3 : Nat))) : OkD P w K mg base 24 "_law_met" ["way", "coins"] (spMet K) := by
  have SC := sc__law_met
  refine D.ok SC (fun vs H Q E h => ?_) (fun f cdv A outer s H vs Q E hr h => ?_)
  · obtain ⟨way, n, rfl, _⟩ := h; rfl
  · obtain ⟨way, n, rfl, w0, w1, k⟩ := h
    refine ⟨_, (pss_cons (ps_set (i := 2) SC.nd rfl (Or.inl rfl) (pe_un un_neg pe_int))
      (pss_cons (ps_tryS (ie := 3) rfl rfl rfl SC.nd rfl rfl rfl T.c_PileError (fun _ _ _ hp => (pss_one (ps_expr (pe_callX D__law_asked (hr.mono (by first | decide | omega)) rfl hp (pa_cons (pv 0) (pa_cons (pv 1) pa_nil)))))) (fun _ => (pss_one (ps_set (i := 2) SC.nd rfl (Or.inl rfl) (pe_callM D__law_which ((hr.mono (by first | decide | omega)).mark _) rfl (pa_cons (pv 3) pa_nil))))))
      (pss_one (ps_ret (pv 2))))), ?_⟩
    refine cut (fun σ H' => σ = [some (.int way), some (.int n), some (.int (-1)), none] ∧ H' = H) (fun R hR => ⟨1, rfl, hR _ _ ⟨rfl, rfl⟩⟩) ?_
    rintro σ1 H1 ⟨rfl, rfl⟩
    refine cut (fun σ H' => ∃ o0 o1 o3, σ = [o0, o1, some (.int (if n < 1 ∨ mostOf way < n then 3 else -1)), o3] ∧ Same H1 H') (fun R hR => ?_) ?_
    · simp only [tTryS]
      by_cases c : n < 1 ∨ mostOf way < n
      · rw [if_pos c] at hR
        one_place
        refine ⟨way, n, rfl, w0, w1, .inl ⟨c, ?_⟩⟩
        refine ⟨_, rfl, T.m_NoNumber, fun e σ' hl he => ?_⟩
        match σ', hl with
        | [o0, o1, o2, o3], _ =>
          one_place
          exact ⟨e, rfl, upd_same, fun H2 s2 => hR _ _ ⟨_, _, _, rfl, (Same.put he).trans s2⟩⟩
      · rw [if_neg c] at hR
        one_place
        exact ⟨way, n, rfl, w0, w1, .inr ⟨by omega, by omega, fun v H' s => hR _ _ ⟨_, _, _, rfl, s⟩⟩⟩
    rintro σ2 H2 ⟨o0, o1, o3, rfl, s2⟩
    one_place
    exact k H2 s2
theorem d__law_turns_met (D : Dfn K mg "_law_turns_met" s__law_turns_met ["piles", "turns"]) (T : Txt K mg uM) (B_after : OkX P w K mg base 3 "after" ["piles", "turns"] (spAfterX K (uM.2 4))) (D_after : OkD P w K mg base 5 "after" ["piles", "turns"] (spAfter K)) (D__law_which : OkM P w K mg base 1 "_law_which" ["e"] (spWhich K (uM.2 4) (3 : Nat))) : OkD P w K mg base 6 "_law_turns_met" ["piles", "turns"] (spTMet K) := by
  have SC := sc__law_turns_met
  refine D.ok SC (fun vs H Q E h => ?_) (fun f cdv A outer s H vs Q E hr h => ?_)
  · obtain ⟨a, ps, n, t, rfl, _⟩ := h; rfl
  · obtain ⟨a, ps, n, t, rfl, hS, st, n0, n1, k⟩ := h
    by_cases c : t < 0 ∨ 10 ^ 29 < t
    · rw [if_pos c] at k
      replace D_after := B_after
      refine ⟨_, (pss_cons (ps_set (i := 2) SC.nd rfl (Or.inl rfl) (pe_un un_neg pe_int))
      (pss_cons (ps_tryS (ie := 3) rfl rfl rfl SC.nd rfl rfl rfl T.c_PileError (fun _ _ _ hp => (pss_one (ps_expr (pe_callX D_after (hr.mono (by first | decide | omega)) rfl hp (pa_cons (pv 0) (pa_cons (pv 1) pa_nil)))))) (fun _ => (pss_one (ps_set (i := 2) SC.nd rfl (Or.inl rfl) (pe_callM D__law_which ((hr.mono (by first | decide | omega)).mark _) rfl (pa_cons (pv 3) pa_nil))))))
      (pss_one (ps_ret (pv 2))))), ?_⟩
      refine cut (fun σ H' => σ = [some (.ref a), some (.int t), some (.int (-1)), none] ∧ H' = H) (fun R hR => ⟨1, rfl, hR _ _ ⟨rfl, rfl⟩⟩) ?_
      rintro σ1 H1 ⟨rfl, rfl⟩
      refine cut (fun σ H' => ∃ o0 o1 o3, σ = [o0, o1, some (.int 3), o3] ∧ Same H1 H') (fun R hR => ?_) ?_
      · simp only [tTryS]
        one_place
        refine ⟨a, ps, n, t, rfl, hS, st, n0, n1, c, fun H' sm => ?_⟩
        refine ⟨_, rfl, T.m_NoNumber, fun e σ' hl he => ?_⟩
        match σ', hl with
        | [o0, o1, o2, o3], _ =>
          one_place
          exact ⟨e, rfl, upd_same, fun H2 s2 => hR _ _ ⟨_, _, _, rfl, (sm.put' he).trans s2⟩⟩
      rintro σ2 H2 ⟨o0, o1, o3, rfl, s2⟩
      one_place
      exact k H2 s2
    · rw [if_neg c] at k
      refine ⟨_, (pss_cons (ps_set (i := 2) SC.nd rfl (Or.inl rfl) (pe_un un_neg pe_int))
      (pss_cons (ps_tryS (ie := 3) rfl rfl rfl SC.nd rfl rfl rfl T.c_PileError (fun _ _ _ hp => (pss_one (ps_expr (pe_callD D_after (hr.mono (by first | decide | omega)) rfl (pa_cons (pv 0) (pa_cons (pv 1) pa_nil)))))) (fun _ => (pss_one (ps_set (i := 2) SC.nd rfl (Or.inl rfl) (pe_callM D__law_which ((hr.mono (by first | decide | omega)).mark _) rfl (pa_cons (pv 3) pa_nil))))))
      (pss_one (ps_ret (pv 2))))), ?_⟩
      refine cut (fun σ H' => σ = [some (.ref a), some (.int t), some (.int (-1)), none] ∧ H' = H) (fun R hR => ⟨1, rfl, hR _ _ ⟨rfl, rfl⟩⟩) ?_
      rintro σ1 H1 ⟨rfl, rfl⟩
      refine cut (fun σ H' => ∃ o0 o1 o3, σ = [o0, o1, some (.int (-1)), o3] ∧ Same H1 H') (fun R hR => ?_) ?_
      · simp only [tTryS]
        one_place
        exact ⟨a, ps, n, t.toNat, by rw [Int.toNat_of_nonneg (by omega)], hS, st, n0, n1, by omega, fun p H' _ s _ => hR _ _ ⟨_, _, _, rfl, s⟩⟩
      rintro σ2 H2 ⟨o0, o1, o3, rfl, s2⟩
      one_place
      exact k H2 s2
end
def spLaw (K : PySem.W.Frag) : Sp := fun vs H Q _ => ∃ (a : Addr) (ns : List Int), vs = [.ref a] ∧ SqL K H a (ns.map V.int) ∧ ns.length ≤ 63 ∧ ∀ H', Q (.bl true) H'
theorem most_at : ∀ {i : Nat}, i < 4 → atI [V.int 18, V.int 36, V.int 2000, V.int 18] ((0 : Int) + (i : Int)) = some (.int (mostOf (0 + (i : Int))))
  | 0, _ => rfl
  | 1, _ => rfl
  | 2, _ => rfl
  | 3, _ => rfl
theorem most_at' {v : Int} (h0 : 0 ≤ v) (h1 : v < 4) : atI [V.int 18, V.int 36, V.int 2000, V.int 18] v = some (.int (mostOf v)) := by
  have := most_at (i := v.toNat) (by omega)
  rwa [Int.zero_add, Int.toNat_of_nonneg h0] at this
theorem most_pos (v : Int) : 1 ≤ mostOf v := by unfold mostOf; split <;> (try split) <;> decide
def wWays (a : Addr) (far : Int) (H : Hp) (i : Nat) (σ : St) (H' : Hp) : Prop := ∃ o2 o3 o4, σ = [some (.ref a), some (.int far), o2, o3, o4, none, none] ∧ Same H H'
def wCoins (a l : Addr) (far way : Int) (H : Hp) (i : Nat) (σ : St) (H' : Hp) : Prop := ∃ o4, σ = [some (.ref a), some (.int far), some (.int way), some (.int (mostOf way)), o4, none, none] ∧ Same H H' ∧ H' l = some (.lst [.int 0, .int (-far), .int (mostOf way + 1), .int (mostOf way + far)])
def wTurns (a p l : Addr) (far : Int) (o2 o3 o4 : Option V) (H : Hp) (i : Nat) (σ : St) (H' : Hp) : Prop := ∃ o6, σ = [some (.ref a), some (.int far), o2, o3, o4, some (.ref p), o6] ∧ Same H H' ∧ H' l = some (.lst [.int (-1), .int (-far), .int (10 ^ Int.toNat 29 + 1), .int (10 ^ Int.toNat 29 + far)])
def FL2 (K : PySem.W.Frag) (x : V) (g : TG) (tb : TS) (D : Ends) (σ : St) (H1 : Hp) : Prop := ∃ a, x = .ref a ∧ (∃ xs, SqL K H1 a xs) ∧ tFor (fun _ H' R => R (Itl K a) H') g tb D σ H1
theorem tFor_it {K : PySem.W.Frag} {te : TE} {g : TG} {tb : TS} {D : Ends} {σ : St} {H : Hp} (h : te σ H fun x H1 => FL2 K x g tb D σ H1) : tFor (iList K te) g tb D σ H := h
theorem FL2.of {K : PySem.W.Frag} {a : Addr} {xs : List V} {g : TG} {tb : TS} {D : Ends} {σ : St} {H : Hp} (Pv : Nat → St → Hp → Prop) (h0 : Pv 0 σ H) (hl : ∀ i σ H, i ≤ xs.length → Pv i σ H → SqL K H a xs)
    (hs : ∀ i x σ H, xs[i]? = some x → Pv i σ H → g x σ H fun σ2 H2 => tb { D with nx := Pv (i + 1), ct := Pv (i + 1), bk := D.nx } σ2 H2) (hd : ∀ σ H, Pv xs.length σ H → D.nx σ H) : FL2 K (.ref a) g tb D σ H :=
  ⟨a, rfl, ⟨xs, hl 0 _ _ (Nat.zero_le _) h0⟩, for_list Pv h0 hl hs hd⟩
section
variable {P : Program} {w : World} {K : PySem.W.Frag} {mg : Str → Option Value} {base : Heap} {uM : UM}
theorem d_law {f : Addr} {fd : FuncData} (D : Fun K "law" "law" s_law f fd) (T : Txt K mg uM) (D__law_setting : OkD P w K mg base 3 "_law_setting" ["script", "k", "coins"] (spSetting K)) (D__law_cell : OkD P w K mg base 1 "_law_cell" ["script", "k"] (spCell K))
    (D__law_met : OkD P w K mg base 24 "_law_met" ["way", "coins"] (spMet K)) (D__law_turns_met : OkD P w K mg base 6 "_law_turns_met" ["piles", "turns"] (spTMet K)) : FnOk P w K mg base CX0 25 f fd ["script"] (spLaw K) := by
  have SC := sc_law
  refine D.ok SC (fun vs H Q E h => ?_) (fun cdv A outer s H vs Q E hr h => ?_)
  · obtain ⟨a, ns, rfl, _⟩ := h; rfl
  · obtain ⟨a, ns, rfl, hS, hl, k⟩ := h
    have hu := hr.units
    refine ⟨_, (pss_cons (ps_set (i := 1) SC.nd rfl (Or.inl rfl) (pe_op op_add pe_int (pe_op op_mod (pe_callD D__law_cell (hr.mono (by first | decide | omega)) rfl (pa_cons (pv 0) (pa_cons pe_int pa_nil))) (pe_op op_pow pe_int pe_int))))
      (pss_cons (ps_for PassesOwn.never rfl (pi_range1 rfl T.n_range (pa_cons pe_int pa_nil)) (pg_name (i := 2) SC.nd rfl (Or.inl rfl))
        (pss_cons (ps_set (i := 3) SC.nd rfl (Or.inl rfl) (pe_ix ix_list (pe_lst (pa_cons pe_int (pa_cons pe_int (pa_cons pe_int (pa_cons pe_int pa_nil))))) (pv 2) (fun _ _ => rfl)))
        (pss_one (ps_for PassesOwn.never rfl (pi_list (pe_lst (pa_cons pe_int (pa_cons (pe_un un_neg (pv 1)) (pa_cons (pe_op op_add (pv 3) pe_int) (pa_cons (pe_op op_add (pv 3) (pv 1)) pa_nil)))))) (pg_name (i := 4) SC.nd rfl (Or.inl rfl))
          (pss_one (ps_if (pt_cmpR op_ne (pe_callD D__law_met (hr.mono (by first | decide | omega)) rfl (pa_cons (pv 2) (pa_cons (pv 4) pa_nil))) pe_int (nomark _)) (pss_one (ps_ret pe_bl)) pss_nil))))))
      (pss_cons (ps_set (i := 2) SC.nd rfl (Or.inl rfl) (pe_op op_mod (pe_callD D__law_cell (hr.mono (by first | decide | omega)) rfl (pa_cons (pv 0) (pa_cons pe_int pa_nil))) pe_int))
      (pss_cons (ps_if (PW.pt (pw_or (pt_cmpR op_ne (pe_callD D__law_met (hr.mono (by first | decide | omega)) rfl (pa_cons (pv 2) (pa_cons pe_int pa_nil))) (pe_un un_neg pe_int) (nomark _)) (pw_or1 (pt_cmpR op_ne (pe_callD D__law_met (hr.mono (by first | decide | omega)) rfl (pa_cons pe_int (pa_cons pe_int pa_nil))) (pe_un un_neg pe_int) (nomark _))))) (pss_one (ps_ret pe_bl)) pss_nil)
      (pss_cons (ps_if (PW.pt (pw_and (pt_cmpR op_eq (pe_op op_mod (pe_op op_fdiv (pe_callD D__law_cell (hr.mono (by first | decide | omega)) rfl (pa_cons (pv 0) (pa_cons pe_int pa_nil))) pe_int) pe_int) pe_int (nomark _)) (pw_and1 (pt_cmpR op_ne (pe_callD D__law_met (hr.mono (by first | decide | omega)) rfl (pa_cons (pv 2) (pa_cons (pe_ix ix_list (pe_lst (pa_cons pe_int (pa_cons pe_int (pa_cons pe_int (pa_cons pe_int pa_nil))))) (pv 2) (fun _ _ => rfl)) pa_nil))) (pe_un un_neg pe_int) (nomark _))))) (pss_one (ps_ret pe_bl)) pss_nil)
      (pss_cons (ps_set (i := 5) SC.nd rfl (Or.inl rfl) (pe_callD D__law_setting (hr.mono (by first | decide | omega)) rfl (pa_cons (pv 0) (pa_cons pe_int (pa_cons (pe_op op_add pe_int (pe_op op_mod (pe_callD D__law_cell (hr.mono (by first | decide | omega)) rfl (pa_cons (pv 0) (pa_cons pe_int pa_nil))) pe_int)) pa_nil)))))
      (pss_cons (ps_for PassesOwn.never rfl (pi_list (pe_lst (pa_cons (pe_un un_neg pe_int) (pa_cons (pe_un un_neg (pv 1)) (pa_cons (pe_op op_add (pe_op op_pow pe_int pe_int) pe_int) (pa_cons (pe_op op_add (pe_op op_pow pe_int pe_int) (pv 1)) pa_nil)))))) (pg_name (i := 6) SC.nd rfl (Or.inl rfl))
        (pss_one (ps_if (pt_cmpR op_ne (pe_callD D__law_turns_met (hr.mono (by first | decide | omega)) rfl (pa_cons (pe_callTy call_list_of rfl T.n_list PyProof.Rows.boot_list (pa_cons (pv 5) pa_nil)) (pa_cons (pv 6) pa_nil))) pe_int (nomark _)) (pss_one (ps_ret pe_bl)) pss_nil)))
      (pss_one (ps_ret (pe_and (pe_cmpR op_eq (pe_callD D__law_turns_met (hr.mono (by first | decide | omega)) rfl (pa_cons (pe_callTy call_list_of rfl T.n_list PyProof.Rows.boot_list (pa_cons (pv 5) pa_nil)) (pa_cons pe_int pa_nil))) (pe_un un_neg pe_int) (nomark _)) (pe_one (pe_cmpR op_eq (pe_callD D__law_turns_met (hr.mono (by first | decide | omega)) rfl (pa_cons (pe_callTy call_list_of rfl T.n_list PyProof.Rows.boot_list (pa_cons (pv 5) pa_nil)) (pa_cons (pe_op op_pow pe_int pe_int) pa_nil))) (pe_un un_neg pe_int) (nomark _))))))))))))), ?_⟩
    refine cut (fun σ H' => ∃ far : Int, 1 ≤ far ∧ far ≤ 10 ^ 29 ∧ σ = [some (.ref a), some (.int far), none, none, none, none, none] ∧ H' = H) (fun R hR => ?_) ?_
    · one_place
      refine ⟨a, ns, 0, rfl, hS, hl, by decide, by decide, fun v => ⟨⟨by decide, by decide, by decide⟩, v, rfl, by decide, hR _ _ ⟨_, ?_, ?_, rfl, rfl⟩⟩⟩
      · have := Int.emod_nonneg v (show (10 : Int) ^ Int.toNat 29 ≠ 0 by decide); omega
      · have := Int.emod_lt_of_pos v (show (0 : Int) < 10 ^ Int.toNat 29 by decide); have : (10 : Int) ^ Int.toNat 29 = 10 ^ 29 := rfl; omega
    rintro σ1 H1 ⟨far, f0, f1, rfl, rfl⟩
    refine cut (fun σ H' => ∃ o2 o3 o4, σ = [some (.ref a), some (.int far), o2, o3, o4, none, none] ∧ Same H1 H') (fun R hR => ?_) ?_
    · one_place
      refine ⟨_, rfl, by decide, by decide, for_range (lo := 0) (n := Int.toNat 4) (wWays a far H1) ⟨_, _, _, rfl, Same.refl _⟩ ?_ ?_⟩
      · rintro i σ H' hi ⟨o2, o3, o4, rfl, sm⟩
        have hi : i < 4 := hi
        one_place
        have mp := most_pos (0 + (i : Int))
        refine ⟨by decide, fun p hp => ⟨_, SqL.of upd_same, _, most_at hi, tFor_it ?_⟩⟩
        one_place
        refine ⟨by decide, fun l hl' => FL2.of (xs := [.int 0, .int (-far), .int (mostOf (0 + (i : Int)) + 1), .int (mostOf (0 + (i : Int)) + far)]) (wCoins a l far (0 + (i : Int)) H1) ⟨_, rfl, (sm.put' hp).put' hl', upd_same⟩ (fun j σ H' _ ⟨_, _, _, z⟩ => SqL.of z) ?_ ?_⟩
        · rintro j x σ H'' hx ⟨o4, rfl, sm2, el⟩
          obtain ⟨n, rfl, hb⟩ : ∃ n : Int, x = .int n ∧ (n < 1 ∨ mostOf (0 + (i : Int)) < n) := by
            match j, hx with
            | 0, h => exact ⟨_, (Option.some.inj h).symm, by omega⟩
            | 1, h => exact ⟨_, (Option.some.inj h).symm, by omega⟩
            | 2, h => exact ⟨_, (Option.some.inj h).symm, by omega⟩
            | 3, h => exact ⟨_, (Option.some.inj h).symm, by omega⟩
            | j + 4, h => simp at h
          one_place
          refine ⟨_, n, rfl, by omega, by omega, fun H3 s3 => ?_⟩
          rw [if_pos hb]
          refine ⟨rfl, ?_⟩
          rw [if_neg (by simp)]
          exact ⟨_, rfl, sm2.trans s3, s3 _ _ el⟩
        · rintro σ H'' ⟨o4, rfl, sm2, _⟩
          exact ⟨_, _, _, rfl, sm2⟩
      · rintro σ H' ⟨o2, o3, o4, rfl, sm⟩
        exact hR _ _ ⟨_, _, _, rfl, sm⟩
    rintro σ2 H2 ⟨o2, o3, o4, rfl, s2⟩
    refine cut (fun σ H' => ∃ way : Int, 0 ≤ way ∧ way < 4 ∧ σ = [some (.ref a), some (.int far), some (.int way), o3, o4, none, none] ∧ H' = H2) (fun R hR => ?_) ?_
    · one_place
      refine ⟨a, ns, 1, rfl, s2.seq hS, hl, by decide, by decide, fun v => ⟨_, rfl, by decide, hR _ _ ⟨_, ?_, ?_, rfl, rfl⟩⟩⟩
      · have w0 := Int.emod_nonneg v (show (4 : Int) ≠ 0 by decide); omega
      · have w1 := Int.emod_lt_of_pos v (show (0 : Int) < 4 by decide); omega
    rintro σ3 H3 ⟨way, w0, w1, rfl, rfl⟩
    have mp := most_pos way
    refine cut (fun σ H' => σ = [some (.ref a), some (.int far), some (.int way), o3, o4, none, none] ∧ Same H1 H') (fun R hR => ?_) ?_
    · one_place
      refine ⟨way, 1, rfl, w0, by omega, fun H4 s4 => ?_⟩
      rw [if_neg (by omega)]
      refine ⟨rfl, ?_⟩
      rw [if_neg (by simp)]
      refine ⟨2, 2000, rfl, by decide, by decide, fun H5 s5 => ?_⟩
      rw [if_neg (by decide)]
      refine ⟨rfl, ?_⟩
      rw [if_neg (by simp)]
      exact hR _ _ ⟨rfl, (s2.trans s4).trans s5⟩
    rintro σ4 H4 ⟨rfl, s4⟩
    refine cut (fun σ H' => σ = [some (.ref a), some (.int far), some (.int way), o3, o4, none, none] ∧ Same H1 H') (fun R hR => ?_) ?_
    · one_place
      refine ⟨a, ns, 1, rfl, s4.seq hS, hl, by decide, by decide, fun v => ⟨v, rfl, ⟨by decide, by decide⟩, by decide, ?_⟩⟩
      by_cases c : v / 4 % 8 = 1
      · rw [if_pos (decide_eq_true c)]
        refine ⟨by decide, fun q hq => ⟨_, SqL.of upd_same, _, most_at' w0 w1, way, mostOf way, rfl, w0, by omega, fun H5 s5 => ?_⟩⟩
        rw [if_neg (by omega)]
        refine ⟨rfl, ?_⟩
        rw [if_neg (by simp)]
        exact hR _ _ ⟨rfl, (s4.put' hq).trans s5⟩
      · rw [if_neg (by simpa using c), if_neg (by decide)]
        exact hR _ _ ⟨rfl, s4⟩
    rintro σ5 H5 ⟨rfl, s5⟩
    refine cut (fun σ H' => ∃ (p : Addr) (qs : List Int) (n : Int), σ = [some (.ref a), some (.int far), some (.int way), o3, o4, some (.ref p), none] ∧ H' p = some (.lst (qs.map V.int)) ∧ Setting n qs ∧ 1 ≤ n ∧ n ≤ 100) (fun R hR => ?_) ?_
    · one_place
      refine ⟨a, ns, 7, rfl, s5.seq hS, hl, by decide, by decide, fun v => ⟨_, rfl, by decide, ?_⟩⟩
      have w0 := Int.emod_nonneg v (show (100 : Int) ≠ 0 by decide)
      have w1 := Int.emod_lt_of_pos v (show (0 : Int) < 100 by decide)
      exact ⟨a, ns, 2, _, rfl, s5.seq hS, hl, by decide, by decide, by omega, by omega, fun p H' qs sm hq st => hR _ _ ⟨p, qs, _, rfl, hq, st, by omega, by omega⟩⟩
    rintro σ6 H6 ⟨p, qs, n, rfl, hp, st, n0, n1⟩
    refine cut (fun σ H' => ∃ o2 o3 o4 o6, σ = [some (.ref a), some (.int far), o2, o3, o4, some (.ref p), o6] ∧ Same H6 H') (fun R hR => ?_) ?_
    · refine tFor_it ?_
      one_place
      refine ⟨⟨by decide, by decide, by decide⟩, ⟨by decide, by decide, by decide⟩, by decide, fun l hl' => FL2.of (xs := [.int (-1), .int (-far), .int (10 ^ Int.toNat 29 + 1), .int (10 ^ Int.toNat 29 + far)]) (wTurns a p l far (some (.int way)) o3 o4 H6) ⟨_, rfl, Same.put hl', upd_same⟩ (fun j σ H' _ ⟨_, _, _, z⟩ => SqL.of z) ?_ ?_⟩
      · rintro j x σ H'' hx ⟨o6, rfl, sm2, el⟩
        obtain ⟨t, rfl, hb⟩ : ∃ t : Int, x = .int t ∧ (t < 0 ∨ 10 ^ 29 < t) := by
          have e : (10 : Int) ^ Int.toNat 29 = 10 ^ 29 := rfl
          match j, hx with
          | 0, h => exact ⟨_, (Option.some.inj h).symm, by omega⟩
          | 1, h => exact ⟨_, (Option.some.inj h).symm, by omega⟩
          | 2, h => exact ⟨_, (Option.some.inj h).symm, by omega⟩
          | 3, h => exact ⟨_, (Option.some.inj h).symm, by omega⟩
          | j + 4, h => simp at h
        one_place
        refine ⟨_, .inl (SqL.of (sm2 _ _ hp)), fun q hq => ⟨q, qs, n, t, rfl, SqL.of upd_same, st, n0, n1, fun H3 s3 => ?_⟩⟩
        rw [if_pos hb]
        refine ⟨rfl, ?_⟩
        rw [if_neg (by simp)]
        exact ⟨_, rfl, (sm2.put' hq).trans s3, s3 _ _ ((Same.put hq) _ _ el)⟩
      · rintro σ H'' ⟨o6, rfl, sm2, _⟩
        exact hR _ _ ⟨_, _, _, _, rfl, sm2⟩
    rintro σ7 H7 ⟨o2, o3, o4, o6, rfl, s7⟩
    one_place
    have h7 := s7 _ _ hp
    refine ⟨_, .inl (SqL.of h7), fun l hl' => ⟨l, qs, n, 0, rfl, SqL.of upd_same, st, n0, n1, fun H8 s8 => ?_⟩⟩
    rw [if_neg (by decide)]
    refine ⟨rfl, ?_⟩
    rw [if_pos (by simp)]
    refine ⟨_, .inl (SqL.of (s8 _ _ ((Same.put hl') _ _ h7))), fun l2 hl2 => ⟨⟨by decide, by decide, by decide⟩, l2, qs, n, _, rfl, SqL.of upd_same, st, n0, n1, fun H9 s9 => ?_⟩⟩
    rw [if_neg (by decide)]
    refine ⟨rfl, ?_⟩
    simp only [decide_true]
    exact k H9
end
theorem all_mk {l : PySem.W.OpenLaw} {w : World} {K : PySem.W.Frag} {h : Heap} {mg : Str → Option Value} {fa : Addr} (X : K.In h) (G : h.Ns mainGlobals mg) (hfa : mg "law" = some (.ref fa))
    {f0 : Addr} {od0 an0 : Option Addr} {sl0 : Array (Option Value)} {oc0 kV0 dc0 pm0 cd0 ct0 : Value} (a0 : PySem.W.nsIn K mainGlobals "is_setting" = some (some (.ref f0))) (l0 : K.lookup f0 = some ⟨oc0, od0, .func (PySem.W.fnOf "is_setting" "is_setting" (defArgs s_is_setting) (defBody s_is_setting) (defScope s_is_setting) .none kV0 dc0 pm0 an0 cd0 ct0), sl0⟩) (c0 : PySem.W.codeIn K cd0 "is_setting" = true) (k0 : PySem.W.keepIn K (.ref f0) = true)
    {f1 : Addr} {od1 an1 : Option Addr} {sl1 : Array (Option Value)} {oc1 kV1 dc1 pm1 cd1 ct1 : Value} (a1 : PySem.W.nsIn K mainGlobals "check_setting" = some (some (.ref f1))) (l1 : K.lookup f1 = some ⟨oc1, od1, .func (PySem.W.fnOf "check_setting" "check_setting" (defArgs s_check_setting) (defBody s_check_setting) (defScope s_check_setting) .none kV1 dc1 pm1 an1 cd1 ct1), sl1⟩) (c1 : PySem.W.codeIn K cd1 "check_setting" = true) (k1 : PySem.W.keepIn K (.ref f1) = true)
    {f2 : Addr} {od2 an2 : Option Addr} {sl2 : Array (Option Value)} {oc2 kV2 dc2 pm2 cd2 ct2 : Value} (a2 : PySem.W.nsIn K mainGlobals "turned" = some (some (.ref f2))) (l2 : K.lookup f2 = some ⟨oc2, od2, .func (PySem.W.fnOf "turned" "turned" (defArgs s_turned) (defBody s_turned) (defScope s_turned) .none kV2 dc2 pm2 an2 cd2 ct2), sl2⟩) (c2 : PySem.W.codeIn K cd2 "turned" = true) (k2 : PySem.W.keepIn K (.ref f2) = true)
    {f3 : Addr} {od3 an3 : Option Addr} {sl3 : Array (Option Value)} {oc3 kV3 dc3 pm3 cd3 ct3 : Value} (a3 : PySem.W.nsIn K mainGlobals "after" = some (some (.ref f3))) (l3 : K.lookup f3 = some ⟨oc3, od3, .func (PySem.W.fnOf "after" "after" (defArgs s_after) (defBody s_after) (defScope s_after) .none kV3 dc3 pm3 an3 cd3 ct3), sl3⟩) (c3 : PySem.W.codeIn K cd3 "after" = true) (k3 : PySem.W.keepIn K (.ref f3) = true)
    {f4 : Addr} {od4 an4 : Option Addr} {sl4 : Array (Option Value)} {oc4 kV4 dc4 pm4 cd4 ct4 : Value} (a4 : PySem.W.nsIn K mainGlobals "check_turns" = some (some (.ref f4))) (l4 : K.lookup f4 = some ⟨oc4, od4, .func (PySem.W.fnOf "check_turns" "check_turns" (defArgs s_check_turns) (defBody s_check_turns) (defScope s_check_turns) .none kV4 dc4 pm4 an4 cd4 ct4), sl4⟩) (c4 : PySem.W.codeIn K cd4 "check_turns" = true) (k4 : PySem.W.keepIn K (.ref f4) = true)
    {f5 : Addr} {od5 an5 : Option Addr} {sl5 : Array (Option Value)} {oc5 kV5 dc5 pm5 cd5 ct5 : Value} (a5 : PySem.W.nsIn K mainGlobals "trail_of" = some (some (.ref f5))) (l5 : K.lookup f5 = some ⟨oc5, od5, .func (PySem.W.fnOf "trail_of" "trail_of" (defArgs s_trail_of) (defBody s_trail_of) (defScope s_trail_of) .none kV5 dc5 pm5 an5 cd5 ct5), sl5⟩) (c5 : PySem.W.codeIn K cd5 "trail_of" = true) (k5 : PySem.W.keepIn K (.ref f5) = true)
    {f6 : Addr} {od6 an6 : Option Addr} {sl6 : Array (Option Value)} {oc6 kV6 dc6 pm6 cd6 ct6 : Value} (a6 : PySem.W.nsIn K mainGlobals "stair_of" = some (some (.ref f6))) (l6 : K.lookup f6 = some ⟨oc6, od6, .func (PySem.W.fnOf "stair_of" "stair_of" (defArgs s_stair_of) (defBody s_stair_of) (defScope s_stair_of) .none kV6 dc6 pm6 an6 cd6 ct6), sl6⟩) (c6 : PySem.W.codeIn K cd6 "stair_of" = true) (k6 : PySem.W.keepIn K (.ref f6) = true)
    {f7 : Addr} {od7 an7 : Option Addr} {sl7 : Array (Option Value)} {oc7 kV7 dc7 pm7 cd7 ct7 : Value} (a7 : PySem.W.nsIn K mainGlobals "above_stair" = some (some (.ref f7))) (l7 : K.lookup f7 = some ⟨oc7, od7, .func (PySem.W.fnOf "above_stair" "above_stair" (defArgs s_above_stair) (defBody s_above_stair) (defScope s_above_stair) .none kV7 dc7 pm7 an7 cd7 ct7), sl7⟩) (c7 : PySem.W.codeIn K cd7 "above_stair" = true) (k7 : PySem.W.keepIn K (.ref f7) = true)
    {f8 : Addr} {od8 an8 : Option Addr} {sl8 : Array (Option Value)} {oc8 kV8 dc8 pm8 cd8 ct8 : Value} (a8 : PySem.W.nsIn K mainGlobals "all_marks" = some (some (.ref f8))) (l8 : K.lookup f8 = some ⟨oc8, od8, .func (PySem.W.fnOf "all_marks" "all_marks" (defArgs s_all_marks) (defBody s_all_marks) (defScope s_all_marks) .none kV8 dc8 pm8 an8 cd8 ct8), sl8⟩) (c8 : PySem.W.codeIn K cd8 "all_marks" = true) (k8 : PySem.W.keepIn K (.ref f8) = true)
    {f9 : Addr} {od9 an9 : Option Addr} {sl9 : Array (Option Value)} {oc9 kV9 dc9 pm9 cd9 ct9 : Value} (a9 : PySem.W.nsIn K mainGlobals "is_round" = some (some (.ref f9))) (l9 : K.lookup f9 = some ⟨oc9, od9, .func (PySem.W.fnOf "is_round" "is_round" (defArgs s_is_round) (defBody s_is_round) (defScope s_is_round) .none kV9 dc9 pm9 an9 cd9 ct9), sl9⟩) (c9 : PySem.W.codeIn K cd9 "is_round" = true) (k9 : PySem.W.keepIn K (.ref f9) = true)
    {f10 : Addr} {od10 an10 : Option Addr} {sl10 : Array (Option Value)} {oc10 kV10 dc10 pm10 cd10 ct10 : Value} (a10 : PySem.W.nsIn K mainGlobals "setting_of" = some (some (.ref f10))) (l10 : K.lookup f10 = some ⟨oc10, od10, .func (PySem.W.fnOf "setting_of" "setting_of" (defArgs s_setting_of) (defBody s_setting_of) (defScope s_setting_of) .none kV10 dc10 pm10 an10 cd10 ct10), sl10⟩) (c10 : PySem.W.codeIn K cd10 "setting_of" = true) (k10 : PySem.W.keepIn K (.ref f10) = true)
    {f11 : Addr} {od11 an11 : Option Addr} {sl11 : Array (Option Value)} {oc11 kV11 dc11 pm11 cd11 ct11 : Value} (a11 : PySem.W.nsIn K mainGlobals "piles_from" = some (some (.ref f11))) (l11 : K.lookup f11 = some ⟨oc11, od11, .func (PySem.W.fnOf "piles_from" "piles_from" (defArgs s_piles_from) (defBody s_piles_from) (defScope s_piles_from) .none kV11 dc11 pm11 an11 cd11 ct11), sl11⟩) (c11 : PySem.W.codeIn K cd11 "piles_from" = true) (k11 : PySem.W.keepIn K (.ref f11) = true)
    {f12 : Addr} {od12 an12 : Option Addr} {sl12 : Array (Option Value)} {oc12 kV12 dc12 pm12 cd12 ct12 : Value} (a12 : PySem.W.nsIn K mainGlobals "way_of" = some (some (.ref f12))) (l12 : K.lookup f12 = some ⟨oc12, od12, .func (PySem.W.fnOf "way_of" "way_of" (defArgs s_way_of) (defBody s_way_of) (defScope s_way_of) .none kV12 dc12 pm12 an12 cd12 ct12), sl12⟩) (c12 : PySem.W.codeIn K cd12 "way_of" = true) (k12 : PySem.W.keepIn K (.ref f12) = true)
    {f13 : Addr} {od13 an13 : Option Addr} {sl13 : Array (Option Value)} {oc13 kV13 dc13 pm13 cd13 ct13 : Value} (a13 : PySem.W.nsIn K mainGlobals "ring_of" = some (some (.ref f13))) (l13 : K.lookup f13 = some ⟨oc13, od13, .func (PySem.W.fnOf "ring_of" "ring_of" (defArgs s_ring_of) (defBody s_ring_of) (defScope s_ring_of) .none kV13 dc13 pm13 an13 cd13 ct13), sl13⟩) (c13 : PySem.W.codeIn K cd13 "ring_of" = true) (k13 : PySem.W.keepIn K (.ref f13) = true)
    {f14 : Addr} {od14 an14 : Option Addr} {sl14 : Array (Option Value)} {oc14 kV14 dc14 pm14 cd14 ct14 : Value} (a14 : PySem.W.nsIn K mainGlobals "check_coins" = some (some (.ref f14))) (l14 : K.lookup f14 = some ⟨oc14, od14, .func (PySem.W.fnOf "check_coins" "check_coins" (defArgs s_check_coins) (defBody s_check_coins) (defScope s_check_coins) .none kV14 dc14 pm14 an14 cd14 ct14), sl14⟩) (c14 : PySem.W.codeIn K cd14 "check_coins" = true) (k14 : PySem.W.keepIn K (.ref f14) = true)
    {f15 : Addr} {od15 an15 : Option Addr} {sl15 : Array (Option Value)} {oc15 kV15 dc15 pm15 cd15 ct15 : Value} (a15 : PySem.W.nsIn K mainGlobals "settings_of" = some (some (.ref f15))) (l15 : K.lookup f15 = some ⟨oc15, od15, .func (PySem.W.fnOf "settings_of" "settings_of" (defArgs s_settings_of) (defBody s_settings_of) (defScope s_settings_of) .none kV15 dc15 pm15 an15 cd15 ct15), sl15⟩) (c15 : PySem.W.codeIn K cd15 "settings_of" = true) (k15 : PySem.W.keepIn K (.ref f15) = true)
    {f16 : Addr} {od16 an16 : Option Addr} {sl16 : Array (Option Value)} {oc16 kV16 dc16 pm16 cd16 ct16 : Value} (a16 : PySem.W.nsIn K mainGlobals "piles_down" = some (some (.ref f16))) (l16 : K.lookup f16 = some ⟨oc16, od16, .func (PySem.W.fnOf "piles_down" "piles_down" (defArgs s_piles_down) (defBody s_piles_down) (defScope s_piles_down) .none kV16 dc16 pm16 an16 cd16 ct16), sl16⟩) (c16 : PySem.W.codeIn K cd16 "piles_down" = true) (k16 : PySem.W.keepIn K (.ref f16) = true)
    {f17 : Addr} {od17 an17 : Option Addr} {sl17 : Array (Option Value)} {oc17 kV17 dc17 pm17 cd17 ct17 : Value} (a17 : PySem.W.nsIn K mainGlobals "rest_of" = some (some (.ref f17))) (l17 : K.lookup f17 = some ⟨oc17, od17, .func (PySem.W.fnOf "rest_of" "rest_of" (defArgs s_rest_of) (defBody s_rest_of) (defScope s_rest_of) .none kV17 dc17 pm17 an17 cd17 ct17), sl17⟩) (c17 : PySem.W.codeIn K cd17 "rest_of" = true) (k17 : PySem.W.keepIn K (.ref f17) = true)
    {f18 : Addr} {od18 an18 : Option Addr} {sl18 : Array (Option Value)} {oc18 kV18 dc18 pm18 cd18 ct18 : Value} (a18 : PySem.W.nsIn K mainGlobals "rings_of" = some (some (.ref f18))) (l18 : K.lookup f18 = some ⟨oc18, od18, .func (PySem.W.fnOf "rings_of" "rings_of" (defArgs s_rings_of) (defBody s_rings_of) (defScope s_rings_of) .none kV18 dc18 pm18 an18 cd18 ct18), sl18⟩) (c18 : PySem.W.codeIn K cd18 "rings_of" = true) (k18 : PySem.W.keepIn K (.ref f18) = true)
    {f19 : Addr} {od19 an19 : Option Addr} {sl19 : Array (Option Value)} {oc19 kV19 dc19 pm19 cd19 ct19 : Value} (a19 : PySem.W.nsIn K mainGlobals "marks_down" = some (some (.ref f19))) (l19 : K.lookup f19 = some ⟨oc19, od19, .func (PySem.W.fnOf "marks_down" "marks_down" (defArgs s_marks_down) (defBody s_marks_down) (defScope s_marks_down) .none kV19 dc19 pm19 an19 cd19 ct19), sl19⟩) (c19 : PySem.W.codeIn K cd19 "marks_down" = true) (k19 : PySem.W.keepIn K (.ref f19) = true)
    {f20 : Addr} {od20 an20 : Option Addr} {sl20 : Array (Option Value)} {oc20 kV20 dc20 pm20 cd20 ct20 : Value} (a20 : PySem.W.nsIn K mainGlobals "leads_its_ring" = some (some (.ref f20))) (l20 : K.lookup f20 = some ⟨oc20, od20, .func (PySem.W.fnOf "leads_its_ring" "leads_its_ring" (defArgs s_leads_its_ring) (defBody s_leads_its_ring) (defScope s_leads_its_ring) .none kV20 dc20 pm20 an20 cd20 ct20), sl20⟩) (c20 : PySem.W.codeIn K cd20 "leads_its_ring" = true) (k20 : PySem.W.keepIn K (.ref f20) = true)
    {f21 : Addr} {od21 an21 : Option Addr} {sl21 : Array (Option Value)} {oc21 kV21 dc21 pm21 cd21 ct21 : Value} (a21 : PySem.W.nsIn K mainGlobals "rings_many" = some (some (.ref f21))) (l21 : K.lookup f21 = some ⟨oc21, od21, .func (PySem.W.fnOf "rings_many" "rings_many" (defArgs s_rings_many) (defBody s_rings_many) (defScope s_rings_many) .none kV21 dc21 pm21 an21 cd21 ct21), sl21⟩) (c21 : PySem.W.codeIn K cd21 "rings_many" = true) (k21 : PySem.W.keepIn K (.ref f21) = true)
    {f22 : Addr} {od22 an22 : Option Addr} {sl22 : Array (Option Value)} {oc22 kV22 dc22 pm22 cd22 ct22 : Value} (a22 : PySem.W.nsIn K mainGlobals "many_again" = some (some (.ref f22))) (l22 : K.lookup f22 = some ⟨oc22, od22, .func (PySem.W.fnOf "many_again" "many_again" (defArgs s_many_again) (defBody s_many_again) (defScope s_many_again) .none kV22 dc22 pm22 an22 cd22 ct22), sl22⟩) (c22 : PySem.W.codeIn K cd22 "many_again" = true) (k22 : PySem.W.keepIn K (.ref f22) = true)
    {f23 : Addr} {od23 an23 : Option Addr} {sl23 : Array (Option Value)} {oc23 kV23 dc23 pm23 cd23 ct23 : Value} (a23 : PySem.W.nsIn K mainGlobals "greatest_part" = some (some (.ref f23))) (l23 : K.lookup f23 = some ⟨oc23, od23, .func (PySem.W.fnOf "greatest_part" "greatest_part" (defArgs s_greatest_part) (defBody s_greatest_part) (defScope s_greatest_part) .none kV23 dc23 pm23 an23 cd23 ct23), sl23⟩) (c23 : PySem.W.codeIn K cd23 "greatest_part" = true) (k23 : PySem.W.keepIn K (.ref f23) = true)
    {f24 : Addr} {od24 an24 : Option Addr} {sl24 : Array (Option Value)} {oc24 kV24 dc24 pm24 cd24 ct24 : Value} (a24 : PySem.W.nsIn K mainGlobals "many_choices" = some (some (.ref f24))) (l24 : K.lookup f24 = some ⟨oc24, od24, .func (PySem.W.fnOf "many_choices" "many_choices" (defArgs s_many_choices) (defBody s_many_choices) (defScope s_many_choices) .none kV24 dc24 pm24 an24 cd24 ct24), sl24⟩) (c24 : PySem.W.codeIn K cd24 "many_choices" = true) (k24 : PySem.W.keepIn K (.ref f24) = true)
    {f25 : Addr} {od25 an25 : Option Addr} {sl25 : Array (Option Value)} {oc25 kV25 dc25 pm25 cd25 ct25 : Value} (a25 : PySem.W.nsIn K mainGlobals "drawn_in" = some (some (.ref f25))) (l25 : K.lookup f25 = some ⟨oc25, od25, .func (PySem.W.fnOf "drawn_in" "drawn_in" (defArgs s_drawn_in) (defBody s_drawn_in) (defScope s_drawn_in) .none kV25 dc25 pm25 an25 cd25 ct25), sl25⟩) (c25 : PySem.W.codeIn K cd25 "drawn_in" = true) (k25 : PySem.W.keepIn K (.ref f25) = true)
    {f26 : Addr} {od26 an26 : Option Addr} {sl26 : Array (Option Value)} {oc26 kV26 dc26 pm26 cd26 ct26 : Value} (a26 : PySem.W.nsIn K mainGlobals "_law_cell" = some (some (.ref f26))) (l26 : K.lookup f26 = some ⟨oc26, od26, .func (PySem.W.fnOf "_law_cell" "_law_cell" (defArgs s__law_cell) (defBody s__law_cell) (defScope s__law_cell) .none kV26 dc26 pm26 an26 cd26 ct26), sl26⟩) (c26 : PySem.W.codeIn K cd26 "_law_cell" = true) (k26 : PySem.W.keepIn K (.ref f26) = true)
    {f27 : Addr} {od27 an27 : Option Addr} {sl27 : Array (Option Value)} {oc27 kV27 dc27 pm27 cd27 ct27 : Value} (a27 : PySem.W.nsIn K mainGlobals "_law_next" = some (some (.ref f27))) (l27 : K.lookup f27 = some ⟨oc27, od27, .func (PySem.W.fnOf "_law_next" "_law_next" (defArgs s__law_next) (defBody s__law_next) (defScope s__law_next) .none kV27 dc27 pm27 an27 cd27 ct27), sl27⟩) (c27 : PySem.W.codeIn K cd27 "_law_next" = true) (k27 : PySem.W.keepIn K (.ref f27) = true)
    {f28 : Addr} {od28 an28 : Option Addr} {sl28 : Array (Option Value)} {oc28 kV28 dc28 pm28 cd28 ct28 : Value} (a28 : PySem.W.nsIn K mainGlobals "_law_fallen" = some (some (.ref f28))) (l28 : K.lookup f28 = some ⟨oc28, od28, .func (PySem.W.fnOf "_law_fallen" "_law_fallen" (defArgs s__law_fallen) (defBody s__law_fallen) (defScope s__law_fallen) .none kV28 dc28 pm28 an28 cd28 ct28), sl28⟩) (c28 : PySem.W.codeIn K cd28 "_law_fallen" = true) (k28 : PySem.W.keepIn K (.ref f28) = true)
    {f29 : Addr} {od29 an29 : Option Addr} {sl29 : Array (Option Value)} {oc29 kV29 dc29 pm29 cd29 ct29 : Value} (a29 : PySem.W.nsIn K mainGlobals "_law_stair" = some (some (.ref f29))) (l29 : K.lookup f29 = some ⟨oc29, od29, .func (PySem.W.fnOf "_law_stair" "_law_stair" (defArgs s__law_stair) (defBody s__law_stair) (defScope s__law_stair) .none kV29 dc29 pm29 an29 cd29 ct29), sl29⟩) (c29 : PySem.W.codeIn K cd29 "_law_stair" = true) (k29 : PySem.W.keepIn K (.ref f29) = true)
    {f30 : Addr} {od30 an30 : Option Addr} {sl30 : Array (Option Value)} {oc30 kV30 dc30 pm30 cd30 ct30 : Value} (a30 : PySem.W.nsIn K mainGlobals "_law_by_marks" = some (some (.ref f30))) (l30 : K.lookup f30 = some ⟨oc30, od30, .func (PySem.W.fnOf "_law_by_marks" "_law_by_marks" (defArgs s__law_by_marks) (defBody s__law_by_marks) (defScope s__law_by_marks) .none kV30 dc30 pm30 an30 cd30 ct30), sl30⟩) (c30 : PySem.W.codeIn K cd30 "_law_by_marks" = true) (k30 : PySem.W.keepIn K (.ref f30) = true)
    {f31 : Addr} {od31 an31 : Option Addr} {sl31 : Array (Option Value)} {oc31 kV31 dc31 pm31 cd31 ct31 : Value} (a31 : PySem.W.nsIn K mainGlobals "_law_drawn_marks" = some (some (.ref f31))) (l31 : K.lookup f31 = some ⟨oc31, od31, .func (PySem.W.fnOf "_law_drawn_marks" "_law_drawn_marks" (defArgs s__law_drawn_marks) (defBody s__law_drawn_marks) (defScope s__law_drawn_marks) .none kV31 dc31 pm31 an31 cd31 ct31), sl31⟩) (c31 : PySem.W.codeIn K cd31 "_law_drawn_marks" = true) (k31 : PySem.W.keepIn K (.ref f31) = true)
    {f32 : Addr} {od32 an32 : Option Addr} {sl32 : Array (Option Value)} {oc32 kV32 dc32 pm32 cd32 ct32 : Value} (a32 : PySem.W.nsIn K mainGlobals "_law_elder" = some (some (.ref f32))) (l32 : K.lookup f32 = some ⟨oc32, od32, .func (PySem.W.fnOf "_law_elder" "_law_elder" (defArgs s__law_elder) (defBody s__law_elder) (defScope s__law_elder) .none kV32 dc32 pm32 an32 cd32 ct32), sl32⟩) (c32 : PySem.W.codeIn K cd32 "_law_elder" = true) (k32 : PySem.W.keepIn K (.ref f32) = true)
    {f33 : Addr} {od33 an33 : Option Addr} {sl33 : Array (Option Value)} {oc33 kV33 dc33 pm33 cd33 ct33 : Value} (a33 : PySem.W.nsIn K mainGlobals "_law_drawn_piles" = some (some (.ref f33))) (l33 : K.lookup f33 = some ⟨oc33, od33, .func (PySem.W.fnOf "_law_drawn_piles" "_law_drawn_piles" (defArgs s__law_drawn_piles) (defBody s__law_drawn_piles) (defScope s__law_drawn_piles) .none kV33 dc33 pm33 an33 cd33 ct33), sl33⟩) (c33 : PySem.W.codeIn K cd33 "_law_drawn_piles" = true) (k33 : PySem.W.keepIn K (.ref f33) = true)
    {f34 : Addr} {od34 an34 : Option Addr} {sl34 : Array (Option Value)} {oc34 kV34 dc34 pm34 cd34 ct34 : Value} (a34 : PySem.W.nsIn K mainGlobals "_law_setting" = some (some (.ref f34))) (l34 : K.lookup f34 = some ⟨oc34, od34, .func (PySem.W.fnOf "_law_setting" "_law_setting" (defArgs s__law_setting) (defBody s__law_setting) (defScope s__law_setting) .none kV34 dc34 pm34 an34 cd34 ct34), sl34⟩) (c34 : PySem.W.codeIn K cd34 "_law_setting" = true) (k34 : PySem.W.keepIn K (.ref f34) = true)
    {f35 : Addr} {od35 an35 : Option Addr} {sl35 : Array (Option Value)} {oc35 kV35 dc35 pm35 cd35 ct35 : Value} (a35 : PySem.W.nsIn K mainGlobals "_law_which" = some (some (.ref f35))) (l35 : K.lookup f35 = some ⟨oc35, od35, .func (PySem.W.fnOf "_law_which" "_law_which" (defArgs s__law_which) (defBody s__law_which) (defScope s__law_which) .none kV35 dc35 pm35 an35 cd35 ct35), sl35⟩) (c35 : PySem.W.codeIn K cd35 "_law_which" = true) (k35 : PySem.W.keepIn K (.ref f35) = true)
    {f36 : Addr} {od36 an36 : Option Addr} {sl36 : Array (Option Value)} {oc36 kV36 dc36 pm36 cd36 ct36 : Value} (a36 : PySem.W.nsIn K mainGlobals "_law_asked" = some (some (.ref f36))) (l36 : K.lookup f36 = some ⟨oc36, od36, .func (PySem.W.fnOf "_law_asked" "_law_asked" (defArgs s__law_asked) (defBody s__law_asked) (defScope s__law_asked) .none kV36 dc36 pm36 an36 cd36 ct36), sl36⟩) (c36 : PySem.W.codeIn K cd36 "_law_asked" = true) (k36 : PySem.W.keepIn K (.ref f36) = true)
    {f37 : Addr} {od37 an37 : Option Addr} {sl37 : Array (Option Value)} {oc37 kV37 dc37 pm37 cd37 ct37 : Value} (a37 : PySem.W.nsIn K mainGlobals "_law_met" = some (some (.ref f37))) (l37 : K.lookup f37 = some ⟨oc37, od37, .func (PySem.W.fnOf "_law_met" "_law_met" (defArgs s__law_met) (defBody s__law_met) (defScope s__law_met) .none kV37 dc37 pm37 an37 cd37 ct37), sl37⟩) (c37 : PySem.W.codeIn K cd37 "_law_met" = true) (k37 : PySem.W.keepIn K (.ref f37) = true)
    {f38 : Addr} {od38 an38 : Option Addr} {sl38 : Array (Option Value)} {oc38 kV38 dc38 pm38 cd38 ct38 : Value} (a38 : PySem.W.nsIn K mainGlobals "_law_turns_met" = some (some (.ref f38))) (l38 : K.lookup f38 = some ⟨oc38, od38, .func (PySem.W.fnOf "_law_turns_met" "_law_turns_met" (defArgs s__law_turns_met) (defBody s__law_turns_met) (defScope s__law_turns_met) .none kV38 dc38 pm38 an38 cd38 ct38), sl38⟩) (c38 : PySem.W.codeIn K cd38 "_law_turns_met" = true) (k38 : PySem.W.keepIn K (.ref f38) = true)
    {f39 : Addr} {od39 an39 : Option Addr} {sl39 : Array (Option Value)} {oc39 kV39 dc39 pm39 cd39 ct39 : Value} (a39 : PySem.W.nsIn K mainGlobals "law" = some (some (.ref f39))) (l39 : K.lookup f39 = some ⟨oc39, od39, .func (PySem.W.fnOf "law" "law" (defArgs s_law) (defBody s_law) (defScope s_law) .none kV39 dc39 pm39 an39 cd39 ct39), sl39⟩) (c39 : PySem.W.codeIn K cd39 "law" = true) (k39 : PySem.W.keepIn K (.ref f39) = true)
    (z_len : PySem.W.nsIn K mainGlobals "len" = some none)
    (z_range : PySem.W.nsIn K mainGlobals "range" = some none)
    (z_list : PySem.W.nsIn K mainGlobals "list" = some none)
    (z_reversed : PySem.W.nsIn K mainGlobals "reversed" = some none)
    (z_sorted : PySem.W.nsIn K mainGlobals "sorted" = some none)
    (z_sum : PySem.W.nsIn K mainGlobals "sum" = some none)
    (z_min : PySem.W.nsIn K mainGlobals "min" = some none)
    (z_max : PySem.W.nsIn K mainGlobals "max" = some none)
    (z_int : PySem.W.nsIn K mainGlobals "int" = some none)
    (z_isinstance : PySem.W.nsIn K mainGlobals "isinstance" = some none)
    (z_bool : PySem.W.nsIn K mainGlobals "bool" = some none)
    (z_all : PySem.W.nsIn K mainGlobals "all" = some none)
    (z_enumerate : PySem.W.nsIn K mainGlobals "enumerate" = some none)
    (z_tuple : PySem.W.nsIn K mainGlobals "tuple" = some none)
    (z_ValueError : PySem.W.nsIn K mainGlobals "ValueError" = some none)
    (sp0 : PySem.W.specialIn K (.builtin "object.__class__") "__get__" = some (some (.builtin "getset_descriptor.__get__"))) (tk0 : PySem.W.takesIn K (.builtin "object.__class__") = some true)
    {cl0 cl1 cl2 cl3 cl4 cl5 : Addr}
    (a_PileError : PySem.W.nsIn K mainGlobals "PileError" = some (some (.ref cl0)))
    (a_NoPiles : PySem.W.nsIn K mainGlobals "NoPiles" = some (some (.ref cl1)))
    (a_NotRound : PySem.W.nsIn K mainGlobals "NotRound" = some (some (.ref cl2)))
    (a_NoMarks : PySem.W.nsIn K mainGlobals "NoMarks" = some (some (.ref cl3)))
    (a_NoNumber : PySem.W.nsIn K mainGlobals "NoNumber" = some (some (.ref cl4)))
    (a_NoNote : PySem.W.nsIn K mainGlobals "NoNote" = some (some (.ref cl5)))
    (o_NoPiles : PySem.W.excIn K cl1 veBases "ValueError.__new__" = true) (g1_NoPiles : PySem.W.findIn K (.ref cl1) "__getattribute__" = some (some (.builtin "BaseException.__getattribute__"))) (g2_NoPiles : PySem.W.findIn K (.ref cl1) "__getattr__" = some none) (g3_NoPiles : PySem.W.findIn K (.ref cl1) "__class__" = some (some (.builtin "object.__class__"))) (ob_NoPiles : PySem.W.mroIn K cl1 (.type "object") = some true) (be_NoPiles : PySem.W.subIn K (.ref cl1) (.type "BaseException") = some true) (v_NoPiles : PySem.W.kitOne K (.ref cl1) (.type "ValueError") = some true) (m_NoPiles : PySem.W.exmOne K (.ref cl1) (.ref cl0) = some true)
    (k_NoPiles_NoPiles : PySem.W.kitOne K (.ref cl1) (.ref cl1) = some true)
    (k_NoPiles_NotRound : PySem.W.kitOne K (.ref cl1) (.ref cl2) = some false)
    (k_NoPiles_NoMarks : PySem.W.kitOne K (.ref cl1) (.ref cl3) = some false)
    (k_NoPiles_NoNumber : PySem.W.kitOne K (.ref cl1) (.ref cl4) = some false)
    (k_NoPiles_NoNote : PySem.W.kitOne K (.ref cl1) (.ref cl5) = some false)
    (o_NotRound : PySem.W.excIn K cl2 veBases "ValueError.__new__" = true) (g1_NotRound : PySem.W.findIn K (.ref cl2) "__getattribute__" = some (some (.builtin "BaseException.__getattribute__"))) (g2_NotRound : PySem.W.findIn K (.ref cl2) "__getattr__" = some none) (g3_NotRound : PySem.W.findIn K (.ref cl2) "__class__" = some (some (.builtin "object.__class__"))) (ob_NotRound : PySem.W.mroIn K cl2 (.type "object") = some true) (be_NotRound : PySem.W.subIn K (.ref cl2) (.type "BaseException") = some true) (v_NotRound : PySem.W.kitOne K (.ref cl2) (.type "ValueError") = some true) (m_NotRound : PySem.W.exmOne K (.ref cl2) (.ref cl0) = some true)
    (k_NotRound_NoPiles : PySem.W.kitOne K (.ref cl2) (.ref cl1) = some false)
    (k_NotRound_NotRound : PySem.W.kitOne K (.ref cl2) (.ref cl2) = some true)
    (k_NotRound_NoMarks : PySem.W.kitOne K (.ref cl2) (.ref cl3) = some false)
    (k_NotRound_NoNumber : PySem.W.kitOne K (.ref cl2) (.ref cl4) = some false)
    (k_NotRound_NoNote : PySem.W.kitOne K (.ref cl2) (.ref cl5) = some false)
    (o_NoMarks : PySem.W.excIn K cl3 veBases "ValueError.__new__" = true) (g1_NoMarks : PySem.W.findIn K (.ref cl3) "__getattribute__" = some (some (.builtin "BaseException.__getattribute__"))) (g2_NoMarks : PySem.W.findIn K (.ref cl3) "__getattr__" = some none) (g3_NoMarks : PySem.W.findIn K (.ref cl3) "__class__" = some (some (.builtin "object.__class__"))) (ob_NoMarks : PySem.W.mroIn K cl3 (.type "object") = some true) (be_NoMarks : PySem.W.subIn K (.ref cl3) (.type "BaseException") = some true) (v_NoMarks : PySem.W.kitOne K (.ref cl3) (.type "ValueError") = some true) (m_NoMarks : PySem.W.exmOne K (.ref cl3) (.ref cl0) = some true)
    (k_NoMarks_NoPiles : PySem.W.kitOne K (.ref cl3) (.ref cl1) = some false)
    (k_NoMarks_NotRound : PySem.W.kitOne K (.ref cl3) (.ref cl2) = some false)
    (k_NoMarks_NoMarks : PySem.W.kitOne K (.ref cl3) (.ref cl3) = some true)
    (k_NoMarks_NoNumber : PySem.W.kitOne K (.ref cl3) (.ref cl4) = some false)
    (k_NoMarks_NoNote : PySem.W.kitOne K (.ref cl3) (.ref cl5) = some false)
    (o_NoNumber : PySem.W.excIn K cl4 veBases "ValueError.__new__" = true) (g1_NoNumber : PySem.W.findIn K (.ref cl4) "__getattribute__" = some (some (.builtin "BaseException.__getattribute__"))) (g2_NoNumber : PySem.W.findIn K (.ref cl4) "__getattr__" = some none) (g3_NoNumber : PySem.W.findIn K (.ref cl4) "__class__" = some (some (.builtin "object.__class__"))) (ob_NoNumber : PySem.W.mroIn K cl4 (.type "object") = some true) (be_NoNumber : PySem.W.subIn K (.ref cl4) (.type "BaseException") = some true) (v_NoNumber : PySem.W.kitOne K (.ref cl4) (.type "ValueError") = some true) (m_NoNumber : PySem.W.exmOne K (.ref cl4) (.ref cl0) = some true)
    (k_NoNumber_NoPiles : PySem.W.kitOne K (.ref cl4) (.ref cl1) = some false)
    (k_NoNumber_NotRound : PySem.W.kitOne K (.ref cl4) (.ref cl2) = some false)
    (k_NoNumber_NoMarks : PySem.W.kitOne K (.ref cl4) (.ref cl3) = some false)
    (k_NoNumber_NoNumber : PySem.W.kitOne K (.ref cl4) (.ref cl4) = some true)
    (k_NoNumber_NoNote : PySem.W.kitOne K (.ref cl4) (.ref cl5) = some false)
    (o_NoNote : PySem.W.excIn K cl5 veBases "ValueError.__new__" = true) (g1_NoNote : PySem.W.findIn K (.ref cl5) "__getattribute__" = some (some (.builtin "BaseException.__getattribute__"))) (g2_NoNote : PySem.W.findIn K (.ref cl5) "__getattr__" = some none) (g3_NoNote : PySem.W.findIn K (.ref cl5) "__class__" = some (some (.builtin "object.__class__"))) (ob_NoNote : PySem.W.mroIn K cl5 (.type "object") = some true) (be_NoNote : PySem.W.subIn K (.ref cl5) (.type "BaseException") = some true) (v_NoNote : PySem.W.kitOne K (.ref cl5) (.type "ValueError") = some true) (m_NoNote : PySem.W.exmOne K (.ref cl5) (.ref cl0) = some true)
    (k_NoNote_NoPiles : PySem.W.kitOne K (.ref cl5) (.ref cl1) = some false)
    (k_NoNote_NotRound : PySem.W.kitOne K (.ref cl5) (.ref cl2) = some false)
    (k_NoNote_NoMarks : PySem.W.kitOne K (.ref cl5) (.ref cl3) = some false)
    (k_NoNote_NoNumber : PySem.W.kitOne K (.ref cl5) (.ref cl4) = some false)
    (k_NoNote_NoNote : PySem.W.kitOne K (.ref cl5) (.ref cl5) = some true)
    {tk_MOST_COINS : Tok} (zc_MOST_COINS : PySem.W.nsIn K mainGlobals "MOST_COINS" = some (some (.int 100 tk_MOST_COINS)))
    {tk_MOST_FOR_SETTINGS : Tok} (zc_MOST_FOR_SETTINGS : PySem.W.nsIn K mainGlobals "MOST_FOR_SETTINGS" = some (some (.int 18 tk_MOST_FOR_SETTINGS)))
    {tk_MOST_FOR_RINGS : Tok} (zc_MOST_FOR_RINGS : PySem.W.nsIn K mainGlobals "MOST_FOR_RINGS" = some (some (.int 36 tk_MOST_FOR_RINGS)))
    {tk_MOST_FOR_MANY : Tok} (zc_MOST_FOR_MANY : PySem.W.nsIn K mainGlobals "MOST_FOR_MANY" = some (some (.int 2000 tk_MOST_FOR_MANY)))
    (kib : PySem.W.kitOne K (.type "int") (.type "bool") = some false) :
    ∃ fd : FuncData, (∀ (s : Shared) (v : Value), BindsTo s fd ⟨[v], []⟩ [("script", v)]) ∧ ∀ base : Heap, K.In base → base.Ns mainGlobals mg → FnOk l.prog w K mg base CX0 25 fa fd ["script"] (spLaw K) := by
  have e : fa = f39 := by
    have e := hfa.symm.trans (PySem.W.mg_of X G a39)
    cases e
    rfl
  have T : Txt K mg (cvOf (.int 100 tk_MOST_COINS) (.int 18 tk_MOST_FOR_SETTINGS) (.int 36 tk_MOST_FOR_RINGS) (.int 2000 tk_MOST_FOR_MANY) .none .none, caOf cl0 cl1 cl2 cl3 cl4 cl5) := ⟨PySem.W.mg_none_of X G z_len, PySem.W.mg_none_of X G z_range, PySem.W.mg_none_of X G z_list, PySem.W.mg_none_of X G z_reversed, PySem.W.mg_none_of X G z_sorted, PySem.W.mg_none_of X G z_sum, PySem.W.mg_none_of X G z_min, PySem.W.mg_none_of X G z_max, PySem.W.mg_none_of X G z_int, PySem.W.mg_none_of X G z_isinstance, PySem.W.mg_none_of X G z_bool, PySem.W.mg_none_of X G z_all, PySem.W.mg_none_of X G z_enumerate, PySem.W.mg_none_of X G z_tuple, PySem.W.mg_none_of X G z_ValueError, PySem.W.mg_of X G zc_MOST_COINS, ⟨_, rfl⟩, PySem.W.mg_of X G zc_MOST_FOR_SETTINGS, ⟨_, rfl⟩, PySem.W.mg_of X G zc_MOST_FOR_RINGS, ⟨_, rfl⟩, PySem.W.mg_of X G zc_MOST_FOR_MANY, ⟨_, rfl⟩, kib, PySem.W.mg_of X G a_PileError, rfl, PySem.W.mg_of X G a_NoPiles, rfl, PySem.W.mg_of X G a_NotRound, rfl, PySem.W.mg_of X G a_NoMarks, rfl, PySem.W.mg_of X G a_NoNumber, rfl, PySem.W.mg_of X G a_NoNote, rfl, o_NoPiles, ⟨g1_NoPiles, g2_NoPiles, g3_NoPiles, sp0, tk0, ob_NoPiles, be_NoPiles, clsIn_of o_NoPiles⟩, v_NoPiles, m_NoPiles, k_NoPiles_NoPiles, k_NoPiles_NotRound, k_NoPiles_NoMarks, k_NoPiles_NoNumber, k_NoPiles_NoNote, o_NotRound, ⟨g1_NotRound, g2_NotRound, g3_NotRound, sp0, tk0, ob_NotRound, be_NotRound, clsIn_of o_NotRound⟩, v_NotRound, m_NotRound, k_NotRound_NoPiles, k_NotRound_NotRound, k_NotRound_NoMarks, k_NotRound_NoNumber, k_NotRound_NoNote, o_NoMarks, ⟨g1_NoMarks, g2_NoMarks, g3_NoMarks, sp0, tk0, ob_NoMarks, be_NoMarks, clsIn_of o_NoMarks⟩, v_NoMarks, m_NoMarks, k_NoMarks_NoPiles, k_NoMarks_NotRound, k_NoMarks_NoMarks, k_NoMarks_NoNumber, k_NoMarks_NoNote, o_NoNumber, ⟨g1_NoNumber, g2_NoNumber, g3_NoNumber, sp0, tk0, ob_NoNumber, be_NoNumber, clsIn_of o_NoNumber⟩, v_NoNumber, m_NoNumber, k_NoNumber_NoPiles, k_NoNumber_NotRound, k_NoNumber_NoMarks, k_NoNumber_NoNumber, k_NoNumber_NoNote, o_NoNote, ⟨g1_NoNote, g2_NoNote, g3_NoNote, sp0, tk0, ob_NoNote, be_NoNote, clsIn_of o_NoNote⟩, v_NoNote, m_NoNote, k_NoNote_NoPiles, k_NoNote_NotRound, k_NoNote_NoMarks, k_NoNote_NoNumber, k_NoNote_NoNote⟩
  have F0 := fun_mk (st := s_is_setting) l0 c0 k0
  have M_is_setting : Dfn K mg "is_setting" s_is_setting ["piles"] := ⟨f0, _, F0, PySem.W.mg_of X G a0, F0.binds (ps := ["piles"]) fun _ _ _ _ _ _ us hl => match us, hl with | [_], _ => rfl⟩
  have F1 := fun_mk (st := s_check_setting) l1 c1 k1
  have M_check_setting : Dfn K mg "check_setting" s_check_setting ["piles"] := ⟨f1, _, F1, PySem.W.mg_of X G a1, F1.binds (ps := ["piles"]) fun _ _ _ _ _ _ us hl => match us, hl with | [_], _ => rfl⟩
  have F2 := fun_mk (st := s_turned) l2 c2 k2
  have M_turned : Dfn K mg "turned" s_turned ["piles"] := ⟨f2, _, F2, PySem.W.mg_of X G a2, F2.binds (ps := ["piles"]) fun _ _ _ _ _ _ us hl => match us, hl with | [_], _ => rfl⟩
  have F3 := fun_mk (st := s_after) l3 c3 k3
  have M_after : Dfn K mg "after" s_after ["piles", "turns"] := ⟨f3, _, F3, PySem.W.mg_of X G a3, F3.binds (ps := ["piles", "turns"]) fun _ _ _ _ _ _ us hl => match us, hl with | [_, _], _ => rfl⟩
  have F4 := fun_mk (st := s_check_turns) l4 c4 k4
  have M_check_turns : Dfn K mg "check_turns" s_check_turns ["turns"] := ⟨f4, _, F4, PySem.W.mg_of X G a4, F4.binds (ps := ["turns"]) fun _ _ _ _ _ _ us hl => match us, hl with | [_], _ => rfl⟩
  have F5 := fun_mk (st := s_trail_of) l5 c5 k5
  have M_trail_of : Dfn K mg "trail_of" s_trail_of ["piles"] := ⟨f5, _, F5, PySem.W.mg_of X G a5, F5.binds (ps := ["piles"]) fun _ _ _ _ _ _ us hl => match us, hl with | [_], _ => rfl⟩
  have F6 := fun_mk (st := s_stair_of) l6 c6 k6
  have M_stair_of : Dfn K mg "stair_of" s_stair_of ["coins"] := ⟨f6, _, F6, PySem.W.mg_of X G a6, F6.binds (ps := ["coins"]) fun _ _ _ _ _ _ us hl => match us, hl with | [_], _ => rfl⟩
  have F7 := fun_mk (st := s_above_stair) l7 c7 k7
  have M_above_stair : Dfn K mg "above_stair" s_above_stair ["piles"] := ⟨f7, _, F7, PySem.W.mg_of X G a7, F7.binds (ps := ["piles"]) fun _ _ _ _ _ _ us hl => match us, hl with | [_], _ => rfl⟩
  have F8 := fun_mk (st := s_all_marks) l8 c8 k8
  have M_all_marks : Dfn K mg "all_marks" s_all_marks ["numbers"] := ⟨f8, _, F8, PySem.W.mg_of X G a8, F8.binds (ps := ["numbers"]) fun _ _ _ _ _ _ us hl => match us, hl with | [_], _ => rfl⟩
  have F9 := fun_mk (st := s_is_round) l9 c9 k9
  have M_is_round : Dfn K mg "is_round" s_is_round ["piles"] := ⟨f9, _, F9, PySem.W.mg_of X G a9, F9.binds (ps := ["piles"]) fun _ _ _ _ _ _ us hl => match us, hl with | [_], _ => rfl⟩
  have F10 := fun_mk (st := s_setting_of) l10 c10 k10
  have M_setting_of : Dfn K mg "setting_of" s_setting_of ["marks"] := ⟨f10, _, F10, PySem.W.mg_of X G a10, F10.binds (ps := ["marks"]) fun _ _ _ _ _ _ us hl => match us, hl with | [_], _ => rfl⟩
  have F11 := fun_mk (st := s_piles_from) l11 c11 k11
  have M_piles_from : Dfn K mg "piles_from" s_piles_from ["marks"] := ⟨f11, _, F11, PySem.W.mg_of X G a11, F11.binds (ps := ["marks"]) fun _ _ _ _ _ _ us hl => match us, hl with | [_], _ => rfl⟩
  have F12 := fun_mk (st := s_way_of) l12 c12 k12
  have M_way_of : Dfn K mg "way_of" s_way_of ["piles"] := ⟨f12, _, F12, PySem.W.mg_of X G a12, F12.binds (ps := ["piles"]) fun _ _ _ _ _ _ us hl => match us, hl with | [_], _ => rfl⟩
  have F13 := fun_mk (st := s_ring_of) l13 c13 k13
  have M_ring_of : Dfn K mg "ring_of" s_ring_of ["piles"] := ⟨f13, _, F13, PySem.W.mg_of X G a13, F13.binds (ps := ["piles"]) fun _ _ _ _ _ _ us hl => match us, hl with | [_], _ => rfl⟩
  have F14 := fun_mk (st := s_check_coins) l14 c14 k14
  have M_check_coins : Dfn K mg "check_coins" s_check_coins ["coins", "most"] := ⟨f14, _, F14, PySem.W.mg_of X G a14, F14.binds (ps := ["coins", "most"]) fun _ _ _ _ _ _ us hl => match us, hl with | [_, _], _ => rfl⟩
  have F15 := fun_mk (st := s_settings_of) l15 c15 k15
  have M_settings_of : Dfn K mg "settings_of" s_settings_of ["coins"] := ⟨f15, _, F15, PySem.W.mg_of X G a15, F15.binds (ps := ["coins"]) fun _ _ _ _ _ _ us hl => match us, hl with | [_], _ => rfl⟩
  have F16 := fun_mk (st := s_piles_down) l16 c16 k16
  have M_piles_down : Dfn K mg "piles_down" s_piles_down ["coins", "most"] := ⟨f16, _, F16, PySem.W.mg_of X G a16, F16.binds (ps := ["coins", "most"]) fun _ _ _ _ _ _ us hl => match us, hl with | [_, _], _ => rfl⟩
  have F17 := fun_mk (st := s_rest_of) l17 c17 k17
  have M_rest_of : Dfn K mg "rest_of" s_rest_of ["coins"] := ⟨f17, _, F17, PySem.W.mg_of X G a17, F17.binds (ps := ["coins"]) fun _ _ _ _ _ _ us hl => match us, hl with | [_], _ => rfl⟩
  have F18 := fun_mk (st := s_rings_of) l18 c18 k18
  have M_rings_of : Dfn K mg "rings_of" s_rings_of ["coins"] := ⟨f18, _, F18, PySem.W.mg_of X G a18, F18.binds (ps := ["coins"]) fun _ _ _ _ _ _ us hl => match us, hl with | [_], _ => rfl⟩
  have F19 := fun_mk (st := s_marks_down) l19 c19 k19
  have M_marks_down : Dfn K mg "marks_down" s_marks_down ["many", "ones"] := ⟨f19, _, F19, PySem.W.mg_of X G a19, F19.binds (ps := ["many", "ones"]) fun _ _ _ _ _ _ us hl => match us, hl with | [_, _], _ => rfl⟩
  have F20 := fun_mk (st := s_leads_its_ring) l20 c20 k20
  have M_leads_its_ring : Dfn K mg "leads_its_ring" s_leads_its_ring ["marks"] := ⟨f20, _, F20, PySem.W.mg_of X G a20, F20.binds (ps := ["marks"]) fun _ _ _ _ _ _ us hl => match us, hl with | [_], _ => rfl⟩
  have F21 := fun_mk (st := s_rings_many) l21 c21 k21
  have M_rings_many : Dfn K mg "rings_many" s_rings_many ["coins"] := ⟨f21, _, F21, PySem.W.mg_of X G a21, F21.binds (ps := ["coins"]) fun _ _ _ _ _ _ us hl => match us, hl with | [_], _ => rfl⟩
  have F22 := fun_mk (st := s_many_again) l22 c22 k22
  have M_many_again : Dfn K mg "many_again" s_many_again ["stair", "rest", "turns"] := ⟨f22, _, F22, PySem.W.mg_of X G a22, F22.binds (ps := ["stair", "rest", "turns"]) fun _ _ _ _ _ _ us hl => match us, hl with | [_, _, _], _ => rfl⟩
  have F23 := fun_mk (st := s_greatest_part) l23 c23 k23
  have M_greatest_part : Dfn K mg "greatest_part" s_greatest_part ["stair", "turns"] := ⟨f23, _, F23, PySem.W.mg_of X G a23, F23.binds (ps := ["stair", "turns"]) fun _ _ _ _ _ _ us hl => match us, hl with | [_, _], _ => rfl⟩
  have F24 := fun_mk (st := s_many_choices) l24 c24 k24
  have M_many_choices : Dfn K mg "many_choices" s_many_choices ["places", "ones"] := ⟨f24, _, F24, PySem.W.mg_of X G a24, F24.binds (ps := ["places", "ones"]) fun _ _ _ _ _ _ us hl => match us, hl with | [_, _], _ => rfl⟩
  have F25 := fun_mk (st := s_drawn_in) l25 c25 k25
  have M_drawn_in : Dfn K mg "drawn_in" s_drawn_in ["coins"] := ⟨f25, _, F25, PySem.W.mg_of X G a25, F25.binds (ps := ["coins"]) fun _ _ _ _ _ _ us hl => match us, hl with | [_], _ => rfl⟩
  have F26 := fun_mk (st := s__law_cell) l26 c26 k26
  have M__law_cell : Dfn K mg "_law_cell" s__law_cell ["script", "k"] := ⟨f26, _, F26, PySem.W.mg_of X G a26, F26.binds (ps := ["script", "k"]) fun _ _ _ _ _ _ us hl => match us, hl with | [_, _], _ => rfl⟩
  have F27 := fun_mk (st := s__law_next) l27 c27 k27
  have M__law_next : Dfn K mg "_law_next" s__law_next ["step"] := ⟨f27, _, F27, PySem.W.mg_of X G a27, F27.binds (ps := ["step"]) fun _ _ _ _ _ _ us hl => match us, hl with | [_], _ => rfl⟩
  have F28 := fun_mk (st := s__law_fallen) l28 c28 k28
  have M__law_fallen : Dfn K mg "_law_fallen" s__law_fallen ["piles"] := ⟨f28, _, F28, PySem.W.mg_of X G a28, F28.binds (ps := ["piles"]) fun _ _ _ _ _ _ us hl => match us, hl with | [_], _ => rfl⟩
  have F29 := fun_mk (st := s__law_stair) l29 c29 k29
  have M__law_stair : Dfn K mg "_law_stair" s__law_stair ["coins"] := ⟨f29, _, F29, PySem.W.mg_of X G a29, F29.binds (ps := ["coins"]) fun _ _ _ _ _ _ us hl => match us, hl with | [_], _ => rfl⟩
  have F30 := fun_mk (st := s__law_by_marks) l30 c30 k30
  have M__law_by_marks : Dfn K mg "_law_by_marks" s__law_by_marks ["marks"] := ⟨f30, _, F30, PySem.W.mg_of X G a30, F30.binds (ps := ["marks"]) fun _ _ _ _ _ _ us hl => match us, hl with | [_], _ => rfl⟩
  have F31 := fun_mk (st := s__law_drawn_marks) l31 c31 k31
  have M__law_drawn_marks : Dfn K mg "_law_drawn_marks" s__law_drawn_marks ["script", "k", "coins"] := ⟨f31, _, F31, PySem.W.mg_of X G a31, F31.binds (ps := ["script", "k", "coins"]) fun _ _ _ _ _ _ us hl => match us, hl with | [_, _, _], _ => rfl⟩
  have F32 := fun_mk (st := s__law_elder) l32 c32 k32
  have M__law_elder : Dfn K mg "_law_elder" s__law_elder ["piles", "number"] := ⟨f32, _, F32, PySem.W.mg_of X G a32, F32.binds (ps := ["piles", "number"]) fun _ _ _ _ _ _ us hl => match us, hl with | [_, _], _ => rfl⟩
  have F33 := fun_mk (st := s__law_drawn_piles) l33 c33 k33
  have M__law_drawn_piles : Dfn K mg "_law_drawn_piles" s__law_drawn_piles ["script", "k", "coins", "cap"] := ⟨f33, _, F33, PySem.W.mg_of X G a33, F33.binds (ps := ["script", "k", "coins", "cap"]) fun _ _ _ _ _ _ us hl => match us, hl with | [_, _, _, _], _ => rfl⟩
  have F34 := fun_mk (st := s__law_setting) l34 c34 k34
  have M__law_setting : Dfn K mg "_law_setting" s__law_setting ["script", "k", "coins"] := ⟨f34, _, F34, PySem.W.mg_of X G a34, F34.binds (ps := ["script", "k", "coins"]) fun _ _ _ _ _ _ us hl => match us, hl with | [_, _, _], _ => rfl⟩
  have F35 := fun_mk (st := s__law_which) l35 c35 k35
  have M__law_which : Dfn K mg "_law_which" s__law_which ["e"] := ⟨f35, _, F35, PySem.W.mg_of X G a35, F35.binds (ps := ["e"]) fun _ _ _ _ _ _ us hl => match us, hl with | [_], _ => rfl⟩
  have F36 := fun_mk (st := s__law_asked) l36 c36 k36
  have M__law_asked : Dfn K mg "_law_asked" s__law_asked ["way", "coins"] := ⟨f36, _, F36, PySem.W.mg_of X G a36, F36.binds (ps := ["way", "coins"]) fun _ _ _ _ _ _ us hl => match us, hl with | [_, _], _ => rfl⟩
  have F37 := fun_mk (st := s__law_met) l37 c37 k37
  have M__law_met : Dfn K mg "_law_met" s__law_met ["way", "coins"] := ⟨f37, _, F37, PySem.W.mg_of X G a37, F37.binds (ps := ["way", "coins"]) fun _ _ _ _ _ _ us hl => match us, hl with | [_, _], _ => rfl⟩
  have F38 := fun_mk (st := s__law_turns_met) l38 c38 k38
  have M__law_turns_met : Dfn K mg "_law_turns_met" s__law_turns_met ["piles", "turns"] := ⟨f38, _, F38, PySem.W.mg_of X G a38, F38.binds (ps := ["piles", "turns"]) fun _ _ _ _ _ _ us hl => match us, hl with | [_, _], _ => rfl⟩
  have F39 := fun_mk (st := s_law) l39 c39 k39
  have M_law : Dfn K mg "law" s_law ["script"] := ⟨f39, _, F39, PySem.W.mg_of X G a39, F39.binds (ps := ["script"]) fun _ _ _ _ _ _ us hl => match us, hl with | [_], _ => rfl⟩
  refine ⟨PySem.W.fnOf "law" "law" (defArgs s_law) (defBody s_law) (defScope s_law) .none kV39 dc39 pm39 an39 cd39 ct39, fun s v => .of_eq rfl, fun base _ _ => ?_⟩
  have Dnext := d__law_next (P := l.prog) (w := w) (base := base) M__law_next T
  have Dcell := d__law_cell (P := l.prog) (w := w) (base := base) M__law_cell T
  have Dfal := d__law_fallen (P := l.prog) (w := w) (base := base) M__law_fallen T
  have Dst := d__law_stair (P := l.prog) (w := w) (base := base) M__law_stair T
  have Dbm := d__law_by_marks (P := l.prog) (w := w) (base := base) M__law_by_marks T
  have Ddm := d__law_drawn_marks M__law_drawn_marks T Dst Dnext Dcell
  have Del := d__law_elder (P := l.prog) (w := w) (base := base) M__law_elder T
  have Ddp := d__law_drawn_piles M__law_drawn_piles T Dnext Dcell Dfal
  have Dset := d__law_setting M__law_setting T Dnext Dcell Ddp Dbm Ddm Del
  have Dis := d_is_setting (P := l.prog) (w := w) (base := base) M_is_setting T
  have Dck := d_check_setting M_check_setting T Dis
  have Dtu := d_turned M_turned T Dck
  have Dso := d_stair_of (P := l.prog) (w := w) (base := base) M_stair_of T
  have Dab := d_above_stair M_above_stair T Dso
  have Dam := d_all_marks (P := l.prog) (w := w) (base := base) M_all_marks T
  have Dir := d_is_round M_is_round T Dck Dab Dam
  have Dpf := d_piles_from (P := l.prog) (w := w) (base := base) M_piles_from T
  have Dsof := d_setting_of M_setting_of T Dam Dis Dpf
  have Dct := d_check_turns (P := l.prog) (w := w) (base := base) M_check_turns T
  have Dtr := d_trail_of M_trail_of T Dtu
  have Daf := d_after M_after T Dck Dct Dtr Dtu
  have Dwa := d_way_of M_way_of T Dir Dtu
  have Dri := d_ring_of M_ring_of T Daf Dwa Dtu
  have Dcc := d_check_coins (P := l.prog) (w := w) (base := base) M_check_coins T
  have Dro := d_rest_of M_rest_of T Dso
  have Dmc := d_many_choices (P := l.prog) (w := w) (base := base) M_many_choices T
  have Dgp := d_greatest_part (P := l.prog) (w := w) (base := base) M_greatest_part T
  have Dma := d_many_again M_many_again T Dgp Dmc
  have Drm := d_rings_many M_rings_many T Dcc Dso Dro Dma
  have Dmd := d_marks_down (P := l.prog) (w := w) (base := base) M_marks_down T 9
  have Dle := d_leads_its_ring (P := l.prog) (w := w) (base := base) M_leads_its_ring T
  have Drg := d_rings_of M_rings_of T Dcc Dso Dro Dmd Dle Dsof Dri
  have Dpd := d_piles_down (P := l.prog) (w := w) (base := base) M_piles_down T 19
  have Dse := d_settings_of M_settings_of T Dcc Dpd
  have Ddr := d_drawn_in M_drawn_in T Dse Dri Drg
  have Xcc := x_check_coins (P := l.prog) (w := w) (base := base) M_check_coins T
  have Xse := x_settings_of M_settings_of T Xcc
  have Xrg := x_rings_of M_rings_of T Xcc
  have Xrm := x_rings_many M_rings_many T Xcc
  have Xdr := x_drawn_in M_drawn_in T Xse Dri
  have Xct := x_check_turns (P := l.prog) (w := w) (base := base) M_check_turns T
  have Xaf := x_after M_after T Dck Xct
  have Dwh := d__law_which (P := l.prog) (w := w) (base := base) (r := 3) M__law_which T T.x_NoNumber T.k_NoNumber_NoPiles T.k_NoNumber_NotRound T.k_NoNumber_NoMarks T.k_NoNumber_NoNumber T.k_NoNumber_NoNote T.v_NoNumber (by decide) (by decide) (by decide)
  have Xas := x__law_asked M__law_asked T Xse Xrg Xrm Xdr Dse Drg Drm Ddr
  have Dme := d__law_met M__law_met T Xas Dwh
  have Dtm := d__law_turns_met M__law_turns_met T Xaf Daf Dwh
  rw [e]
  exact d_law F39 T Dset Dcell Dme Dtm
theorem walk {l : PySem.W.OpenLaw} {q : Program} {loose : List Str} {XP : (Str → Option Value) → Heap → Prop} {YP : World → Heap → Prop} {d : DefRec} {K : Params → PySem.W.Frag} (hn : l.most = some 63) (hdf : d.params.defaults = [])
    (hY : ∀ (w : World) (h : Heap), YP w h → (K w.params).In h)
    (F : ∀ (w : World) (mg : Str → Option Value) (fa : Addr) (h : Heap), (K w.params).In h → h.Ns mainGlobals mg → mg d.name = some (.ref fa) →
      ∃ fd : FuncData, (∀ (s : Shared) (u : Value), BindsTo s fd ⟨[u], []⟩ [("script", u)]) ∧ ∀ base : Heap, (K w.params).In base → base.Ns mainGlobals mg → FnOk l.prog w (K w.params) mg base CX0 25 fa fd ["script"] (spLaw (K w.params))) :
    PySem.W.WalkO q loose XP YP l.row.toRowW d [] (fun f vs => PySem.call f vs) :=
  L2.walk_of (n := 63) (k := 25) (x := "script") (CX := fun _ => CX0) (sp := fun w => spLaw (K w.params)) hn (by decide) hdf ⟨rfl, by decide, by decide⟩ hY F (fun _ _ a ns hl _ hS => ⟨a, ns, rfl, hS, hl, fun _ => rfl⟩) fun _ _ _ _ _ z => z
end My
open PySem PySem.W PyProof.Rows
def PySem.W.Fast.tw16159882852633540800 : Unit := ()
def PySem.W.Fast.tw2942604002386095456 : Unit := ()
def PySem.W.Fast.tw9824803996141572704 : Unit := ()
def PySem.W.Fast.tw10160676627123454592 : Unit := ()
def PySem.W.Fast.tw8106079171433541280 : Unit := ()
def PySem.W.Fast.tw10779688129008546528 : Unit := ()
def PySem.W.Fast.tw11688816526658625504 : Unit := ()
def PySem.W.Fast.tw2883274084817645665 : Unit := ()
def PySem.W.Fast.tw18186456937320500417 : Unit := ()
def PySem.W.Fast.tw17676844087282913505 : Unit := ()
def PySem.W.Fast.tw13842446003464960353 : Unit := ()
def PySem.W.Fast.tw6865166994792995201 : Unit := ()
def PySem.W.Fast.tw12337464819877266913 : Unit := ()
def PySem.W.Fast.tw4079445861946395137 : Unit := ()
def PySem.W.Fast.tw15714077777786579649 : Unit := ()
def PySem.W.Fast.tw6266837609942330209 : Unit := ()
def PySem.W.Fast.tw10487210877405013889 : Unit := ()
def PySem.W.Fast.tw11994058726196222978 : Unit := ()
def PySem.W.Fast.tw3770118840857769282 : Unit := ()
def PySem.W.Fast.tw9510340866637900162 : Unit := ()
def PySem.W.Fast.tw11039448158147008066 : Unit := ()
def PySem.W.Fast.tw14626459920877398850 : Unit := ()
def PySem.W.Fast.tw918499272567344994 : Unit := ()
def PySem.W.Fast.tw5320893242703403906 : Unit := ()
def PySem.W.Fast.tw5534319269859072930 : Unit := ()
def PySem.W.Fast.tw7874256023426944259 : Unit := ()
def PySem.W.Fast.tw14285672250286658851 : Unit := ()
def PySem.W.Fast.tw10040798315868338691 : Unit := ()
def PySem.W.Fast.tw6128069727758344707 : Unit := ()
def PySem.W.Fast.tw427109281246090819 : Unit := ()
def PySem.W.Fast.tw15195280441556298371 : Unit := ()
def PySem.W.Fast.tw13909812662120474467 : Unit := ()
def PySem.W.Fast.tw1462210840376263684 : Unit := ()
def PySem.W.Fast.tw8308015738684727332 : Unit := ()
def PySem.W.Fast.tw9007308362095352164 : Unit := ()
def PySem.W.Fast.tw150963014815611268 : Unit := ()
def PySem.W.Fast.tw14717950564224293380 : Unit := ()
def PySem.W.Fast.tw49884530826686052 : Unit := ()
def PySem.W.Fast.tw7153921852631086788 : Unit := ()
def PySem.W.Fast.tw10950158796597693605 : Unit := ()
def PySem.W.Fast.tw4747628203214940453 : Unit := ()
def PySem.W.Fast.tw8072705644442661189 : Unit := ()
def PySem.W.Fast.tw10164602262627590469 : Unit := ()
def PySem.W.Fast.tw9580731433311944037 : Unit := ()
def PySem.W.Fast.tw16724508899435583045 : Unit := ()
def PySem.W.Fast.tw16912840258796534373 : Unit := ()
def PySem.W.Fast.tw18103247506339403589 : Unit := ()
def PySem.W.Fast.tw13687036925466178437 : Unit := ()
def PySem.W.Fast.tw7585120517542535077 : Unit := ()
def PySem.W.Fast.tw512538849311184006 : Unit := ()
def PySem.W.Fast.tw16348738021988315430 : Unit := ()
def PySem.W.Fast.tw14084794609939612038 : Unit := ()
def PySem.W.Fast.tw7783409348442699174 : Unit := ()
def PySem.W.Fast.tw17212962906518092294 : Unit := ()
def PySem.W.Fast.tw9651317580703843910 : Unit := ()
def PySem.W.Fast.tw10090599454861611718 : Unit := ()
def PySem.W.Fast.tw16475030152327117542 : Unit := ()
def PySem.W.Fast.tw15255323914071728006 : Unit := ()
def PySem.W.Fast.tw16806626051191219142 : Unit := ()
def PySem.W.Fast.tw4099379386003231751 : Unit := ()
def PySem.W.Fast.tw5079004633899711815 : Unit := ()
def PySem.W.Fast.tw11159582239427130727 : Unit := ()
def PySem.W.Fast.tw12936691834940260807 : Unit := ()
def PySem.W.Fast.tw11491677283652260295 : Unit := ()
def PySem.W.Fast.tw6890821429614331527 : Unit := ()
def PySem.W.Fast.tw2884230090515567239 : Unit := ()
def PySem.W.Fast.tw1069636988799335079 : Unit := ()
def PySem.W.Fast.tw775697857286517543 : Unit := ()
def PySem.W.Fast.tw2431270823513903943 : Unit := ()
def PySem.W.Fast.tw7444298495982907303 : Unit := ()
def PySem.W.Fast.tw250616031319715944 : Unit := ()
def PySem.W.Fast.tw8519025477938494600 : Unit := ()
def PySem.W.Fast.tw6402593700243158504 : Unit := ()
def PySem.W.Fast.tw14109986465143150312 : Unit := ()
def PySem.W.Fast.tw8923242281039533800 : Unit := ()
def PySem.W.Fast.tw7398528393815689257 : Unit := ()
def PySem.W.Fast.tw10687990354371048905 : Unit := ()
def PySem.W.Fast.tw3823174030298038761 : Unit := ()
def PySem.W.Fast.tw16371226905104909801 : Unit := ()
def PySem.W.Fast.tw11162002945792519689 : Unit := ()
def PySem.W.Fast.tw947941987691195017 : Unit := ()
def PySem.W.Fast.tw12243789659719543529 : Unit := ()
def PySem.W.Fast.tw13136581094410456841 : Unit := ()
def PySem.W.Fast.tw7347048277728107305 : Unit := ()
def PySem.W.Fast.tw3012407507388509065 : Unit := ()
def PySem.W.Fast.tw7333048534944119850 : Unit := ()
def PySem.W.Fast.tw8433829241636160586 : Unit := ()
def PySem.W.Fast.tw5412666816309440714 : Unit := ()
def PySem.W.Fast.tw4161741831308889354 : Unit := ()
def PySem.W.Fast.tw6137981580327471498 : Unit := ()
def PySem.W.Fast.tw3597090306898176522 : Unit := ()
def PySem.W.Fast.tw5933253771929754250 : Unit := ()
def PySem.W.Fast.tw2689051120802581162 : Unit := ()
def PySem.W.Fast.tw1911665961710185162 : Unit := ()
def PySem.W.Fast.tw2136706502938824522 : Unit := ()
def PySem.W.Fast.tw10118016579619984362 : Unit := ()
def PySem.W.Fast.tw5275065495786853483 : Unit := ()
def PySem.W.Fast.tw12347118338050321579 : Unit := ()
def PySem.W.Fast.tw5887739402630446251 : Unit := ()
def PySem.W.Fast.tw4080104537355372811 : Unit := ()
def PySem.W.Fast.tw14780563378056067435 : Unit := ()
def PySem.W.Fast.tw15164071478813089163 : Unit := ()
def PySem.W.Fast.tw8977444797067172587 : Unit := ()
def PySem.W.Fast.tw13877229076430038827 : Unit := ()
def PySem.W.Fast.tw17529567377919157131 : Unit := ()
def PySem.W.Fast.tw720051744088332332 : Unit := ()
def PySem.W.Fast.tw7417667325916881996 : Unit := ()
def PySem.W.Fast.tw11438431829316084076 : Unit := ()
def PySem.W.Fast.tw9174698365622028812 : Unit := ()
def PySem.W.Fast.tw2063065744838037036 : Unit := ()
def PySem.W.Fast.tw1599374899101259660 : Unit := ()
def PySem.W.Fast.tw17362371518319303660 : Unit := ()
def PySem.W.Fast.tw15288464224921530413 : Unit := ()
def PySem.W.Fast.tw2646949220426709453 : Unit := ()
def PySem.W.Fast.tw1459058753494974061 : Unit := ()
def PySem.W.Fast.tw14066848337228110573 : Unit := ()
def PySem.W.Fast.tw17145883081375496973 : Unit := ()
def PySem.W.Fast.tw505108634067582733 : Unit := ()
def PySem.W.Fast.tw9039901540327908173 : Unit := ()
def PySem.W.Fast.tw10461227342389454669 : Unit := ()
def PySem.W.Fast.tw259601629822225261 : Unit := ()
def PySem.W.Fast.tw13015263555317029741 : Unit := ()
def PySem.W.Fast.tw11864612984279961517 : Unit := ()
def PySem.W.Fast.tw8234603948313648077 : Unit := ()
def PySem.W.Fast.tw11505969335090427885 : Unit := ()
def PySem.W.Fast.tw10383836503911337294 : Unit := ()
def PySem.W.Fast.tw18185781864636119438 : Unit := ()
def PySem.W.Fast.tw12543867377690545614 : Unit := ()
def PySem.W.Fast.tw11468372444010077710 : Unit := ()
def PySem.W.Fast.tw1675578924780704302 : Unit := ()
def PySem.W.Fast.tw17142214309188096590 : Unit := ()
def PySem.W.Fast.tw728206975233161870 : Unit := ()
def PySem.W.Fast.tw17687020776852874926 : Unit := ()
def PySem.W.Fast.tw1826579048715046638 : Unit := ()
def PySem.W.Fast.tw17325416247982211822 : Unit := ()
def PySem.W.Fast.tw13668381347440427886 : Unit := ()
def PySem.W.Fast.tw16196453844769926062 : Unit := ()
def PySem.W.Fast.tw10473980700896601070 : Unit := ()
def PySem.W.Fast.tw17676214036513923087 : Unit := ()
def PySem.W.Fast.tw10799083052261131279 : Unit := ()
def PySem.W.Fast.tw2023806282543863855 : Unit := ()
def PySem.W.Fast.tw14139320869967048975 : Unit := ()
def PySem.W.Fast.tw7511594987908554031 : Unit := ()
def PySem.W.Fast.tw9433897142203817391 : Unit := ()
def PySem.W.Fast.tw13275994422094587471 : Unit := ()
def PySem.W.Fast.tw15096916708261414575 : Unit := ()
def PySem.W.Fast.tw875765342395791215 : Unit := ()
def PySem.W.Fast.tw2573440018605454384 : Unit := ()
def PySem.W.Fast.tw5641220098579338320 : Unit := ()
def PySem.W.Fast.tw3192950423878462736 : Unit := ()
def PySem.W.Fast.tw3636069108524400 : Unit := ()
def PySem.W.Fast.tw4883310645786128848 : Unit := ()
def PySem.W.Fast.tw1174129340084339152 : Unit := ()
def PySem.W.Fast.tw15641998575489883664 : Unit := ()
def PySem.W.Fast.tw2485391688121206288 : Unit := ()
def PySem.W.Fast.tw4288163582380723888 : Unit := ()
def PySem.W.Fast.tw15589414454488088304 : Unit := ()
def PySem.W.Fast.tw5418253559432970481 : Unit := ()
def PySem.W.Fast.tw11293140828951162321 : Unit := ()
def PySem.W.Fast.tw15537612228530574897 : Unit := ()
def PySem.W.Fast.tw12621720482527102545 : Unit := ()
def PySem.W.Fast.tw9073955290512273009 : Unit := ()
def PySem.W.Fast.tw6007854817276196721 : Unit := ()
def PySem.W.Fast.tw7066151532534682609 : Unit := ()
def PySem.W.Fast.tw11222357009204104306 : Unit := ()
def PySem.W.Fast.tw18220998151525408978 : Unit := ()
def PySem.W.Fast.tw8046562614389030226 : Unit := ()
def PySem.W.Fast.tw7787761401747046834 : Unit := ()
def PySem.W.Fast.tw6506460334064458290 : Unit := ()
def PySem.W.Fast.tw10798320043833427506 : Unit := ()
def PySem.W.Fast.tw13877392342341836498 : Unit := ()
def PySem.W.Fast.tw16082293168466214610 : Unit := ()
def PySem.W.Fast.tw5306332074632873874 : Unit := ()
def PySem.W.Fast.tw17299578804899303635 : Unit := ()
def PySem.W.Fast.tw11498394995322117363 : Unit := ()
def PySem.W.Fast.tw6761786929705718003 : Unit := ()
def PySem.W.Fast.tw8489899424288340211 : Unit := ()
def PySem.W.Fast.tw4496768412286561555 : Unit := ()
def PySem.W.Fast.tw18210388396573886739 : Unit := ()
def PySem.W.Fast.tw12069706599687725491 : Unit := ()
def PySem.W.Fast.tw8232708274515428819 : Unit := ()
def PySem.W.Fast.tw15091562442226267635 : Unit := ()
def PySem.W.Fast.tw9598479931806505683 : Unit := ()
def PySem.W.Fast.tw15251397752183741171 : Unit := ()
def PySem.W.Fast.tw3971817811000966931 : Unit := ()
def PySem.W.Fast.tw3738876658855151411 : Unit := ()
def PySem.W.Fast.tw12837125802894544755 : Unit := ()
def PySem.W.Fast.tw14089854077435771763 : Unit := ()
def PySem.W.Fast.tw3683057147323776883 : Unit := ()
def PySem.W.Fast.tw9546176150636036083 : Unit := ()
def PySem.W.Fast.tw13061691861099491348 : Unit := ()
def PySem.W.Fast.tw7850465157238194388 : Unit := ()
def PySem.W.Fast.tw3090085229048539540 : Unit := ()
def PySem.W.Fast.tw5620386140689827252 : Unit := ()
def PySem.W.Fast.tw6819433752973693428 : Unit := ()
def PySem.W.Fast.tw10629657476763785780 : Unit := ()
def PySem.W.Fast.tw10932732841453956916 : Unit := ()
def PySem.W.Fast.tw7680394257101155188 : Unit := ()
def PySem.W.Fast.tw10431121182601968532 : Unit := ()
def PySem.W.Fast.tw4911890061958218676 : Unit := ()
def PySem.W.Fast.tw13157746983068334036 : Unit := ()
def PySem.W.Fast.tw5847688898503372788 : Unit := ()
def PySem.W.Fast.tw15526865401864155381 : Unit := ()
def PySem.W.Fast.tw1275428181273377077 : Unit := ()
def PySem.W.Fast.tw6124146695476191861 : Unit := ()
def PySem.W.Fast.tw16374818728092298933 : Unit := ()
def PySem.W.Fast.tw4754885466466355925 : Unit := ()
def PySem.W.Fast.tw5167351736369888981 : Unit := ()
def PySem.W.Fast.tw1769390257789897878 : Unit := ()
def PySem.W.Fast.tw4873563869119031542 : Unit := ()
def PySem.W.Fast.tw8996629464670744822 : Unit := ()
def PySem.W.Fast.tw7371520592178250006 : Unit := ()
def PySem.W.Fast.tw3315869154082505014 : Unit := ()
def PySem.W.Fast.tw8585798932689193302 : Unit := ()
def PySem.W.Fast.tw5638318043353542006 : Unit := ()
def PySem.W.Fast.tw10856883222272774614 : Unit := ()
def PySem.W.Fast.tw5775260082342033014 : Unit := ()
def PySem.W.Fast.tw2251178071899166454 : Unit := ()
def PySem.W.Fast.tw4743056197961849718 : Unit := ()
def PySem.W.Fast.tw3726355381260910486 : Unit := ()
def PySem.W.Fast.tw13492079897049226230 : Unit := ()
def PySem.W.Fast.tw16002474396758380534 : Unit := ()
def PySem.W.Fast.tw11689873115960375415 : Unit := ()
def PySem.W.Fast.tw14719524986601724311 : Unit := ()
def PySem.W.Fast.tw8646221391037035959 : Unit := ()
def PySem.W.Fast.tw14890097490768888343 : Unit := ()
def PySem.W.Fast.tw8749092621518562903 : Unit := ()
def PySem.W.Fast.tw11211381652603793015 : Unit := ()
def PySem.W.Fast.tw9767601905830326071 : Unit := ()
def PySem.W.Fast.tw6141458359454137175 : Unit := ()
def PySem.W.Fast.tw3886897735093569431 : Unit := ()
def PySem.W.Fast.tw7190168317822963639 : Unit := ()
def PySem.W.Fast.tw8703860142634442743 : Unit := ()
def PySem.W.Fast.tw9387969467640969304 : Unit := ()
def PySem.W.Fast.tw13670318287060603064 : Unit := ()
def PySem.W.Fast.tw15637469332611181752 : Unit := ()
def PySem.W.Fast.tw13067521998450921720 : Unit := ()
def PySem.W.Fast.tw9395271950257014040 : Unit := ()
def PySem.W.Fast.tw9395312071021006328 : Unit := ()
def PySem.W.Fast.tw8646923385800270456 : Unit := ()
def PySem.W.Fast.tw14045261308145128120 : Unit := ()
def PySem.W.Fast.tw11365040849052627960 : Unit := ()
def PySem.W.Fast.tw566173830376323064 : Unit := ()
def PySem.W.Fast.tw16226447620557125657 : Unit := ()
def PySem.W.Fast.tw14625541278923507737 : Unit := ()
def PySem.W.Fast.tw16043946301698411609 : Unit := ()
def PySem.W.Fast.tw6038306810948420729 : Unit := ()
def PySem.W.Fast.tw14819550902888899737 : Unit := ()
def PySem.W.Fast.tw2980524404154496185 : Unit := ()
def PySem.W.Fast.tw17271634769677849881 : Unit := ()
def PySem.W.Fast.tw3199416069030090073 : Unit := ()
def PySem.W.Fast.tw4835468796806155641 : Unit := ()
def PySem.W.Fast.tw15262903780795865497 : Unit := ()
def PySem.W.Fast.tw14707363180424455641 : Unit := ()
def PySem.W.Fast.tw9061423346522853913 : Unit := ()
def PySem.W.Fast.tw12605083232459853657 : Unit := ()
def PySem.W.Fast.tw5713402468134646681 : Unit := ()
def PySem.W.Fast.tw2741968859884865497 : Unit := ()
def PySem.W.Fast.tw13339178604246295545 : Unit := ()
def PySem.W.Fast.tw966049235939526714 : Unit := ()
def PySem.W.Fast.tw4766112176621891642 : Unit := ()
def PySem.W.Fast.tw9619952673017891962 : Unit := ()
def PySem.W.Fast.tw11498229094012711194 : Unit := ()
def PySem.W.Fast.tw14827779328125644186 : Unit := ()
def PySem.W.Fast.tw477502902376475066 : Unit := ()
def PySem.W.Fast.tw2066758598171913722 : Unit := ()
def PySem.W.Fast.tw2302942361215353498 : Unit := ()
def PySem.W.Fast.tw14730065932227407706 : Unit := ()
def PySem.W.Fast.tw10231535473212182522 : Unit := ()
def PySem.W.Fast.tw16662762478766281722 : Unit := ()
def PySem.W.Fast.tw8689707981154189306 : Unit := ()
def PySem.W.Fast.tw1593149123069072475 : Unit := ()
def PySem.W.Fast.tw14341308485536890139 : Unit := ()
def PySem.W.Fast.tw1693538501693318459 : Unit := ()
def PySem.W.Fast.tw12207247588231835099 : Unit := ()
def PySem.W.Fast.tw4353637867763288667 : Unit := ()
def PySem.W.Fast.tw3284857698060881148 : Unit := ()
def PySem.W.Fast.tw14989108419147366684 : Unit := ()
def PySem.W.Fast.tw5102329073571058076 : Unit := ()
def PySem.W.Fast.tw7251089046474835516 : Unit := ()
def PySem.W.Fast.tw4493639553525568124 : Unit := ()
def PySem.W.Fast.tw4170289272568175292 : Unit := ()
def PySem.W.Fast.tw2135427148181385948 : Unit := ()
def PySem.W.Fast.tw7164163023415608028 : Unit := ()
def PySem.W.Fast.tw18118948808382712732 : Unit := ()
def PySem.W.Fast.tw453038088728937693 : Unit := ()
def PySem.W.Fast.tw4245647149444633821 : Unit := ()
def PySem.W.Fast.tw15124946201629137149 : Unit := ()
def PySem.W.Fast.tw8563346873368571133 : Unit := ()
def PySem.W.Fast.tw18122740074416932317 : Unit := ()
def PySem.W.Fast.tw6106105875002366461 : Unit := ()
def PySem.W.Fast.tw2843267579343612445 : Unit := ()
def PySem.W.Fast.tw3263321390714921821 : Unit := ()
def PySem.W.Fast.tw5798576517982420861 : Unit := ()
def PySem.W.Fast.tw8661947703565963326 : Unit := ()
def PySem.W.Fast.tw16018183831338613918 : Unit := ()
def PySem.W.Fast.tw1874426400861396158 : Unit := ()
def PySem.W.Fast.tw12393703693965816062 : Unit := ()
def PySem.W.Fast.tw17302512292097283358 : Unit := ()
def PySem.W.Fast.tw6637721888733628734 : Unit := ()
def PySem.W.Fast.tw9020260004623439294 : Unit := ()
def PySem.W.Fast.tw8872400155101966846 : Unit := ()
def PySem.W.Fast.tw207069583794359870 : Unit := ()
def PySem.W.Fast.tw9846580546396206878 : Unit := ()
def PySem.W.Fast.tw10595342268193535806 : Unit := ()
def PySem.W.Fast.tw2268662831702504350 : Unit := ()
def PySem.W.Fast.tw9626304167809400734 : Unit := ()
def PySem.W.Fast.tw10259706699548030015 : Unit := ()
def PySem.W.Fast.tw7656663944717587711 : Unit := ()
def PySem.W.Fast.tw9762913191405186303 : Unit := ()
def PySem.W.Fast.tw8042176553931561215 : Unit := ()
def PySem.W.Fast.tw6986850061411188063 : Unit := ()
def PySem.W.Fast.tw3317310885533396351 : Unit := ()
def PySem.W.Fast.tw5192422218847483455 : Unit := ()
def PySem.W.Fast.tw7845133674824090175 : Unit := ()
def PySem.W.Fast.tw74823420425365087 : Unit := ()
def PySem.W.Fast.tw10695277303740275295 : Unit := ()
def PySem.W.Fast.tw17246562127233924767 : Unit := ()
def PySem.W.Fast.tw23975925900533439 : Unit := ()
def PySem.W.Fast.tw1744107899580312287 : Unit := ()
def PySem.W.Fast.tw1023094165565180767 : Unit := ()
def PySem.W.Fast.tw14884314399837162431 : Unit := ()
def PySem.W.Fast.tw3848967899146251199 : Unit := ()
def PySem.W.Fast.tw988827229331256319 : Unit := ()
def PySem.W.Fast.tw16701702132140125350 : Unit := ()
def PySem.W.Fast.tw479115630143923308 : Unit := ()
set_option maxRecDepth 100000 in
set_option maxHeartbeats 0 in
theorem PySem.Challenge.cw_pilewheel_k17_numbers_out_of_bounds_holds : PySem.Challenge.rw_pilewheel_k17_numbers_out_of_bounds.Holds := by
  w_on; o_law; k_head; (case hw => w_witness2)
  k_fill
  refine My.walk (l := PySem.Challenge.rw_pilewheel_k17_numbers_out_of_bounds) rfl rfl (fun w h Y => PySem.W.kIn_of Y) ?F
  case F =>
    intro w mg fa h KX G hmg
    refine' My.all_mk KX G hmg ?a0 ?l0 ?c0 ?k0 ?a1 ?l1 ?c1 ?k1 ?a2 ?l2 ?c2 ?k2 ?a3 ?l3 ?c3 ?k3 ?a4 ?l4 ?c4 ?k4 ?a5 ?l5 ?c5 ?k5 ?a6 ?l6 ?c6 ?k6 ?a7 ?l7 ?c7 ?k7 ?a8 ?l8 ?c8 ?k8 ?a9 ?l9 ?c9 ?k9 ?a10 ?l10 ?c10 ?k10 ?a11 ?l11 ?c11 ?k11 ?a12 ?l12 ?c12 ?k12 ?a13 ?l13 ?c13 ?k13 ?a14 ?l14 ?c14 ?k14 ?a15 ?l15 ?c15 ?k15 ?a16 ?l16 ?c16 ?k16 ?a17 ?l17 ?c17 ?k17 ?a18 ?l18 ?c18 ?k18 ?a19 ?l19 ?c19 ?k19 ?a20 ?l20 ?c20 ?k20 ?a21 ?l21 ?c21 ?k21 ?a22 ?l22 ?c22 ?k22 ?a23 ?l23 ?c23 ?k23 ?a24 ?l24 ?c24 ?k24 ?a25 ?l25 ?c25 ?k25 ?a26 ?l26 ?c26 ?k26 ?a27 ?l27 ?c27 ?k27 ?a28 ?l28 ?c28 ?k28 ?a29 ?l29 ?c29 ?k29 ?a30 ?l30 ?c30 ?k30 ?a31 ?l31 ?c31 ?k31 ?a32 ?l32 ?c32 ?k32 ?a33 ?l33 ?c33 ?k33 ?a34 ?l34 ?c34 ?k34 ?a35 ?l35 ?c35 ?k35 ?a36 ?l36 ?c36 ?k36 ?a37 ?l37 ?c37 ?k37 ?a38 ?l38 ?c38 ?k38 ?a39 ?l39 ?c39 ?k39 ?z_len ?z_range ?z_list ?z_reversed ?z_sorted ?z_sum ?z_min ?z_max ?z_int ?z_isinstance ?z_bool ?z_all ?z_enumerate ?z_tuple ?z_ValueError ?sp0 ?tk0 ?a_PileError ?a_NoPiles ?a_NotRound ?a_NoMarks ?a_NoNumber ?a_NoNote ?o_NoPiles ?g1_NoPiles ?g2_NoPiles ?g3_NoPiles ?ob_NoPiles ?be_NoPiles ?v_NoPiles ?m_NoPiles ?k_NoPiles_NoPiles ?k_NoPiles_NotRound ?k_NoPiles_NoMarks ?k_NoPiles_NoNumber ?k_NoPiles_NoNote ?o_NotRound ?g1_NotRound ?g2_NotRound ?g3_NotRound ?ob_NotRound ?be_NotRound ?v_NotRound ?m_NotRound ?k_NotRound_NoPiles ?k_NotRound_NotRound ?k_NotRound_NoMarks ?k_NotRound_NoNumber ?k_NotRound_NoNote ?o_NoMarks ?g1_NoMarks ?g2_NoMarks ?g3_NoMarks ?ob_NoMarks ?be_NoMarks ?v_NoMarks ?m_NoMarks ?k_NoMarks_NoPiles ?k_NoMarks_NotRound ?k_NoMarks_NoMarks ?k_NoMarks_NoNumber ?k_NoMarks_NoNote ?o_NoNumber ?g1_NoNumber ?g2_NoNumber ?g3_NoNumber ?ob_NoNumber ?be_NoNumber ?v_NoNumber ?m_NoNumber ?k_NoNumber_NoPiles ?k_NoNumber_NotRound ?k_NoNumber_NoMarks ?k_NoNumber_NoNumber ?k_NoNumber_NoNote ?o_NoNote ?g1_NoNote ?g2_NoNote ?g3_NoNote ?ob_NoNote ?be_NoNote ?v_NoNote ?m_NoNote ?k_NoNote_NoPiles ?k_NoNote_NotRound ?k_NoNote_NoMarks ?k_NoNote_NoNumber ?k_NoNote_NoNote ?zc_MOST_COINS ?zc_MOST_FOR_SETTINGS ?zc_MOST_FOR_RINGS ?zc_MOST_FOR_MANY ?kib
    (case a0 => k_is); (case l0 => k_is); (case c0 => k_is); (case k0 => k_is)
    (case a1 => k_is); (case l1 => k_is); (case c1 => k_is); (case k1 => k_is)
    (case a2 => k_is); (case l2 => k_is); (case c2 => k_is); (case k2 => k_is)
    (case a3 => k_is); (case l3 => k_is); (case c3 => k_is); (case k3 => k_is)
    (case a4 => k_is); (case l4 => k_is); (case c4 => k_is); (case k4 => k_is)
    (case a5 => k_is); (case l5 => k_is); (case c5 => k_is); (case k5 => k_is)
    (case a6 => k_is); (case l6 => k_is); (case c6 => k_is); (case k6 => k_is)
    (case a7 => k_is); (case l7 => k_is); (case c7 => k_is); (case k7 => k_is)
    (case a8 => k_is); (case l8 => k_is); (case c8 => k_is); (case k8 => k_is)
    (case a9 => k_is); (case l9 => k_is); (case c9 => k_is); (case k9 => k_is)
    (case a10 => k_is); (case l10 => k_is); (case c10 => k_is); (case k10 => k_is)
    (case a11 => k_is); (case l11 => k_is); (case c11 => k_is); (case k11 => k_is)
    (case a12 => k_is); (case l12 => k_is); (case c12 => k_is); (case k12 => k_is)
    (case a13 => k_is); (case l13 => k_is); (case c13 => k_is); (case k13 => k_is)
    (case a14 => k_is); (case l14 => k_is); (case c14 => k_is); (case k14 => k_is)
    (case a15 => k_is); (case l15 => k_is); (case c15 => k_is); (case k15 => k_is)
    (case a16 => k_is); (case l16 => k_is); (case c16 => k_is); (case k16 => k_is)
    (case a17 => k_is); (case l17 => k_is); (case c17 => k_is); (case k17 => k_is)
    (case a18 => k_is); (case l18 => k_is); (case c18 => k_is); (case k18 => k_is)
    (case a19 => k_is); (case l19 => k_is); (case c19 => k_is); (case k19 => k_is)
    (case a20 => k_is); (case l20 => k_is); (case c20 => k_is); (case k20 => k_is)
    (case a21 => k_is); (case l21 => k_is); (case c21 => k_is); (case k21 => k_is)
    (case a22 => k_is); (case l22 => k_is); (case c22 => k_is); (case k22 => k_is)
    (case a23 => k_is); (case l23 => k_is); (case c23 => k_is); (case k23 => k_is)
    (case a24 => k_is); (case l24 => k_is); (case c24 => k_is); (case k24 => k_is)
    (case a25 => k_is); (case l25 => k_is); (case c25 => k_is); (case k25 => k_is)
    (case a26 => k_is); (case l26 => k_is); (case c26 => k_is); (case k26 => k_is)
    (case a27 => k_is); (case l27 => k_is); (case c27 => k_is); (case k27 => k_is)
    (case a28 => k_is); (case l28 => k_is); (case c28 => k_is); (case k28 => k_is)
    (case a29 => k_is); (case l29 => k_is); (case c29 => k_is); (case k29 => k_is)
    (case a30 => k_is); (case l30 => k_is); (case c30 => k_is); (case k30 => k_is)
    (case a31 => k_is); (case l31 => k_is); (case c31 => k_is); (case k31 => k_is)
    (case a32 => k_is); (case l32 => k_is); (case c32 => k_is); (case k32 => k_is)
    (case a33 => k_is); (case l33 => k_is); (case c33 => k_is); (case k33 => k_is)
    (case a34 => k_is); (case l34 => k_is); (case c34 => k_is); (case k34 => k_is)
    (case a35 => k_is); (case l35 => k_is); (case c35 => k_is); (case k35 => k_is)
    (case a36 => k_is); (case l36 => k_is); (case c36 => k_is); (case k36 => k_is)
    (case a37 => k_is); (case l37 => k_is); (case c37 => k_is); (case k37 => k_is)
    (case a38 => k_is); (case l38 => k_is); (case c38 => k_is); (case k38 => k_is)
    (case a39 => k_is); (case l39 => k_is); (case c39 => k_is); (case k39 => k_is)
    (case z_len => k_is)
    (case z_range => k_is)
    (case z_list => k_is)
    (case z_reversed => k_is)
    (case z_sorted => k_is)
    (case z_sum => k_is)
    (case z_min => k_is)
    (case z_max => k_is)
    (case z_int => k_is)
    (case z_isinstance => k_is)
    (case z_bool => k_is)
    (case z_all => k_is)
    (case z_enumerate => k_is)
    (case z_tuple => k_is)
    (case z_ValueError => k_is)
    (case sp0 => k_is); (case tk0 => k_is)
    (case a_PileError => k_is)
    (case a_NoPiles => k_is)
    (case a_NotRound => k_is)
    (case a_NoMarks => k_is)
    (case a_NoNumber => k_is)
    (case a_NoNote => k_is)
    (case o_NoPiles => k_exc); (case g1_NoPiles => k_is); (case g2_NoPiles => k_is); (case g3_NoPiles => k_is); (case ob_NoPiles => k_is); (case be_NoPiles => k_is); (case v_NoPiles => kit_is); (case m_NoPiles => kts_exm)
    (case k_NoPiles_NoPiles => exact if_pos (beq_self_eq_true _))
    (case k_NoPiles_NotRound => kit_is)
    (case k_NoPiles_NoMarks => kit_is)
    (case k_NoPiles_NoNumber => kit_is)
    (case k_NoPiles_NoNote => kit_is)
    (case o_NotRound => k_exc); (case g1_NotRound => k_is); (case g2_NotRound => k_is); (case g3_NotRound => k_is); (case ob_NotRound => k_is); (case be_NotRound => k_is); (case v_NotRound => kit_is); (case m_NotRound => kts_exm)
    (case k_NotRound_NoPiles => kit_is)
    (case k_NotRound_NotRound => exact if_pos (beq_self_eq_true _))
    (case k_NotRound_NoMarks => kit_is)
    (case k_NotRound_NoNumber => kit_is)
    (case k_NotRound_NoNote => kit_is)
    (case o_NoMarks => k_exc); (case g1_NoMarks => k_is); (case g2_NoMarks => k_is); (case g3_NoMarks => k_is); (case ob_NoMarks => k_is); (case be_NoMarks => k_is); (case v_NoMarks => kit_is); (case m_NoMarks => kts_exm)
    (case k_NoMarks_NoPiles => kit_is)
    (case k_NoMarks_NotRound => kit_is)
    (case k_NoMarks_NoMarks => exact if_pos (beq_self_eq_true _))
    (case k_NoMarks_NoNumber => kit_is)
    (case k_NoMarks_NoNote => kit_is)
    (case o_NoNumber => k_exc); (case g1_NoNumber => k_is); (case g2_NoNumber => k_is); (case g3_NoNumber => k_is); (case ob_NoNumber => k_is); (case be_NoNumber => k_is); (case v_NoNumber => kit_is); (case m_NoNumber => kts_exm)
    (case k_NoNumber_NoPiles => kit_is)
    (case k_NoNumber_NotRound => kit_is)
    (case k_NoNumber_NoMarks => kit_is)
    (case k_NoNumber_NoNumber => exact if_pos (beq_self_eq_true _))
    (case k_NoNumber_NoNote => kit_is)
    (case o_NoNote => k_exc); (case g1_NoNote => k_is); (case g2_NoNote => k_is); (case g3_NoNote => k_is); (case ob_NoNote => k_is); (case be_NoNote => k_is); (case v_NoNote => kit_is); (case m_NoNote => kts_exm)
    (case k_NoNote_NoPiles => kit_is)
    (case k_NoNote_NotRound => kit_is)
    (case k_NoNote_NoMarks => kit_is)
    (case k_NoNote_NoNumber => kit_is)
    (case k_NoNote_NoNote => exact if_pos (beq_self_eq_true _))
    (case zc_MOST_COINS => k_is)
    (case zc_MOST_FOR_SETTINGS => k_is)
    (case zc_MOST_FOR_RINGS => k_is)
    (case zc_MOST_FOR_MANY => k_is)
    (case kib => kit_is)
